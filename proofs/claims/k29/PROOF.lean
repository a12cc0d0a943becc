import PyProof.Rows.All
import Wide.All
import OpenK.AllK
import Wide.FinOn
import Lean
import PyProof.EqAt
import PyProof.EqKinds
import PyProof.TupleCall
import PyProof.NeKinds
import KE.KSortAsk
import PySem.SetTable
import PyProof.SetKind
import PyProof.TupleKey
import PyProof.IsRules
import PyProof.DictKinds
import PyProof.FactsAll.set
import PyProof.RangeIter
import PyProof.Seq
import PyProof.ForAny
import PyProof.WalksMore
import PyProof.CollectWalk
import PyProof.CollectIter
import PyProof.WalksS
import PyProof.Rows.SetFrom
import KE.KSortTup
import PyProof.Draws
import PyProof.Rows.Range3
import KE.BitLaws
import PyProof.ExcClass2
import PyProof.InstSpecial
import PyProof.RaisesMany
import PyProof.Rows.Own
import KE.KTryDeep
import PyProof.InstStoreFacts
import PyProof.ExcArgs
import PyProof.SetRoads
import PyProof.Rows.CallKwBuiltin
import KE.KMinKey
import KE.KMinBuiltin
import PyProof.TupleOfGen
import PySem.Challenge.RW_coverclocks_k29_whole_least_covers
set_option Elab.async false
set_option linter.all false
set_option maxRecDepth 100000
set_option maxHeartbeats 6400000
namespace PySem.W.Fast
def tw10208243160331717889:=0
def tw10278782139851358407:=0
def tw10282000408497040923:=0
def tw10367856096803290595:=0
def tw10370856271887291299:=0
def tw10467431625211884421:=0
def tw10581827512693449858:=0
def tw10645688070323458636:=0
def tw10741502071563515217:=0
def tw10828553344173200625:=0
def tw1085548452309317075:=0
def tw10900223238055548805:=0
def tw11103357165532160899:=0
def tw11165272982979822492:=0
def tw11168576516256201871:=0
def tw11599681351759469293:=0
def tw1197603550156910555:=0
def tw12013570569128948555:=0
def tw12075246533675410701:=0
def tw1219551117502203355:=0
def tw12201641809928284767:=0
def tw12238990670711199581:=0
def tw12327817087433634276:=0
def tw12410006954144556196:=0
def tw12415528691317741129:=0
def tw12474096828002379775:=0
def tw12529661814317810068:=0
def tw1258657357191345632:=0
def tw12757975984749688120:=0
def tw13111788092943213512:=0
def tw13360459945430888963:=0
def tw13370926129159942883:=0
def tw13499614621446641384:=0
def tw13827386444733082564:=0
def tw14118618443027252880:=0
def tw14157275111992843781:=0
def tw14256872675713516242:=0
def tw14261659709251034098:=0
def tw14383980128923668099:=0
def tw14390395372957183210:=0
def tw14682879935414500932:=0
def tw14780727628015204615:=0
def tw15181355308073788416:=0
def tw15281070401782291980:=0
def tw15290375042783080154:=0
def tw15451243054545449912:=0
def tw15491728360594200367:=0
def tw15737856495744524924:=0
def tw15770319616197939599:=0
def tw15819396340507533046:=0
def tw16154541261291637125:=0
def tw16241002426381689015:=0
def tw16515771766622964951:=0
def tw16528737540365623519:=0
def tw16673102311962685147:=0
def tw16863804361408371378:=0
def tw17099479303142438322:=0
def tw17196480595620610801:=0
def tw17256017979586613139:=0
def tw17276227860398019889:=0
def tw17499614634712945612:=0
def tw17500255047460125030:=0
def tw17545363526663469107:=0
def tw17598261186867670701:=0
def tw17806472485190182513:=0
def tw17827623522292105944:=0
def tw1796349952364069613:=0
def tw18115373428963739162:=0
def tw1811734547603311441:=0
def tw2137200623525262107:=0
def tw2484257787580745818:=0
def tw2618054764209885443:=0
def tw2749073602856378599:=0
def tw2765318060058406790:=0
def tw2838250504067476889:=0
def tw3196455439345722437:=0
def tw3245223327734129467:=0
def tw3352158489830803302:=0
def tw338624479361830180:=0
def tw3723443824850533591:=0
def tw3809066999367874192:=0
def tw3858409833082701810:=0
def tw3880290165336502841:=0
def tw4012226169016722872:=0
def tw425809125967587524:=0
def tw4282160285570669323:=0
def tw4369443245915464674:=0
def tw4487965364419191128:=0
def tw4579256066811685265:=0
def tw4882551123790256221:=0
def tw4925342590239563302:=0
def tw5075094086984450443:=0
def tw5113881510439638005:=0
def tw514412044305115087:=0
def tw5254386308837885107:=0
def tw5515893657691275442:=0
def tw5659886580242873218:=0
def tw5695827764950187032:=0
def tw5696038086431493297:=0
def tw5714473299675968432:=0
def tw5807096489202161726:=0
def tw6032527400775354665:=0
def tw6153247672320503849:=0
def tw6727344021883860063:=0
def tw6781318855435526023:=0
def tw6815876742669545078:=0
def tw6849331489133900252:=0
def tw7252266790617630974:=0
def tw7649322892630917520:=0
def tw7704918488883511755:=0
def tw7770349685517975254:=0
def tw7828411921973683830:=0
def tw7906022666601171200:=0
def tw7961080897676668902:=0
def tw8169091509232411253:=0
def tw8579777354288798880:=0
def tw8812612876819086764:=0
def tw9137762655253351806:=0
def tw9222638471319002087:=0
def tw9352639362392829658:=0
def tw9551769582422817444:=0
def tw9698263607563681458:=0
def tw10105610110614361741:=0
def tw1020864078467201904:=0
def tw11476125787249832235:=0
def tw11659561895774370512:=0
def tw11693165078752130859:=0
def tw11986130215045841362:=0
def tw12282238158504445555:=0
def tw12345889860179785202:=0
def tw12585167548859619089:=0
def tw12652737383237258821:=0
def tw13406343725070985059:=0
def tw13534633210920361560:=0
def tw13806123319439027138:=0
def tw13988575649877843078:=0
def tw14623367452597280668:=0
def tw14930743922016504415:=0
def tw15019287638325387055:=0
def tw15020970356314974560:=0
def tw15226076929427738760:=0
def tw15515571822859254564:=0
def tw16523832664706073911:=0
def tw16554592101477427572:=0
def tw16824246683350603176:=0
def tw17037886492527686647:=0
def tw17373792863654639472:=0
def tw1747090168078242313:=0
def tw17827397697748485648:=0
def tw18407230384248502264:=0
def tw1860375999915032531:=0
def tw1870339484588111101:=0
def tw3161677874141541046:=0
def tw4035145826585448216:=0
def tw4441947490367887258:=0
def tw4913922485958125783:=0
def tw5122758140686704428:=0
def tw5707567698859140529:=0
def tw6810501128421989137:=0
def tw7060657717224147396:=0
def tw7301013718883598702:=0
def tw7539747885828522262:=0
def tw7763209365733973531:=0
def tw7776870370733696141:=0
def tw7896653004019461684:=0
def tw8293537519173185612:=0
def tw8580251073542951692:=0
def tw8725570804447943082:=0
def tw9652029345245015466:=0
def tw9742492346592778537:=0
def tw9781427971854394095:=0
def tw9933049151017287355:=0
def tw10439653423299068948:=0
def tw11771747255383109167:=0
def tw11911391029680951165:=0
def tw1257357373628734091:=0
def tw12750276423698530517:=0
def tw12986632537912837491:=0
def tw13152957619500985:=0
def tw13450884117680859803:=0
def tw13514611277555100554:=0
def tw13608250311469449102:=0
def tw14060414095624733395:=0
def tw14642603698255664938:=0
def tw14874593723580762631:=0
def tw15025438118599546208:=0
def tw15050502665510225660:=0
def tw1539224608712178153:=0
def tw16285930596262017661:=0
def tw16498768385744285156:=0
def tw17534535470558590711:=0
def tw17538033424766985356:=0
def tw17584688636554351441:=0
def tw18405851206743796169:=0
def tw3258270187789145915:=0
def tw3887154064627548585:=0
def tw4590737839342321868:=0
def tw4725225729061082730:=0
def tw473214514584613714:=0
def tw4917388360954890190:=0
def tw5179673209417624550:=0
def tw5199003343087640357:=0
def tw5357641398303851647:=0
def tw5405980776106286252:=0
def tw5409056877720658034:=0
def tw6008466668255401594:=0
def tw6775763016963092127:=0
def tw6866524920475753317:=0
def tw7325339744523136587:=0
def tw7356188916917856545:=0
def tw7687555562694251139:=0
def tw7941400065782421454:=0
def tw7976213149701068938:=0
def tw9180182215875016922:=0
def tw936201533489526218:=0
def tw9727738011761827025:=0
def tw991737317381205094:=0
def tw998210937553626396:=0
def tw10490291059279114089:=0
def tw17394446145848737345:=0
def tw2197087990180564711:=0
def tw2872896137676023373:=0
def tw5539885648459367586:=0
def tw561068032031160966:=0
def tw11419294974918785127:=0
def tw13352733461364609749:=0
def tw4352004232300299578:=0
def tw9657110070583700242:=0
def tw17543800245861056151:=0
def tw1775611266563330881:=0
def tw9282259133825770101:=0
end PySem.W.Fast
namespace L2
open PySem PySem.Spec PyProof.Rows
abbrev Key:=Sum Int Str
def keyIs:Key->Value->Bool
 |.inl k,v=>Value.isInt k v
 |.inr x,v=>Value.isStrOf x v
def keyH(w:World):Key->Int
 |.inl k=>hashInt k
 |.inr x=>hashStr w x
theorem qbbz:∀{k:Key} {v:Value},keyIs k v=true->(∃i t,k=Sum.inl i/\v=Value.int i t)∨(∃x t,k=Sum.inr x/\v=Value.str x t)
 |.inl i,v,h=>by
  obtain⟨t,e⟩:=Value.isInt_shape (k:=i) (v:=v) h;exact .inl ⟨i,t,rfl,e⟩
 |.inr x,v,h=>by
  obtain⟨t,e⟩:=Value.isStrOf_shape (x:=x) (v:=v) h;exact .inr ⟨x,t,rfl,e⟩
theorem qoez(a b:Int):decide ((Sum.inl a:Key)=Sum.inl b)=(a==b):=by
 by_cases e:a=b
 ·subst e;simp
 ·have h:¬(Sum.inl a:Key)=Sum.inl b:=fun q=>e (Sum.inl.inj q);rw[decide_eq_false h];exact (beq_eq_false_iff_ne.mpr e).symm
theorem qofz(a b:Str):decide ((Sum.inr a:Key)=Sum.inr b)=decide (a=b):=by
 by_cases e:a=b
 ·subst e;simp
 ·have h:¬(Sum.inr a:Key)=Sum.inr b:=fun q=>e (Sum.inr.inj q);rw[decide_eq_false h,decide_eq_false e]
theorem qogz(a:Int)(b:Str):decide ((Sum.inl a:Key)=Sum.inr b)=false:=decide_eq_false (fun q=>nomatch q)
theorem qohz(a:Str)(b:Int):decide ((Sum.inr a:Key)=Sum.inl b)=false:=decide_eq_false (fun q=>nomatch q)
def mixKind(prog:Program)(w:World):PySem.KeyKind prog w Key where
 is:=keyIs
 hash:=keyH w
 inj:=fun v a b ha hb=>by
  rcases qbbz ha with⟨i,t,rfl,rfl⟩|⟨x,t,rfl,rfl⟩
  ·rcases qbbz hb with⟨j,u,rfl,e⟩|⟨y,u,rfl,e⟩
   ·injection e with e1 _;rw[e1]
   ·exact nomatch e
  ·rcases qbbz hb with⟨j,u,rfl,e⟩|⟨y,u,rfl,e⟩
   ·exact nomatch e
   ·injection e with e1 _;rw[e1]
 byValue:=fun k v h=>by
  rcases qbbz h with⟨i,t,rfl,rfl⟩|⟨x,t,rfl,rfl⟩<;>rfl
 pyHash:=fun hv h=>by
  rcases qbbz hv with⟨i,t,rfl,rfl⟩|⟨x,t,rfl,rfl⟩
  ·exact wpAny_pyHash_int h
  ·exact wpAny_pyHash_str h
 eqBool:=fun hu hv h=>by
  rcases qbbz hu with⟨i,t,rfl,rfl⟩|⟨x,t,rfl,rfl⟩
  ·rcases qbbz hv with⟨j,u,rfl,rfl⟩|⟨y,u,rfl,rfl⟩
   ·rw[qoez] at h;exact wpAny_eqBool_int h
   ·rw[qogz] at h;exact SeqAt.EqAt.int_str i t y u _ _ _ _ h
  ·rcases qbbz hv with⟨j,u,rfl,rfl⟩|⟨y,u,rfl,rfl⟩
   ·rw[qohz] at h;exact SeqAt.EqAt.str_int x t j u _ _ _ _ h
   ·rw[qofz] at h;exact wpAny_eqBool_str h
 «strs»:=fun k x t v h=>by
  rcases qbbz h with⟨i,u,rfl,e⟩|⟨y,u,rfl,e⟩
  ·exact nomatch e
  ·injection e with e1 _;subst e1;cases v<;>rfl
end L2
namespace L2
open PySem PySem.Spec PyProof.Rows
inductive V where
 |non|bl (b:Bool)|int (i:Int)|str (x:Str)|byt (b:Array UInt8)|flt (b:UInt64)|ref (a:Addr)|ty (n:String)
 deriving DecidableEq
def RelV:V->Value->Prop
 |.non,u=>u=Value.none
 |.bl b,u=>u=Value.bool b
 |.int i,u=>∃t,u=Value.int i t
 |.str x,u=>∃t,u=Value.str x t
 |.byt b,u=>∃t,u=Value.bytes b t
 |.flt b,u=>∃t,u=Value.float b t
 |.ref a,u=>u=Value.ref a
 |.ty n,u=>u=Value.type n
abbrev Vals:List V->List Value->Prop:=Paired RelV
theorem Vals.length{xs:List V}{us:List Value}(r:Vals xs us):xs.length=us.length:=Paired.length r
theorem Vals.get:∀{xs:List V} {us:List Value} {i:Nat} {x:V},Vals xs us->xs[i]?=some x->∃u,us[i]?=some u/\RelV x u
 |_,_,_,_,.nil,e=>by simp at e
 |_,_,0,_,.cons r _,e=>by simp at e;subst e;exact⟨_,rfl,r⟩
 |_,_,i+1,x,.cons _ t,e=>by
  obtain⟨u,h1,h2⟩:=Vals.get (i:=i) (x:=x) t (by simpa using e);exact⟨u,by simpa using h1,h2⟩
theorem Vals.set{x:V}{u:Value}(r:RelV x u):∀{xs:List V} {us:List Value} (i:Nat),Vals xs us->Vals (xs.set i x) (us.set i u)
 |_,_,_,.nil=>.nil
 |_,_,0,.cons _ t=>.cons r t
 |_,_,i+1,.cons q t=>.cons q (Vals.set r i t)
theorem Vals.append:∀{xs ys:List V} {us ws:List Value},Vals xs us->Vals ys ws->Vals (xs++ys) (us++ws)
 |_,_,_,_,.nil,s=>s
 |_,_,_,_,.cons r t,s=>.cons r (Vals.append t s)
theorem Vals.take:∀{xs:List V} {us:List Value} (n:Nat),Vals xs us->Vals (xs.take n) (us.take n)
 |_,_,0,_=>.nil
 |_,_,_+1,.nil=>.nil
 |_,_,n+1,.cons r t=>.cons r (Vals.take n t)
theorem Vals.drop:∀{xs:List V} {us:List Value} (n:Nat),Vals xs us->Vals (xs.drop n) (us.drop n)
 |_,_,0,r=>r
 |_,_,_+1,.nil=>.nil
 |_,_,n+1,.cons _ t=>Vals.drop n t
def RelO:Option V->Option Value->Prop
 |some v,some u=>RelV v u
 |none,none=>True
 |_,_=>False
def KV{κ:Type}:List (κ×V)->List (κ×Value)->Prop:=Paired fun (p:κ×V) (q:κ×Value)=>p.1=q.1/\RelV p.2 q.2
def kV:Key->V
 |.inl i=>.int i
 |.inr x=>.str x
inductive HO where
 |lst (xs:List V)
 |tup (xs:List V)
 |dK (kvs:List (Key×V))|dT (kvs:List (List Key×V))
 |set (S:Int->Bool) (n:Nat)
 |ins (C dx:Addr) (fs:List (Str×V))
 |own (x:Addr)
 |xd (fs:List (Str×V))
 |met (f x:Addr)
 |rng (lo hi:Int)
 |frz (o:Obj) (u:HO)
 |tbl (ps:Array Value)
 |ext (φ:Heap->Prop)
abbrev Hp:=Addr->Option HO
def upd(H:Hp)(a:Addr)(o:HO):Hp:=fun b=>if b=a then some o else H b
theorem quz{H:Hp}{a:Addr}{o:HO}:upd H a o a=some o:=by unfold upd;rw[if_pos rfl]
theorem qmz{H:Hp}{a b:Addr}{o:HO}(h:b≠a):upd H a o b=H b:=by unfold upd;rw[if_neg h]
theorem qajz{H:Hp}{a b:Addr}{o:HO}(h:H a=some o)(h':H b=none):a≠b:=by
 intro e;subst e;rw[h] at h';cases h'
def IsTup2(h:Heap)(a:Addr)(items:Array Value):Prop:=∃o,h.get? a=some o/\o.cls=.type "tuple"/\(∃n,o.data=.seq items n)/\o.dict=none
theorem IsTup2.tup{h:Heap}{a:Addr}{items:Array Value}(x:IsTup2 h a items):IsTup h a items:=let ⟨o,h1,h2,h3,_⟩:=x;⟨o,h1,h2,h3⟩
theorem IsTup2.new(h:Heap)(items:Array Value):IsTup2 (h.push { cls:=.type "tuple",data:=.seq items }) h.objs.size items:=⟨_,Heap.get?_push_size _ rfl,rfl,⟨_,rfl⟩,rfl⟩
theorem IsTup2.lt{h:Heap}{a:Addr}{items:Array Value}(x:IsTup2 h a items):a<h.objs.size:=let ⟨_,ho,_⟩:=x;Heap.lt_size ho
section
variable (P:Program) (w:World)
def ObjOk(H:Hp)(h:Heap)(a:Addr):HO->Prop
 |.lst xs=>xs.length≤sizeLine/\∃(its:List Value) (n:Nat),Vals xs its/\h.get? a=some { cls:=.type "list",data:=.seq its.toArray n }
 |.tup xs=>xs.length≤sizeLine/\∃its:List Value,Vals xs its/\IsTup2 h a its.toArray
 |.dK kvs=>kvs.length≤sizeLine/\(a==sysModules)=false/\∃vs,KV kvs vs/\h.DictOf (mixKind P w) a vs
 |.dT kvs=>kvs.length≤sizeLine/\(a==sysModules)=false/\∃xs:List (List Key×Addr×Value),
   Paired (fun (p:List Key×V) (q:List Key×Addr×Value)=>p.1=q.1/\H q.2.1=some (.tup (p.1.map kV))/\RelV p.2 q.2.2) kvs xs ∧
   ∃o es ep,h.get? a=some o/\o.ExactDict/\o.data=.dict es ep/\es.toList=xs.map (entryOfKey (tupleKind (mixKind P w)))/\(xs.map (·.1)).Nodup
 |.set S n=>h.SetOf (intKind P w) a S n
 |.ins C dx fs=>H dx=some (.own a)/\fs.length≤1000/\dx≠a/\h.get? a=some (PySem.W.instObj C dx) ∧
   ∃mA,h.Ns1 dx mA/\(∀f,RelO (fs.lookup f) (mA f))/\PySem.Within mA (fs.map (·.1))
 |.own _=>∃o,h.get? a=some o
 |.xd fs=>∃mA,h.Ns1 a mA/\∀f,RelO (fs.lookup f) (mA f)
 |.rng lo hi=>∃t u v,h.get? a=some { cls:=.type "range",data:=.fields #[.int lo t,.int hi u,.int 1 v]}
 |.frz o u=>h.get? a=some o/\ObjOk H h a u
 |.tbl ps=>h.get? a=some { cls:=.none,data:=.fields ps }
 |.met f x=>h.get? a=some (PySem.W.methodObj (.ref f) (.ref x))
 |.ext φ=>φ h/\(∃o,h.get? a=some o)/\∀h1 h2:Heap,φ h1->(∀o,h1.get? a=some o->h2.get? a=some o)->φ h2
def HOk(H:Hp)(h:Heap):Prop:=∀a o,H a=some o->ObjOk P w H h a o
end
section
variable {P:Program} {w:World} {H H':Hp} {h h':Heap} {a:Addr} {o:HO}
theorem ObjOk.lt(x:ObjOk P w H h a o):a<h.objs.size:=by
 cases o with
 |lst xs=>obtain⟨_,_,_,_,e⟩:=x;exact Heap.lt_size e
 |tup xs=>obtain⟨_,_,_,p⟩:=x;exact p.lt
 |dK kvs=>obtain⟨_,_,_,_,o,_,_,e,_⟩:=x;exact Heap.lt_size e
 |dT kvs=>obtain⟨_,_,_,_,o,_,_,e,_⟩:=x;exact Heap.lt_size e
 |set S n=>obtain⟨o,_,_,_,e,_⟩:=x;exact Heap.lt_size e
 |ins C dx fs=>obtain⟨_,_,_,e,_⟩:=x;exact Heap.lt_size e
 |own y=>obtain⟨_,e⟩:=x;exact Heap.lt_size e
 |xd fs=>obtain⟨_,⟨_,_,_,e,_⟩,_⟩:=x;exact Heap.lt_size e
 |rng lo hi=>obtain⟨_,_,_,e⟩:=x;exact Heap.lt_size e
 |frz ob u=>obtain⟨e,_⟩:=x;exact Heap.lt_size e
 |tbl ps=>exact Heap.lt_size (show h.get? a=some _ from x)
 |met f y=>exact Heap.lt_size (show h.get? a=some _ from x)
 |ext φ=>obtain⟨_,⟨_,e⟩,_⟩:=x;exact Heap.lt_size e
theorem Paired.mapP{α β:Type}{F G:α->β->Prop}:∀{l₁:List α} {l₂:List β},Paired F l₁ l₂->(∀a b,F a b->G a b)->Paired G l₁ l₂
 |_,_,.nil,_=>.nil
 |_,_,.cons r t,f=>.cons (f _ _ r) (Paired.mapP t f)
theorem ObjOk.stay(x:ObjOk P w H h a o)(k:∀b u,(b=a∨H b=some (.own a))->h.get? b=some u->h'.get? b=some u)
  (ho:∀b,H b=some (.own a)->H' b=some (.own a)) (ht:∀b xs,H b=some (.tup xs)->H' b=some (.tup xs)):ObjOk P w H' h' a o:=by
 induction o with
 |lst xs=>obtain⟨z,its,n,r,e⟩:=x;exact⟨z,its,n,r,k _ _ (.inl rfl) e⟩
 |tup xs=>obtain⟨z,its,r,ob,e,c⟩:=x;exact⟨z,its,r,ob,k _ _ (.inl rfl) e,c⟩
 |dK kvs=>obtain⟨z,y,vs,r,ob,es,ep,e,c⟩:=x;exact⟨z,y,vs,r,ob,es,ep,k _ _ (.inl rfl) e,c⟩
 |dT kvs=>
  obtain⟨z,y,xs,r,ob,es,ep,e,c⟩:=x;exact⟨z,y,xs,Paired.mapP r fun p q z=>⟨z.1,ht _ _ z.2.1,z.2.2⟩,ob,es,ep,k _ _ (.inl rfl) e,c⟩
 |set S n=>obtain⟨ob,es,ep,t,e,c⟩:=x;exact⟨ob,es,ep,t,k _ _ (.inl rfl) e,c⟩
 |ins C dx fs=>
  obtain⟨d,z,ne,e,mA,⟨od,es,ep,e2,c⟩,r⟩:=x;exact⟨ho _ d,z,ne,k _ _ (.inl rfl) e,mA,⟨od,es,ep,k _ _ (.inr d) e2,c⟩,r⟩
 |own y=>obtain⟨ob,e⟩:=x;exact⟨ob,k _ _ (.inl rfl) e⟩
 |xd fs=>obtain⟨mA,⟨od,es,ep,e,c⟩,r⟩:=x;exact⟨mA,⟨od,es,ep,k _ _ (.inl rfl) e,c⟩,r⟩
 |rng lo hi=>obtain⟨t,u,v,e⟩:=x;exact⟨t,u,v,k _ _ (.inl rfl) e⟩
 |frz ob u ih=>obtain⟨e,q⟩:=x;exact⟨k _ _ (.inl rfl) e,ih q⟩
 |tbl ps=>
  have e:h.get? a=some { cls:=.none,data:=.fields ps }:=x;show h'.get? a=some { cls:=.none,data:=.fields ps };exact k a _ (.inl rfl) e
 |met f y=>
  have e:h.get? a=some (PySem.W.methodObj (.ref f) (.ref y)):=x;show h'.get? a=some (PySem.W.methodObj (.ref f) (.ref y));exact k a _ (.inl rfl) e
 |ext φ=>obtain⟨p,⟨o,e⟩,st⟩:=x;exact⟨st _ _ p fun o q=>k _ _ (.inl rfl) q,⟨o,k _ _ (.inl rfl) e⟩,st⟩
theorem HOk.lt(x:HOk P w H h)(e:H a=some o):a<h.objs.size:=(x a o e).lt
theorem HOk.fresh(x:HOk P w H h)(e:h.objs.size≤a):H a=none:=by
 cases q:H a with
 |none=>rfl
 |some u=>exact absurd (Nat.lt_of_lt_of_le (x.lt q) e) (Nat.lt_irrefl _)
theorem HOk.kept(x:HOk P w H h)(k:∀b u,h.get? b=some u->h'.get? b=some u):HOk P w H h':=fun a o e=>
 (x a o e).stay (fun b u _ q=>k b u q) (fun _ q=>q) fun _ _ q=>q
theorem HOk.laid(x:HOk P w H h)(k:∀b u,h.get? b=some u->h'.get? b=some u)(hp:h.objs.size≤a)(new:ObjOk P w (upd H a o) h' a o):HOk P w (upd H a o) h':=fun b u e=>by
 have hn:=x.fresh hp;by_cases hb:b=a
 ·subst hb;rw[quz] at e;cases e;exact new
 ·rw[qmz hb] at e;exact (x b u e).stay (fun c v _ q=>k c v q) (fun c q=>by rw[qmz (qajz q hn)];exact q) fun c xs q=>by rw[qmz (qajz q hn)];exact q
end
def Rd(H:Hp)(a:Addr)(u:HO):Prop:=H a=some u∨∃o,H a=some (.frz o u)
theorem Rd.ok{P:Program}{w:World}{H:Hp}{h:Heap}{a:Addr}{u:HO}(r:Rd H a u)(x:HOk P w H h):ObjOk P w H h a u:=by
 rcases r with r|⟨o,r⟩
 ·exact x a u r
 ·obtain⟨_,q⟩:=x a _ r;exact q
def Mut:Option HO->Prop
 |some (.lst _)=>True
 |some (.dK _)=>True
 |some (.dT _)=>True
 |some (.set _ _)=>True
 |some (.ins _ _ _)=>True
 |some (.ext _)=>True
 |_=>False
section
variable {P:Program} {w:World} {H:Hp} {h h':Heap} {x e:Addr} {o':HO}
theorem HOk.write(ok:HOk P w H h)(mu:Mut (H x))(he:e=x∨H e=some (.own x))(k:∀b u,b≠e->h.get? b=some u->h'.get? b=some u)(heo:∃u,h'.get? e=some u)
  (new:ObjOk P w (upd H x o') h' x o'):HOk P w (upd H x o') h':=fun b u q=>by
 have nown:∀c y,H c=some (.own y)->c≠x:=fun c y r z=>by subst z;rw[r] at mu;exact mu
 have ntup:∀c xs,H c=some (.tup xs)->c≠x:=fun c xs r z=>by subst z;rw[r] at mu;exact mu
 by_cases hb:b=x
 ·subst hb;rw[quz] at q;cases q;exact new
 ·rw[qmz hb] at q;by_cases hbe:b=e
  ·have q':H b=some (.own x):=by
    rcases he with z|z
    ·exact absurd (hbe.trans z) hb
    ·rw[hbe];exact z
   rw[q] at q';cases q';obtain⟨v,hv⟩:=heo;exact⟨v,by rw[hbe];exact hv⟩
  ·refine (ok b u q).stay (fun c v hc r=>k c v ?_ r) (fun c r=>by rw[qmz (nown c b r)];exact r) fun c xs r=>by rw[qmz (ntup c xs r)];exact r
   rcases hc with rfl|hc
   ·exact hbe
   ·rintro rfl;rcases he with z|z
    ·exact nown c b hc z
    ·rw[hc] at z;cases z;exact hb rfl
end
structure Un(fs ex:List Addr)(H H':Hp)(h h':Heap):Prop where
 keep:∀b o,h.get? b=some o->H b=none->b∉fs->b∉ex->h'.get? b=some o
 slot:∀b o,h.get? b=some o->H b=none->b∈fs->b∉ex->∃sl,h'.get? b=some { o with slots:=sl }
 free:∀b o,h.get? b=some o->H b=none->b∉ex->H' b=none
 there:∀b o,h.get? b=some o->b∉ex->∃o',h'.get? b=some o'
 tups:∀b xs,H b=some (.tup xs)->H' b=some (.tup xs)
 frzs:∀b o u,H b=some (.frz o u)->H' b=some (.frz o u)
 tbls:∀b ps,H b=some (.tbl ps)->∃more,H' b=some (.tbl (ps++more))
section
variable {fs fs' ex ex':List Addr} {H H1 H2:Hp} {h h1 h2 h':Heap} {a x e:Addr} {o:HO}
theorem Un.any(u:Un fs ex H H1 h h1){b:Addr}{ob:Obj}(q:h.get? b=some ob)(n:H b=none)(hx:b∉ex):∃sl,h1.get? b=some { ob with slots:=sl }:=by
 by_cases hb:b∈fs
 ·exact u.slot b ob q n hb hx
 ·exact⟨ob.slots,u.keep b ob q n hb hx⟩
theorem Un.kept(k:∀b u,h.get? b=some u->h'.get? b=some u):Un fs ex H H h h':=
 ⟨fun b ob q _ _ _=>k b ob q,fun b ob q _ _ _=>⟨ob.slots,k b ob q⟩,fun _ _ _ n _=>n,fun b ob q _=>⟨ob,k b ob q⟩,fun _ _ q=>q,fun _ _ _ q=>q,fun _ ps q=>⟨#[],by rw[q];simp⟩⟩
theorem Un.refl:Un fs ex H H h h:=Un.kept fun _ _ q=>q
theorem Un.laid(k:∀b u,h.get? b=some u->h'.get? b=some u)(hp:h.objs.size≤a)(hn:H a=none):Un fs ex H (upd H a o) h h' where
 keep:=fun b u q _ _ _=>k b u q
 slot:=fun b u q _ _ _=>⟨u.slots,k b u q⟩
 free:=fun b u q n _=>by rw[qmz (Nat.ne_of_lt (Nat.lt_of_lt_of_le (Heap.lt_size q) hp))];exact n
 there:=fun b u q _=>⟨u,k b u q⟩
 tups:=fun b xs q=>by rw[qmz (qajz q hn)];exact q
 frzs:=fun b u xs q=>by rw[qmz (qajz q hn)];exact q
 tbls:=fun b ps q=>⟨#[],by rw[qmz (qajz q hn),q];simp⟩
theorem Un.write(mu:Mut (H x))(he:e=x∨H e=some (.own x))(k:∀b u,b≠e->h.get? b=some u->h'.get? b=some u)(heo:∃u,h'.get? e=some u):Un fs ex H (upd H x o) h h':=by
 have hx:∀b,H b=none->b≠x:=fun b n z=>by subst z;rw[n] at mu;exact mu
 have hb:∀b,H b=none->b≠e:=fun b n z=>by
  subst z;rcases he with r|r
  ·exact hx b n r
  ·rw[n] at r;cases r
 have hm:∀b u,H b=some u->¬Mut (some u)->b≠x:=fun b u q nm z=>by subst z;rw[q] at mu;exact nm mu
 refine⟨fun b u q n _ _=>k b u (hb b n) q,fun b u q n _ _=>⟨u.slots,k b u (hb b n) q⟩,fun b u q n _=>by rw[qmz (hx b n)];exact n,fun b u q _=>?_,
  fun b xs q=>by rw[qmz (hm b _ q fun z=>z)];exact q,fun b u xs q=>by rw[qmz (hm b _ q fun z=>z)];exact q,fun b ps q=>⟨#[],by rw[qmz (hm b _ q fun z=>z),q];simp⟩⟩
 by_cases hbe:b=e
 ·subst hbe;exact heo
 ·exact⟨u,k b u hbe q⟩
end
def trk(h:Heap)(H:Hp):List Addr:=(List.range h.objs.size).filter fun a=>(H a).isSome
def hidT(h:Heap)(H:Hp):Heap:=PySem.W.hideAll h (trk h H)
theorem qoiz(h:Heap)(H:Hp):(hidT h H).objs.size=h.objs.size:=PySem.W.hideAll_size _ _
theorem qojz{h:Heap}{H:Hp}{b:Addr}{o:Obj}(e:h.get? b=some o)(n:H b=none):(hidT h H).get? b=some o:=
 PySem.W.hideAll_get _ e fun hm=>by
  have q:(H b).isSome=true:=(List.mem_filter.mp hm).2;rw[n] at q;simp at q
theorem qokz{h:Heap}{H:Hp}{b:Addr}{o:Obj}(e:(hidT h H).get? b=some o):h.get? b=some o/\H b=none:=by
 have e':h.get? b=some o:=PySem.W.of_hideAll (trk h H) e;refine⟨e',?_⟩;cases q:H b with
 |none=>rfl
 |some x=>
  have hm:b∈trk h H:=List.mem_filter.mpr ⟨List.mem_range.mpr (Heap.lt_size e'),by simp[q]⟩;have z:(hidT h H).get? b=none:=PySem.W.hideAll_none (trk h H) hm;rw[z] at e;cases e
end L2
namespace L2
open PySem PySem.Spec PyProof.Rows
structure Mod(K:PySem.W.Frag)(mg:Str->Option Value)(base:Heap):Prop where
 kin:K.In base
 glob:base.Ns mainGlobals mg
 blt:∃mb,base.Ns builtinsNs mb/\∀x:Str,x≠"__name__"->mb x=bootBuiltins x
 nolimit:base.NoLimit
structure Cx where
 prog:Program
 w:World
 K:PySem.W.Frag
 mg:Str->Option Value
 base:Heap
 A:Around
 N:List Str
 s₀:Shared
 H₀:Hp
 env:Env
 outer:List Env
 stack:List Env
 ex:List Addr
 fn:Str->Bool
 calm:Bool
 pn:List (Addr×Obj)
 xe:Value->Shared->Prop
def frs(l:List Env):List Addr:=l.filterMap (·.frame)
abbrev Cx.fs(X:Cx):List Addr:=frs X.outer
def Vis(sc:Scope)(x:Str):Prop:=sc.names.lookup x=some .local∨sc.names.lookup x=some .cell∨sc.names.lookup x=some .free
def Loc(sc:Scope)(x:Str):Prop:=sc.names.lookup x=some .local∨sc.names.lookup x=some .cell
def Look(env:Env)(h:Heap)(m:Str->Option Value)(x:Str)(u:Value):Prop:=
 (env.kindOf x=some .local/\m x=some u)∨((env.kindOf x=some .cell∨env.kindOf x=some .free)/\∃c,env.cells.lookup x=some c/\h.IsCell c (some u))
structure Cx.Ok(X:Cx):Prop where
 mod:Mod X.K X.mg X.base
 kind:X.env.scope.kind=.function
 glob:X.env.globals=mainGlobals
 blt:X.env.builtins=builtinsNs
 above:X.s₀.heap.objs.size≤X.env.locals
 inj:∀x y c,X.env.cells.lookup x=some c->X.env.cells.lookup y=some c->x=y
 has:∀x,(X.env.kindOf x=some .cell∨X.env.kindOf x=some .free)->∃c,X.env.cells.lookup x=some c
 cab:∀x c,X.fn x=true->X.env.cells.lookup x=some c->X.s₀.heap.objs.size≤c
 hd:X.calm=true->X.A.handled=none
 frames:X.A.frames=some X.stack
 stk:X.stack=X.outer∨(X.stack=X.env::X.outer/\X.env.frame=some X.env.locals)
 exf:∀b∈X.ex,b≠X.env.locals/\∀x c,X.env.cells.lookup x=some c->c≠b
 bs:∀b o,X.base.get? b=some o->X.s₀.heap.get? b=some o/\X.H₀ b=none
 bsz:X.base.objs.size≤X.s₀.heap.objs.size
 noex:∀b o,X.base.get? b=some o->b∉X.ex
 exfs:∀b∈X.ex,b∉X.fs
 funs:X.s₀.heap.FunFrames X.base X.outer
 frf:∀b∈X.fs,X.H₀ b=none
structure Inv(X:Cx)(pins:List (Addr×Obj))(σ:List (Option V))(H:Hp)(s:Shared):Prop where
 ok:X.Ok
 os:s.os=X.s₀.os
 bare:AllBare s.gens
 base:Un X.fs X.ex X.H₀ H X.s₀.heap s.heap
 loc:∃m,s.heap.Ns X.env.locals m/\∀(i:Nat) (x:Str) (v:V),X.N[i]?=some x->σ[i]?=some (some v)->Vis X.env.scope x->∃u,RelV v u/\Look X.env s.heap m x u
 cell:∀x c,X.env.cells.lookup x=some c->∃v,s.heap.IsCell c v
 free:H X.env.locals=none
 freeC:∀x c,X.env.cells.lookup x=some c->H c=none
 pin:∀p∈X.pn++pins,s.heap.get? p.1=some p.2/\H p.1=none/\p.1≠X.env.locals/\p.1∉X.fs/\∀v,p.2.data≠.cell v
 hok:HOk X.prog X.w H s.heap
 len:σ.length=X.N.length
section
variable {X:Cx} {pins:List (Addr×Obj)} {σ:List (Option V)} {H H':Hp} {s:Shared} {h':Heap}
theorem Cx.Ok.nofr(ok:X.Ok){b:Addr}{o:Obj}(e:X.base.get? b=some o):b∉X.fs:=fun hb=>by
 have:=(ok.funs.mem hb).1;rw[e] at this;cases this
theorem Inv.bs(I:Inv X pins σ H s):∀b o,X.base.get? b=some o->s.heap.get? b=some o/\H b=none:=fun b o e=>
 ⟨I.base.keep b o (I.ok.bs b o e).1 (I.ok.bs b o e).2 (I.ok.nofr e) (I.ok.noex b o e),I.base.free b o (I.ok.bs b o e).1 (I.ok.bs b o e).2 (I.ok.noex b o e)⟩
theorem Inv.bk(I:Inv X pins σ H s):∀b o,X.base.get? b=some o->s.heap.get? b=some o:=fun b o e=>(I.bs b o e).1
theorem Inv.mod(I:Inv X pins σ H s):Mod X.K X.mg X.base:=I.ok.mod
theorem Inv.kIn(I:Inv X pins σ H s):X.K.In s.heap:=I.ok.mod.kin.keeps I.bk
theorem Inv.lt(I:Inv X pins σ H s):X.env.locals<s.heap.objs.size:=let ⟨_,hn,_⟩:=I.loc;hn.lt
theorem Inv.sz(I:Inv X pins σ H s):X.s₀.heap.objs.size≤s.heap.objs.size:=Nat.le_trans I.ok.above (Nat.le_of_lt I.lt)
theorem Inv.nofs(I:Inv X pins σ H s){a:Addr}(h:s.heap.objs.size≤a):a∉X.fs:=fun hb=>by
 obtain⟨_,o,ho,_⟩:=I.ok.funs.mem hb;exact absurd (Nat.lt_of_lt_of_le (Heap.lt_size ho) (Nat.le_trans I.sz h)) (Nat.lt_irrefl _)
theorem Inv.cne(I:Inv X pins σ H s):∀x c,X.env.cells.lookup x=some c->c≠X.env.locals:=fun x c e z=>by
 obtain⟨v,o,ho,hd⟩:=I.cell x c e;obtain⟨m,⟨o',es,ep,ho',hd',_⟩,_⟩:=I.loc;rw[z,ho'] at ho;cases ho;rw[hd'] at hd;cases hd
theorem Inv.funs(I:Inv X pins σ H s):s.heap.FunFrames X.base X.outer:=by
 have all:∀(l:List Env),(∀b∈frs l,b∈X.fs)->X.s₀.heap.FunFrames X.base l->s.heap.FunFrames X.base l:=by
  intro l
  induction l with
  |nil=>intro _ _;trivial
  |cons env r ih=>
   intro hs hl;obtain⟨hk,⟨L,o,hf,hn,ho,hd⟩,hr⟩:=hl;have hL:L∈X.fs:=hs L (by unfold frs;rw[List.filterMap_cons,hf];exact List.mem_cons_self);obtain⟨sl,e⟩:=I.base.slot L o ho (I.ok.frf L hL) hL fun z=>I.ok.exfs L z hL;exact⟨hk,⟨L,_,hf,hn,e,hd⟩,ih (fun b hb=>hs b (by unfold frs;rw[List.filterMap_cons,hf];exact List.mem_cons_of_mem _ hb)) hr⟩
 exact all X.outer (fun _ hb=>hb) I.ok.funs
theorem Inv.stack(I:Inv X pins σ H s):s.heap.FunFrames X.base X.stack:=by
 rcases I.ok.stk with e|⟨e,hf⟩
 ·rw[e];exact I.funs
 ·rw[e];obtain⟨m,hn,_⟩:=I.loc;refine .cons (by rw[I.ok.kind];decide) hf hn ?_ I.funs;exact Heap.get?_none_of_le (Nat.le_trans I.ok.bsz I.ok.above)
theorem Inv.stkSub(I:Inv X pins σ H s):∀b∈frs X.stack,b∈X.env.locals::X.fs:=fun b hb=>by
 rcases I.ok.stk with e|⟨e,hf⟩
 ·rw[e] at hb;exact List.mem_cons_of_mem _ hb
 ·rw[e] at hb;unfold frs at hb;rw[List.filterMap_cons,hf] at hb;exact hb
theorem Inv.stkFree(I:Inv X pins σ H s):∀b∈frs X.stack,H b=none:=fun b hb=>by
 rcases List.mem_cons.mp (I.stkSub b hb) with e|hb
 ·rw[e];exact I.free
 ·obtain⟨_,o,ho,_⟩:=I.ok.funs.mem hb;exact I.base.free b o ho (I.ok.frf b hb) fun z=>I.ok.exfs b z hb
theorem Inv.step{g':Array GenState}{t':Nat}{d':Drawn}{ch:List Addr}(I:Inv X pins σ H s)
  (hch:∀b∈ch,(b∈X.ex∨X.s₀.heap.objs.size≤b)/\b≠X.env.locals/\(∀x c,X.env.cells.lookup x=some c->c≠b)/\∀p∈X.pn++pins,p.1≠b)
  (keep:∀b o,b≠X.env.locals->b∉X.fs->b∉ch->s.heap.get? b=some o->H b=none->h'.get? b=some o)
  (slot:∀b o,b≠X.env.locals->b∈X.fs->b∉ch->s.heap.get? b=some o->H b=none->∃sl,h'.get? b=some { o with slots:=sl }) (free:∀b o,b∉ch->s.heap.get? b=some o->H b=none->H' b=none)
  (there:∀b o,b∉ch->s.heap.get? b=some o->∃o',h'.get? b=some o')
  (tups:∀b xs,H b=some (.tup xs)->H' b=some (.tup xs)) (frzs:∀b o u,H b=some (.frz o u)->H' b=some (.frz o u)) (tbls:∀b ps,H b=some (.tbl ps)->∃more,H' b=some (.tbl (ps++more)))
  (ns:∀m,s.heap.Ns X.env.locals m->h'.Ns X.env.locals m) (hok:HOk X.prog X.w H' h') (hg:AllBare g'):
  Inv X pins σ H' { s with heap:=h',gens:=g',drawn:=d',toks:=t' }:=by
 have neL:∀b o,X.s₀.heap.get? b=some o->b≠X.env.locals:=fun b o e=>Nat.ne_of_lt (Nat.lt_of_lt_of_le (Heap.lt_size e) I.ok.above);have neC:∀b o,X.s₀.heap.get? b=some o->b∉X.ex->b∉ch:=fun b o e hx hb=>by
  rcases (hch b hb).1 with z|z
  ·exact hx z
  ·exact absurd (Nat.lt_of_lt_of_le (Heap.lt_size e) z) (Nat.lt_irrefl _)
 have cellK:∀x c,X.env.cells.lookup x=some c->∀v,s.heap.IsCell c v->h'.IsCell c v:=fun x c e v ⟨o,ho,hd⟩=>by
  have nch:c∉ch:=fun z=>(hch c z).2.2.1 x c e rfl;by_cases hc:c∈X.fs
  ·obtain⟨sl,q⟩:=slot c o (I.cne x c e) hc nch ho (I.freeC x c e);exact⟨_,q,hd⟩
  ·exact⟨o,keep c o (I.cne x c e) hc nch ho (I.freeC x c e),hd⟩
 refine⟨I.ok,I.os,hg,⟨fun b o e n hb hx=>?_,fun b o e n hb hx=>?_,fun b o e n hx=>?_,fun b o e hx=>?_,fun b xs e=>tups b xs (I.base.tups b xs e),fun b o xs e=>frzs b o xs (I.base.frzs b o xs e),fun b ps e=>?_⟩,?_,fun x c e=>?_,?_,fun x c e=>?_,fun p hp=>?_,hok,I.len⟩
 ·exact keep b o (neL b o e) hb (neC b o e hx) (I.base.keep b o e n hb hx) (I.base.free b o e n hx)
 ·obtain⟨sl,e1⟩:=I.base.slot b o e n hb hx;obtain⟨sl',e2⟩:=slot b _ (neL b o e) hb (neC b o e hx) e1 (I.base.free b o e n hx);exact⟨sl',e2⟩
 ·obtain⟨o',e1⟩:=I.base.there b o e hx;exact free b o' (neC b o e hx) e1 (I.base.free b o e n hx)
 ·obtain⟨o',e1⟩:=I.base.there b o e hx;exact there b o' (neC b o e hx) e1
 ·obtain⟨m1,e1⟩:=I.base.tbls b ps e;obtain⟨m2,e2⟩:=tbls b _ e1;exact⟨m1++m2,by rw[e2,Array.append_assoc]⟩
 ·obtain⟨m,hn,hl⟩:=I.loc;refine⟨m,ns m hn,fun i x v e1 e2 e3=>?_⟩;obtain⟨u,r,l⟩:=hl i x v e1 e2 e3;refine⟨u,r,?_⟩;rcases l with l|⟨k,c,e,z⟩
  ·exact .inl l
  ·exact .inr ⟨k,c,e,cellK x c e _ z⟩
 ·obtain⟨v,z⟩:=I.cell x c e;exact⟨v,cellK x c e v z⟩
 ·obtain⟨m,⟨o,_,_,ho,_⟩,_⟩:=I.loc;exact free _ o (fun z=>(hch _ z).2.1 rfl) ho I.free
 ·obtain⟨v,o,ho,hd⟩:=I.cell x c e;exact free c o (fun z=>(hch c z).2.2.1 x c e rfl) ho (I.freeC x c e)
 ·obtain⟨e,n,ne,nf,d⟩:=I.pin p hp;have nch:p.1∉ch:=fun z=>(hch p.1 z).2.2.2 p hp rfl;exact⟨keep p.1 p.2 ne nf nch e n,free p.1 p.2 nch e n,ne,nf,d⟩
theorem Inv.un{t':Nat}(I:Inv X pins σ H s)(u:Un X.fs [] H H' s.heap h')(hok:HOk X.prog X.w H' h'):Inv X pins σ H' { s with heap:=h',toks:=t' }:=by
 obtain⟨m,⟨o,es,ep,ho,r⟩,_⟩:=id I.loc;obtain⟨sl,hL⟩:=u.any ho I.free (by simp);exact I.step (g':=s.gens) (d':=s.drawn) (ch:=[]) (fun _ z=>nomatch z) (fun b o _ hb _ e n=>u.keep b o e n hb (by simp)) (fun b o _ hb _ e n=>u.slot b o e n hb (by simp)) (fun b o _ e n=>u.free b o e n (by simp)) (fun b o _ e=>u.there b o e (by simp)) u.tups u.frzs u.tbls (fun m' hm=>by
  obtain⟨o',es',ep',ho',r'⟩:=hm;rw[ho] at ho';cases ho';exact⟨_,es',ep',hL,r'⟩) hok I.bare
theorem Inv.call{g':Array GenState}{t':Nat}{d':Drawn}{ch:List Addr}(I:Inv X pins σ H s)(u:Un (frs X.stack) ch H H' s.heap h')(hok:HOk X.prog X.w H' h')(hg:AllBare g')
  (hch:∀b∈ch,(b∈X.ex∨X.s₀.heap.objs.size≤b)/\b≠X.env.locals/\(∀x c,X.env.cells.lookup x=some c->c≠b)/\∀p∈X.pn++pins,p.1≠b):
  Inv X pins σ H' { s with heap:=h',gens:=g',drawn:=d',toks:=t' }:=by
 obtain⟨m,⟨o,es,ep,ho,r⟩,_⟩:=id I.loc;obtain⟨sl,hL⟩:=u.any ho I.free fun z=>(hch _ z).2.1 rfl;exact I.step (ch:=ch) hch (fun b o hL hb hc e n=>u.keep b o e n (fun z=>(List.mem_cons.mp (I.stkSub b z)).elim hL hb) hc) (fun b o _ _ hc e n=>u.any e n hc) (fun b o hc e n=>u.free b o e n hc) (fun b o hc e=>u.there b o e hc) u.tups u.frzs u.tbls (fun m' hm=>by
  obtain⟨o',es',ep',ho',r'⟩:=hm;rw[ho] at ho';cases ho';exact⟨_,es',ep',hL,r'⟩) hok hg
theorem Inv.turned{t':Nat}{it:Addr}(I:Inv X pins σ H s)(k:∀b o,b≠it->s.heap.get? b=some o->h'.get? b=some o)(hn:H it=none)(hL:it≠X.env.locals)
  (h1:it∈X.ex∨X.s₀.heap.objs.size≤it) (h2:∀x c,X.env.cells.lookup x=some c->c≠it) (h3:∀p∈X.pn++pins,p.1≠it):Inv X pins σ H { s with heap:=h',toks:=t' }:=by
 have nit:∀b u,H b=some u->b≠it:=fun b u e z=>by rw[z,hn] at e;cases e
 refine I.step (g':=s.gens) (d':=s.drawn) (ch:=[it]) (fun b hb=>?_) (fun b o _ _ hc e _=>k b o (fun z=>hc (by simp[z])) e) (fun b o _ _ hc e _=>⟨o.slots,k b o (fun z=>hc (by simp[z])) e⟩) (fun _ _ _ _ n=>n)
  (fun b o hc e=>⟨o,k b o (fun z=>hc (by simp[z])) e⟩) (fun _ _ e=>e) (fun _ _ _ e=>e) (fun b ps e=>⟨#[],by rw[e];simp⟩) (fun m hm=>?_) (fun b u e=>?_) I.bare
 ·have e:b=it:=by simpa using hb
  subst e;exact⟨h1,hL,h2,h3⟩
 ·obtain⟨o,es,ep,ho,r⟩:=hm;exact⟨o,es,ep,k _ o (Ne.symm hL) ho,r⟩
 ·refine (I.hok b u e).stay (fun c v hc q=>k c v ?_ q) (fun _ q=>q) fun _ _ q=>q;rcases hc with z|z
  ·rw[z];exact nit b u e
  ·exact nit c _ z
theorem Inv.tok(I:Inv X pins σ H s)(t:Nat):Inv X pins σ H { s with toks:=t }:=I.un (h':=s.heap) (t':=t) Un.refl I.hok
theorem Inv.kept{t':Nat}(I:Inv X pins σ H s)(k:∀b u,s.heap.get? b=some u->h'.get? b=some u):Inv X pins σ H { s with heap:=h',toks:=t' }:=I.un (Un.kept k) (I.hok.kept k)
theorem Inv.laid{a:Addr}{o:HO}{t':Nat}(I:Inv X pins σ H s)(k:∀b u,s.heap.get? b=some u->h'.get? b=some u)(hp:s.heap.objs.size≤a)(new:ObjOk X.prog X.w (upd H a o) h' a o):
  Inv X pins σ (upd H a o) { s with heap:=h',toks:=t' }:=I.un (Un.laid k hp (I.hok.fresh hp)) (I.hok.laid k hp new)
theorem Inv.write{x e:Addr}{o:HO}{t':Nat}(I:Inv X pins σ H s)(mu:Mut (H x))(he:e=x∨H e=some (.own x))(k:∀b u,b≠e->s.heap.get? b=some u->h'.get? b=some u)(heo:∃u,h'.get? e=some u)
  (new:ObjOk X.prog X.w (upd H x o) h' x o):Inv X pins σ (upd H x o) { s with heap:=h',toks:=t' }:=I.un (Un.write mu he k heo) (I.hok.write mu he k heo new)
theorem Inv.pins_of{pins':List (Addr×Obj)}(I:Inv X pins σ H s)(h:∀p∈pins',s.heap.get? p.1=some p.2/\H p.1=none/\p.1≠X.env.locals/\p.1∉X.fs/\∀v,p.2.data≠.cell v):Inv X pins' σ H s:=
 ⟨I.ok,I.os,I.bare,I.base,I.loc,I.cell,I.free,I.freeC,fun p hp=>(List.mem_append.mp hp).elim (fun z=>I.pin p (List.mem_append_left _ z)) (h p),I.hok,I.len⟩
theorem qifz{N:List Str}(hN:N.Nodup){i j:Nat}{x:Str}(a:N[i]?=some x)(b:N[j]?=some x):i=j:=by
 obtain⟨h1,e1⟩:=List.getElem?_eq_some_iff.mp a;obtain⟨h2,e2⟩:=List.getElem?_eq_some_iff.mp b;exact (List.getElem_inj hN).mp (e1.trans e2.symm)
theorem qigz{M:Model}{A:Around}{E:Value->Shared->Prop}{i:Nat}{x:Str}{v:V}{u:Value}{Q:Unit->Shared->Prop}(I:Inv X pins σ H s)(hN:X.N.Nodup)(hi:X.N[i]?=some x)(hx:Loc X.env.scope x)(r:RelV v u)
  (h:∀s',Inv X pins (σ.set i (some v)) H s'->(∃a,Heap.SameBut a s.heap s'.heap/\(a=X.env.locals∨X.env.cells.lookup x=some a))->Q () s') (hf:X.fn x=true∨X.env.scope.names.lookup x=some .local:=by first|exact .inl rfl|exact .inr rfl|assumption):wpAny M A (storeName X.env x u) Q E s:=by
 obtain⟨m,hn,hl⟩:=id I.loc;have hcls:(X.env.scope.kind==.class||(X.env.scope.kind==.module&&X.env.locals != X.env.globals))=false:=by rw[I.ok.kind];rfl
 have hiσ:i<σ.length:=by rw[I.len];exact (List.getElem?_eq_some_iff.mp hi).1
 have cne:=I.cne;have tracked:∀{a:Addr} {h':Heap},(∃o,s.heap.get? a=some o/\H a=none)->Heap.SameBut a s.heap h'->HOk X.prog X.w H h':=fun {a h'} ha hs b ob e=>by
  obtain⟨_,_,hfree⟩:=ha;refine (I.hok b ob e).stay (fun c w' hc q=>(hs.2 c ?_).trans q) (fun _ q=>q) fun _ _ q=>q;rintro rfl;rcases hc with rfl|hc
  ·rw[hfree] at e;cases e
  ·rw[hfree] at hc;cases hc
 rcases hx with hk|hk
 ·refine wpAny_storeName_local hk hn (fun h' hn' hs=>?_) hcls;obtain⟨oL,_,_,hoL,_⟩:=id hn;refine h _ ⟨I.ok,I.os,I.bare,⟨fun b o e n hb hx=>?_,fun b o e n hb hx=>?_,I.base.free,fun b o e hx=>?_,I.base.tups,I.base.frzs,I.base.tbls⟩,⟨_,hn',fun j y v' e1 e2 e3=>?_⟩,fun y c e=>?_,I.free,I.freeC,fun p hp=>?_,tracked ⟨oL,hoL,I.free⟩ hs,by simpa using I.len⟩ ⟨_,hs,.inl rfl⟩
  ·exact (hs.2 b (Nat.ne_of_lt (Nat.lt_of_lt_of_le (Heap.lt_size e) I.ok.above))).trans (I.base.keep b o e n hb hx)
  ·obtain⟨sl,e1⟩:=I.base.slot b o e n hb hx;exact⟨sl,(hs.2 b (Nat.ne_of_lt (Nat.lt_of_lt_of_le (Heap.lt_size e) I.ok.above))).trans e1⟩
  ·obtain⟨o',e1⟩:=I.base.there b o e hx;exact⟨o',(hs.2 b (Nat.ne_of_lt (Nat.lt_of_lt_of_le (Heap.lt_size e) I.ok.above))).trans e1⟩
  ·by_cases hj:j=i
   ·subst hj;rw[hi] at e1;cases e1;rw[List.getElem?_set_self hiσ] at e2;cases e2;exact⟨u,r,.inl ⟨hk,by simp⟩⟩
   ·rw[List.getElem?_set_ne (Ne.symm hj)] at e2;obtain⟨u',r',q⟩:=hl j y v' e1 e2 e3;refine⟨u',r',?_⟩;rcases q with⟨k,e⟩|⟨k,c,e,z⟩
    ·refine .inl ⟨k,?_⟩;have:y≠x:=fun e=>hj (qifz hN e1 (e▸hi));simp[this,e]
    ·exact .inr ⟨k,c,e,z.sameBut hs (cne y c e)⟩
  ·obtain⟨w',z⟩:=I.cell y c e;exact⟨w',z.sameBut hs (cne y c e)⟩
  ·obtain⟨e,n,ne,nf,d⟩:=I.pin p hp;exact⟨(hs.2 p.1 ne).trans e,n,ne,nf,d⟩
 ·have hfn:X.fn x=true:=by
   rcases hf with z|z
   ·exact z
   ·rw[z] at hk;cases hk
  obtain⟨c,hc⟩:=I.ok.has x (.inl hk);obtain⟨w',z⟩:=I.cell x c hc;refine wpAny_storeName_cell I.ok.kind hk hc z (fun h' hc' hs=>?_);obtain⟨oc,hoc,hocd⟩:=id z;refine h { s with heap:=h' } ⟨I.ok,I.os,I.bare,⟨fun b o e n hb hx=>?_,fun b o e n hb hx=>?_,I.base.free,fun b o e hx=>?_,I.base.tups,I.base.frzs,I.base.tbls⟩,⟨m,hn.sameBut hs (Ne.symm (cne x c hc)),fun j y v' e1 e2 e3=>?_⟩,fun y c' e=>?_,I.free,I.freeC,fun p hp=>?_,tracked ⟨oc,hoc,I.freeC x c hc⟩ hs,by simpa using I.len⟩ ⟨c,hs,.inr hc⟩
  ·exact (hs.2 b (Nat.ne_of_lt (Nat.lt_of_lt_of_le (Heap.lt_size e) (I.ok.cab x c hfn hc)))).trans (I.base.keep b o e n hb hx)
  ·obtain⟨sl,e1⟩:=I.base.slot b o e n hb hx;exact⟨sl,(hs.2 b (Nat.ne_of_lt (Nat.lt_of_lt_of_le (Heap.lt_size e) (I.ok.cab x c hfn hc)))).trans e1⟩
  ·obtain⟨o',e1⟩:=I.base.there b o e hx;exact⟨o',(hs.2 b (Nat.ne_of_lt (Nat.lt_of_lt_of_le (Heap.lt_size e) (I.ok.cab x c hfn hc)))).trans e1⟩
  ·by_cases hj:j=i
   ·subst hj;rw[hi] at e1;cases e1;rw[List.getElem?_set_self hiσ] at e2;cases e2;exact⟨u,r,.inr ⟨.inl hk,c,hc,hc'⟩⟩
   ·rw[List.getElem?_set_ne (Ne.symm hj)] at e2;obtain⟨u',r',q⟩:=hl j y v' e1 e2 e3;refine⟨u',r',?_⟩;rcases q with q|⟨k,c',e,z'⟩
    ·exact .inl q
    ·refine .inr ⟨k,c',e,z'.sameBut hs ?_⟩;rintro rfl;exact hj (qifz hN e1 (I.ok.inj _ _ _ e hc▸hi))
  ·by_cases hcc:c'=c
   ·subst hcc;exact⟨_,hc'⟩
   ·obtain⟨w2,z2⟩:=I.cell y c' e;exact⟨w2,z2.sameBut hs hcc⟩
  ·obtain⟨e,n,ne,nf,d⟩:=I.pin p hp;refine⟨(hs.2 p.1 ?_).trans e,n,ne,nf,d⟩;intro q;rw[q,hoc] at e;have q':oc=p.2:=Option.some.inj e;exact d w' (by rw[←q'];exact hocd)
theorem qftz{M:Model}{A:Around}{E:Value->Shared->Prop}{i:Nat}{x:Str}{v:V}{u:Value}{Q:Unit->Shared->Prop}(I:Inv X pins σ H s)(hN:X.N.Nodup)(hi:X.N[i]?=some x)(hx:Loc X.env.scope x)(r:RelV v u)
  (h:∀s',Inv X pins (σ.set i (some v)) H s'->Q () s') (hf:X.fn x=true∨X.env.scope.names.lookup x=some .local:=by first|exact .inl rfl|exact .inr rfl|assumption):wpAny M A (storeName X.env x u) Q E s:=
 qigz I hN hi hx r (fun s' I' _=>h s' I') hf
theorem Inv.call'{s':Shared}{ch:List Addr}(I:Inv X pins σ H s)(ho:s'.os=s.os)(u:Un (frs X.stack) ch H H' s.heap s'.heap)(hok:HOk X.prog X.w H' s'.heap)(hg:AllBare s'.gens)
  (hch:∀b∈ch,(b∈X.ex∨X.s₀.heap.objs.size≤b)/\b≠X.env.locals/\(∀x c,X.env.cells.lookup x=some c->c≠b)/\∀p∈X.pn++pins,p.1≠b):Inv X pins σ H' s':=by
 obtain⟨h',g',d',t',o'⟩:=s';have e:o'=s.os:=ho;subst e;exact I.call (g':=g') (t':=t') (d':=d') u hok hg hch
end
abbrev XK:=Value->Option Addr->Hp->Prop
abbrev St:=List (Option V)
abbrev VK:=V->Hp->Prop
abbrev TE:=St->Hp->VK->Prop
abbrev TT:=St->Hp->(Bool->Hp->Prop)->Prop
abbrev TA:=St->Hp->(List V->Hp->Prop)->Prop
structure Ends where
 nx:St->Hp->Prop
 rt:VK
 bk:St->Hp->Prop:=fun _ _=>False
 ct:St->Hp->Prop:=fun _ _=>False
abbrev TS:=Ends->St->Hp->Prop
def EP(X:Cx)(pins:List (Addr×Obj))(σ:St)(Q:VK)(u:Value)(s':Shared):Prop:=∃v H',Inv X pins σ H' s'/\RelV v u/\Q v H'
def TP(X:Cx)(pins:List (Addr×Obj))(σ:St)(Q:Bool->Hp->Prop)(b:Bool)(s':Shared):Prop:=∃H',Inv X pins σ H' s'/\Q b H'
def AP(X:Cx)(pins:List (Addr×Obj))(σ:St)(Q:List V->Hp->Prop)(us:List Value)(s':Shared):Prop:=∃vs H',Inv X pins σ H' s'/\Vals vs us/\Q vs H'
def SP(X:Cx)(pins:List (Addr×Obj))(D:Ends)(f:Flow)(s':Shared):Prop:=
 match f with
 |.next=>∃σ' H',Inv X pins σ' H' s'/\D.nx σ' H'
 |.brk=>∃σ' H',Inv X pins σ' H' s'/\D.bk σ' H'
 |.cont=>∃σ' H',Inv X pins σ' H' s'/\D.ct σ' H'
 |.ret u=>∃v σ' H',Inv X pins σ' H' s'/\RelV v u/\D.rt v H'
def PE(X:Cx)(e:Expr)(t:TE):Prop:=
 ∀(pins:List (Addr×Obj)) (s:Shared) (σ:St) (H:Hp) (Q:VK),Inv X pins σ H s->t σ H Q->wpAny (model X.prog X.w) X.A (eval e X.env) (EP X pins σ Q) X.xe s
def PT(X:Cx)(e:Expr)(t:TT):Prop:=
 ∀(pins:List (Addr×Obj)) (s:Shared) (σ:St) (H:Hp) (Q:Bool->Hp->Prop),Inv X pins σ H s->t σ H Q->wpAny (model X.prog X.w) X.A (isTrue e X.env (eval e X.env)) (TP X pins σ Q) X.xe s
def PW(X:Cx)(e:Expr)(t:TT):Prop:=
 ∀(whole:Sem Value) (pins:List (Addr×Obj)) (s:Shared) (σ:St) (H:Hp) (Q:Bool->Hp->Prop),Inv X pins σ H s->t σ H Q->wpAny (model X.prog X.w) X.A (isTrue e X.env whole) (TP X pins σ Q) X.xe s
theorem PW.pt{X:Cx}{e:Expr}{t:TT}(h:PW X e t):PT X e t:=h _
def PA(X:Cx)(es:List Expr)(t:TA):Prop:=
 ∀(pos:Pos) (pins:List (Addr×Obj)) (s:Shared) (σ:St) (H:Hp) (Q:List V->Hp->Prop),Inv X pins σ H s->t σ H Q->wpAny (model X.prog X.w) X.A (spliced (backTo pos (starEach es X.env))) (AP X pins σ Q) X.xe s
def PS(X:Cx)(st:Stmt)(t:TS):Prop:=
 ∀(pins:List (Addr×Obj)) (s:Shared) (σ:St) (H:Hp) (D:Ends),Inv X pins σ H s->t D σ H->wpAny (model X.prog X.w) X.A (exec st X.env) (SP X pins D) X.xe s
def PSs(X:Cx)(st:List Stmt)(t:TS):Prop:=
 ∀(pins:List (Addr×Obj)) (s:Shared) (σ:St) (H:Hp) (D:Ends),Inv X pins σ H s->t D σ H->wpAny (model X.prog X.w) X.A (execs st X.env) (SP X pins D) X.xe s
theorem thn{α:Type}{t:Sem α}{Q Q':α->Shared->Prop}{M:Model}{A:Around}{E:Value->Shared->Prop}{s:Shared}(h:wpAny M A t Q E s)(hQ:∀a s,Q a s->Q' a s):wpAny M A t Q' E s:=wpAny_mono h hQ fun _ _ x=>x
end L2
namespace L2
open PySem PySem.Spec PyProof.Rows
section
variable {X:Cx}
theorem bin{a b:Expr}{ta tb:TE}(ha:PE X a ta)(hb:PE X b tb){pins:List (Addr×Obj)}{s:Shared}{σ:St}{H:Hp}{R:V->V->Hp->Prop}(I:Inv X pins σ H s)(h:ta σ H fun x H1=>tb σ H1 fun y H2=>R x y H2)
  {α:Type} {Q:α->Shared->Prop} {f:Value->Value->Sem α}
  (hf:∀v u s2 x y H2,Inv X pins σ H2 s2->RelV x v->RelV y u->R x y H2->wpAny (model X.prog X.w) X.A (f v u) Q X.xe s2):
  wpAny (model X.prog X.w) X.A (eval a X.env) (fun v s₁=>wpAny (model X.prog X.w) X.A (eval b X.env) (fun u s₂=>wpAny (model X.prog X.w) X.A (f v u) Q X.xe s₂) X.xe s₁) X.xe s:=by
 refine thn (ha pins s σ H _ I h) fun v s1 ⟨x,H1,I1,r1,q1⟩=>?_;refine thn (hb pins s1 σ H1 _ I1 q1) fun u s2 ⟨y,H2,I2,r2,q2⟩=>?_;exact hf v u s2 x y H2 I2 r1 r2 q2
def tVar(i:Nat):TE:=fun σ H Q=>∃v,σ[i]?=some (some v)/\Q v H
def tC(v:V):TE:=fun _ H Q=>Q v H
theorem qolz{i:Nat}{x:Str}{pos:Pos}(hN:X.N[i]?=some x)(hv:Vis X.env.scope x)(hd:(x==("__debug__":Str))=false:=by decide)(hcd:(x==("__classdict__":Str))=false:=by decide):PE X (.Name x pos) (tVar i):=by
 intro pins s σ H Q I h;obtain⟨v,e,h⟩:=h;obtain⟨m,hn,hl⟩:=I.loc;obtain⟨u,r,l⟩:=hl i x v hN e hv;have fin:EP X pins σ Q u s:=⟨v,H,I,r,h⟩;rcases l with⟨hk,hm⟩|⟨hk,c,hc,hcell⟩
 ·exact wpAny_Name (wpAny_loadName_local I.ok.kind hk hn hm fin) hd
 ·rcases hk with hk|hk
  ·exact wpAny_Name (wpAny_loadName_cell I.ok.kind hk hc hcell fin) hd
  ·exact wpAny_Name (wpAny_loadName_free I.ok.kind hk hc hcell fin hcd) hd
theorem qomz{i j pos}:PE X (.Constant (.int i) j pos) (tC (.int i)):=fun _ _ _ H _ I h=>wpAny_Constant_int ⟨.int i,H,I.tok _,⟨_,rfl⟩,h⟩
theorem qonz{b j pos}:PE X (.Constant (.bool b) j pos) (tC (.bl b)):=fun _ _ _ H _ I h=>Constant_bool ⟨.bl b,H,I,rfl,h⟩
theorem qihz{j pos}:PE X (.Constant .none j pos) (tC .non):=fun _ _ _ H _ I h=>Constant_none ⟨.non,H,I,rfl,h⟩
def Gl(X:Cx)(x:Str):Prop:=X.env.kindOf x=some .globalImplicit
theorem qiiz{E:Value->Shared->Prop}{pins:List (Addr×Obj)}{s:Shared}{σ:St}{H:Hp}{x:Str}{u:Value}{pos:Pos}{Q:Value->Shared->Prop}(I:Inv X pins σ H s)(hg:Gl X x)(hm:X.mg x=some u)(h:Q u s)
  (hd:(x==("__debug__":Str))=false:=by decide):wpAny (model X.prog X.w) X.A (eval (.Name x pos) X.env) Q E s:=
 Calls.Name_function_global I.ok.kind hg (Calls.loadGlobal_global (by rw[I.ok.glob];exact I.mod.glob.keeps I.bk) hm h) hd
theorem qatz{E:Value->Shared->Prop}{pins:List (Addr×Obj)}{s:Shared}{σ:St}{H:Hp}{x:Str}{u:Value}{pos:Pos}{Q:Value->Shared->Prop}(I:Inv X pins σ H s)(hg:Gl X x)(hm:X.mg x=none)(hv:bootBuiltins x=some u)(h:Q u s)
  (hn:x≠"__name__":=by decide) (hd:(x==("__debug__":Str))=false:=by decide):wpAny (model X.prog X.w) X.A (eval (.Name x pos) X.env) Q E s:=by
 obtain⟨mb,h1,h2⟩:=I.mod.blt;exact Calls.Name_function_global I.ok.kind hg (Calls.loadGlobal_builtin (by rw[I.ok.glob];exact I.mod.glob.keeps I.bk) hm (by rw[I.ok.blt];exact h1.keeps I.bk) ((h2 x hn).trans hv) h) hd
theorem qooz{x:Str}{v:V}{u:Value}{pos:Pos}(hg:Gl X x)(hm:X.mg x=some u)(r:RelV v u)(hd:(x==("__debug__":Str))=false:=by decide):PE X (.Name x pos) (tC v):=
 fun _ _ _ H _ I h=>qiiz I hg hm ⟨v,H,I,r,h⟩ hd
theorem qopz{x:Str}{v:V}{u:Value}{pos:Pos}(hg:Gl X x)(hm:X.mg x=none)(hv:bootBuiltins x=some u)(r:RelV v u)(hn:x≠"__name__":=by decide)(hd:(x==("__debug__":Str))=false:=by decide):PE X (.Name x pos) (tC v):=
 fun _ _ _ H _ I h=>qatz I hg hm hv ⟨v,H,I,r,h⟩ hn hd
variable {a b:Expr} {ta tb:TE} {pos:Pos}
variable {tA tB':TT} {rest:List Expr}
def tAnd(t u:TT):TT:=fun σ H Q=>t σ H fun c H1=>if c=true then u σ H1 Q else Q false H1
def tOr(t u:TT):TT:=fun σ H Q=>t σ H fun c H1=>if c=true then Q true H1 else u σ H1 Q
def tNot(t:TT):TT:=fun σ H Q=>t σ H fun c H1=>Q (!c) H1
theorem pw_and1(ha:PT X a tA):PW X (.BoolOp .And [a] pos) tA:=by
 intro wh pins s σ H Q I h;refine isTrue_and (thn (ha pins s σ H Q I h) fun c s1 e=>?_);cases c with
 |true=>exact isTrue_and_nil e
 |false=>exact e
theorem pw_or1(ha:PT X a tA):PW X (.BoolOp .Or [a] pos) tA:=by
 intro wh pins s σ H Q I h;refine isTrue_or (thn (ha pins s σ H Q I h) fun c s1 e=>?_);cases c with
 |false=>exact isTrue_or_nil e
 |true=>exact e
theorem pw_and(ha:PT X a tA)(hb:PW X (.BoolOp .And (b::rest) pos) tB'):PW X (.BoolOp .And (a::b::rest) pos) (tAnd tA tB'):=by
 intro wh pins s σ H Q I h;refine isTrue_and (thn (ha pins s σ H _ I h) fun c s1 ⟨H1,I1,q1⟩=>?_);cases c with
 |true=>exact hb wh pins s1 σ H1 Q I1 q1
 |false=>exact⟨H1,I1,q1⟩
theorem pw_or(ha:PT X a tA)(hb:PW X (.BoolOp .Or (b::rest) pos) tB'):PW X (.BoolOp .Or (a::b::rest) pos) (tOr tA tB'):=by
 intro wh pins s σ H Q I h;refine isTrue_or (thn (ha pins s σ H _ I h) fun c s1 ⟨H1,I1,q1⟩=>?_);cases c with
 |true=>exact⟨H1,I1,q1⟩
 |false=>exact hb wh pins s1 σ H1 Q I1 q1
theorem qoqz(ha:PT X a tA):PT X (.UnaryOp .Not a pos) (tNot tA):=by
 intro pins s σ H Q I h;exact isTrue_not (ha pins s σ H (fun c H1=>Q (!c) H1) I h)
def tAndV(ta tb:TE):TE:=fun σ H Q=>ta σ H fun x H1=>∃c,x=.bl c/\if c=true then tb σ H1 Q else Q (.bl false) H1
def tOrV(ta tb:TE):TE:=fun σ H Q=>ta σ H fun x H1=>∃c,x=.bl c/\if c=true then Q (.bl true) H1 else tb σ H1 Q
def tNotV(ta:TE):TE:=fun σ H Q=>ta σ H fun x H1=>∃c,x=.bl c/\Q (.bl (!c)) H1
theorem qorz{op}{t:TE}(h:PE X a t):PE X (.BoolOp op [a] pos) t:=fun pins s σ H Q I hw=>BoolOp_one (h pins s σ H Q I hw)
theorem qosz(ha:PE X a ta)(hb:PE X (.BoolOp .And (b::rest) pos) tb):PE X (.BoolOp .And (a::b::rest) pos) (tAndV ta tb):=by
 intro pins s σ H Q I h;refine BoolOp_and (thn (ha pins s σ H _ I h) fun v s1 ⟨x,H1,I1,r1,q1⟩=>?_);obtain⟨c,rfl,q1⟩:=q1;cases r1;refine wpAny_truthy_bool ?_;cases c with
 |true=>exact hb pins s1 σ H1 Q I1 q1
 |false=>exact⟨.bl false,H1,I1,rfl,q1⟩
theorem qotz(ha:PE X a ta)(hb:PE X (.BoolOp .Or (b::rest) pos) tb):PE X (.BoolOp .Or (a::b::rest) pos) (tOrV ta tb):=by
 intro pins s σ H Q I h;refine BoolOp_or (thn (ha pins s σ H _ I h) fun v s1 ⟨x,H1,I1,r1,q1⟩=>?_);obtain⟨c,rfl,q1⟩:=q1;cases r1;refine wpAny_truthy_bool ?_;cases c with
 |false=>exact hb pins s1 σ H1 Q I1 q1
 |true=>exact⟨.bl true,H1,I1,rfl,q1⟩
theorem qouz(ha:PE X a ta):PE X (.UnaryOp .Not a pos) (tNotV ta):=by
 intro pins s σ H Q I h;refine UnaryOp_ (thn (ha pins s σ H _ I h) fun v s1 ⟨x,H1,I1,r1,q1⟩=>?_);obtain⟨c,rfl,q1⟩:=q1;cases r1;exact not_of (wpAny_truthy_bool ⟨.bl (!c),H1,I1,rfl,q1⟩)
end
end L2
namespace L2
open PySem PySem.Spec PyProof.Rows
def SqL(K:PySem.W.Frag)(H:Hp)(a:Addr)(xs:List V):Prop:=
 Rd H a (.lst xs) ∨
  ∃(o:Obj) (its:Array Value) (n:Nat),K.lookup a=some o/\o.cls=.type "list"/\o.dict=none/\o.data=.seq its n/\its.size≤sizeLine/\Vals xs its.toList
def SqT(K:PySem.W.Frag)(H:Hp)(a:Addr)(xs:List V):Prop:=
 Rd H a (.tup xs) ∨
  ∃(o:Obj) (its:Array Value) (n:Nat),K.lookup a=some o/\o.cls=.type "tuple"/\o.dict=none/\o.data=.seq its n/\its.size≤sizeLine/\Vals xs its.toList
def absV:Value->Option V
 |.none=>some .non
 |.bool b=>some (.bl b)
 |.int i _=>some (.int i)
 |.str x _=>some (.str x)
 |.bytes b _=>some (.byt b)
 |.float b _=>some (.flt b)
 |.ref a=>some (.ref a)
 |.type n=>some (.ty n)
 |_=>none
theorem RelV.abs{x:V}{u:Value}(r:RelV x u):absV u=some x:=by
 cases x with
 |non=>cases r;rfl
 |bl _=>cases r;rfl
 |int _=>obtain⟨t,rfl⟩:=r;rfl
 |str _=>obtain⟨t,rfl⟩:=r;rfl
 |byt _=>obtain⟨t,rfl⟩:=r;rfl
 |flt _=>obtain⟨t,rfl⟩:=r;rfl
 |ref _=>cases r;rfl
 |ty _=>cases r;rfl
theorem RelV.inj{x y:V}{u:Value}(r:RelV x u)(q:RelV y u):x=y:=Option.some.inj (r.abs.symm.trans q.abs)
theorem Vals.inj:∀{xs ys:List V} {us:List Value},Vals xs us->Vals ys us->xs=ys
 |_,_,_,.nil,.nil=>rfl
 |_,_,_,.cons r t,.cons r' t'=>by rw[r.inj r',Vals.inj t t']
section
variable {X:Cx} {pins:List (Addr×Obj)} {σ:St} {H:Hp} {s:Shared} {a:Addr} {xs ys:List V}
theorem SqL.of{K:PySem.W.Frag}(h:H a=some (.lst xs)):SqL K H a xs:=.inl (.inl h)
theorem SqT.of{K:PySem.W.Frag}(h:H a=some (.tup xs)):SqT K H a xs:=.inl (.inl h)
theorem Inv.list(I:Inv X pins σ H s)(h:SqL X.K H a xs):∃its:List Value,Vals xs its/\PlainL s.heap a its.toArray/\xs.length≤sizeLine:=by
 rcases h with h|⟨o,its,n,hk,hc,hd,hs,hz,r⟩
 ·obtain⟨z,its,n,r,e⟩:=h.ok I.hok;exact⟨its,r,⟨_,n,e,rfl,rfl,rfl⟩,z⟩
 ·refine⟨its.toList,r,⟨o,n,I.kIn a o hk,hc,hd,by simpa using hs⟩,?_⟩;have e:=r.length;simp only[Array.length_toList] at e;omega
theorem Inv.tuple(I:Inv X pins σ H s)(h:SqT X.K H a xs):∃its:List Value,Vals xs its/\IsTup s.heap a its.toArray/\xs.length≤sizeLine:=by
 rcases h with h|⟨o,its,n,hk,hc,_,hs,hz,r⟩
 ·obtain⟨z,its,r,p⟩:=h.ok I.hok;exact⟨its,r,p.tup,z⟩
 ·refine⟨its.toList,r,⟨o,I.kIn a o hk,hc,n,by simpa using hs⟩,?_⟩;have e:=r.length;simp only[Array.length_toList] at e;omega
theorem Inv.list_inj(I:Inv X pins σ H s)(h:SqL X.K H a xs)(h':SqL X.K H a ys):xs=ys:=by
 obtain⟨its,r,⟨o,n,e,_,_,d⟩,_⟩:=I.list h;obtain⟨its',r',⟨o',n',e',_,_,d'⟩,_⟩:=I.list h';rw[e] at e';cases e';rw[d] at d';injection d' with d1 _
 have:its=its':=by simpa using congrArg Array.toList d1
 subst this;exact r.inj r'
theorem Inv.tuple_inj(I:Inv X pins σ H s)(h:SqT X.K H a xs)(h':SqT X.K H a ys):xs=ys:=by
 obtain⟨its,r,⟨o,e,_,n,d⟩,_⟩:=I.tuple h;obtain⟨its',r',⟨o',e',_,n',d'⟩,_⟩:=I.tuple h';rw[e] at e';cases e';rw[d] at d';injection d' with d1 _
 have:its=its':=by simpa using congrArg Array.toList d1
 subst this;exact r.inj r'
end
abbrev Cx.wish(X:Cx)(E:Value->Shared->Prop):Cx:={ X with xe:=E }
abbrev Cx.nox(X:Cx):Cx:=X.wish fun _ _=>False
theorem Cx.Ok.wish{X:Cx}(ok:X.Ok)(E:Value->Shared->Prop):(X.wish E).Ok:=
 ⟨ok.mod,ok.kind,ok.glob,ok.blt,ok.above,ok.inj,ok.has,ok.cab,ok.hd,ok.frames,ok.stk,ok.exf,ok.bs,ok.bsz,ok.noex,ok.exfs,ok.funs,ok.frf⟩
theorem Cx.Ok.unwish{X:Cx}{E:Value->Shared->Prop}(ok:(X.wish E).Ok):X.Ok:=
 ⟨ok.mod,ok.kind,ok.glob,ok.blt,ok.above,ok.inj,ok.has,ok.cab,ok.hd,ok.frames,ok.stk,ok.exf,ok.bs,ok.bsz,ok.noex,ok.exfs,ok.funs,ok.frf⟩
section
variable {X:Cx} {pins:List (Addr×Obj)} {σ:St} {H:Hp} {s:Shared} {E:Value->Shared->Prop}
theorem Inv.wish(I:Inv X pins σ H s)(E:Value->Shared->Prop):Inv (X.wish E) pins σ H s:=⟨I.ok.wish E,I.os,I.bare,I.base,I.loc,I.cell,I.free,I.freeC,I.pin,I.hok,I.len⟩
theorem Inv.unwish(I:Inv (X.wish E) pins σ H s):Inv X pins σ H s:=⟨I.ok.unwish,I.os,I.bare,I.base,I.loc,I.cell,I.free,I.freeC,I.pin,I.hok,I.len⟩
theorem SP.unwish{D:Ends}{f:Flow}{s':Shared}(h:SP (X.wish E) pins D f s'):SP X pins D f s':=by
 cases f with
 |next=>obtain⟨σ',H',I,q⟩:=h;exact⟨σ',H',I.unwish,q⟩
 |brk=>obtain⟨σ',H',I,q⟩:=h;exact⟨σ',H',I.unwish,q⟩
 |cont=>obtain⟨σ',H',I,q⟩:=h;exact⟨σ',H',I.unwish,q⟩
 |ret u=>obtain⟨v,σ',H',I,r,q⟩:=h;exact⟨v,σ',H',I.unwish,r,q⟩
theorem PSs.nox{st:List Stmt}{t:TS}(h:PSs X.nox st t):PSs X st t:=fun pins s σ H D I hw=>
 wpAny_mono (h pins s σ H D (I.wish _) hw) (fun _ _ q=>q.unwish) fun _ _ z=>False.elim z
end
section
variable {X:Cx} {st:Stmt} {rest:List Stmt} {t u:TS} {e:Expr} {te:TE} {pos:Pos}
def tNext:TS:=fun D σ H=>D.nx σ H
def tSeq(t u:TS):TS:=fun D σ H=>t { D with nx:=u D } σ H
theorem qovz:PSs X [] tNext:=fun _ _ σ H _ I h=>wpAny_execs_nil ⟨σ,H,I,h⟩
theorem qowz(h1:PS X st t)(h2:PSs X rest u):PSs X (st::rest) (tSeq t u):=by
 intro pins s σ H D I h;refine wpAny_execs_cons (thn (h1 pins s σ H { D with nx:=u D } I h) fun f s1 q=>?_);cases f with
 |next=>
  obtain⟨σ',H',I',q⟩:=q;exact h2 pins s1 σ' H' D I' q
 |ret v=>exact q
 |brk=>exact q
 |cont=>exact q
theorem qoxz(h1:PS X st t):PSs X [st] t:=by
 intro pins s σ H D I h;refine wpAny_execs_cons (thn (h1 pins s σ H D I h) fun f s1 q=>?_);cases f with
 |next=>exact wpAny_execs_nil q
 |ret v=>exact q
 |brk=>exact q
 |cont=>exact q
theorem Inv.quiet{pins:List (Addr×Obj)}{σ:St}{H:Hp}{s:Shared}(I:Inv X pins σ H s):interactive X.env=false:=by simp[interactive,I.ok.kind]
def tDrop(te:TE):TS:=fun D σ H=>te σ H fun _ H1=>D.nx σ H1
theorem qoyz(he:PE X e te)(hs:swapsWith e none pos.line X.env=pure false:=by rfl):PS X (.Expr e pos) (tDrop te):=by
 intro pins s σ H D I h;exact wpAny_Expr_any (thn (he pins s σ H _ I h) fun v s1 ⟨x,H1,I1,r1,q1⟩=>⟨σ,H1,I1,q1⟩) I.quiet hs
def tRet(te:TE):TS:=fun D σ H=>te σ H D.rt
theorem qozz(he:PE X e te):PS X (.Return (some e) pos) (tRet te):=by
 intro pins s σ H D I h;exact wpAny_Return_some (thn (he pins s σ H _ I h) fun v s1 ⟨x,H1,I1,r1,q1⟩=>⟨x,σ,H1,I1,r1,q1⟩)
def tIfS(c:TT)(t u:TS):TS:=fun D σ H=>c σ H fun b H1=>if b=true then t D σ H1 else u D σ H1
theorem qo0z{c:Expr}{a b:List Stmt}{tc:TT}(hc:PT X c tc)(ha:PSs X a t)(hb:PSs X b u):PS X (.If c a b pos) (tIfS tc t u):=by
 intro pins s σ H D I h;refine wpAny_If (thn (hc pins s σ H _ I h) fun d s1 ⟨H1,I1,q1⟩=>?_);cases d with
 |true=>exact ha pins s1 σ H1 D I1 q1
 |false=>exact hb pins s1 σ H1 D I1 q1
def tNever:TS:=fun _ _ _=>False
theorem qo1z:PS X st tNever:=fun _ _ _ _ _ _ h=>h.elim
end
abbrev TG:=V->St->Hp->(St->Hp->Prop)->Prop
abbrev TGs:=List V->St->Hp->(St->Hp->Prop)->Prop
def PG(X:Cx)(target:Expr)(t:TG):Prop:=
 ∀(pins:List (Addr×Obj)) (s:Shared) (σ:St) (H:Hp) (v:V) (u:Value) (Q:St->Hp->Prop),Inv X pins σ H s->RelV v u->t v σ H Q ->
  wpAny (model X.prog X.w) X.A (assign target X.env u) (fun _ s'=>∃σ' H',Inv X pins σ' H' s'/\Q σ' H') X.xe s
def PGs(X:Cx)(ts:List Expr)(t:TGs):Prop:=
 ∀(pins:List (Addr×Obj)) (s:Shared) (σ:St) (H:Hp) (vs:List V) (us:List Value) (Q:St->Hp->Prop),Inv X pins σ H s->Vals vs us->t vs σ H Q ->
  wpAny (model X.prog X.w) X.A (assignInOrder ((assignEach ts X.env).map (·.2)) us) (fun _ s'=>∃σ' H',Inv X pins σ' H' s'/\Q σ' H') X.xe s
abbrev TSet:=V->V->V->Hp->(Hp->Prop)->Prop
def PSet(X:Cx)(t:TSet):Prop:=
 ∀(pins:List (Addr×Obj)) (s:Shared) (σ:St) (H:Hp) (o i v:V) (ov iv u:Value) (Q:Hp->Prop),Inv X pins σ H s->RelV o ov->RelV i iv->RelV v u->t o i v H Q ->
  wpAny (model X.prog X.w) X.A (setItem ov iv u) (fun _ s'=>∃H',Inv X pins σ H' s'/\Q H') X.xe s
abbrev TIp:=V->V->Hp->VK->Prop
def PIp(X:Cx)(op:Operator)(t:TIp):Prop:=
 ∀(pins:List (Addr×Obj)) (s:Shared) (σ:St) (H:Hp) (x y:V) (v u:Value) (Q:VK),Inv X pins σ H s->RelV x v->RelV y u->t x y H Q ->
  wpAny (model X.prog X.w) X.A (inplaceOp op v u) (EP X pins σ Q) X.xe s
section
variable {X:Cx} {pos:Pos}
def gName(i:Nat):TG:=fun v σ H Q=>Q (σ.set i (some v)) H
theorem qo2z{i:Nat}{x:Str}(hN:X.N.Nodup)(hi:X.N[i]?=some x)(hx:Loc X.env.scope x)(hf:X.fn x=true∨X.env.scope.names.lookup x=some .local:=by first|exact .inl rfl|exact .inr rfl|assumption):PG X (.Name x pos) (gName i):=by
 intro pins s σ H v u Q I r h;exact wpAny_assign_Name (qftz I hN hi hx r (fun s' I'=>⟨_,H,I',h⟩) hf)
def gNil:TGs:=fun vs σ H Q=>vs=[]/\Q σ H
def gCons(t:TG)(u:TGs):TGs:=fun vs σ H Q=>∃v r,vs=v::r/\t v σ H fun σ' H'=>u r σ' H' Q
theorem qo3z:PGs X [] gNil:=by
 intro pins s σ H vs us Q I r h;obtain⟨e,h⟩:=h;subst e;cases r;exact assignInOrder_nil ⟨σ,H,I,h⟩
theorem qo4z{e:Expr}{es:List Expr}{t:TG}{u:TGs}(h1:PG X e t)(h2:PGs X es u)
  (hs:(assignEach (e::es) X.env).map (·.2)=assign e X.env::(assignEach es X.env).map (·.2):=by rfl):PGs X (e::es) (gCons t u):=by
 intro pins s σ H vs us Q I r h;obtain⟨v,vr,e1,h⟩:=h;subst e1;cases r with
 |cons r rr=>
  rw[hs];refine assignInOrder_cons (thn (h1 pins s σ H _ _ _ I r h) fun _ s1 ⟨σ1,H1,I1,q1⟩=>?_);exact h2 pins s1 σ1 H1 _ _ Q I1 rr q1
def gTup(K:PySem.W.Frag)(n:Nat)(t:TGs):TG:=fun v σ H Q=>∃a xs,v=.ref a/\SqT K H a xs/\xs.length=n/\t xs σ H Q
theorem qo5z{es:List Expr}{k:Nat}{t:TGs}{n:Nat}(hc:X.calm=true)(h:PGs X es t)
  (hn:(assignEach es X.env).length=n:=by rfl) (hst:(assignEach es X.env).findIdx? (·.1)=none:=by rfl):PG X (.Tuple es k pos) (gTup X.K n t):=by
 intro pins s σ H v u Q I r hw;obtain⟨a,xs,e1,hq,hl,hw⟩:=hw;subst e1;cases r;obtain⟨its,rv,ht,hz⟩:=I.tuple hq;refine assign_Tuple_tuple (I.ok.hd hc) ht (by simp[hn,←hl,rv.length]) hst fun h' hx=>?_;have I1:Inv X pins σ H { s with heap:=h' }:=I.kept (t':=s.toks) fun b o e=>hx b o (Nat.ne_of_lt (Heap.lt_size e)) e
 exact h pins _ σ H xs _ Q I1 (by simpa using rv) hw
def gSub(to ti:TE)(t:TSet):TG:=fun v σ H Q=>to σ H fun o H1=>ti σ H1 fun i H2=>t o i v H2 fun H3=>Q σ H3
theorem qo6z{o i:Expr}{to ti:TE}{t:TSet}(ho:PE X o to)(hi:PE X i ti)(hs:PSet X t)
  (ha:∀v,assign (.Subscript o i pos) X.env v=(do
   let ov ←holding [v] (eval o X.env)
   let iv ←holding [v,ov] (eval i X.env)
   standAt pos
   holding [v,ov,iv] (setItem ov iv v)
   release [v,ov,iv] []):=by intro _;rfl):PG X (.Subscript o i pos) (gSub to ti t):=by
 intro pins s σ H v u Q I r h
 rw[ha]
 refine wpAny_bind (wpAny_holding (thn (ho pins s σ H _ I h) fun ov s1 ⟨x,H1,I1,r1,q1⟩=>?_))
 refine wpAny_bind (wpAny_holding (thn (hi pins s1 σ H1 _ I1 q1) fun iv s2 ⟨y,H2,I2,r2,q2⟩=>?_))
 refine wpAny_bind (wpAny_standAt (wpAny_bind (wpAny_holding (thn (hs pins s2 σ H2 x y v ov iv u _ I2 r1 r2 r q2) fun _ s3 ⟨H3,I3,q3⟩=>?_))))
 exact wpAny_release ⟨σ,H3,I3,q3⟩
def tAsg(te:TE)(g:TG):TS:=fun D σ H=>te σ H fun x H1=>g x σ H1 D.nx
theorem qo7z{tg e:Expr}{te:TE}{g:TG}(he:PE X e te)(hg:PG X tg g)(hs:swapsWithSole [tg] e pos.line X.env=pure false:=by rfl)(hw:swappedStores [tg] e X.env=pure none:=by rfl)
  (h1:(assignEach [tg] X.env).map (·.2)=[assign tg X.env]:=by rfl):PS X (.Assign [tg] e pos) (tAsg te g):=by
 intro pins s σ H D I h;refine wpAny_Assign_stores (thn (he pins s σ H _ I h) fun v s1 ⟨x,H1,I1,r1,q1⟩=>?_) hs hw;rw[h1];exact thn (hg pins s1 σ H1 x v _ I1 r1 q1) fun _ s2 q=>q
theorem qo8z{i:Nat}{x:Str}{e:Expr}{te:TE}{pos':Pos}(hN:X.N.Nodup)(hi:X.N[i]?=some x)(hx:Loc X.env.scope x)(he:PE X e te)(hs:swapsWith e (some (.Name x pos')) pos.line X.env=pure false:=by rfl)(hf:X.fn x=true∨X.env.scope.names.lookup x=some .local:=by first|exact .inl rfl|exact .inr rfl|assumption):
  PS X (.Assign [.Name x pos'] e pos) (tAsg te (gName i)):=by
 intro pins s σ H D I h;refine wpAny_Assign_Name (thn (he pins s σ H _ I h) fun v s1 ⟨y,H1,I1,r1,q1⟩=>?_) hs;exact qftz I1 hN hi hx r1 (fun s2 I2=>⟨_,H1,I2,q1⟩) hf
def tAug(i:Nat)(te:TE)(ti:TIp):TS:=fun D σ H=>∃x,σ[i]?=some (some x)/\te σ H fun y H1=>ti x y H1 fun z H2=>D.nx (σ.set i (some z)) H2
theorem qo9z{i:Nat}{x:Str}{e:Expr}{te:TE}{op:Operator}{ti:TIp}{pos':Pos}(hN:X.N.Nodup)(hi:X.N[i]?=some x)(hx:Loc X.env.scope x)(he:PE X e te)(ho:PIp X op ti)(hf:X.fn x=true∨X.env.scope.names.lookup x=some .local:=by first|exact .inl rfl|exact .inr rfl|assumption):
  PS X (.AugAssign (.Name x pos') op e pos) (tAug i te ti):=by
 intro pins s σ H D I h;obtain⟨v,e1,h⟩:=h;obtain⟨m,hn,hl⟩:=I.loc;have vis:Vis X.env.scope x:=by rcases hx with k|k;exact .inl k;exact .inr (.inl k)
 obtain⟨u,r,l⟩:=hl i x v hi e1 vis;refine wpAny_AugAssign_Name ?_;have go:wpAny (model X.prog X.w) X.A (eval e X.env) (fun w s₂=>wpAny (model X.prog X.w) X.A (inplaceOp op u w) (fun r s₃=>wpAny (model X.prog X.w) X.A (storeName X.env x r) (fun _=>SP X pins D .next) X.xe s₃) X.xe s₂) X.xe s:=by
  refine thn (he pins s σ H _ I h) fun w s1 ⟨y,H1,I1,r1,q1⟩=>?_;refine thn (ho pins s1 σ H1 v y u w _ I1 r r1 q1) fun z s2 ⟨zv,H2,I2,r2,q2⟩=>?_;exact qftz I2 hN hi hx r2 (fun s3 I3=>⟨_,H2,I3,q2⟩) hf
 rcases l with⟨hk,hm⟩|⟨hk,c,hc,hcell⟩
 ·exact wpAny_loadName_local I.ok.kind hk hn hm go
 ·rcases hk with hk|hk
  ·exact wpAny_loadName_cell I.ok.kind hk hc hcell go
  ·rcases hx with k|k
   ·have:X.env.scope.names.lookup x=some .free:=hk;rw[k] at this;cases this
   ·have:X.env.scope.names.lookup x=some .free:=hk;rw[k] at this;cases this
def tAugS(to ti te:TE)(tget:V->V->Hp->VK->Prop)(tip:TIp)(tset:TSet):TS:=fun D σ H=>to σ H fun o H1=>ti σ H1 fun i H2=>tget o i H2 fun x H3=>te σ H3 fun y H4=>tip x y H4 fun z H5=>tset o i z H5 fun H6=>D.nx σ H6
def PGet(X:Cx)(t:V->V->Hp->VK->Prop):Prop:=
 ∀(pins:List (Addr×Obj)) (s:Shared) (σ:St) (H:Hp) (o i:V) (ov iv:Value) (Q:VK),Inv X pins σ H s->RelV o ov->RelV i iv->t o i H Q ->
  wpAny (model X.prog X.w) X.A (getItem ov iv) (EP X pins σ Q) X.xe s
theorem qpaz{o i e:Expr}{to ti te:TE}{tget:V->V->Hp->VK->Prop}{tip:TIp}{tset:TSet}{op:Operator}{tpos:Pos}(ho:PE X o to)(hi:PE X i ti)(hg:PGet X tget)(he:PE X e te)(hp:PIp X op tip)(hs:PSet X tset)
  (ha:∀ov iv new,augStore i ov iv new=(do holding [new,ov,iv] (setItem ov iv new);release [new,ov,iv] [];pure .next):=by intros;rfl):PS X (.AugAssign (.Subscript o i tpos) op e pos) (tAugS to ti te tget tip tset):=by
 intro pins s σ H D I h;refine wpAny_AugAssign_SubscriptAny (thn (ho pins s σ H _ I h) fun ov s1 ⟨x1,H1,I1,r1,q1⟩=>?_) ha;refine thn (hi pins s1 σ H1 _ I1 q1) fun iv s2 ⟨x2,H2,I2,r2,q2⟩=>?_;refine thn (hg pins s2 σ H2 x1 x2 ov iv _ I2 r1 r2 q2) fun old s3 ⟨x3,H3,I3,r3,q3⟩=>?_;refine thn (he pins s3 σ H3 _ I3 q3) fun v s4 ⟨x4,H4,I4,r4,q4⟩=>?_;refine thn (hp pins s4 σ H4 x3 x4 old v _ I4 r3 r4 q4) fun new s5 ⟨x5,H5,I5,r5,q5⟩=>?_;exact thn (hs pins s5 σ H5 x1 x2 x5 ov iv new _ I5 r1 r2 r5 q5) fun _ s6 ⟨H6,I6,q6⟩=>⟨σ,H6,I6,q6⟩
def ipI(f:Int->Int->Int):TIp:=fun x y H Q=>∃i j,x=.int i/\y=.int j/\Q (.int (f i j)) H
theorem qijz:PIp X .Add (ipI fun i j=>i+j):=by
 intro pins s σ H x y v u Q I r1 r2 h;obtain⟨i,j,e1,e2,q⟩:=h;subst e1;subst e2;obtain⟨t,rfl⟩:=r1;obtain⟨t',rfl⟩:=r2;exact iadd_int ⟨.int _,H,I.tok _,⟨_,rfl⟩,q⟩
end
section
variable {X:Cx} {pos:Pos}
def tWhile(c:TT)(tb:TS):TS:=fun D σ H=>∃W:Nat->St->Hp->Prop,(∃m,W m σ H)/\∀m σ H,W m σ H ->
 c σ H fun b H1=>if b=true then ∃N:St->Hp->Prop,(∀σ' H',N σ' H'->∃m',m' < m/\W m' σ' H')/\tb { D with nx:=N,ct:=N,bk:=D.nx } σ H1 else D.nx σ H1
theorem qpbz{c:Expr}{body:List Stmt}{tc:TT}{tb:TS}(hp:PassesOwn (model X.prog X.w) X.A X.env X.xe)(hc:PT X c tc)(hb:PSs X body tb):PS X (.While c body [] pos) (tWhile tc tb):=by
 intro pins s σ H D I h;obtain⟨W,⟨m0,w0⟩,turn⟩:=h;refine wpAny_While (codeAny_whileLoop (fun n s'=>∃σ' H',Inv X pins σ' H' s'/\W n σ' H') ?_ m0 ⟨σ,H,I,w0⟩);rintro n s1 ⟨σ1,H1,I1,w1⟩;refine wpAny_passesOwn hp (thn (hc pins s1 σ1 H1 _ I1 (turn n σ1 H1 w1)) fun b s2 ⟨H2,I2,q2⟩=>?_);cases b with
 |true=>
  obtain⟨N,hN,q2⟩:=q2;rw[if_pos rfl];refine wpAny_passesOwn hp (thn (hb pins s2 σ1 H2 _ I2 q2) fun f s3 q3=>?_);cases f with
  |next=>
   obtain⟨σ3,H3,I3,n3⟩:=q3;obtain⟨m',hm,w3⟩:=hN σ3 H3 n3;exact⟨m',hm,σ3,H3,I3,w3⟩
  |cont=>
   obtain⟨σ3,H3,I3,n3⟩:=q3;obtain⟨m',hm,w3⟩:=hN σ3 H3 n3;exact⟨m',hm,σ3,H3,I3,w3⟩
  |brk=>exact q3
  |ret v=>exact q3
 |false=>
  rw[if_neg Bool.false_ne_true];exact wpAny_execs_nil ⟨σ1,H2,I2,q2⟩
end
structure It where
 go:Nat->Hp->Prop
 yld:Nat->Hp->V->Hp->Prop
 stop:Nat->Hp->Prop
def FpOk(X:Cx)(pins:List (Addr×Obj))(H:Hp)(b:Addr):Prop:=
 H b=none/\b≠X.env.locals/\b∉X.fs/\(b∈X.ex∨X.s₀.heap.objs.size≤b)/\(∀x c,X.env.cells.lookup x=some c->c≠b)/\∀p∈X.pn++pins,p.1≠b
theorem Inv.fpOk{X:Cx}{pins:List (Addr×Obj)}{σ:St}{H H':Hp}{s:Shared}{b:Addr}(I:Inv X pins σ H s)(hb:s.heap.objs.size≤b)(hn:H' b=none):FpOk X pins H' b:=by
 refine⟨hn,Nat.ne_of_gt (Nat.lt_of_lt_of_le I.lt hb),I.nofs hb,.inr (Nat.le_trans I.sz hb),fun x c e z=>?_,fun p hp z=>?_⟩
 ·obtain⟨v,q⟩:=I.cell x c e;exact absurd (Nat.lt_of_lt_of_le q.lt (by rw[z];exact hb)) (Nat.lt_irrefl _)
 ·exact absurd (Nat.lt_of_lt_of_le (Heap.lt_size (I.pin p hp).1) (by rw[z];exact hb)) (Nat.lt_irrefl _)
structure Turn(P:Program)(w:World)(K:PySem.W.Frag)(tg:Expr)(J:It)(fp:List Addr)(it:Addr)(tn:Nat->Heap->Prop):Prop where
 mem:it∈fp
 obj:∀i h,tn i h->∀b∈fp,∃o,h.get? b=some o/\∀v,o.data≠.cell v
 keep:∀i h h',tn i h->(∀b∈fp,∀o,h.get? b=some o->h'.get? b=some o)->tn i h'
 item:∀(X:Cx),X.prog=P->X.w=w->X.K=K->X.calm=true->∀(i:Nat) (pins:List (Addr×Obj)) (s:Shared) (σ:St) (H:Hp) (E:Value->Shared->Prop),Inv X pins σ H s->(∀b∈fp,FpOk X pins H b)->tn i s.heap->J.go i H ->
  wpAny (model P w) X.A (pyNext (.ref it)) (fun r s1=>∃u,r=some u ∧
   wpAny (model P w) X.A (letOwnedTupleGo tg (.ref it) u) (fun _ s2=>∃x H',Inv X pins σ H' s2/\RelV x u/\J.yld i H x H'/\tn (i+1) s2.heap/\∀b∈fp,H' b=none) E s1) E s
 done:∀(X:Cx),X.prog=P->X.w=w->X.K=K->X.calm=true->∀(i:Nat) (pins:List (Addr×Obj)) (s:Shared) (σ:St) (H:Hp) (E:Value->Shared->Prop),Inv X pins σ H s->(∀b∈fp,FpOk X pins H b)->tn i s.heap->J.stop i H ->
  wpAny (model P w) X.A (pyNext (.ref it)) (fun r s1=>r=none/\Inv X pins σ H s1) E s
 self:∀(A:Around) (i:Nat) (s:Shared) (Q:Value->Shared->Prop) (E:Value->Shared->Prop),tn i s.heap->Q (.ref it) s->wpAny (model P w) A (pyIter (.ref it)) Q E s
abbrev TI:=St->Hp->(It->Hp->Prop)->Prop
def PIE(X:Cx)(pins:List (Addr×Obj))(σ:St)(tg:Expr)(R:It->Hp->Prop)(itv:Value)(s2:Shared):Prop:=
 ∃(it:Addr) (fp:List Addr) (tn:Nat->Heap->Prop) (J:It) (H':Hp),itv=.ref it/\Inv X pins σ H' s2/\Turn X.prog X.w X.K tg J fp it tn/\tn 0 s2.heap/\(∀b∈fp,FpOk X pins H' b)/\R J H'
def PI(X:Cx)(tg iter:Expr)(wi:TI):Prop:=
 ∀(pins:List (Addr×Obj)) (s:Shared) (σ:St) (H:Hp) (R:It->Hp->Prop),Inv X pins σ H s->wi σ H R ->
  wpAny (model X.prog X.w) X.A (eval iter X.env) (fun v s1=>wpAny (model X.prog X.w) X.A (pyIter v) (PIE X pins σ tg R) X.xe s1) X.xe s
theorem qd8z{M:Model}{A:Around}{E:Value->Shared->Prop}{s:Shared}{tg:Expr}{it:Addr}{u:Value}{o:Obj}{n:String}{vs:Array Value}{Q:Unit->Shared->Prop}(ho:s.heap.get? it=some o)(hc:o.cls=.type n)(hd:o.data=.fields vs)
    (hn:["enumerate","zip","dict_itemiterator","dict_reverseitemiterator","odict_iterator","itertools.zip_longest","itertools.pairwise"].contains n=false) (hQ:Q () s):wpAny M A (letOwnedTupleGo tg (.ref it) u) Q E s:=by
  unfold letOwnedTupleGo;cases tg<;>first
    |exact wpAny_pure hQ
    | (cases u<;>first
        |exact wpAny_pure hQ
        | (refine wpAny_bind (wpAny_load ho ?_)
           rw[hc,hd];show wpAny M A (if (["enumerate","zip","dict_itemiterator","dict_reverseitemiterator","odict_iterator","itertools.zip_longest","itertools.pairwise"].contains n&&vs[0]?==some (rawInt _))=true then _ else _) Q E s;rw[if_neg (by intro h;rw[hn,Bool.false_and] at h;cases h)];exact wpAny_pure hQ))
def Itl(K:PySem.W.Frag)(a:Addr):It:=
 ⟨fun i H=>∃xs x,SqL K H a xs/\xs[i]?=some x,fun i H x H'=>H'=H/\∀xs,SqL K H a xs->xs[i]?=some x,fun i H=>∃xs,SqL K H a xs/\xs.length≤i⟩
def Itt(K:PySem.W.Frag)(a:Addr):It:=
 ⟨fun i H=>∃xs x,SqT K H a xs/\xs[i]?=some x,fun i H x H'=>H'=H/\∀xs,SqT K H a xs->xs[i]?=some x,fun i H=>∃xs,SqT K H a xs/\xs.length≤i⟩
def Itr(lo:Int)(n:Nat):It:=⟨fun i _=>i<n,fun i H x H'=>H'=H/\x=.int (lo+i),fun i _=>n≤i⟩
theorem qpcz{P:Program}{w:World}{K:PySem.W.Frag}{tg:Expr}(a it:Addr):Turn P w K tg (Itl K a) [it] it (fun i h=>h.IsListIter it a i) where
 mem:=by simp
 obj:=fun i h st b hb=>by
  have e:b=it:=by simpa using hb
  subst e;obtain⟨o,e,c,d⟩:=st;exact⟨o,e,fun v z=>by rw[d] at z;cases z⟩
 keep:=fun i h h' st k=>st.at fun o e=>k it (by simp) o e
 item:=by
  intro X hP hw hK hc i pins s σ H E I hf st hg;subst hP hw hK;obtain⟨xs,x,hq,hx⟩:=hg;obtain⟨its,rv,p,hz⟩:=I.list hq;obtain⟨u,hu,ru⟩:=rv.get hx;obtain⟨f0,f1,f2,f3,f4,f5⟩:=hf it (by simp);refine wpAny_pyNext_list_item st p.isList (x:=u) (by simpa using hu) fun h' st' sb=>?_;have I1:Inv X pins σ H { s with heap:=h' }:=I.turned (t':=s.toks) (fun b o hb e=>(sb.2 b hb).trans e) f0 f1 f3 f4 f5;obtain⟨o,e,c,d⟩:=id st';exact⟨u,rfl,qd8z (s:={ s with heap:=h' }) e c d (by decide) ⟨x,H,I1,ru,⟨rfl,fun ys hy=>by rw[I.list_inj hy hq];exact hx⟩,st',fun b hb=>(hf b hb).1⟩⟩
 done:=by
  intro X hP hw hK hc i pins s σ H E I hf st hg;subst hP hw hK;obtain⟨xs,hq,hx⟩:=hg;obtain⟨its,rv,p,hz⟩:=I.list hq;obtain⟨f0,f1,f2,f3,f4,f5⟩:=hf it (by simp);have hl:=rv.length;exact wpAny_pyNext_list_end (I.ok.hd hc) st p.isList (by simp;omega) fun h' eb=>⟨rfl,I.turned (t':=s.toks) (fun b o hb e=>eb b o hb e) f0 f1 f3 f4 f5⟩
 self:=fun _ _ _ _ _ st h=>wpAny_pyIter_listiter st h
theorem qpdz{P:Program}{w:World}{K:PySem.W.Frag}{tg:Expr}(a it:Addr):Turn P w K tg (Itt K a) [it] it (fun i h=>h.IsTupleIter it a i) where
 mem:=by simp
 obj:=fun i h st b hb=>by
  have e:b=it:=by simpa using hb
  subst e;obtain⟨o,e,c,d⟩:=st;exact⟨o,e,fun v z=>by rw[d] at z;cases z⟩
 keep:=fun i h h' st k=>st.at fun o e=>k it (by simp) o e
 item:=by
  intro X hP hw hK hc i pins s σ H E I hf st hg;subst hP hw hK;obtain⟨xs,x,hq,hx⟩:=hg;obtain⟨its,rv,p,hz⟩:=I.tuple hq;obtain⟨u,hu,ru⟩:=rv.get hx;obtain⟨f0,f1,f2,f3,f4,f5⟩:=hf it (by simp);refine wpAny_pyNext_tuple_item st (show s.heap.IsTuple a its.toArray from p) (x:=u) (by simpa using hu) fun h' st' sb=>?_;have I1:Inv X pins σ H { s with heap:=h' }:=I.turned (t':=s.toks) (fun b o hb e=>(sb.2 b hb).trans e) f0 f1 f3 f4 f5;obtain⟨o,e,c,d⟩:=id st';exact⟨u,rfl,qd8z (s:={ s with heap:=h' }) e c d (by decide) ⟨x,H,I1,ru,⟨rfl,fun ys hy=>by rw[I.tuple_inj hy hq];exact hx⟩,st',fun b hb=>(hf b hb).1⟩⟩
 done:=by
  intro X hP hw hK hc i pins s σ H E I hf st hg;subst hP hw hK;obtain⟨xs,hq,hx⟩:=hg;obtain⟨its,rv,p,hz⟩:=I.tuple hq;obtain⟨f0,f1,f2,f3,f4,f5⟩:=hf it (by simp);have hl:=rv.length;exact wpAny_pyNext_tuple_end (I.ok.hd hc) st (show s.heap.IsTuple a its.toArray from p) (by simp;omega) fun h' eb=>⟨rfl,I.turned (t':=s.toks) (fun b o hb e=>eb b o hb e) f0 f1 f3 f4 f5⟩
 self:=fun _ _ _ _ _ st h=>wpAny_pyIter_tupleiter st h
theorem qpez{P:Program}{w:World}{K:PySem.W.Frag}{tg:Expr}(it:Addr)(lo:Int)(n:Nat):Turn P w K tg (Itr lo n) [it] it (fun i h=>IsRangeIter h it (lo+(i:Nat)*1) ((n:Int)-(i:Nat)) 1) where
 mem:=by simp
 obj:=fun i h st b hb=>by
  have e:b=it:=by simpa using hb
  subst e;exact⟨_,st,fun v z=>by
   have z':Data.fields _=Data.cell v:=z;cases z'⟩
 keep:=fun i h h' st k=>k it (by simp) _ st
 item:=by
  intro X hP hw hK hc i pins s σ H E I hf st hg;subst hP hw hK;obtain⟨f0,f1,f2,f3,f4,f5⟩:=hf it (by simp);have W:=Walks.range (prog:=X.prog) (w:=X.w) (I.ok.hd hc) it lo 1 n;refine W.item i s _ _ hg st fun v h' tk hv st' kk=>?_;obtain⟨t,rfl⟩:=hv;have I1:Inv X pins σ H { s with heap:=h',toks:=tk }:=I.turned (fun b o hb e=>kk b o (by simpa using hb) e) f0 f1 f3 f4 f5;refine⟨_,rfl,qd8z (s:={ s with heap:=h',toks:=tk }) (n:="range_iterator") st' rfl rfl (by decide) ⟨.int (lo+i),H,I1,⟨t,?_⟩,⟨rfl,rfl⟩,st',fun b hb=>(hf b hb).1⟩⟩;rw[Int.mul_one]
 done:=by
  intro X hP hw hK hc i pins s σ H E I hf st hg;subst hP hw hK;obtain⟨f0,f1,f2,f3,f4,f5⟩:=hf it (by simp);exact wpAny_pyNext_range_end (I.ok.hd hc) st (by have:n≤i:=hg;omega) fun h' eb=>⟨rfl,I.turned (t':=s.toks) (fun b o hb e=>eb b o hb e) f0 f1 f3 f4 f5⟩
 self:=fun _ _ _ _ _ st h=>wpAny_pyIter_rangeiter st h
end L2
namespace L2
open PySem PySem.Spec PyProof.Rows
section
variable {X:Cx} {tg:Expr}
theorem qikz{pins:List (Addr×Obj)}{σ:St}{H:Hp}{s:Shared}{R:It->Hp->Prop}{E:Value->Shared->Prop}{lo hi:Int}{t u v:Tok}{tk:Nat}(I:Inv X pins σ H s)(h1:-(2^62)≤lo)(h2:lo<2^62)(h3:-(2^62)≤hi)(h4:hi<2^62)
  (q:R (Itr lo (hi-lo).toNat) H):wpAny (model X.prog X.w) X.A (pyIter (.ref s.heap.objs.size)) (PIE X pins σ tg R) E { s with heap:=s.heap.push { cls:=.type "range",data:=.fields #[.int lo t,.int hi u,.int 1 v]},toks:=tk }:=by
 refine wpAny_pyIter_range (IsRange.new ..) (small_one h1 h2 h3 h4) ?_;have I1:Inv X pins σ H { s with heap:=s.heap.push { cls:=.type "range",data:=.fields #[.int lo t,.int hi u,.int 1 v]},toks:=tk }:=I.kept fun b o e=>Heap.get?_push_of_some _ e;refine⟨(s.heap.push { cls:=.type "range",data:=.fields #[.int lo t,.int hi u,.int 1 v]}).objs.size,[(s.heap.push { cls:=.type "range",data:=.fields #[.int lo t,.int hi u,.int 1 v]}).objs.size],_,_,H,rfl,
  I1.kept (t':=tk) fun b o e=>Heap.get?_push_of_some _ e,qpez _ lo (hi-lo).toNat,?_,fun b hb=>?_,q⟩
 ·have e1:lo+((0:Nat):Int)*1=lo:=by simp
  have e2:(((hi-lo).toNat:Nat):Int)-((0:Nat):Int)=Builtin.Range.rangeSize lo hi 1:=by rw[rangeSize_one];split<;>omega
  show IsRangeIter _ _ (lo+((0:Nat):Int)*1) ((((hi-lo).toNat:Nat):Int)-((0:Nat):Int)) 1;rw[e1,e2];exact Heap.get?_push_size _ rfl
 ·have e:b=(s.heap.push { cls:=.type "range",data:=.fields #[.int lo t,.int hi u,.int 1 v]}).objs.size:=by simpa using hb
  subst e;exact I1.fpOk (Nat.le_refl _) (I1.hok.fresh (Nat.le_refl _))
def iRng1(ta:TA):TI:=fun σ H R=>ta σ H fun vs H1=>∃j:Int,vs=[.int j]/\-(2^62)≤j/\j<2^62/\R (Itr 0 j.toNat) H1
def iRng2(ta:TA):TI:=fun σ H R=>ta σ H fun vs H1=>∃i j:Int,vs=[.int i,.int j]/\(-(2^62)≤i/\i<2^62/\-(2^62)≤j/\j<2^62)/\R (Itr i (j-i).toNat) H1
theorem qpfz{a:Expr}{ta:TA}{p pos:Pos}(hg:Gl X "range")(hm:X.mg "range" = none)(ha:PA X [a] ta)(hs:starEach [a] X.env=[(false,eval a X.env)]:=by rfl):PI X tg (.Call (.Name "range" p) [a] [] pos) (iRng1 ta):=by
 intro pins s σ H R I h;refine Call_ (qatz I hg hm boot_range (PyProof.Rows.callWith_type1 (thn (ha pos pins s σ H _ I h) fun us s1 ⟨vs,H1,I1,r1,q1⟩=>?_) hs rfl));obtain⟨j,e,q1,q2,q⟩:=q1;subst e;cases r1 with
 |cons r rr=>
  cases rr;obtain⟨t,rfl⟩:=r;exact call_range_1 (qikz I1 (by omega) (by omega) q1 q2 (by simpa using q))
theorem qpgz{a b:Expr}{ta:TA}{p pos:Pos}(hg:Gl X "range")(hm:X.mg "range" = none)(ha:PA X [a,b] ta)(hs:starEach [a,b] X.env=[(false,eval a X.env),(false,eval b X.env)]:=by rfl)(hs2:starEach [b] X.env=[(false,eval b X.env)]:=by rfl):
  PI X tg (.Call (.Name "range" p) [a,b] [] pos) (iRng2 ta):=by
 intro pins s σ H R I h;refine Call_ (qatz I hg hm boot_range (PyProof.Rows.callWith_type1 (thn (ha pos pins s σ H _ I h) fun us s1 ⟨vs,H1,I1,r1,q1⟩=>?_) (by rw[hs,hs2]) (by rw[hs2];rfl)));obtain⟨i,j,e,⟨q1,q2,q3,q4⟩,q⟩:=q1;subst e;cases r1 with
 |cons r rr=>
  cases rr with
  |cons r' rr=>
   cases rr;obtain⟨t,rfl⟩:=r;obtain⟨t',rfl⟩:=r';exact call_range_2 (qikz I1 q1 q2 q3 q4 q)
def tFor(wi:TI)(g:TG)(tb:TS):TS:=fun D σ H=>wi σ H fun J H1=>∃W:Nat->Nat->St->Hp->Prop,(∃m,W 0 m σ H1)/\∀i m σ H,W i m σ H ->
 (J.stop i H/\D.nx σ H)∨(J.go i H/\∃N:St->Hp->Prop,(∀σ' H',N σ' H'->∃m',m' < m/\W (i+1) m' σ' H')/\∀x H',J.yld i H x H'->g x σ H' fun σ2 H2=>tb { D with nx:=N,ct:=N,bk:=D.nx } σ2 H2)
def pinsAt(fp:List Addr)(h:Heap):List (Addr×Obj):=fp.filterMap fun b=>(h.get? b).map fun o=>(b,o)
theorem qd9z{fp:List Addr}{h:Heap}{b:Addr}{o:Obj}(hb:b∈fp)(e:h.get? b=some o):(b,o)∈pinsAt fp h:=List.mem_filterMap.mpr ⟨b,hb,by rw[e];rfl⟩
theorem qphz{fp:List Addr}{h:Heap}{p:Addr×Obj}(hp:p∈pinsAt fp h):p.1∈fp/\h.get? p.1=some p.2:=by
 obtain⟨b,hb,e⟩:=List.mem_filterMap.mp hp;cases q:h.get? b with
 |none=>rw[q] at e;cases e
 |some o=>
  rw[q] at e;have e':(b,o)=p:=Option.some.inj e;subst e';exact⟨hb,q⟩
theorem Inv.pinned{pins:List (Addr×Obj)}{σ:St}{H:Hp}{s:Shared}{fp:List Addr}(I:Inv X pins σ H s)(hf:∀b∈fp,FpOk X pins H b)(ho:∀b∈fp,∃o,s.heap.get? b=some o/\∀v,o.data≠.cell v):Inv X (pins++pinsAt fp s.heap) σ H s:=
 I.pins_of fun p hp=>(List.mem_append.mp hp).elim (fun z=>I.pin p (List.mem_append_right _ z)) fun z=>by
  obtain⟨hb,e⟩:=qphz z;obtain⟨f0,f1,f2,_⟩:=hf p.1 hb;obtain⟨o,e',d⟩:=ho p.1 hb;rw[e] at e';cases e';exact⟨e,f0,f1,f2,d⟩
theorem Inv.unpinned{pins pl:List (Addr×Obj)}{σ:St}{H:Hp}{s:Shared}(I:Inv X (pins++pl) σ H s):Inv X pins σ H s:=I.pins_of fun p hp=>I.pin p (List.mem_append_right _ (List.mem_append_left _ hp))
theorem qpiz{iter:Expr}{body:List Stmt}{wi:TI}{g:TG}{tb:TS}{pos:Pos}(hp:PassesOwn (model X.prog X.w) X.A X.env X.xe)(hc:X.calm=true)(hi:PI X tg iter wi)(hg:PG X tg g)(hb:PSs X body tb)
  (hs:∀x,foldedSetIterable iter X.env x=pure x:=by intro _;rfl):PS X (.For tg iter body [] pos) (tFor wi g tb):=by
 intro pins s σ H D I h;refine wpAny_For (thn (hi pins s σ H _ I h) fun v s1 h1=>thn h1 fun itv s2 h2=>?_) hs;obtain⟨it,fp,tn,J,H2,e,I2,T,st2,f2,W,⟨m0,w0⟩,turn⟩:=h2;subst e
 -- what stays true of the iterator's objects through the loop
 have stat:∀{H':Hp},(∀b∈fp,H' b=none)->∀b∈fp,FpOk X pins H' b:=fun hn b hb=>⟨hn b hb,(f2 b hb).2⟩;refine codeAny_forLoop_any (fun n s'=>∃i σ' H',Inv X pins σ' H' s'/\tn i s'.heap/\(∀b∈fp,H' b=none)/\W i n σ' H') ?_ m0 ⟨0,σ,H2,I2,st2,fun b hb=>(f2 b hb).1,w0⟩;rintro n s3 ⟨i,σ3,H3,I3,st3,fr3,w3⟩;rcases turn i n σ3 H3 w3 with⟨stop,qn⟩|⟨go,N,hN,step⟩
 ·refine wpAny_passesOwn hp (thn (T.done X rfl rfl rfl hc i pins s3 σ3 H3 X.xe I3 (stat fr3) st3 stop) fun r s4 ⟨hr,I4⟩=>?_);subst hr;exact wpAny_execs_nil ⟨σ3,H3,I4,qn⟩
 ·refine wpAny_passesOwn hp (thn (T.item X rfl rfl rfl hc i pins s3 σ3 H3 X.xe I3 (stat fr3) st3 go) fun r s4 ⟨u,hr,h4⟩=>?_);subst hr;refine wpAny_passesOwn hp (thn h4 fun _ s5 ⟨x,H5,I5,r5,y5,st5,fr5⟩=>?_);have I5':=I5.pinned (stat fr5) (T.obj _ _ st5);refine wpAny_passesOwn hp (thn (hg _ s5 σ3 H5 x u _ I5' r5 (step x H5 y5)) fun _ s6 ⟨σ6,H6,I6,q6⟩=>?_);refine wpAny_passesOwn hp (thn (hb _ s6 σ6 H6 _ I6 q6) fun f s7 q7=>?_);have again:∀{σ7:St} {H7:Hp},Inv X (pins++pinsAt fp s5.heap) σ7 H7 s7->N σ7 H7->∃m,m<n/\∃i σ' H',Inv X pins σ' H' s7/\tn i s7.heap/\(∀b∈fp,H' b=none)/\W i m σ' H':=fun {σ7 H7} I7 n7=>by
   obtain⟨m',hm,w7⟩:=hN σ7 H7 n7;refine⟨m',hm,i+1,σ7,H7,I7.unpinned,T.keep _ _ _ st5 fun b hb o e=>(I7.pin (b,o) (List.mem_append_right _ (List.mem_append_right _ (qd9z hb e)))).1,fun b hb=>?_,w7⟩;obtain⟨o,e,d⟩:=T.obj _ _ st5 b hb;exact (I7.pin (b,o) (List.mem_append_right _ (List.mem_append_right _ (qd9z hb e)))).2.1
  cases f with
  |next=>obtain⟨σ7,H7,I7,n7⟩:=q7;exact again I7 n7
  |cont=>obtain⟨σ7,H7,I7,n7⟩:=q7;exact again I7 n7
  |brk=>obtain⟨σ7,H7,I7,q7⟩:=q7;exact⟨σ7,H7,I7.unpinned,q7⟩
  |ret v=>obtain⟨x7,σ7,H7,I7,r7,q7⟩:=q7;exact⟨x7,σ7,H7,I7.unpinned,r7,q7⟩
end
end L2
namespace L2
open PySem PySem.Spec PyProof.Rows
abbrev R2:=V->V->Hp->VK->Prop
def OpR(X:Cx)(f:Value->Value->Sem Value)(r:R2):Prop:=
 ∀(pins:List (Addr×Obj)) (s:Shared) (σ:St) (H:Hp) (x y:V) (v u:Value) (Q:VK),Inv X pins σ H s->RelV x v->RelV y u->r x y H Q ->
  wpAny (model X.prog X.w) X.A (f v u) (EP X pins σ Q) X.xe s
def CallR(X:Cx)(f:Value)(r:List V->Hp->VK->Prop):Prop:=
 ∀(pins:List (Addr×Obj)) (s:Shared) (σ:St) (H:Hp) (xs:List V) (us:List Value) (Q:VK),Inv X pins σ H s->Vals xs us->r xs H Q ->
  wpAny (model X.prog X.w) X.A (call f us) (EP X pins σ Q) X.xe s
def TruR(X:Cx)(r:V->Hp->(Bool->Hp->Prop)->Prop):Prop:=
 ∀(pins:List (Addr×Obj)) (s:Shared) (σ:St) (H:Hp) (x:V) (v:Value) (Q:Bool->Hp->Prop),Inv X pins σ H s->RelV x v->r x H Q ->
  wpAny (model X.prog X.w) X.A (truthy v) (TP X pins σ Q) X.xe s
def tOp(r:R2)(ta tb:TE):TE:=fun σ H Q=>ta σ H fun x H1=>tb σ H1 fun y H2=>r x y H2 Q
def rI(C:Int->Int->Prop)(g:Int->Int->V):R2:=fun x y H Q=>∃i j,x=.int i/\y=.int j/\C i j/\Q (g i j) H
def rI0(g:Int->Int->V):R2:=fun x y H Q=>∃i j,x=.int i/\y=.int j/\Q (g i j) H
section
variable {X:Cx} {a b c:Expr} {ta tb tc:TE} {pos:Pos}
theorem binT(ha:PE X a ta)(hb:PE X b tb){pins:List (Addr×Obj)}{s:Shared}{σ:St}{H:Hp}{R:V->V->Hp->Prop}(I:Inv X pins σ H s)
  (h:ta σ H fun x H1=>tb σ H1 fun y H2=>R x y H2) {Q:Value->Shared->Prop} {f:Value->Value->Sem Value}
  (hf:∀v u s2 x y H2,Inv X pins σ H2 s2->RelV x v->RelV y u->R x y H2->wpAny (model X.prog X.w) X.A (f v u) Q X.xe s2):
  wpAny (model X.prog X.w) X.A (eval a X.env) (fun v s₁=>wpAny (model X.prog X.w) X.A (eval b X.env) (fun u s₂=>wpAny (model X.prog X.w) X.A (f v u) Q X.xe s₂) X.xe s₁) X.xe s:=by
 refine thn (ha pins s σ H _ I h) fun v s1 ⟨x,H1,I1,r1,q1⟩=>?_;refine thn (hb pins s1 σ H1 _ I1 q1) fun u s2 ⟨y,H2,I2,r2,q2⟩=>?_;exact hf v u s2 x y H2 I2 r1 r2 q2
theorem qpjz{op:Operator}{r:R2}(ho:OpR X (binaryOp op) r)(ha:PE X a ta)(hb:PE X b tb):PE X (.BinOp a op b pos) (tOp r ta tb):=by
 intro pins s σ H Q I h;exact wpAny_BinOp (binT ha hb I h fun v u s2 x y H2 I2 rx ry q=>ho pins s2 σ H2 x y v u Q I2 rx ry q)
theorem opI{f:Value->Value->Sem Value}{C:Int->Int->Prop}{g:Int->Int->Int}
  (rule:∀(i j:Int) (t u:Tok) (s:Shared) (Q:Value->Shared->Prop) (E:Value->Shared->Prop),C i j->Q (.int (g i j) s.toks) { s with toks:=s.toks+1 }->wpAny (model X.prog X.w) X.A (f (.int i t) (.int j u)) Q E s):
  OpR X f (rI C fun i j=>.int (g i j)):=by
 intro pins s σ H x y v u Q I rx ry h;obtain⟨i,j,rfl,rfl,hc,q⟩:=h;obtain⟨t,rfl⟩:=rx;obtain⟨t',rfl⟩:=ry;exact rule i j t t' s _ _ hc ⟨.int (g i j),H,I.tok _,⟨_,rfl⟩,q⟩
theorem opI0{f:Value->Value->Sem Value}{g:Int->Int->Int}
  (rule:∀(i j:Int) (t u:Tok) (s:Shared) (Q:Value->Shared->Prop) (E:Value->Shared->Prop),Q (.int (g i j) s.toks) { s with toks:=s.toks+1 }->wpAny (model X.prog X.w) X.A (f (.int i t) (.int j u)) Q E s):
  OpR X f (rI0 fun i j=>.int (g i j)):=by
 intro pins s σ H x y v u Q I rx ry h;obtain⟨i,j,rfl,rfl,q⟩:=h;obtain⟨t,rfl⟩:=rx;obtain⟨t',rfl⟩:=ry;exact rule i j t t' s _ _ ⟨.int (g i j),H,I.tok _,⟨_,rfl⟩,q⟩
theorem opB0{f:Value->Value->Sem Value}{g:Int->Int->Bool}
  (rule:∀(i j:Int) (t u:Tok) (s:Shared) (Q:Value->Shared->Prop) (E:Value->Shared->Prop),Q (.bool (g i j)) s->wpAny (model X.prog X.w) X.A (f (.int i t) (.int j u)) Q E s):
  OpR X f (rI0 fun i j=>.bl (g i j)):=by
 intro pins s σ H x y v u Q I rx ry h;obtain⟨i,j,rfl,rfl,q⟩:=h;obtain⟨t,rfl⟩:=rx;obtain⟨t',rfl⟩:=ry;exact rule i j t t' s _ _ ⟨.bl (g i j),H,I,rfl,q⟩
def CPow(i j:Int):Prop:=0≤j/\j≤1000000/\i.natAbs<2^64
theorem op_add:OpR X (binaryOp .Add) (rI0 fun i j=>.int (i+j)):=opI0 fun _ _ _ _ _ _ _ q=>add_int q
theorem qcvz:OpR X (binaryOp .Sub) (rI0 fun i j=>.int (i-j)):=opI0 fun _ _ _ _ _ _ _ q=>sub_int q
theorem qauz:OpR X (binaryOp .Mod) (rI (fun _ j=>0<j) fun i j=>.int (i%j)):=opI fun i j _ _ _ _ _ hc q=>by
 have h1:(0:Int)<j:=hc;exact mod_int' (by omega) (by rw[Int.fmod_eq_emod_of_nonneg i (by omega)];exact q)
theorem qpkz:OpR X (binaryOp .Pow) (rI CPow fun i j=>.int (i^j.toNat)):=opI fun _ _ _ _ _ _ _ hc q=>pow_int_small hc.1 hc.2.1 hc.2.2 q
end
section
variable {X:Cx} {a b c:Expr} {ta tb tc:TE} {pos:Pos}
theorem qilz{pins:List (Addr×Obj)}{σ:St}{H:Hp}{s:Shared}{Q:VK}{k k':Bool}(I:Inv X pins σ H s)(q:Q (.bl k) H)(e:k=k'):EP X pins σ Q (.bool k') s:=by
 subst e;exact⟨.bl k,H,I,rfl,q⟩
theorem op_lt:OpR X (compareOp .Lt) (rI0 fun i j=>.bl (decide (i<j))):=opB0 fun _ _ _ _ _ _ _ q=>lt_int q
theorem qplz:OpR X (compareOp .LtE) (rI0 fun i j=>.bl (decide (i≤j))):=opB0 fun _ _ _ _ _ _ _ q=>le_int q
theorem qpmz:OpR X (compareOp .Gt) (rI0 fun i j=>.bl (decide (j<i))):=opB0 fun _ _ _ _ _ _ _ q=>gt_int q
theorem qpnz:OpR X (compareOp .GtE) (rI0 fun i j=>.bl (decide (j≤i))):=opB0 fun _ _ _ _ _ _ _ q=>ge_int q
theorem qcbz:OpR X (compareOp .Is) (fun x y H Q=>y=.non/\Q (.bl (decide (x=.non))) H):=by
 intro pins s σ H x y v u Q I rx ry h;obtain⟨rfl,q⟩:=h;cases ry;refine is_none_gen (qilz I q ?_);cases x<;>first
  | (cases rx;rfl)
  | (obtain⟨t,rfl⟩:=rx;rfl)
theorem qpoz:OpR X (compareOp .IsNot) (fun x y H Q=>y=.non/\Q (.bl (!decide (x=.non))) H):=by
 intro pins s σ H x y v u Q I rx ry h;obtain⟨rfl,q⟩:=h;cases ry;refine isnot_none_gen (qilz I q ?_);cases x<;>first
  | (cases rx;rfl)
  | (obtain⟨t,rfl⟩:=rx;rfl)
theorem OpR.or{f:Value->Value->Sem Value}{r r':R2}(h:OpR X f r)(h':OpR X f r'):OpR X f (fun x y H Q=>r x y H Q∨r' x y H Q):=by
 intro pins s σ H x y v u Q I rx ry q;rcases q with q|q
 ·exact h pins s σ H x y v u Q I rx ry q
 ·exact h' pins s σ H x y v u Q I rx ry q
theorem nomark(b:Expr){op:CmpOp}(h:op≠.In:=by decide)(h2:op≠.NotIn:=by decide):behindInMarks op b=false:=by
 have e1:(op==CmpOp.In)=false:=by cases op<;>first|rfl|exact absurd rfl h
 have e2:(op==CmpOp.NotIn)=false:=by cases op<;>first|rfl|exact absurd rfl h2
 cases b<;>simp[behindInMarks,e1,e2]
theorem qppz{op:CmpOp}{r:R2}(ho:OpR X (compareOp op) r)(ha:PE X a ta)(hb:PE X b tb)(hm:behindInMarks op b=false):PE X (.Compare a [op] [b] pos) (tOp r ta tb):=by
 intro pins s σ H Q I h;exact wpAny_Compare1 (binT ha hb I h fun v u s2 x y H2 I2 rx ry q=>ho pins s2 σ H2 x y v u Q I2 rx ry q) hm
def tTest(t:TE):TT:=fun σ H Q=>t σ H fun x H'=>∃k,x=.bl k/\Q k H'
theorem qpqz{op:CmpOp}{r:R2}(ho:OpR X (compareOp op) r)(ha:PE X a ta)(hb:PE X b tb)(hm:behindInMarks op b=false):PT X (.Compare a [op] [b] pos) (tTest (tOp r ta tb)):=by
 intro pins s σ H Q I h;refine wpAny_isTrue_Compare1 (thn (ha pins s σ H _ I h) fun v s1 ⟨x,H1,I1,r1,q1⟩=>thn (hb pins s1 σ H1 _ I1 q1) fun u s2 ⟨y,H2,I2,r2,q2⟩=>
  thn (ho pins s2 σ H2 x y v u _ I2 r1 r2 q2) fun c s3 ⟨z,H3,I3,r3,k,e,q3⟩=>?_) hm
 subst e;cases r3;exact wpAny_truthy_bool ⟨H3,I3,q3⟩
def tChain(r r':R2)(ta tb tc:TE):TE:=fun σ H Q=>ta σ H fun x H1=>tb σ H1 fun y H2=>r x y H2 fun z H3=>∃k,z=.bl k ∧
 (if k=true then tc σ H3 fun w' H4=>r' y w' H4 Q else Q (.bl false) H3)
theorem qprz{op op':CmpOp}{r r':R2}(ho:OpR X (compareOp op) r)(ho':OpR X (compareOp op') r')(ha:PE X a ta)(hb:PE X b tb)(hc:PE X c tc)
  (hm:lastMarks [op,op'] [b,c]=false:=by with_unfolding_all rfl):PE X (.Compare a [op,op'] [b,c] pos) (tChain r r' ta tb tc):=by
 intro pins s σ H Q I h;refine Compare_chain (thn (ha pins s σ H _ I h) fun v s1 ⟨x,H1,I1,r1,q1⟩=>chain_link (thn (hb pins s1 σ H1 _ I1 q1) fun u s2 ⟨y,H2,I2,r2,q2⟩=>
  thn (ho pins s2 σ H2 x y v u _ I2 r1 r2 q2) fun d s3 ⟨z,H3,I3,r3,k,e,q3⟩=>?_)) hm
 subst e;cases r3;refine wpAny_truthy_bool ?_;cases k with
 |false=>exact ite_ff ⟨.bl false,H3,I3,rfl,q3⟩
 |true=>exact ite_tt (chain_last (thn (hc pins s3 σ H3 _ I3 q3) fun w' s4 ⟨z',H4,I4,r4,q4⟩=>ho' pins s4 σ H4 y z' u w' Q I4 r2 r4 q4))
def TruV(K:PySem.W.Frag)(x:V)(H:Hp)(k:Bool):Prop:=
 match x with
 |.non=>k=false
 |.bl b=>k=b
 |.int i=>k=(i != 0)
 |.str y=>y.length≤sizeLine/\k=((y.length:Int) != 0)
 |.byt y=>y.size≤sizeLine/\k=((y.size:Int) != 0)
 |.ref p=>(∃xs,SqL K H p xs/\k = !xs.isEmpty)∨(∃xs,SqT K H p xs/\k = !xs.isEmpty)∨∃kvs,H p=some (.dK kvs)/\k = !kvs.isEmpty
 |_=>False
theorem qpsz{κ:Type}{kvs:List (κ×V)}{vs:List (κ×Value)}(r:KV kvs vs):(!vs.isEmpty) = !kvs.isEmpty:=by
 cases r<;>rfl
theorem qimz{xs:List V}{its:List Value}(r:Vals xs its):(!its.toArray.isEmpty) = !xs.isEmpty:=by
 cases r<;>simp
theorem line63:(sizeLine:Nat)<2^63:=by rw[sizeLine_eq];decide
theorem qptz:TruR X (fun x H Q=>∃k,TruV X.K x H k/\Q k H):=by
 intro pins s σ H x v Q I rx h;obtain⟨k,e,q⟩:=h;have hl:=line63;have hs:sizeLine=16777216:=sizeLine_eq;cases x with
 |non=>
  cases rx;have e':k=false:=e;subst e';exact truthy_none ⟨H,I,q⟩
 |bl b=>
  cases rx;have e':k=b:=e;subst e';exact wpAny_truthy_bool ⟨H,I,q⟩
 |int i=>
  obtain⟨t,rfl⟩:=rx;have e':k=(i != 0):=e;subst e';exact PySem.P.truthy_int ⟨H,I,q⟩
 |str y=>
  obtain⟨t,rfl⟩:=rx;obtain⟨hy,e'⟩:y.length≤sizeLine/\k=((y.length:Int) != 0):=e;subst e';exact PySem.P.truthy_str (by omega) ⟨H,I.tok _,q⟩
 |byt y=>
  obtain⟨t,rfl⟩:=rx;obtain⟨hy,e'⟩:y.size≤sizeLine/\k=((y.size:Int) != 0):=e;subst e';exact PySem.W.truthy_bytes (by omega) ⟨H,I.tok _,q⟩
 |ref p=>
  cases rx;have e':(∃xs,SqL X.K H p xs/\k = !xs.isEmpty)∨(∃xs,SqT X.K H p xs/\k = !xs.isEmpty)∨∃kvs,H p=some (.dK kvs)/\k = !kvs.isEmpty:=e;rcases e' with⟨xs,hx,e'⟩|⟨xs,hx,e'⟩|⟨kvs,hx,e'⟩
  ·subst e';obtain⟨its,r,pl,hz⟩:=I.list hx;have hlen:=r.length;exact wpAny_truthy_list pl.isList (by simp only[List.size_toArray];omega) ⟨H,I.tok _,by rw[qimz r];exact q⟩
  ·subst e';obtain⟨its,r,pl,hz⟩:=I.tuple hx;have hlen:=r.length;exact truthy_tuple pl (by simp only[List.size_toArray];omega) ⟨H,I.tok _,by rw[qimz r];exact q⟩
  ·subst e';obtain⟨hz,hS,vs,r,m⟩:kvs.length≤sizeLine/\(p==sysModules)=false/\∃vs,KV kvs vs/\s.heap.DictOf (mixKind X.prog X.w) p vs:=I.hok p _ hx;have hlen:kvs.length=vs.length:=Paired.length r;exact wpAny_truthy_dict hS m (by omega) ⟨H,I.tok _,by rw[qpsz r];exact q⟩
 |_=>exact (show False from e).elim
theorem qpuz(ha:PE X a ta)(he:∀whole,isTrue a X.env whole=(do let v ←whole;standAt a.pos;holding [v] (truthy v))):
  PT X a (fun σ H Q=>ta σ H fun x H'=>∃k,TruV X.K x H' k/\Q k H'):=by
 intro pins s σ H Q I h;exact isTrue_plain (thn (ha pins s σ H _ I h) fun v s1 ⟨x,H1,I1,r1,q1⟩=>qptz pins s1 σ H1 x v Q I1 r1 q1) (he _)
theorem vals1{x:V}{us:List Value}(r:Vals [x] us):∃u,us=[u]/\RelV x u:=by
 cases r with
 |cons r1 r2=>cases r2;exact⟨_,rfl,r1⟩
theorem vals2{x y:V}{us:List Value}(r:Vals [x,y] us):∃u w',us=[u,w']/\RelV x u/\RelV y w':=by
 cases r with
 |cons r1 r2=>
  cases r2 with
  |cons r3 r4=>cases r4;exact⟨_,_,rfl,r1,r3⟩
theorem qpvz(hc:X.calm=true):CallR X (.builtin "max") (fun xs H Q=>∃i j,xs=[.int i,.int j]/\Q (.int (if j > i then j else i)) H):=by
 intro pins s σ H xs us Q I r h;obtain⟨i,j,rfl,q⟩:=h;obtain⟨u,w',rfl,⟨t,rfl⟩,⟨t',rfl⟩⟩:=vals2 r;refine max_two_ints (I.ok.hd hc) fun h' tk k=>⟨_,H,I.kept k,?_,q⟩;by_cases hj:j > i
 ·rw[if_pos hj,if_pos hj];exact⟨_,rfl⟩
 ·rw[if_neg hj,if_neg hj];exact⟨_,rfl⟩
theorem qpwz:CallR X (.type "int") (fun xs H Q=>(∃i,xs=[.int i]/\Q (.int i) H)∨∃k,xs=[.bl k]/\Q (.int (if k then 1 else 0)) H):=by
 intro pins s σ H xs us Q I r h;rcases h with⟨i,rfl,q⟩|⟨k,rfl,q⟩
 ·obtain⟨u,rfl,t,rfl⟩:=vals1 r;exact call_int_int ⟨.int i,H,I,⟨_,rfl⟩,q⟩
 ·obtain⟨u,rfl,r1⟩:=vals1 r;cases r1;exact call_int_bool ⟨.int (if k then 1 else 0),H,I.tok _,⟨_,rfl⟩,q⟩
end
end L2
namespace L2
open PySem PySem.Spec PyProof.Rows
structure Room(k:Nat)(A:Around):Prop where
 hd:A.handled=none
 dp:A.depth+3*k+5<recursionLimit
 un:A.units+16*k+200<cLine
theorem Room.mono{j k:Nat}{A:Around}(r:Room k A)(h:j≤k):Room j A:=⟨r.hd,by have:=r.dp;omega,by have:=r.un;omega⟩
theorem Room.deeper{k:Nat}{A:Around}(r:Room (k+1) A)(env:Env):Room k (A.deeper env):=
 ⟨r.hd,by have:=r.dp;show A.depth+1+3*k+5<_;omega,by have:=r.un;show A.units+3+16*k+200<_;omega⟩
theorem Room.depth{k:Nat}{A:Around}(r:Room k A):A.depth<recursionLimit:=by have:=r.dp;omega
theorem Room.units{k:Nat}{A:Around}(r:Room k A):A.units+64<cLine:=by have:=r.un;omega
theorem Room.units0{k:Nat}{A:Around}(r:Room k A):A.units<cLine:=by have:=r.un;omega
def tNil:TA:=fun _ H Q=>Q [] H
def tCons(ta:TE)(tr:TA):TA:=fun σ H Q=>ta σ H fun x H1=>tr σ H1 fun xs H2=>Q (x::xs) H2
section
variable {X:Cx} {e:Expr} {es:List Expr} {te:TE} {t:TA} {pos:Pos}
theorem qccz:PA X [] tNil:=fun _ _ _ _ H Q I h=>Calls.spliced_nil ⟨[],H,I,.nil,h⟩
theorem qbqz(ha:PE X e te)(hr:PA X es t)(hs:starEach (e::es) X.env=(false,eval e X.env)::starEach es X.env:=by rfl):PA X (e::es) (tCons te t):=by
 intro pos pins s σ H Q I h;rw[hs];show wpAny _ _ (spliced ((false,eval e X.env)::backTo pos (starEach es X.env))) _ _ s;refine Calls.spliced_cons (thn (ha pins s σ H _ I h) fun u s1 ⟨x,H1,I1,r1,q1⟩=>?_);exact thn (hr pos pins s1 σ H1 _ I1 q1) fun us s2 ⟨xs,H2,I2,r2,q2⟩=>⟨x::xs,H2,I2,.cons r1 r2,q2⟩
def tTup(t:TA):TE:=fun σ H Q=>t σ H fun xs H1=>xs.length≤sizeLine/\∀p,H1 p=none->Q (.ref p) (upd H1 p (.tup xs))
def tLst(t:TA):TE:=fun σ H Q=>t σ H fun xs H1=>xs.length≤sizeLine/\∀p,H1 p=none->Q (.ref p) (upd H1 p (.lst xs))
theorem qpxz{x1}(h:PA X es t):PE X (.Tuple es x1 pos) (tTup t):=by
 intro pins s σ H Q I hq;refine wpAny_Tuple_spliced (thn (h pos pins s σ H _ I hq) fun us s1 ⟨xs,H1,I1,r,z,q⟩=>⟨by rw[←r.length];exact z,?_⟩);have hf:H1 s1.heap.objs.size=none:=I1.hok.fresh (Nat.le_refl _);refine⟨.ref s1.heap.objs.size,upd H1 s1.heap.objs.size (.tup xs),I1.laid (t':=s1.toks) (fun b u e=>Heap.get?_push_of_some _ e) (Nat.le_refl _) ?_,rfl,q _ hf⟩;exact⟨z,us,r,⟨_,Heap.get?_push_size _ rfl,rfl,⟨_,rfl⟩,rfl⟩⟩
theorem qinz(h:PA X es t):PE X (.List es pos) (tLst t):=by
 intro pins s σ H Q I hq;refine wpAny_List_spliced (thn (h pos pins s σ H _ I hq) fun us s1 ⟨xs,H1,I1,r,z,q⟩=>⟨by rw[←r.length];exact z,?_⟩);have hf:H1 s1.heap.objs.size=none:=I1.hok.fresh (Nat.le_refl _);refine⟨.ref s1.heap.objs.size,upd H1 s1.heap.objs.size (.lst xs),I1.laid (t':=s1.toks) (fun b u e=>Heap.get?_push_of_some _ e) (Nat.le_refl _) ?_,rfl,q _ hf⟩;exact⟨z,us,0,r,Heap.get?_push_size _ rfl⟩
end
abbrev Sp:=List V->Hp->VK->XK->Prop
abbrev CXT:=List Env->Hp->Shared->XK->Value->Shared->Prop
structure Env0(P:Program)(w:World)(K:PySem.W.Frag)(mg:Str->Option Value)(base:Heap)(A:Around)(outer:List Env)(s:Shared)(H:Hp):Prop where
 frames:A.frames=some outer
 mod:Mod K mg base
 bs:∀b o,base.get? b=some o->s.heap.get? b=some o/\H b=none
 bsz:base.objs.size≤s.heap.objs.size
 funs:s.heap.FunFrames base outer
 frf:∀b∈frs outer,H b=none
 hok:HOk P w H s.heap
 bare:AllBare s.gens
def CE(outer:List Env)(P:Program)(w:World)(H:Hp)(s:Shared)(Q:VK)(u:Value)(s':Shared):Prop:=
 ∃v H',s'.os=s.os/\AllBare s'.gens/\Un (frs outer) [] H H' s.heap s'.heap/\HOk P w H' s'.heap/\RelV v u/\Q v H'
def CR(CX:CXT)(outer:List Env)(P:Program)(w:World)(H:Hp)(s:Shared)(Q:VK)(E:XK)(r:Result)(s':Shared):Prop:=
 match r with
 |.ok (.ret u)=>CE outer P w H s Q u s'
 |.ok _=>False
 |.error e=>CX outer H s E e s'
structure FnOk(P:Program)(w:World)(K:PySem.W.Frag)(mg:Str->Option Value)(base:Heap)(CX:CXT)(k:Nat)(f:Addr)(fd:FuncData)(ps:List Str)(sp:Sp):Prop where
 len:∀vs H Q E,sp vs H Q E->vs.length=ps.length
 run:∀(A:Around) (outer:List Env) (s:Shared) (H:Hp) (args:Args) (us:List Value) (vs:List V) (Q:VK) (E:XK),Room k A->Env0 P w K mg base A outer s H->BindsTo s fd args (ps.zip us)->Vals vs us->sp vs H Q E ->
  codeAny (model P w) A (.call (.ref f) args) (CR CX outer P w H s Q E) s
theorem FnOk.mono{P:Program}{w:World}{K:PySem.W.Frag}{mg:Str->Option Value}{base:Heap}{CX:CXT}{j k:Nat}{f:Addr}{fd:FuncData}{ps:List Str}{sp:Sp}(F:FnOk P w K mg base CX j f fd ps sp)(h:j≤k):
  FnOk P w K mg base CX k f fd ps sp:=⟨F.len,fun A outer s H args us vs Q E hr=>F.run A outer s H args us vs Q E (hr.mono h)⟩
theorem FnOk.imp{P:Program}{w:World}{K:PySem.W.Frag}{mg:Str->Option Value}{base:Heap}{CX:CXT}{k:Nat}{f:Addr}{fd:FuncData}{ps:List Str}{sp sp':Sp}(F:FnOk P w K mg base CX k f fd ps sp)
  (h:∀vs H Q E,sp' vs H Q E->sp vs H Q E):FnOk P w K mg base CX k f fd ps sp':=
 ⟨fun vs H Q E q=>F.len vs H Q E (h _ _ _ _ q),fun A outer s H args us vs Q E hr he hb hv hs=>F.run A outer s H args us vs Q E hr he hb hv (h _ _ _ _ hs)⟩
section
variable {X:Cx} {pins:List (Addr×Obj)} {σ:St} {H:Hp} {s s':Shared}
theorem Inv.env0(I:Inv X pins σ H s):Env0 X.prog X.w X.K X.mg X.base X.A X.stack s H:=
 ⟨I.ok.frames,I.ok.mod,I.bs,Nat.le_trans I.ok.bsz I.sz,I.stack,I.stkFree,I.hok,I.bare⟩
theorem Inv.after{Q:VK}{u:Value}(I:Inv X pins σ H s)(h:CE X.stack X.prog X.w H s Q u s'):EP X pins σ Q u s':=by
 obtain⟨v,H',os,bare,un,hok,r,q⟩:=h;obtain⟨hh,g,d,t,os'⟩:=s';obtain rfl:os'=s.os:=os;exact⟨v,H',I.call (h':=hh) (g':=g) (d':=d) (t':=t) (ch:=[]) un hok bare (fun b z=>absurd z (by simp)),r,q⟩
end
def tCall(sp:Sp)(dvs:List V)(E:XK)(t:TA):TE:=fun σ H Q=>t σ H fun vs H1=>sp (vs++dvs) H1 Q E
def Binds(K:PySem.W.Frag)(fd:FuncData)(ps:List Str)(ds:List Value):Prop:=
 ∀(s:Shared) (us:List Value),K.In s.heap->(us++ds).length=ps.length->BindsTo s fd ⟨us,[]⟩ (ps.zip (us++ds))
theorem Binds.all{K:PySem.W.Frag}{fd:FuncData}{ps:List Str}(h:∀us:List Value,us.length=ps.length->bindArgs fd ⟨us,[]⟩=pure (ps.zip us)):Binds K fd ps []:=fun s us _ hl=>by
 rw[List.append_nil] at hl ⊢;exact .of_eq (h us hl)
def Passes(CX:CXT)(X:Cx)(E:XK):Prop:=∀(pins:List (Addr×Obj)) (σ:St) (H:Hp) (s:Shared) (e:Value) (s':Shared),Inv X pins σ H s->CX X.stack H s E e s'->X.xe e s'
section
variable {X:Cx} {CX:CXT} {k:Nat} {f C:Addr} {fd:FuncData} {ps:List Str} {sp:Sp} {dvs:List V} {ds:List Value} {E:XK} {x m:Str} {p pos apos:Pos} {e o:Expr} {es:List Expr} {ta:TE} {t:TA}
theorem qpyz{pins:List (Addr×Obj)}{σ:St}{H:Hp}{s:Shared}{Q:VK}{us:List Value}{vs:List V}(F:FnOk X.prog X.w X.K X.mg X.base CX k f fd ps sp)(hr:Room k X.A)(hb:Binds X.K fd ps ds)(hd:Vals dvs ds)(hx:Passes CX X E)
  (I:Inv X pins σ H s) (r:Vals vs us) (h:sp (vs++dvs) H Q E):wpAny (model X.prog X.w) X.A (call (.ref f) us) (EP X pins σ Q) X.xe s:=by
 have r2:Vals (vs++dvs) (us++ds):=r.append hd;have hl:(us++ds).length=ps.length:=by rw[←r2.length];exact F.len _ _ _ _ h
 refine wpAny_call (codeAny_mono (F.run X.A X.stack s H ⟨us,[]⟩ (us++ds) (vs++dvs) Q E hr I.env0 (hb s us I.kIn hl) r2 h) fun r s' hq=>?_);cases r with
 |error e=>exact hx pins σ H s e s' I hq
 |ok fl=>
  cases fl with
  |ret u=>exact I.after hq
  |next=>exact False.elim hq
  |brk=>exact False.elim hq
  |cont=>exact False.elim hq
theorem qpzz(F:FnOk X.prog X.w X.K X.mg X.base CX k f fd ps sp)(hr:Room k X.A)(hg:Gl X x)(hm:X.mg x=some (.ref f))(hk:PySem.W.keepIn X.K (.ref f)=true)(hb:Binds X.K fd ps ds)(hd:Vals dvs ds)(hx:Passes CX X E)
  (ha:PA X (e::es) t) (hdb:(x==("__debug__":Str))=false:=by decide) (he:starEach (e::es) X.env=(false,eval e X.env)::starEach es X.env:=by rfl) (hpl:(backTo pos (starEach es X.env)).any (·.1)=false:=by rfl):
  PE X (.Call (.Name x p) (e::es) [] pos) (tCall sp dvs E t):=by
 intro pins s σ H Q I h;refine wpAny_Call_Name_kw (qiiz I hg hm ?_ hdb);refine PySem.W.callWith_K (h₀:=X.base) I.ok.mod.kin hk (thn (ha pos pins s σ H _ I h) fun us s1 ⟨vs,H1,I1,r,q⟩=>⟨I1.kIn,?_⟩) he hpl;exact qpyz F hr hb hd hx I1 r q
end
structure FnScope(N P:List Str)(sc:Scope):Prop where
 kind:sc.kind=.function
 co:sc.isCoroutine=false
 gen:sc.isGenerator=false
 nd:N.Nodup
 pre:N.take P.length=P
 par:∀x∈P,sc.names.lookup x=some .local∨sc.names.lookup x=some .cell
 nofree:∀y∈sc.names,y.2≠.free
theorem qioz{kindOf:Str->Option NameKind}{x:Str}:∀{binds:List (Str×Value)} {m:Str->Option Value},(∀v,(x,v)∉binds)->bindL kindOf binds m x=m x
 |[],_,_=>rfl
 | (n,v)::r,m,h=>by
  unfold bindL;rw[qioz fun w hw=>h w (List.mem_cons_of_mem _ hw)];split
  ·have:x≠n:=by rintro rfl;exact h v List.mem_cons_self
   simp[this]
  ·rfl
theorem qipz{kindOf:Str->Option NameKind}{x:Str}:∀{binds:List (Str×Value)} {m:Str->Option Value},(∀v,(x,v)∉binds)->bindC kindOf binds m x=m x
 |[],_,_=>rfl
 | (n,v)::r,m,h=>by
  unfold bindC;rw[qipz fun w hw=>h w (List.mem_cons_of_mem _ hw)];split
  ·rfl
  ·have:x≠n:=by rintro rfl;exact h v List.mem_cons_self
   simp[this]
theorem qiqz{kindOf:Str->Option NameKind}{x:Str}{v:Value}:∀{P:List Str} {vs:List Value} {i:Nat} {m:Str->Option Value},P.Nodup->P[i]?=some x->vs[i]?=some v->kindOf x=some .local ->
  bindL kindOf (P.zip vs) m x=some v
 |[],_,_,_,_,h,_,_=>by simp at h
 |_::_,[],_,_,_,_,h,_=>by simp at h
 |p::P,w::vs,0,m,nd,h1,h2,hk=>by
  simp at h1 h2;subst h1;subst h2;show bindL kindOf ((p,w)::P.zip vs) m p=_;unfold bindL;rw[qioz fun v hv=>(List.nodup_cons.mp nd).1 (List.of_mem_zip hv).1,if_pos hk];simp
 |p::P,w::vs,i+1,m,nd,h1,h2,hk=>by
  show bindL kindOf ((p,w)::P.zip vs) m x=_;unfold bindL;exact qiqz (i:=i) (List.nodup_cons.mp nd).2 (by simpa using h1) (by simpa using h2) hk
theorem qirz{kindOf:Str->Option NameKind}{x:Str}{v:Value}:∀{P:List Str} {vs:List Value} {i:Nat} {m:Str->Option Value},P.Nodup->P[i]?=some x->vs[i]?=some v->kindOf x≠some .local ->
  bindC kindOf (P.zip vs) m x=some v
 |[],_,_,_,_,h,_,_=>by simp at h
 |_::_,[],_,_,_,_,h,_=>by simp at h
 |p::P,w::vs,0,m,nd,h1,h2,hk=>by
  simp at h1 h2;subst h1;subst h2;show bindC kindOf ((p,w)::P.zip vs) m p=_;unfold bindC;rw[qipz fun v hv=>(List.nodup_cons.mp nd).1 (List.of_mem_zip hv).1,if_neg hk];simp
 |p::P,w::vs,i+1,m,nd,h1,h2,hk=>by
  show bindC kindOf ((p,w)::P.zip vs) m x=_;unfold bindC;exact qirz (i:=i) (List.nodup_cons.mp nd).2 (by simpa using h1) (by simpa using h2) hk
def start(N:List Str)(vs:List V):St:=vs.map some++List.replicate (N.length-vs.length) none
def cxOf(CX:CXT)(P:Program)(w:World)(K:PySem.W.Frag)(mg:Str->Option Value)(base:Heap)(N:List Str)(qual:Str)(scope:Scope)(f:Addr)(cd:Value)(A:Around)(outer:List Env)(s:Shared)(H:Hp)(E:XK):Cx where
 prog:=P
 w:=w
 K:=K
 mg:=mg
 base:=base
 A:=A.deeper (envOfC qual scope s.heap.objs.size f cd)
 N:=N
 s₀:=s
 H₀:=H
 env:=envOfC qual scope s.heap.objs.size f cd
 outer:=outer
 stack:=envOfC qual scope s.heap.objs.size f cd::outer
 ex:=[]
 calm:=true
 fn:=fun _=>true
 pn:=[]
 xe:=fun e s'=>wpAny (model P w) (A.deeper (envOfC qual scope s.heap.objs.size f cd)) (leaving (envOfC qual scope s.heap.objs.size f cd) e) (fun _ s''=>CX outer H s E e s'') (fun e' s''=>CX outer H s E e' s'') s'
theorem qisz{sc:Scope}{n:Nat}{x:Str}(h:sc.names.lookup x=some .cell):∃c,(cellsFrom n sc.names []).lookup x=some c:=by
 have q:=PySem.W.cellsFrom_some sc.names n [] (.inl h);exact Option.isSome_iff_exists.mp q
theorem qp0z{CX:CXT}{P:Program}{w:World}{K:PySem.W.Frag}{mg:Str->Option Value}{base:Heap}{N ps:List Str}{qual:Str}{scope:Scope}{f:Addr}{cd:Value}{A:Around}{outer:List Env}{s s1:Shared}{H:Hp}{E:XK}{us:List Value}{vs:List V}
  (S:FnScope N ps scope) (hd:A.handled=none) (e0:Env0 P w K mg base A outer s H) (hl:vs.length=ps.length) (r:Vals vs us)
  (x:InCallC s s.heap.objs.size (bindL (envOfC qual scope s.heap.objs.size f cd).kindOf (ps.zip us) fun _=>none) (cellsFrom (s.heap.objs.size+1) scope.names []) (bindC (envOfC qual scope s.heap.objs.size f cd).kindOf (ps.zip us) fun _=>none) s1):
  Inv (cxOf CX P w K mg base N qual scope f cd A outer s H E) [] (start N vs) H s1:=by
 have hpl:ps.length≤N.length:=by have:=congrArg List.length S.pre;rw[List.length_take] at this;omega
 obtain⟨h1,tk,rfl,hk⟩:=x.done;have noA:∀b:Addr,b∉(cxOf CX P w K mg base N qual scope f cd A outer s H E).ex:=fun b z=>absurd (show b∈([]:List Addr) from z) (by simp);refine⟨⟨e0.mod,S.kind,rfl,rfl,Nat.le_refl _,fun y z c h1 h2=>?_,fun y hy=>?_,fun y c _ h=>?_,fun _=>hd,Around.frames_deeper e0.frames,.inr ⟨rfl,rfl⟩,fun b z=>absurd z (noA b),e0.bs,e0.bsz,fun b _ _=>noA b,fun b z=>absurd z (noA b),e0.funs,e0.frf⟩,
  rfl,e0.bare,Un.kept hk,⟨_,x.toInCall.ns,fun i y v h1 h2 h3=>?_⟩,fun y c h=>⟨_,x.cell y c h⟩,e0.hok.fresh (Nat.le_refl _),fun y c h=>?_,fun p hp=>absurd (show p∈([]:List (Addr×Obj)) from hp) (by simp),e0.hok.kept hk,?_⟩
 ·exact name_of_addr x.apart (PySem.mem_of_lookup h1) (PySem.mem_of_lookup h2)
 ·have hy:scope.names.lookup y=some .cell∨scope.names.lookup y=some .free:=hy;rcases hy with hy|hy
  ·exact qisz hy
  ·exact absurd rfl (S.nofree _ (PySem.mem_of_lookup hy))
 ·exact Nat.le_of_lt (x.above y c (PySem.mem_of_lookup h))
 ·have hi:i<vs.length:=by
   unfold start at h2;by_cases hi:i<vs.length
   ·exact hi
   ·rw[List.getElem?_append_right (by simpa using hi)] at h2;rw[List.getElem?_replicate] at h2;split at h2<;>cases h2
  have ha:vs[i]?=some v:=by
   unfold start at h2;rw[List.getElem?_append_left (by simpa using hi),List.getElem?_map] at h2;cases e:vs[i]? with
   |none=>rw[e] at h2;cases h2
   |some a=>rw[e] at h2;cases h2;rfl
  obtain⟨u,hu,rv⟩:=r.get ha;have hp:ps[i]?=some y:=by
   rw[←S.pre,List.getElem?_take_of_lt (by omega)];exact h1
  have ndP:ps.Nodup:=by rw[←S.pre];exact S.nd.sublist (List.take_sublist _ _)
  refine⟨u,rv,?_⟩;rcases S.par y (List.mem_of_getElem? hp) with k|k
  ·exact .inl ⟨k,qiqz ndP hp hu k⟩
  ·obtain⟨c,e⟩:=qisz (n:=s.heap.objs.size+1) k;refine .inr ⟨.inl k,c,e,?_⟩;have q:=x.cell y c e;rw[qirz ndP hp hu (by show scope.names.lookup y≠_;rw[k];decide)] at q;exact q
 ·exact e0.hok.fresh (Nat.le_of_lt (x.above y c (PySem.mem_of_lookup h)))
 ·unfold start;show _=N.length;rw[List.length_append,List.length_map,List.length_replicate];omega
theorem qp1z{CX:CXT}{P:Program}{w:World}{K:PySem.W.Frag}{mg:Str->Option Value}{base:Heap}{k:Nat}{f:Addr}{name qual:Str}{params:Arguments}{body:List Stmt}{scope:Scope}{dV kV doc pm cdv ct oc:Value}{an od:Option Addr}
  {osl:Array (Option Value)} {N ps:List Str} {sp:Sp} (lk:K.lookup f=some ⟨oc,od,.func (PySem.W.fnOf name qual params body scope dV kV doc pm an cdv ct),osl⟩) (hcd:PySem.W.codeIn K cdv qual=true) (S:FnScope N ps scope)
  (len:∀vs H Q E,sp vs H Q E->vs.length=ps.length)
  (hbody:∀(A:Around) (outer:List Env) (s:Shared) (H:Hp) (vs:List V) (Q:VK) (E:XK),Room k (A.deeper (envOfC qual scope s.heap.objs.size f cdv))->sp vs H Q E ->
   ∃t,PSs (cxOf CX P w K mg base N qual scope f cdv A outer s H E) body t/\t { nx:=fun _ H'=>Q .non H',rt:=Q } (start N vs) H):
  FnOk P w K mg base CX (k+1) f (PySem.W.fnOf name qual params body scope dV kV doc pm an cdv ct) ps sp:=by
 refine⟨len,fun A outer s H args us vs Q E hr e0 hb r hsp=>?_⟩;have hl:=len _ _ _ _ hsp;have KX:K.In s.heap:=e0.mod.kin.keeps fun b o e=>(e0.bs b o e).1;have lim:s.heap.NoLimit:=e0.mod.nolimit.keeps fun b o e=>(e0.bs b o e).1;have hkind:∀y∈ps.zip us,scope.names.lookup y.1=some .local∨(scope.names.lookup y.1=some .cell/\((cellsFrom (s.heap.objs.size+1) scope.names []).lookup y.1).isSome=true):=fun⟨n,v⟩ hy=>by
  rcases S.par n (List.of_mem_zip hy).1 with q|q
  ·exact .inl q
  ·exact .inr ⟨q,PySem.W.cellsFrom_some _ _ _ (.inl q)⟩
 refine codeAny_call_function hr.depth (KX _ _ lk) rfl S.co S.gen rfl (PySem.W.codeRec_of KX hcd) (hb _ _ _ _ ?_);refine wpAny_newFunctionEnv_cells S.kind hkind fun env he s1 x=>?_;subst he;refine⟨lim.keeps x.toInCall.keep,codeAny_func ?_⟩;obtain⟨t,ht,hq⟩:=hbody A outer s H vs Q E (hr.deeper _) hsp;have I:Inv (cxOf CX P w K mg base N qual scope f cdv A outer s H E) [] (start N vs) H s1:=qp0z S hr.hd e0 hl r x;refine wpAny_mono (ht [] s1 (start N vs) H _ I hq) (fun fl s' hs=>?_) fun e s' hs=>hs;have fin:∀{σ':St} {H':Hp} {v:V} {u:Value},Inv (cxOf CX P w K mg base N qual scope f cdv A outer s H E) [] σ' H' s'->RelV v u->Q v H'->CE outer P w H s Q u s':=
  fun {σ' H' v u} J rv q=>⟨v,H',J.os,J.bare,J.base,J.hok,rv,q⟩
 cases fl with
 |ret u=>
  obtain⟨v,σ',H',J,rv,q⟩:=hs;exact fin J rv q
 |next=>
  obtain⟨σ',H',J,q⟩:=hs;exact fin (v:=V.non) (u:=Value.none) J rfl q
 |brk=>
  obtain⟨_,_,_,q⟩:=hs;exact False.elim q
 |cont=>
  obtain⟨_,_,_,q⟩:=hs;exact False.elim q
end L2
namespace L2
open PySem PySem.Spec PyProof.Rows
section
variable {X:Cx} {x:Str} {p pos:Pos} {e:Expr} {es:List Expr} {t:TA} {id T:String} {r:List V->Hp->VK->Prop}
def tCB(r:List V->Hp->VK->Prop)(t:TA):TE:=fun σ H Q=>t σ H fun vs H1=>r vs H1 Q
theorem qbhz(hc:CallR X (.builtin id) r)(hg:Gl X x)(hm:X.mg x=none)(hv:bootBuiltins x=some (.builtin id))(ha:PA X (e::es) t)(hn:x≠"__name__":=by decide)(hdb:(x==("__debug__":Str))=false:=by decide)
  (he:starEach (e::es) X.env=(false,eval e X.env)::starEach es X.env:=by rfl) (hpl:(backTo pos (starEach es X.env)).any (·.1)=false:=by rfl):PE X (.Call (.Name x p) (e::es) [] pos) (tCB r t):=by
 intro pins s σ H Q I h;refine wpAny_Call_Name_kw (qatz I hg hm hv ?_ hn hdb);exact PyProof.Rows.callWith_builtin1 (thn (ha pos pins s σ H _ I h) fun us s1 ⟨vs,H1,I1,r1,q1⟩=>hc pins s1 σ H1 vs us Q I1 r1 q1) he hpl
theorem qeaz(hc:CallR X (.type T) r)(hg:Gl X x)(hm:X.mg x=none)(hv:bootBuiltins x=some (.type T))(ha:PA X (e::es) t)(hn:x≠"__name__":=by decide)(hdb:(x==("__debug__":Str))=false:=by decide)
  (he:starEach (e::es) X.env=(false,eval e X.env)::starEach es X.env:=by rfl) (hpl:(backTo pos (starEach es X.env)).any (·.1)=false:=by rfl):PE X (.Call (.Name x p) (e::es) [] pos) (tCB r t):=by
 intro pins s σ H Q I h;refine wpAny_Call_Name_kw (qatz I hg hm hv ?_ hn hdb);exact PyProof.Rows.callWith_type1 (thn (ha pos pins s σ H _ I h) fun us s1 ⟨vs,H1,I1,r1,q1⟩=>hc pins s1 σ H1 vs us Q I1 r1 q1) he hpl
end
end L2
namespace HT
open PySem PyProof.Rows
def lexLt:List Int->List Int->Bool
 |[],[]=>false
 |[],_::_=>true
 |_::_,[]=>false
 |x::xs,y::ys=>if x=y then lexLt xs ys else decide (x<y)
theorem qp2z(x y:Int)(xs ys:List Int):lexLt (x::xs) (y::ys)=if x=y then lexLt xs ys else decide (x<y):=rfl
theorem qp3z:lexLt [] []=false:=rfl
theorem qp4z(y:Int)(ys:List Int):lexLt [] (y::ys)=true:=rfl
theorem qp5z(x:Int)(xs:List Int):lexLt (x::xs) []=false:=rfl
theorem qp6z(A:Around)(s:Shared)(a:Int)(t:Tok)(c:Int)(u:Tok):∃e,SeqAt.EqAt A s (.int a t) (.int c u) e/\(e=true↔a=c):=
 ⟨(a==c),SeqAt.EqAt.int_int a t c u,by simp⟩
theorem qp7z(A:Around)(s:Shared)(a:Int)(t:Tok)(c:Int)(u:Tok)(prog:Program)(w:World)(E:Value->Shared->Prop)(Q:Value->Shared->Prop)(h:Q (.bool (decide (a<c))) s):
  wpAny (model prog w) A (richCompare .Lt (.int a t) (.int c u)) Q E s:=
 (PyProof.Rows.lt_int h:wpAny (model prog w) A (compareOp .Lt (.int a t) (.int c u)) Q E s)
section
open PySem.SeqAt
open PySem.AutoSeq1 (wpAny_loadPart')
open PySem.MeetsSeq PySem.MeetsSeq2 PySem.MeetsSeq3
theorem qp8z(l b:Addr)(items items2:Array Value)(n n2:Nat)(dd dd2:Option Addr)(sl sl2:Array (Option Value))(ns ms:List Int)(hi:IntsAre items.toList ns)(hj:IntsAre items2.toList ms):
  Meets (Builtin.«tuple.__lt__» ⟨[.ref l,.ref b],[]⟩)
   (fun _ R s=>s.heap.get? l=some { cls:=.type "tuple",dict:=dd,data:=.seq items n,slots:=sl }/\s.heap.get? b=some { cls:=.type "tuple",dict:=dd2,data:=.seq items2 n2,slots:=sl2 } ∧
    R (.ok (.ret (.bool (lexLt ns ms)))) s):=
 .of_wp fun prog w A R s h=>by
  obtain⟨hp,g,d,tk,os⟩:=s;obtain⟨hl,hb,h⟩:=h;have f2:=AutoSeq1.sub_tuple_tuple;have z1:items.size=ns.length:=by rw[←hi.length];simp
  have z2:items2.size=ms.length:=by rw[←hj.length];simp
  wp_walk using wpAny_loadPart' hl,wpAny_loadPart' hb,wpAny_forIn_list _ (fun rest b s'=>b.1=none/\s'=⟨hp,g,d,tk,os⟩/\∃(vs ws:List Value) (ns' ms':List Int),rest=vs.zip ws ∧
   IntsAre vs ns'/\IntsAre ws ms'/\ns'.length+items2.size=ms'.length+items.size/\R (.ok (.ret (.bool (lexLt ns' ms')))) ⟨hp,g,d,tk,os⟩) _
  case turn=>
   rintro⟨y,x⟩ rest b s' ⟨hb',rfl,vs,ws,ns',ms',hz,hvi,hwi,hlen,hR⟩;cases hvi with
   |nil=>rw[List.zip_nil_left] at hz;cases hz
   |cons a t hvi'=>
    cases hwi with
    |nil=>rw[List.zip_nil_right] at hz;cases hz
    |cons c u hwi'=>
     rw[List.zip_cons_cons] at hz;injection hz with hyx hrest;injection hyx with hy hx;subst hy hx;rw[qp2z] at hR;simp only[List.length_cons] at hlen;obtain⟨e,he,hiff⟩:=qp6z A.in1 ⟨hp,g,d,tk,os⟩ a t c u;refine wpAny_bind (he prog w _ _ ?_);cases e with
     |true=>
      rw[if_pos (hiff.mp rfl)] at hR;wp_walk;exact⟨rfl,rfl,_,_,_,_,hrest,hvi',hwi',by omega,hR⟩
     |false=>
      rw[if_neg (fun q=>absurd (hiff.mpr q) Bool.false_ne_true)] at hR;have hri:=qp7z A.in1 ⟨hp,g,d,tk,os⟩ a t c u prog w;wp_walk using hri;exact⟨_,rfl,by simpa using hR⟩
  case fin=>
   rintro⟨b1,b2⟩ s' ⟨hb',rfl,vs,ws,ns',ms',hz,hvi,hwi,hlen,hR⟩;simp only at hb';subst hb';have hv:lexLt ns' ms'=decide (items.size<items2.size):=by
    cases hvi with
    |nil=>
     cases hwi with
     |nil=>
      simp only[List.length_nil] at hlen;rw[qp3z];exact (decide_eq_false (by omega)).symm
     |cons c u hw=>
      simp only[List.length_nil,List.length_cons] at hlen;rw[qp4z];exact (decide_eq_true (by omega)).symm
    |cons a t hv=>
     cases hwi with
     |nil=>
      simp only[List.length_nil,List.length_cons] at hlen;rw[qp5z];exact (decide_eq_false (by omega)).symm
     |cons c u hw=>
      rw[List.zip_cons_cons] at hz;cases hz
   rw[hv] at hR;wp_walk;exact⟨_,rfl,by simpa [Builtin.Tuple.tupleCompareSizes] using hR⟩
  case h=>
   exact⟨rfl,rfl,items.toList,items2.toList,ns,ms,rfl,hi,hj,by omega,h⟩
end
section
variable {prog:Program} {w:World} {A:Around} {E:Value->Shared->Prop} {s:Shared}
theorem lt_tupInts{l b:Addr}{items items2:Array Value}{ns ms:List Int}{Q:Value->Shared->Prop}(hl:IsTup s.heap l items)(hb:IsTup s.heap b items2)(hi:IntsAre items.toList ns)(hj:IntsAre items2.toList ms)
  (hu:A.units<cLine) (h:Q (.bool (lexLt ns ms)) s):wpAny (model prog w) A (compareOp .Lt (.ref l) (.ref b)) Q E s:=by
 obtain⟨⟨cls,dd,data,sl⟩,ho,hc,n,hd⟩:=id hl;obtain⟨⟨cls2,dd2,data2,sl2⟩,ho2,hc2,n2,hd2⟩:=id hb;simp only at hc hd hc2 hd2;subst hc hd hc2 hd2;exact richCompare_meets_room (op:=.Lt) ⟨_,ho,rfl⟩ ⟨_,ho2,rfl⟩ PySem.F.slot_tuple_lt PySem.F.entry_tuple_lt (PySem.F.args_tuple_lt_2 _ _) (qp8z l b items items2 n n2 dd dd2 sl sl2 ns ms hi hj)
  ⟨ho,ho2,show Value.bool (lexLt ns ms)≠Value.notImplemented/\Q (.bool (lexLt ns ms)) s from⟨(fun x=>nomatch x),h⟩⟩ hu
theorem cat_tup{t b:Addr}{vs ws:List Value}{Q:Value->Shared->Prop}(ht:IsTup s.heap t vs.toArray)(hb:IsTup s.heap b ws.toArray)(hv:vs≠[])
  (h1:ws=[]->Q (.ref t) s) (h2:ws≠[]->Q (.ref s.heap.objs.size) { s with heap:=s.heap.push { cls:=.type "tuple",data:=.seq (vs++ws).toArray }})
  (hsz:vs.length+ws.length≤sizeLine):wpAny (model prog w) A (binaryOp .Add (.ref t) (.ref b)) Q E s:=by
 obtain⟨⟨cls,dd,data,sl⟩,ho,hc,n,hd⟩:=id ht;obtain⟨⟨cls2,dd2,data2,sl2⟩,ho2,hc2,n2,hd2⟩:=id hb;simp only at hc hd hc2 hd2;subst hc hd hc2 hd2;have e:vs.toArray++ws.toArray=(vs++ws).toArray:=by simp
 by_cases hw:ws=[]
 ·exact concat_meets ⟨_,ho,rfl⟩ ⟨_,ho2,rfl⟩ noFill_tuple_add seq_tuple_add PySem.F.slot_tuple_add PySem.F.entry_tuple_add (PySem.F.args_tuple_add_2 _ _)
   (tuple_addW1 t b vs.toArray ws.toArray n n2 dd dd2 sl sl2 (by simpa using hv) (by simp[hw])) ⟨ho,ho2,h1 hw⟩
 ·refine concat_meets ⟨_,ho,rfl⟩ ⟨_,ho2,rfl⟩ noFill_tuple_add seq_tuple_add PySem.F.slot_tuple_add PySem.F.entry_tuple_add (PySem.F.args_tuple_add_2 _ _)
   (tuple_addW2 t b vs.toArray ws.toArray n n2 dd dd2 sl sl2 (by simpa using hv) (by simpa using hw) (by rw[List.size_toArray,List.size_toArray];exact hsz)) ⟨ho,ho2,?_⟩
  rw[e];exact h2 hw
def sIx(n d:Nat):Option Int->Nat
 |none=>d
 |some v=>if v<0 then (v+(n:Int)).toNat else min v.toNat n
theorem sIx_none(n d:Nat):sIx n d none=d:=rfl
theorem sIx_nat(n d k:Nat):sIx n d (some (k:Int))=min k n:=by
 show (if (k:Int)<0 then ((k:Int)+(n:Int)).toNat else min (k:Int).toNat n)=min k n;rw[if_neg (by omega),Int.toNat_natCast]
theorem qp9z(n d:Nat)(hd:d≤n)(o:Option Int):sIx n d o≤n:=by
 cases o with
 |none=>exact hd
 |some v=>
  show (if v<0 then (v+(n:Int)).toNat else min v.toNat n)≤n;by_cases hv:v<0
  ·rw[if_pos hv];omega
  ·rw[if_neg hv];exact Nat.min_le_right _ _
theorem qitz(v:Int)(n d:Nat):(if v<0 then max (v+(n:Int)) 0 else min v (n:Int))=((sIx n d (some v):Nat):Int):=by
 show (if v<0 then max (v+(n:Int)) 0 else min v (n:Int))=(((if v<0 then (v+(n:Int)).toNat else min v.toNat n):Nat):Int);by_cases hv:v<0
 ·simp only[if_pos hv];omega
 ·simp only[if_neg hv];omega
theorem qqaz(lo hi:Option Int)(n:Nat):Builtin.Slice.sliceAdjust lo hi 1 (n:Int)=(((sIx n 0 lo:Nat):Int),((sIx n n hi:Nat):Int)):=by
 have h1:¬((1:Int)<0):=by omega
 unfold Builtin.Slice.sliceAdjust;simp only[h1,if_false];refine Prod.ext ?_ ?_
 ·cases lo with
  |none=>rfl
  |some v=>exact qitz v n 0
 ·cases hi with
  |none=>rfl
  |some v=>exact qitz v n n
theorem qqbz(i j:Nat):Builtin.Slice.slicePlaces (i:Int) (j:Int) 1=j-i:=by
 unfold Builtin.Slice.slicePlaces;have h1:(1:Int) > 0:=by omega
 simp only[h1,if_true,Int.ediv_one];split<;>omega
theorem qiuz{v:Value}{o:Option Int}{Q:Option Int->Shared->Prop}(p:IsPart v o)(h:Q o s):wpAny (model prog w) A (Builtin.Slice.slicePartIndex v) Q E s:=by
 cases p with
 |none=>exact slicePart_none h
 |int i t=>exact slicePart_int h
theorem sliceApplied_gen{sl:Addr}{vl vu:Value}{lo hi:Option Int}{n:Nat}{Q:Int×Int×Nat->Shared->Prop}(hs:s.heap.IsSliceOf sl vl vu .none)(pl:IsPart vl lo)(pu:IsPart vu hi)
  (h:Q (((sIx n 0 lo:Nat):Int),1,sIx n n hi-sIx n 0 lo) s):wpAny (model prog w) A (Builtin.Slice.sliceApplied (.ref sl) (pure (n:Int))) Q E s:=by
 obtain⟨os,hos,hcs,hds⟩:=id hs;unfold Builtin.Slice.sliceApplied Builtin.Slice.sliceFields;refine wpAny_bind (wpAny_bind (wpAny_field hos hds (x:=vl) rfl (wpAny_bind (wpAny_field hos hds (x:=vu) rfl (wpAny_bind (wpAny_field hos hds (x:=.none) rfl (wpAny_pure ?_)))))));refine wpAny_bind (slicePart_none ?_);show wpAny _ _ (if ((1:Int)==0)=true then _ else _) _ _ s;rw[if_neg (by decide)];refine wpAny_bind (qiuz pl (wpAny_bind (qiuz pu (wpAny_bind (wpAny_pure ?_)))));show wpAny _ _ (match Builtin.Slice.sliceAdjust lo hi 1 (n:Int) with|(lo,hi)=>pure (lo,(1:Int),Builtin.Slice.slicePlaces lo hi 1)) _ _ s
 rw[qqaz lo hi n];show wpAny _ _ (pure (((sIx n 0 lo:Nat):Int),(1:Int),Builtin.Slice.slicePlaces ((sIx n 0 lo:Nat):Int) ((sIx n n hi:Nat):Int) 1)) _ _ s;rw[qqbz];exact wpAny_pure h
theorem qqcz(xs:Array Value)(i k:Nat):((List.range k).filterMap fun (m:Nat)=>xs[((i:Int)+(m:Int)*1).toNat]?).toArray=((xs.toList.drop i).take k).toArray:=by
 have e:(fun (m:Nat)=>xs[((i:Int)+(m:Int)*1).toNat]?)=fun m=>xs[i+m]?:=by
  funext m;have:((i:Int)+(m:Int)*1).toNat=i+m:=by omega
  rw[this]
 rw[e];have:=pick_run xs i k;rw[List.filterMap_map] at this;have e2:((fun x=>xs[x]?) ∘ fun x=>i+x)=fun m=>xs[i+m]?:=rfl;rw[e2] at this;rw[this]
theorem getItem_tuple_cut{t sl:Addr}{items:Array Value}{vl vu:Value}{lo hi:Option Int}{Q:Value->Shared->Prop}(ht:IsTup s.heap t items)(hs:s.heap.IsSliceOf sl vl vu .none)(pl:IsPart vl lo)(pu:IsPart vu hi)
  (hw:¬(sIx items.size 0 lo=0/\sIx items.size items.size hi=items.size))
  (h:Q (.ref s.heap.objs.size) { s with heap:=s.heap.push { cls:=.type "tuple",data:=.seq ((items.toList.drop (sIx items.size 0 lo)).take (sIx items.size items.size hi-sIx items.size 0 lo)).toArray }})
  (hsz:items.size≤sizeLine):wpAny (model prog w) A (getItem (.ref t) (.ref sl)) Q E s:=by
 have htake:sizeOk (.seq ((items.toList.drop (sIx items.size 0 lo)).take (sIx items.size items.size hi-sIx items.size 0 lo)).toArray):=by
  show ((items.toList.drop (sIx items.size 0 lo)).take (sIx items.size items.size hi-sIx items.size 0 lo)).toArray.size≤sizeLine;rw[List.size_toArray,List.length_take,List.length_drop,Array.length_toList];omega
 have hj:sIx items.size items.size hi≤items.size:=qp9z _ _ (Nat.le_refl _) hi;obtain⟨os,hos,hcs,hds⟩:=id hs;have hTs:s.TypeIs (.ref sl) "slice":=⟨os,hos,hcs⟩;unfold getItem
 try with_reducible refine wpAny_holding ?_
 first|refine wpAny_bind (wpAny_pure ?_)|skip
 refine wpAny_bind (wpAny_sequenceKey ht.typeIs (by decide) ?_);refine wpAny_bind (wpAny_callSpecial?_slot (name:=Str.ofString "__getitem__") ht.typeIs PyProof.Rows.slot_tuple_getitem
  (wpAny_call_entry PyProof.Rows.slot_tuple_getitem ht.typeIs entry_tuple_getitem ?_ (args_tuple_getitem _ _)))
 show wpAny _ _ (Builtin.Tuple.tupleItemsOf (.ref t) >>= _) _ _ s;refine wpAny_bind (tupleItemsOf_ ht ?_);refine wpAny_bind (wpAny_typeOf hTs ?_);rw[if_pos (by decide)];refine wpAny_bind (sliceApplied_gen hs pl pu ?_);have hno:¬((((sIx items.size 0 lo:Nat):Int)==0&&(1:Int)==1&&(sIx items.size items.size hi-sIx items.size 0 lo)==items.size)=true):=by
  intro q;rw[Bool.and_eq_true,Bool.and_eq_true] at q;have q1:((sIx items.size 0 lo:Nat):Int)=0:=eq_of_beq q.1.1;have q2:sIx items.size items.size hi-sIx items.size 0 lo=items.size:=eq_of_beq q.2;exact hw ⟨by omega,by omega⟩
 show wpAny _ _ (if (((sIx items.size 0 lo:Nat):Int)==0&&(1:Int)==1&&(sIx items.size items.size hi-sIx items.size 0 lo)==items.size)=true then _ else _) _ _ s;rw[if_neg hno,qqcz]
 first
  |exact wpAny_bind (m:=Builtin.Tuple.tupleExact _) (wpAny_newObj_type (wpAny_pure ⟨_,rfl,wpAny_pure h⟩) htake)
  |exact wpAny_bind (m:=Builtin.Tuple.tupleExact _) (wpAny_newObj_type (wpAny_bind (wpAny_pure (wpAny_pure ⟨_,rfl,wpAny_pure h⟩))) htake)
  |exact wpAny_bind (wpAny_bind (m:=Builtin.Tuple.tupleExact _) (wpAny_newObj_type (wpAny_pure (wpAny_pure ⟨_,rfl,wpAny_pure h⟩)) htake))
  |exact wpAny_bind (wpAny_bind (m:=Builtin.Tuple.tupleExact _) (wpAny_newObj_type (wpAny_pure ⟨_,rfl,wpAny_pure h⟩) htake))
end
end HT
namespace L2
open PySem PySem.Spec PyProof.Rows
abbrev TO:=St->Hp->(Option Int->Hp->Prop)->Prop
def PO(X:Cx)(e:Option Expr)(t:TO):Prop:=
 ∀(pins:List (Addr×Obj)) (s:Shared) (σ:St) (H:Hp) (Q:Option Int->Hp->Prop),Inv X pins σ H s->t σ H Q ->
  wpAny (model X.prog X.w) X.A (evalPart e X.env) (fun u s'=>∃o H',Inv X pins σ H' s'/\IsPart u o/\Q o H') X.xe s
def tNoPart:TO:=fun _ H Q=>Q none H
def tPart(t:TE):TO:=fun σ H Q=>t σ H fun x H1=>∃i,x=.int i/\Q (some i) H1
theorem intsAre_of{ns:List Int}:∀{us:List Value},Vals (ns.map V.int) us->IntsAre us ns:=by
 induction ns with
 |nil=>intro us r;rw[List.map_nil] at r;cases r;exact .nil
 |cons n ns ih=>
  intro us r;rw[List.map_cons] at r;cases r with
  |cons r1 r2=>
   obtain⟨t,e⟩:=r1;subst e;exact .cons n t (ih r2)
section
variable {X:Cx} {e:Expr} {te:TE} {lo hi:Option Expr} {tl th:TO} {pos p2:Pos}
theorem qqdz:PO X none tNoPart:=by
 intro pins s σ H Q I h;rw[evalPart_none];exact wpAny_pure ⟨none,H,I,.none,h⟩
theorem qqez(h:PE X e te):PO X (some e) (tPart te):=by
 intro pins s σ H Q I hw;rw[evalPart_some];refine thn (h pins s σ H _ I hw) fun u s1 ⟨x,H1,I1,r1,q1⟩=>?_;obtain⟨i,rfl,q⟩:=q1;obtain⟨t,rfl⟩:=r1;exact⟨some i,H1,I1,.int i t,q⟩
def SlR(X:Cx)(r:V->Option Int->Option Int->Hp->VK->Prop):Prop:=
 ∀(pins:List (Addr×Obj)) (s:Shared) (σ:St) (H:Hp) (x:V) (v vl vu:Value) (lo hi:Option Int) (sl:Addr) (Q:VK),Inv X pins σ H s->RelV x v->s.heap.IsSliceOf sl vl vu .none->IsPart vl lo->IsPart vu hi->r x lo hi H Q ->
  ∃T id,typeLookup (.type T) "__getitem__" = pure (some (.builtin id))/\s.TypeIs v T/\wpAny (model X.prog X.w) X.A (getItem v (.ref sl)) (EP X pins σ Q) X.xe s
theorem SlR.or{r r':V->Option Int->Option Int->Hp->VK->Prop}(h:SlR X r)(h':SlR X r'):SlR X (fun x lo hi H Q=>r x lo hi H Q∨r' x lo hi H Q):=by
 intro pins s σ H x v vl vu lo hi sl Q I rx hs pl pu q;rcases q with q|q
 ·exact h pins s σ H x v vl vu lo hi sl Q I rx hs pl pu q
 ·exact h' pins s σ H x v vl vu lo hi sl Q I rx hs pl pu q
def tSl(r:V->Option Int->Option Int->Hp->VK->Prop)(te:TE)(tl th:TO):TE:=fun σ H Q=>te σ H fun x H1=>tl σ H1 fun l H2=>th σ H2 fun u H3=>r x l u H3 Q
theorem qqfz{r:V->Option Int->Option Int->Hp->VK->Prop}(hr:SlR X r)(he:PE X e te)(hl:PO X lo tl)(hu:PO X hi th):PE X (.Subscript e (.Slice lo hi none p2) pos) (tSl r te tl th):=by
 intro pins s σ H Q I h;refine Subscript_ (thn (he pins s σ H _ I h) fun v s1 ⟨x,H1,I1,r1,q1⟩=>?_);refine wpAny_Slice (thn (hl pins s1 σ H1 _ I1 q1) fun vl s2 ⟨l,H2,I2,pl,q2⟩=>thn (hu pins s2 σ H2 _ I2 q2) fun vu s3 ⟨u,H3,I3,pu,q3⟩=>?_);rw[evalPart_none];refine wpAny_pure ?_;have I4:Inv X pins σ H3 { s3 with heap:=s3.heap.push { cls:=.type "slice",data:=.fields #[vl,vu,.none]}}:=I3.kept (t':=s3.toks) fun b ob q=>Heap.get?_push_of_some _ q;obtain⟨T,id,hT,ht,hg⟩:=hr pins { s3 with heap:=s3.heap.push { cls:=.type "slice",data:=.fields #[vl,vu,.none]}} σ H3 x v vl vu l u s3.heap.objs.size Q I4 r1 (Heap.IsSliceOf.new ..) pl pu q3;show wpAny (model X.prog X.w) X.A (subscriptTail e (.Slice lo hi none p2) v (.ref s3.heap.objs.size)) (EP X pins σ Q) X.xe { s3 with heap:=s3.heap.push { cls:=.type "slice",data:=.fields #[vl,vu,.none]}};exact tail_any (ops:=[.ref s3.heap.objs.size,v]) ht hT hg (by with_unfolding_all rfl)
def cutV(xs:List V)(lo hi:Option Int):List V:=(xs.drop (HT.sIx xs.length 0 lo)).take (HT.sIx xs.length xs.length hi-HT.sIx xs.length 0 lo)
theorem qivz(xs:List V)(lo hi:Option Int):(cutV xs lo hi).length≤xs.length:=by
 unfold cutV;rw[List.length_take,List.length_drop];omega
def rSlT(K:PySem.W.Frag):V->Option Int->Option Int->Hp->VK->Prop:=fun x lo hi H Q=>∃a xs,x=.ref a/\SqT K H a xs ∧
 ¬(HT.sIx xs.length 0 lo=0/\HT.sIx xs.length xs.length hi=xs.length)/\∀p,H p=none->Q (.ref p) (upd H p (.tup (cutV xs lo hi)))
theorem sl_tup:SlR X (rSlT X.K):=by
 intro pins s σ H x v vl vu lo hi sl Q I rx hs pl pu h;obtain⟨a,xs,rfl,hx,hw,q⟩:=h;cases rx;obtain⟨its,r,ht,hz⟩:=I.tuple hx;have hlen:its.toArray.size=xs.length:=by rw[List.size_toArray];exact r.length.symm
 refine⟨"tuple",_,PyProof.Rows.slot_tuple_getitem.lookup,ht.typeIs,?_⟩;refine HT.getItem_tuple_cut ht hs pl pu (by rw[hlen];exact hw) ?_ (by rw[hlen];exact hz);rw[hlen];refine⟨.ref s.heap.objs.size,_,I.laid (t':=s.toks) (o:=.tup (cutV xs lo hi)) (fun b ob q=>Heap.get?_push_of_some _ q) (Nat.le_refl _) ?_,rfl,q _ (I.hok.fresh (Nat.le_refl _))⟩;exact⟨Nat.le_trans (qivz xs lo hi) hz,_,(r.drop (HT.sIx xs.length 0 lo)).take (HT.sIx xs.length xs.length hi-HT.sIx xs.length 0 lo),IsTup2.new _ _⟩
def rLtT(K:PySem.W.Frag):R2:=fun x y H Q=>∃a b ns ms,x=.ref a/\y=.ref b/\SqT K H a (ns.map V.int)/\SqT K H b (ms.map V.int)/\Q (.bl (HT.lexLt ns ms)) H
theorem qqgz(hu:X.A.units<cLine):OpR X (compareOp .Lt) (rLtT X.K):=by
 intro pins s σ H x y v u Q I rx ry h;obtain⟨a,b,ns,ms,rfl,rfl,ha,hb,q⟩:=h;cases rx;cases ry;obtain⟨its,r1,p1,_⟩:=I.tuple ha;obtain⟨its2,r2,p2,_⟩:=I.tuple hb;have i1:IntsAre its.toArray.toList ns:=intsAre_of r1;have i2:IntsAre its2.toArray.toList ms:=intsAre_of r2;exact HT.lt_tupInts p1 p2 i1 i2 hu ⟨.bl (HT.lexLt ns ms),H,I,rfl,q⟩
def rCatT(K:PySem.W.Frag):R2:=fun x y H Q=>∃a b xs ys,x=.ref a/\y=.ref b/\SqT K H a xs/\SqT K H b ys/\xs≠[]/\xs.length+ys.length≤sizeLine ∧
 (ys=[]->Q (.ref a) H)/\(ys≠[]->∀p,H p=none->Q (.ref p) (upd H p (.tup (xs++ys))))
theorem Vals.nil_iff{xs:List V}{us:List Value}(r:Vals xs us):us=[]↔xs=[]:=by
 cases r with
 |nil=>simp
 |cons _ _=>simp
theorem op_catT:OpR X (binaryOp .Add) (rCatT X.K):=by
 intro pins s σ H x y v u Q I rx ry h;obtain⟨a,b,xs,ys,rfl,rfl,ha,hb,hx,hz,q1,q2⟩:=h;cases rx;cases ry;obtain⟨its,r1,p1,_⟩:=I.tuple ha;obtain⟨its2,r2,p2,_⟩:=I.tuple hb;refine HT.cat_tup p1 p2 (fun z=>hx (r1.nil_iff.mp z)) (fun z=>⟨.ref a,H,I,rfl,q1 (r2.nil_iff.mp z)⟩) (fun z=>?_) (by rw[←r1.length,←r2.length];exact hz);refine⟨.ref s.heap.objs.size,_,I.laid (t':=s.toks) (o:=.tup (xs++ys)) (fun b ob q=>Heap.get?_push_of_some _ q) (Nat.le_refl _) ?_,rfl,q2 (fun w=>z (r2.nil_iff.mpr w)) _ (I.hok.fresh (Nat.le_refl _))⟩;exact⟨by rw[List.length_append];exact hz,_,r1.append r2,IsTup2.new _ _⟩
end
end L2
namespace L2
open PySem PySem.Spec PyProof.Rows
def ixN(n:Nat)(i:Int):Option Nat:=if 0≤i then (if i<n then some i.toNat else none) else if -(n:Int)≤i then some (i+n).toNat else none
def atI{α:Type}(xs:List α)(i:Int):Option α:=(ixN xs.length i).bind fun j=>xs[j]?
theorem qiwz{n:Nat}{i:Int}{j:Nat}(h:ixN n i=some j):seqIndex? i n=some j/\j<n/\-(n:Int)≤i/\i<n:=by
 unfold ixN at h;by_cases h0:0≤i
 ·rw[if_pos h0] at h;by_cases h1:i<n
  ·rw[if_pos h1] at h;have e:i.toNat=j:=Option.some.inj h;exact⟨by rw[seqIndex_of h0 h1,e],by omega,by omega,h1⟩
  ·rw[if_neg h1] at h;cases h
 ·rw[if_neg h0] at h;by_cases h1:-(n:Int)≤i
  ·rw[if_pos h1] at h;have e:(i+n).toNat=j:=Option.some.inj h;exact⟨by rw[seqIndex_neg (by omega) h1,e],by omega,h1,by omega⟩
  ·rw[if_neg h1] at h;cases h
theorem qebz{α:Type}{xs:List α}{i:Int}{v:α}(h:atI xs i=some v):∃j,seqIndex? i xs.length=some j/\xs[j]?=some v/\j<xs.length/\-(xs.length:Int)≤i/\i<xs.length:=by
 unfold atI at h;cases e:ixN xs.length i with
 |none=>rw[e] at h;cases h
 |some j=>
  rw[e] at h;obtain⟨h1,h2,h3,h4⟩:=qiwz e;exact⟨j,h1,h,h2,h3,h4⟩
theorem qbiz{α:Type}{xs:List α}{j:Nat}{v:α}(h:xs[j]?=some v):atI xs (j:Int)=some v:=by
 have hj:j<xs.length:=(List.getElem?_eq_some_iff.mp h).1;have e:ixN xs.length (j:Int)=some j:=by
  unfold ixN;rw[if_pos (by omega),if_pos (by omega)];simp
 unfold atI;rw[e];exact h
def PlainIx(b:Expr):Prop:=∀o i,subscripted b false o i=operate [o,i] (getItem o i)
def IxR(X:Cx)(r:R2):Prop:=
 ∀(value slice:Expr) (pins:List (Addr×Obj)) (s:Shared) (σ:St) (H:Hp) (x y:V) (v u:Value) (Q:VK),Inv X pins σ H s->RelV x v->RelV y u->r x y H Q ->
  subscripted slice false v u=operate [v,u] (getItem v u)->wpAny (model X.prog X.w) X.A (subscriptTail value slice v u) (EP X pins σ Q) X.xe s
def MtR(X:Cx)(id:String)(r:V->List V->Hp->VK->Prop):Prop:=
 ∀(pins:List (Addr×Obj)) (s:Shared) (σ:St) (H:Hp) (x:V) (xs:List V) (v:Value) (us:List Value) (Q:VK),Inv X pins σ H s->RelV x v->Vals xs us->r x xs H Q ->
  wpAny (model X.prog X.w) X.A (call (.builtin id) (v::us)) (EP X pins σ Q) X.xe s
section
variable {X:Cx} {a b:Expr} {ta tb:TE} {pos:Pos}
theorem IxR.or{r r':R2}(h:IxR X r)(h':IxR X r'):IxR X (fun x y H Q=>r x y H Q∨r' x y H Q):=by
 intro value slice pins s σ H x y v u Q I rx ry q hs;rcases q with q|q
 ·exact h value slice pins s σ H x y v u Q I rx ry q hs
 ·exact h' value slice pins s σ H x y v u Q I rx ry q hs
theorem qixz{r:R2}(hr:IxR X r)(ha:PE X a ta)(hb:PE X b tb)(hs:PlainIx b):PE X (.Subscript a b pos) (tOp r ta tb):=by
 intro pins s σ H Q I h;exact Subscript_ (binT ha hb I h fun v u s2 x y H2 I2 rx ry q=>hr a b pins s2 σ H2 x y v u Q I2 rx ry q (hs _ _))
def rIxL(K:PySem.W.Frag):R2:=fun x y H Q=>∃p xs i v,x=.ref p/\y=.int i/\SqL K H p xs/\atI xs i=some v/\Q v H
def rIxT(K:PySem.W.Frag):R2:=fun x y H Q=>∃p xs i v,x=.ref p/\y=.int i/\SqT K H p xs/\atI xs i=some v/\Q v H
def rIxS:R2:=fun x y H Q=>∃z i c,x=.str z/\y=.int i/\z.length≤sizeLine/\atI z.cps.toList i=some c/\Q (.str ⟨#[c]⟩) H
theorem ix_list:IxR X (rIxL X.K):=by
 intro value slice pins s σ H x y v u Q I rx ry h hs;obtain⟨p,xs,i,z,rfl,rfl,hq,he,q⟩:=h;cases rx;obtain⟨t,rfl⟩:=ry;obtain⟨its,r,pl,hz⟩:=I.list hq;obtain⟨j,h1,h2,h3,h4,h5⟩:=qebz he;obtain⟨w,ew,rw'⟩:=r.get h2;have hl:=r.length;have hn:=line63;have fin:EP X pins σ Q w s:=⟨z,H,I,rw',q⟩;by_cases h0:0≤i
 ·have hj:i.toNat=j:=by
   rw[seqIndex_of h0 h5] at h1;exact Option.some.inj h1
  exact item_listR pl.isList h0 (by omega) (by rw[hj];simpa using ew) fin hs
 ·have hj:(i+(its.toArray.size:Int)).toNat=j:=by
   rw[seqIndex_neg (by omega) h4] at h1;rw[List.size_toArray,←hl];exact Option.some.inj h1
  exact subscriptTail_builtinR (x:=w) pl.isList.typeIs slot_list_getitem.lookup
   (wpAny_getItem_list_neg (Q:=fun r s'=>r=w/\EP X pins σ Q r s') pl.isList (by omega) (by rw[List.size_toArray]<;>omega) (by omega) (by rw[hj];simpa using ew) ⟨rfl,fin⟩) hs
theorem ix_tup:IxR X (rIxT X.K):=by
 intro value slice pins s σ H x y v u Q I rx ry h hs;obtain⟨p,xs,i,z,rfl,rfl,hq,he,q⟩:=h;cases rx;obtain⟨t,rfl⟩:=ry;obtain⟨its,r,pl,hz⟩:=I.tuple hq;obtain⟨j,h1,h2,h3,h4,h5⟩:=qebz he;obtain⟨w,ew,rw'⟩:=r.get h2;have hl:=r.length;have hn:=line63;have fin:EP X pins σ Q w s:=⟨z,H,I,rw',q⟩;exact subscriptTail_builtinR (x:=w) pl.typeIs slot_tuple_getitem.lookup
  (getItem_tuple (j:=j) (Q:=fun r s'=>r=w/\EP X pins σ Q r s') pl (by omega) (by omega) (by rw[List.size_toArray,←hl];exact h1) (by simpa using ew) ⟨rfl,fin⟩) hs
theorem qqhz:IxR X rIxS:=by
 intro value slice pins s σ H x y v u Q I rx ry h hs;obtain⟨z,i,c,rfl,rfl,hz,he,q⟩:=h;obtain⟨t,rfl⟩:=rx;obtain⟨t',rfl⟩:=ry;obtain⟨j,h1,h2,h3,h4,h5⟩:=qebz he;have hl:z.cps.toList.length=z.length:=by simp[Str.length]
 rw[hl] at h1 h4 h5;have hn:=line63;exact tail_any (typeIs_str s z t) slot_str_getitem.lookup (getItem_str (c:=c) (by
  have e1:decide (i < -(2^63:Int))=false:=decide_eq_false (by omega);have e2:decide (i≥2^63)=false:=decide_eq_false (by omega);rw[e1,e2,Bool.or_false]) (by rw[h1];simpa using h2) ⟨.str ⟨#[c]⟩,H,I.tok _,⟨_,rfl⟩,q⟩) hs
def rIx(K:PySem.W.Frag):R2:=fun x y H Q=>rIxL K x y H Q∨rIxT K x y H Q∨rIxS x y H Q
theorem qiyz:IxR X (rIx X.K):=ix_list.or (ix_tup.or qqhz)
theorem qqiz(its:List Value)(n j:Nat)(u:Value):Obj.mapSeq (·.setIfInBounds j u) { cls:=.type "list",data:=.seq its.toArray n }={ cls:=.type "list",data:=.seq (its.set j u).toArray n }:=by
 simp[Obj.mapSeq]
theorem Inv.lst{pins:List (Addr×Obj)}{σ:St}{H:Hp}{s:Shared}{p:Addr}{xs:List V}(I:Inv X pins σ H s)(h:H p=some (.lst xs)):
  ∃(its:List Value) (n:Nat),Vals xs its/\s.heap.get? p=some { cls:=.type "list",data:=.seq its.toArray n }/\xs.length≤sizeLine:=by
 obtain⟨z,its,n,r,e⟩:=I.hok p _ h;exact⟨its,n,r,e,z⟩
theorem Inv.lstUpd{pins:List (Addr×Obj)}{σ:St}{H:Hp}{s:Shared}{p:Addr}{xs ys:List V}{its its':List Value}{n n':Nat}{f:Obj->Obj}(I:Inv X pins σ H s)(h:H p=some (.lst xs))
  (ho:s.heap.get? p=some { cls:=.type "list",data:=.seq its.toArray n }) (hf:f { cls:=.type "list",data:=.seq its.toArray n }={ cls:=.type "list",data:=.seq its'.toArray n' }) (r:Vals ys its') (hz:ys.length≤sizeLine) (t:Nat):
  Inv X pins σ (upd H p (.lst ys)) { s with heap:=s.heap.update p f,toks:=t }:=by
 have e:(s.heap.update p f).get? p=some { cls:=.type "list",data:=.seq its'.toArray n' }:=by
  rw[Heap.get?_update_self f ho (by rw[hf]<;>rfl),hf]
 refine I.write (x:=p) (e:=p) (by rw[h];trivial) (.inl rfl) (fun b u hb q=>(Heap.get?_update_other _ _ (Ne.symm hb)).trans q) ⟨_,e⟩ ?_;exact⟨hz,its',n',r,e⟩
def rSetL:V->V->V->Hp->(Hp->Prop)->Prop:=fun o i v H Q=>∃p xs k j,o=.ref p/\i=.int k/\H p=some (.lst xs)/\ixN xs.length k=some j/\Q (upd H p (.lst (xs.set j v)))
theorem set_list:PSet X rSetL:=by
 intro pins s σ H o i v ov iv u Q I ro ri rv h;obtain⟨p,xs,k,j,rfl,rfl,hp,hj,q⟩:=h;cases ro;obtain⟨t,rfl⟩:=ri;obtain⟨its,n,r,ho,hz⟩:=I.lst hp;obtain⟨h1,h2,h3,h4⟩:=qiwz hj;have hl:=r.length;have hn:=line63;have I':Inv X pins σ (upd H p (.lst (xs.set j v))) { s with heap:=s.heap.update p (Obj.mapSeq (·.setIfInBounds j u))}:=
  I.lstUpd hp ho (qqiz its n j u) (r.set rv j) (by rw[List.length_set];exact hz) s.toks
 by_cases h0:0≤k
 ·have hk:k.toNat=j:=by
   rw[seqIndex_of h0 h4] at h1;exact Option.some.inj h1
  exact PySem.W.ki_setAt ho h0 (by omega) (by rw[List.size_toArray,←hl];exact h4) (by rw[hk];exact⟨_,I',q⟩)
 ·have hk:(k+(its.toArray.size:Int)).toNat=j:=by
   rw[seqIndex_neg (by omega) h3] at h1;rw[List.size_toArray,←hl];exact Option.some.inj h1
  exact PySem.W.ki_setBack ho (by omega) (by rw[List.size_toArray,←hl];exact h3) (by omega) (by rw[hk];exact⟨_,I',q⟩)
theorem qqjz(lo hi:Option Int)(n:Nat):(sliceBounds lo hi none n).1=((HT.sIx n 0 lo:Nat):Int)/\(sliceBounds lo hi none n).2.1=((HT.sIx n n hi:Nat):Int)/\(sliceBounds lo hi none n).2.2=1:=by
 refine⟨?_,?_,rfl⟩
 ·cases lo with
  |none=>simp[sliceBounds,HT.sIx]
  |some i=>
   simp only[sliceBounds,HT.sIx,Option.getD_none,show (1:Int) > 0 by decide,if_true];by_cases h:i<0
   ·simp only[h,if_true]<;>omega
   ·simp only[h,if_false]<;>omega
 ·cases hi with
  |none=>simp[sliceBounds,HT.sIx]
  |some i=>
   simp only[sliceBounds,HT.sIx,Option.getD_none,show (1:Int) > 0 by decide,if_true];by_cases h:i<0
   ·simp only[h,if_true]<;>omega
   ·simp only[h,if_false]<;>omega
theorem qqkz(its:List Value)(lo hi:Option Int):slicePick its.toArray lo hi none=((its.drop (HT.sIx its.length 0 lo)).take (HT.sIx its.length its.length hi-HT.sIx its.length 0 lo)).toArray:=by
 obtain⟨h1,h2,h3⟩:=qqjz lo hi its.toArray.size;unfold slicePick;rw[h1,h2,h3];simp only[sliceRange_one,pick_run,List.size_toArray]<;>rfl
def rSlL(K:PySem.W.Frag):V->Option Int->Option Int->Hp->VK->Prop:=fun x lo hi H Q=>∃a xs,x=.ref a/\SqL K H a xs/\∀p,H p=none->Q (.ref p) (upd H p (.lst (cutV xs lo hi)))
theorem qqlz:SlR X (rSlL X.K):=by
 intro pins s σ H x v vl vu lo hi sl Q I rx hs pl pu h;obtain⟨a,xs,rfl,hx,q⟩:=h;cases rx;obtain⟨its,r,ht,hz⟩:=I.list hx;have hlen:=r.length;refine⟨"list",_,slot_list_getitem.lookup,ht.isList.typeIs,?_⟩;refine wpAny_getItem_list_slice ht.isList hs pl pu .none (by simp) ?_ (by rw[List.size_toArray]<;>omega)
 rw[qqkz,←hlen];refine⟨.ref s.heap.objs.size,_,I.laid (t':=s.toks) (o:=.lst (cutV xs lo hi)) (fun b ob q=>Heap.get?_push_of_some _ q) (Nat.le_refl _) ?_,rfl,q _ (I.hok.fresh (Nat.le_refl _))⟩;exact⟨Nat.le_trans (qivz xs lo hi) hz,_,0,(r.drop (HT.sIx xs.length 0 lo)).take (HT.sIx xs.length xs.length hi-HT.sIx xs.length 0 lo),Heap.get?_push_size _ rfl⟩
theorem qqmz:CallR X (.builtin "len") (fun xs H Q=>∃p ys,xs=[.ref p]/\(SqL X.K H p ys∨SqT X.K H p ys)/\Q (.int ys.length) H):=by
 intro pins s σ H xs us Q I r h;obtain⟨p,ys,rfl,hq,q⟩:=h;obtain⟨u,rfl,rx⟩:=vals1 r;cases rx;have hn:=line63;rcases hq with hq|hq
 ·obtain⟨its,r',pl,hz⟩:=I.list hq;have hlen:=r'.length;exact Calls.call_len_list pl.isList (by simp only[List.size_toArray]<;>omega) ⟨.int ys.length,H,I.tok _,⟨s.toks+1,by rw[List.size_toArray,hlen]⟩,q⟩
 ·obtain⟨its,r',pl,hz⟩:=I.tuple hq;have hlen:=r'.length;exact len_tuple pl (by simp only[List.size_toArray]<;>omega) ⟨.int ys.length,H,I.tok _,⟨s.toks+1,by rw[List.size_toArray,hlen]⟩,q⟩
theorem qqnz:CallR X (.type "tuple") (fun xs H Q=>∃p ys,xs=[.ref p]/\((SqL X.K H p ys/\∀l,H l=none->Q (.ref l) (upd H l (.tup ys)))∨(SqT X.K H p ys/\Q (.ref p) H))):=by
 intro pins s σ H xs us Q I r h;obtain⟨p,ys,rfl,h⟩:=h;obtain⟨u,rfl,rx⟩:=vals1 r;cases rx;rcases h with⟨hq,q⟩|⟨hq,q⟩
 ·obtain⟨its,r',pl,hz⟩:=I.list hq;have hlen:=r'.length;refine call_tuple_list pl.isList (fun h' kp=>?_) (by simp only[List.size_toArray]<;>omega)
  have I1:Inv X pins σ H { s with heap:=h' }:=I.kept (t':=s.toks) kp;have I2:Inv X pins σ (upd H h'.objs.size (.tup ys)) { s with heap:=h'.push { cls:=.type "tuple",data:=.seq its.toArray }}:=
   I1.laid (t':=s.toks) (fun b o e=>Heap.get?_push_of_some _ e) (Nat.le_refl _) (show ObjOk X.prog X.w _ _ _ (.tup ys) from⟨hz,its,r',IsTup2.new _ _⟩)
  exact⟨.ref h'.objs.size,_,I2,rfl,q _ (I1.hok.fresh (Nat.le_refl _))⟩
 ·obtain⟨its,r',pl,hz⟩:=I.tuple hq;exact call_tuple_same pl ⟨.ref p,H,I,rfl,q⟩
def tyV(K:PySem.W.Frag)(T:String)(x:V)(H:Hp):Prop:=match x with
 |.str _=>T="str"
 |.int _=>T="int"
 |.ref p=>(T="list"/\∃xs,SqL K H p xs)∨(T="tuple"/\∃o,K.lookup p=some o/\o.cls=.type "tuple"/\o.dict=none) ∨
   (T="dict"/\((∃kvs,H p=some (.dK kvs))∨∃kvs,H p=some (.dT kvs)))∨(T="set"/\∃S n,H p=some (.set S n))
 |_=>False
theorem qqoz{pins:List (Addr×Obj)}{σ:St}{H:Hp}{s:Shared}{T:String}{x:V}{v:Value}(I:Inv X pins σ H s)(r:RelV x v)(ty:tyV X.K T x H):
  s.TypeIs v T/\∀a,v=.ref a->∃ob,s.heap.get? a=some ob/\ob.dict=none:=by
 cases x with
 |str z=>
  obtain⟨t,rfl⟩:=r;cases (show T="str" from ty);exact⟨typeIs_str s z t,fun _ e=>nomatch e⟩
 |int i=>
  obtain⟨t,rfl⟩:=r;cases (show T="int" from ty);exact⟨typeIs_int s i t,fun _ e=>nomatch e⟩
 |ref p=>
  cases r;rcases ty with⟨rfl,xs,hq⟩|⟨rfl,o,hk,hc,hd⟩|⟨rfl,hk⟩|⟨rfl,S,n,hk⟩
  ·obtain⟨its,_,pl,_⟩:=I.list hq;refine⟨pl.isList.typeIs,fun a e=>?_⟩;cases e;obtain⟨o,n,e,c,hd,_⟩:=pl;exact⟨o,e,hd⟩
  ·refine⟨⟨o,I.kIn p o hk,hc⟩,fun a e=>?_⟩;cases e;exact⟨o,I.kIn _ o hk,hd⟩
  ·have z:∃o,s.heap.get? p=some o/\o.ExactDict:=by
    rcases hk with⟨kvs,hk⟩|⟨kvs,hk⟩
    ·obtain⟨_,_,_,_,o,_,_,e,ex,_⟩:=I.hok p _ hk;exact⟨o,e,ex⟩
    ·obtain⟨_,_,_,_,o,_,_,e,ex,_⟩:=I.hok p _ hk;exact⟨o,e,ex⟩
   obtain⟨o,e,ex⟩:=z;refine⟨⟨o,e,ex.1⟩,fun a e2=>?_⟩;cases e2;exact⟨o,e,ex.2.1⟩
  ·obtain⟨o,_,_,_,e,ex,_⟩:=I.hok p _ hk;refine⟨⟨o,e,ex.1⟩,fun a e2=>?_⟩;cases e2;exact⟨o,e,ex.2.1⟩
 |_=>exact False.elim ty
def tBM(K:PySem.W.Frag)(T:String)(r:V->List V->Hp->VK->Prop)(to:TE)(t:TA):TE:=fun σ H Q=>to σ H fun x H1=>tyV K T x H1/\t σ H1 fun xs H2=>r x xs H2 Q
variable {o e:Expr} {es:List Expr} {to:TE} {t:TA} {name:Str} {apos cpos:Pos} {T id:String} {r:V->List V->Hp->VK->Prop}
theorem qqpz(pa:PlainAttrs T)(slot:Slot T name id)(hty:typeOf (.builtin id)=pure (.type "method_descriptor"))(hm:MtR X id r)(ho:PE X o to)(ha:PA X (e::es) t)
  (hbase:attributeBase o name X.env (eval o X.env)=eval o X.env:=by rfl)
  (hfew:((backTo cpos (starEach (e::es) X.env)).all (fun x=>!x.1)&&(backToKw cpos (keywordEach [] X.env)).all (fun x=>x.1.isSome)
   && decide ((e::es).length+([]:List Keyword).length+(if ([]:List Keyword).isEmpty then 0 else 1)<30))=true:=by rfl)
  (hline:(apos.endLine==cpos.line)=true:=by rfl) (hs:starEach (e::es) X.env=(false,eval e X.env)::starEach es X.env:=by rfl) (hplain:(backTo cpos (starEach es X.env)).any (·.1)=false:=by rfl):
  PE X (.Call (.Attribute o name apos) (e::es) [] cpos) (tBM X.K T r to t):=by
 intro pins s σ H Q I h;refine wpAny_Call_method_late hbase hfew hline rfl (thn (ho pins s σ H _ I h) fun v s1 ⟨x,H1,I1,r1,ty,q1⟩=>?_);obtain⟨h1,h2⟩:=qqoz I1 r1 ty;refine⟨T,id,pa,slot,hty,h1,h2,?_⟩;have hA:=ha cpos pins s1 σ H1 _ I1 q1;rw[hs] at hA ⊢;refine Calls.callWith_builtin (by show (false||(backTo cpos (starEach es X.env)).any (·.1))=false;rw[hplain]<;>rfl) (Calls.evalArgs_plain ?_)
 exact thn hA fun us s2 ⟨vs,H2,I2,r2,q2⟩=>hm pins s2 σ H2 x vs v us Q I2 r1 r2 q2
/- xs.append(e),list.index on a module's tuple .. are MtR facts of 06m -/
end
end L2
namespace L2
open PySem PySem.Spec PyProof.Rows
def MtM(X:Cx)(id:String)(r:V->List V->Hp->VK->Prop):Prop:=
 ∀(pins:List (Addr×Obj)) (s:Shared) (σ:St) (H:Hp) (x:V) (xs:List V) (v:Value) (us:List Value) (Q:VK),Inv X pins σ H s->RelV x v->Vals xs us->r x xs H Q ->
  wpAny (model X.prog X.w) X.A (call (.builtin id) (v::us)) (EP X pins σ Q) X.xe s
theorem Vals.one:∀{x:V} {us:List Value},Vals [x] us->∃u,us=[u]/\RelV x u
 |_,_,.cons r .nil=>⟨_,rfl,r⟩
theorem Vals.eraseIdx:∀{xs:List V} {us:List Value} (i:Nat),Vals xs us->Vals (xs.eraseIdx i) (us.eraseIdx i)
 |_,_,_,.nil=>.nil
 |_,_,0,.cons _ t=>t
 |_,_,i+1,.cons r t=>.cons r (Vals.eraseIdx i t)
theorem Vals.rep{xs:List V}{us:List Value}(h:Vals xs us):∀k:Nat,Vals (List.replicate k xs).flatten (List.replicate k us).flatten
 |0=>.nil
 |k+1=>by
  rw[List.replicate_succ,List.replicate_succ,List.flatten_cons,List.flatten_cons];exact Vals.append h (Vals.rep h k)
theorem qfuz{α:Type}:∀(l:List α) (i:Nat),(l.eraseIdx i).length≤l.length
 |[],_=>Nat.le_refl _
 |_::_,0=>Nat.le_succ _
 |_::r,i+1=>Nat.succ_le_succ (qfuz r i)
theorem foldl_rep(its:List Value):∀(k:Nat) (acc:List Value),
  List.foldl (fun x1 x2=>x1++x2) acc.toArray (List.replicate k its.toArray)=(acc++(List.replicate k its).flatten).toArray
 |0,acc=>by simp
 |k+1,acc=>by
  have e:acc.toArray++its.toArray=(acc++its).toArray:=by simp
  have e2:(acc++its)++(List.replicate k its).flatten=acc++(List.replicate (k+1) its).flatten:=by
   rw[List.replicate_succ,List.flatten_cons,List.append_assoc]
  rw[←e2,←foldl_rep its k (acc++its),←e,List.replicate_succ,List.foldl_cons]
section
variable {X:Cx} {pins:List (Addr×Obj)} {σ:St} {H:Hp} {s:Shared} {l b:Addr} {xs ys zs:List V}
theorem Inv.lset{its its':List Value}{n:Nat}{f:Array Value->Array Value}{t':Nat}(I:Inv X pins σ H s)(hH:H l=some (.lst xs))
  (e:s.heap.get? l=some { cls:=.type "list",data:=.seq its.toArray n }) (hf:f its.toArray=its'.toArray) (hv:Vals ys its') (hz:ys.length≤sizeLine):
  Inv X pins σ (upd H l (.lst ys)) { s with heap:=s.heap.update l (Obj.mapSeq f),toks:=t' }:=by
 have q:=PySem.IsL.update e f;rw[hf] at q;refine I.write (x:=l) (e:=l) (by rw[hH];exact trivial) (.inl rfl) (fun b' u hb hu=>(Heap.get?_update_other s.heap (Obj.mapSeq f) (Ne.symm hb)).trans hu) ⟨_,q⟩ ?_;exact⟨hz,its',_,hv,q⟩
theorem Inv.lnew{its:List Value}{t':Nat}(I:Inv X pins σ H s)(hv:Vals ys its)(hz:ys.length≤sizeLine):
  Inv X pins σ (upd H s.heap.objs.size (.lst ys)) { s with heap:=s.heap.push { cls:=.type "list",data:=.seq its.toArray },toks:=t' }:=
 I.laid (fun _ _ q=>Heap.get?_push_of_some _ q) (Nat.le_refl _) ⟨hz,its,0,hv,Heap.get?_push_size _ rfl⟩
theorem Inv.fresh(I:Inv X pins σ H s):H s.heap.objs.size=none:=I.hok.fresh (Nat.le_refl _)
theorem Inv.lstM(I:Inv X pins σ H s)(hH:H l=some (.lst xs)):xs.length≤sizeLine/\∃(its:List Value) (n:Nat),Vals xs its/\xs.length=its.length/\s.heap.get? l=some { cls:=.type "list",data:=.seq its.toArray n }:=by
 obtain⟨z,its,n,r,e⟩:=I.hok l _ hH;exact⟨z,its,n,r,r.length,e⟩
theorem notLongL{n:Nat}(h:n≤sizeLine):Builtin.List.listTooLong n=false:=by
 unfold Builtin.List.listTooLong;exact decide_eq_false (by omega)
end
section
variable {X:Cx}
def rAppend:V->List V->Hp->VK->Prop:=fun x vs H Q=>∃l xs y,x=.ref l/\vs=[y]/\H l=some (.lst xs)/\xs.length<sizeLine/\Q .non (upd H l (.lst (xs++[y])))
theorem qfvz:MtM X "list.append" rAppend:=by
 intro pins s σ H x vs v us Q I rx rv h;obtain⟨l,xs,y,rfl,rfl,hH,hz,q⟩:=h;cases rx;obtain⟨u,rfl,ru⟩:=rv.one;obtain⟨z,its,n,r,hl,e⟩:=I.lstM hH;refine call_meets F.slot_list_append ⟨_,e,rfl⟩ F.entry_list_append (F.args_list_append_2 _ _) (PySem.list_append l its.toArray n u (by rw[List.size_toArray];omega)) ⟨e,?_⟩;refine⟨.non,_,I.lset (its':=its++[u]) hH e (by simp) (r.append (.cons ru .nil)) ?_,rfl,q⟩;rw[List.length_append,List.length_singleton];omega
def rExtend:V->List V->Hp->VK->Prop:=fun x vs H Q=>∃l b xs zs,x=.ref l/\vs=[.ref b]/\H l=some (.lst xs)/\H b=some (.lst zs)/\xs.length+zs.length≤sizeLine/\Q .non (upd H l (.lst (xs++zs)))
theorem q5dz:MtM X "list.extend" rExtend:=by
 intro pins s σ H x vs v us Q I rx rv h;obtain⟨l,b,xs,zs,rfl,rfl,hH,hB,hz,q⟩:=h;cases rx;obtain⟨u,rfl,ru⟩:=rv.one;cases ru;obtain⟨z,its,n,r,hl,e⟩:=I.lstM hH;obtain⟨z2,its2,n2,r2,hl2,e2⟩:=I.lstM hB;have hsz:its.toArray.size+its2.toArray.size≤sizeLine:=by rw[List.size_toArray,List.size_toArray];omega
 have hlong:¬(!its.toArray.isEmpty&&Builtin.List.listTooLong (its.toArray.size+its2.toArray.size))=true:=by
  rw[notLongL hsz,Bool.and_false];exact Bool.false_ne_true
 refine call_meets F.slot_list_extend ⟨_,e,rfl⟩ F.entry_list_extend (F.args_list_extend_2 _ _)
  (AutoSeq1.list_extend_list_list_0 l its.toArray n b its2.toArray n2 hlong (by rw[List.size_toArray];omega) (by omega)) ⟨e,e2,?_⟩
 refine⟨.non,_,I.lset (its':=its++its2) hH e (by simp) (r.append r2) ?_,rfl,q⟩;rw[List.length_append];omega
def rPopAt:V->List V->Hp->VK->Prop:=fun x vs H Q=>∃l xs i k y,x=.ref l/\vs=[.int i]/\H l=some (.lst xs)/\-(2^63)≤i/\i<2^63/\seqIndex? i xs.length=some k/\xs[k]?=some y/\Q y (upd H l (.lst (xs.eraseIdx k)))
theorem qqqz:MtM X "list.pop" rPopAt:=by
 intro pins s σ H x vs v us Q I rx rv h;obtain⟨l,xs,i,k,y,rfl,rfl,hH,h1,h2,hk,hy,q⟩:=h;cases rx;obtain⟨u,rfl,ru⟩:=rv.one;obtain⟨t,rfl⟩:=ru;obtain⟨z,its,n,r,hl,e⟩:=I.lstM hH;obtain⟨w,hw,rw'⟩:=r.get hy;refine call_meets F.slot_list_pop ⟨_,e,rfl⟩ F.entry_list_pop (F.args_list_pop_2 _ _)
  (MeetsSeq.list_pop_at l its.toArray n i t k w (fitsIndex_both h1 h2) (by rw[List.size_toArray,←hl];exact hk) (by rw[←Array.getElem?_toList];exact hw) (by rw[List.size_toArray];omega)) ⟨e,?_⟩
 refine⟨y,_,I.lset (its':=its.eraseIdx k) hH e ?_ (r.eraseIdx k) ?_,rw',q⟩
 ·show its.toArray.eraseIdxIfInBounds k=(its.eraseIdx k).toArray;rw[List.eraseIdxIfInBounds_toArray]
 ·have:=qfuz xs k;omega
def rCat:R2:=fun x y H Q=>∃l b xs zs,x=.ref l/\y=.ref b/\H l=some (.lst xs)/\H b=some (.lst zs)/\xs.length+zs.length≤sizeLine/\∀p,H p=none->Q (.ref p) (upd H p (.lst (xs++zs)))
theorem op_cat:OpR X (binaryOp .Add) rCat:=by
 intro pins s σ H x y v u Q I rx ry h;obtain⟨l,b,xs,zs,rfl,rfl,hH,hB,hz,q⟩:=h;cases rx;cases ry;obtain⟨z,its,n,r,hl,e⟩:=I.lstM hH;obtain⟨z2,its2,n2,r2,hl2,e2⟩:=I.lstM hB;refine PySem.P.add_list e e2 ?_ (by rw[List.size_toArray,List.size_toArray];omega);have ea:its.toArray++its2.toArray=(its++its2).toArray:=by simp
 rw[ea];exact⟨.ref _,_,I.lnew (t':=s.toks) (r.append r2) (by rw[List.length_append];omega),rfl,q _ I.fresh⟩
def rRep:R2:=fun x y H Q=>∃l k xs,x=.ref l/\y=.int k/\H l=some (.lst xs)/\-(2^63)≤k/\k<2^63/\xs.length*k.toNat≤sizeLine ∧
 ∀p,H p=none->Q (.ref p) (upd H p (.lst (List.replicate k.toNat xs).flatten))
theorem len_rep{α:Type}(xs:List α)(k:Nat):(List.replicate k xs).flatten.length=k*xs.length:=by
 induction k with
 |zero=>simp
 |succ k ih=>rw[List.replicate_succ,List.flatten_cons,List.length_append,ih,Nat.succ_mul,Nat.add_comm]
theorem qqrz:OpR X (binaryOp .Mult) rRep:=by
 intro pins s σ H x y v u Q I rx ry h;obtain⟨l,k,xs,rfl,rfl,hH,h1,h2,hz,q⟩:=h;cases rx;obtain⟨t,rfl⟩:=ry;obtain⟨z,its,n,r,hl,e⟩:=I.lstM hH;have hlen:its.toArray.size*k.toNat≤sizeLine:=by rw[List.size_toArray,←hl];exact hz
 have hcap:¬its.toArray.size*k.toNat > (2^63-1) / 8:=by
  have:(sizeLine:Nat)≤(2^63-1) / 8:=by decide
  omega
 have hfit:¬(!Builtin.List.listFitsIndex k)=true:=by
  rw[fitsIndex_both h1 h2];exact Bool.false_ne_true
 have hlong:¬Builtin.List.listTooLong (its.toArray.size*k.toNat)=true:=by
  rw[notLongL hlen];exact Bool.false_ne_true
 have hnew:List.foldl (fun x1 x2=>x1++x2) #[] (List.replicate (if its.toArray.isEmpty=true then 0 else k.toNat) its.toArray)=(List.replicate k.toNat its).flatten.toArray:=by
  have f0:∀m:Nat,List.foldl (fun x1 x2=>x1++x2) #[] (List.replicate m its.toArray)=(List.replicate m its).flatten.toArray:=fun m=>by
   have:=foldl_rep its m [];rw[List.nil_append] at this;exact this
  rw[f0];cases its with
  |nil=>simp
  |cons a r'=>rw[if_neg (by simp)]
 refine wpAny_binaryOp_repeat_ref (T:="list") (U:="int") (by decide) ⟨_,e,rfl⟩ (fun s'=>typeIs_int s' k t) noFill_list_mul F.fills_int_mul F.slot_int_rmul repeat_list F.slot_int_index.lookup
  (call_meets F.slot_int_rmul (typeIs_int s k t) F.entry_int_rmul (F.args_int_rmul_2 _ _) (int___rmul___int_list k t l its.toArray n)
   ⟨e,rfl,⟨_,e,rfl⟩,call_meets F.slot_list_mul ⟨_,e,rfl⟩ F.entry_list_mul (F.args_list_mul_2 _ _) (AutoListH.list___mul___list_int_3 l its.toArray n k t hfit hcap hlong) ⟨e,?_⟩⟩)
 rw[hnew];exact⟨.ref _,_,I.lnew (t':=s.toks) (r.rep k.toNat) (by rw[len_rep,Nat.mul_comm];exact hz),rfl,q _ I.fresh⟩
end
end L2
namespace Att
open PySem PySem.W PySem.Calls PyProof.Rows
theorem qqsz{P:Params}{h:Heap}:∀(ns:List Int) (vs:List Value),WellAll P h vs (ns.map WData.int)->IntsAre vs ns:=by
 intro ns
 induction ns with
 |nil=>
  intro vs w;rw[List.map_nil] at w;cases w;exact .nil
 |cons n ns ih=>
  intro vs w;rw[List.map_cons] at w;cases w with
  |cons a b=>
   cases a;exact .cons _ _ (ih _ b)
theorem qqtz{l:OpenLaw}{n:Nat}(hn:l.most=some n){P:Params}{h:Heap}{args:List WData}{vals:List Value}
  (hpre:l.row.toRowW.claim.pre args=true) (hwl:WellAll P h vals args):
  ∃a vs ns,vals=[Value.ref a]/\args=[WData.list (ns.map WData.int)]/\h.get? a=some { cls:=.type "list",data:=.seq vs.toArray }/\IntsAre vs ns/\ns.length≤n:=by
 have hsh:WShape.hasAll [] args [.list .int]=true:=(pre_splitW hpre).1;have hc:l.pre.holds [] { args:=args }=true:=(pre_splitW hpre).2;obtain⟨d,r,rfl,h1,h2⟩:=hasAllW_cons hsh;obtain rfl:=hasAllW_nil h2;obtain⟨xs,rfl,h3⟩:=hasW_list h1;obtain⟨ns,rfl⟩:=items_int h3;have hlen:ns.length≤n:=by
  unfold OpenLaw.pre at hc;have h4:(WTm.not (.lt (.lit (.int (n:Int))) (.len (.arg 0)))).holds [] { args:=[.list (ns.map .int)]}=true:=by
   have h4:=(holds_andW hc).1;rw[hn] at h4;exact h4
  have h5:=condW_of h4 (w_not (w_lt w_lit (w_len_list (w_arg rfl))));rw[List.length_map] at h5;refine Nat.le_of_not_lt fun q=>?_;have q':(n:Int)<((ns.length:Nat):Int):=by omega
  first
   | (rw[decide_eq_true q'] at h5;exact absurd h5 (by decide))
   | (simp at h5;omega)
 cases hwl with
 |cons w1 w2=>
  cases w2;cases w1 with
  |list ho hall=>exact⟨_,_,ns,rfl,rfl,ho,qqsz ns _ hall,hlen⟩
theorem qquz(l:OpenLaw)(args:List WData):l.row.toRowW.claim.post args (.bool true) args=true:=
 postW_of (r:=l.row.toRowW) (X:=(true==true))
  (show WShape.has [] (.bool true) .bool=true by first|rfl|decide|simp[WShape.has,WShape.arms,WShape.armsAll])
  (show (WTm.eq .res (.lit (.bool true))).value [] { args:=args,res:=some (.bool true),after:=args }=some (.bool (true==true)) from w_eq_bool (w_res rfl) w_lit) rfl
theorem attach_call{l:OpenLaw}{n:Nat}{q:Program}{loose:List Str}{XP:(Str->Option Value)->Heap->Prop}{YP:World->Heap->Prop}{d:DefRec}
  (hn:l.most=some n) (hdf:d.params.defaults=[])
  (call:∀(w:World) (s₀ s₁:Shared) (mg mb:Str->Option Value) (fa:Addr) (o:Obj) (pm cd doc:Value) (a:Addr) (vs:List Value) (ns:List Int),
   Ground q loose [] XP w s₀ mg mb s₁.heap->YP w s₁.heap ->
   s₁.heap.get? fa=some o->o.data=.func (docDef d.name d.params d.body d.scope pm cd doc)->s₁.heap.CodeRec cd d.name->mg d.name=some (.ref fa) ->
   s₁.heap.get? a=some { cls:=.type "list",data:=.seq vs.toArray }->IntsAre vs ns->ns.length≤n->s₁.gens = #[] ->
   codeAny (model l.prog w) callerA (.call (.ref fa) ⟨[.ref a],[]⟩) (fun r s'=>r=.ok (.ret (.bool true))/\OldK s₁.heap s'.heap/\s'.os=s₁.os/\AllBare s'.gens) s₁):
  WalkO q loose XP YP l.row.toRowW d [] (fun f vs=>PySem.call f vs):=by
 intro w s₀ s₁ mg mb G Y fa o pm cd doc dV kV ho hd hcd hD hmg hg args vals as hpre hlay hrd hwl hlo;obtain rfl:dV=.none:=Dflts.none hD hdf;obtain rfl:kV=.none:=Dflts.noKw hD;obtain⟨a,vs,ns,rfl,rfl,hobj,hints,hlen⟩:=qqtz hn hpre hwl;refine enter_call (codeAny_mono (call w s₀ s₁ mg mb fa o pm cd doc a vs ns G Y ho (fd_plain hd) hcd hmg hobj hints hlen hg) fun r s' hq=>?_);obtain⟨rfl,h2,h3,h4⟩:=hq;exact⟨.inl ⟨.bool true,.bool true,[],rfl,fun _=>rfl,.bool true,qquz l _,fun _=>⟨List.Pairwise.nil,fun _ hm=>(nomatch hm)⟩⟩,h2,h3,h4⟩
end Att
namespace L2
open PySem PySem.Spec PyProof.Rows
theorem qizz:∀{vs:List Value} {ns:List Int},IntsAre vs ns->Vals (ns.map V.int) vs
 |_,_,.nil=>.nil
 |_,_,.cons n t h=>.cons ⟨t,rfl⟩ (qizz h)
def Only(H:Hp):Prop:=∀b,H b=none∨∃o xs,H b=some (.frz o (.lst xs))
theorem qqvz{P:Program}{w:World}{K:PySem.W.Frag}{mg mb:Str->Option Value}{CX:CXT}{k:Nat}{fa a:Addr}{fd:FuncData}{x:Str}{sp:Sp}{s₁:Shared}{vs:List Value}{ns:List Int}
  (KX:K.In s₁.heap) (hns:s₁.heap.Ns mainGlobals mg) (hb:s₁.heap.Ns builtinsNs mb) (hbb:∀x:Str,x≠"__name__"->mb x=bootBuiltins x) (hlim:s₁.heap.NoLimit) (hg:s₁.gens = #[])
  (ha:s₁.heap.get? a=some { cls:=.type "list",data:=.seq vs.toArray }) (hi:IntsAre vs ns) (hl:ns.length≤sizeLine) (hr:Room k callerA)
  (F:∀base:Heap,K.In base->base.Ns mainGlobals mg->FnOk P w K mg base CX k fa fd [x] sp) (hbind:∀(s:Shared) (u:Value),BindsTo s fd ⟨[u],[]⟩ [(x,u)])
  (hsp:∀H:Hp,Only H->SqL K H a (ns.map V.int)->sp [.ref a] H (fun v _=>v=.bl true) fun _ _ _=>False)
  (hCX:∀H e s',CX [] H s₁ (fun _ _ _=>False) e s'->False):
  codeAny (model P w) callerA (.call (.ref fa) ⟨[.ref a],[]⟩) (fun r s'=>r=.ok (.ret (.bool true))/\OldK s₁.heap s'.heap/\s'.os=s₁.os/\AllBare s'.gens) s₁:=by
 have rv:=qizz hi;have lenV:=hi.length
 -- from an abstract heap in which nothing but the script may be tracked
 have core:∀H:Hp,Only H->SqL K H a (ns.map V.int)->HOk P w H s₁.heap->(∀b,H b≠none->b=a)->(H a≠none->K.lookup a=none) ->
   codeAny (model P w) callerA (.call (.ref fa) ⟨[.ref a],[]⟩) (fun r s'=>r=.ok (.ret (.bool true))/\OldK s₁.heap s'.heap/\s'.os=s₁.os/\AllBare s'.gens) s₁:=by
  intro H hO hS hok hA hK;have base_of:∀{b:Addr} {o:Obj},s₁.heap.get? b=some o->H b=none->(hidT s₁.heap H).get? b=some o:=fun e n=>qojz e n;have noA:∀{b:Addr} {o:Obj} {es:Array DictEntry} {ep:Nat},s₁.heap.get? b=some o->o.data=.dict es ep->H b=none:=fun {b o es ep} e d=>by
   cases q:H b with
   |none=>rfl
   |some u=>
    have e':b=a:=hA b (by rw[q];simp);subst e';rw[ha] at e;cases e;have d':Data.seq vs.toArray _=Data.dict es ep:=d;cases d'
  have nsK:∀{b:Addr} {m:Str->Option Value},s₁.heap.Ns b m->(hidT s₁.heap H).Ns b m:=fun {b m} ⟨o,es,ep,e,d,r⟩=>⟨o,es,ep,base_of e (noA e d),d,r⟩;have hKb:K.In (hidT s₁.heap H):=fun b o e=>base_of (KX b o e) (by
   cases q:H b with
   |none=>rfl
   |some u=>
    have e':b=a:=hA b (by rw[q];simp);subst e';rw[hK (by rw[q];simp)] at e;cases e)
  have hM:Mod K mg (hidT s₁.heap H):=⟨hKb,nsK hns,⟨mb,nsK hb,hbb⟩,let ⟨mc,h1,h2⟩:=hlim;⟨mc,nsK h1,h2⟩⟩
  have e0:Env0 P w K mg (hidT s₁.heap H) callerA [] s₁ H:=⟨rfl,hM,fun b o e=>qokz e,Nat.le_of_eq (qoiz _ _),trivial,fun b hb=>absurd (show b∈([]:List Addr) from hb) (by simp),hok,.of_eq hg⟩;refine codeAny_mono ((F _ hKb (nsK hns)).run callerA [] s₁ H ⟨[.ref a],[]⟩ [.ref a] [.ref a] _ _ hr e0 (hbind s₁ (.ref a)) (.cons rfl .nil) (hsp H hO hS)) fun r s' h=>?_;cases r with
  |error e=>exact (hCX H e s' h).elim
  |ok fl=>
   cases fl with
   |next=>exact False.elim h
   |brk=>exact False.elim h
   |cont=>exact False.elim h
   |ret u=>
    obtain⟨v,H',os,bare,un,hok',r',q⟩:=h;have q':v=.bl true:=q;subst q';obtain rfl:u=Value.bool true:=r';refine⟨rfl,OldK.of_keep fun b o e=>?_,os,bare⟩;cases q:H b with
    |none=>exact un.keep b o e q (by intro z;exact absurd (show b∈([]:List Addr) from z) (by simp)) (by simp)
    |some u=>
     rcases hO b with z|⟨ob,xs,z⟩
     ·rw[q] at z;cases z
     ·have z2:=un.frzs b ob _ z;obtain⟨e1,_⟩:=hok b _ z;obtain⟨e2,_⟩:=hok' b _ z2;rw[e] at e1;cases e1;exact e2
 cases hk:K.lookup a with
 |some o=>
  -- the script is one of the module's own objects
  have e:=KX a o hk;rw[ha] at e;cases e;refine core (fun _=>none) (fun _=>.inl rfl) (.inr ⟨_,vs.toArray,_,hk,rfl,rfl,rfl,by rw[List.size_toArray,lenV];exact hl,by simpa using rv⟩) (fun b u z=>by have z':(none:Option HO)=some u:=z;cases z') (fun b z=>absurd rfl z) fun z=>absurd rfl z
 |none=>
  refine core (fun b=>if b=a then some (.frz { cls:=.type "list",data:=.seq vs.toArray } (.lst (ns.map V.int))) else none) (fun b=>?_) (.inl (.inr ⟨{ cls:=.type "list",data:=.seq vs.toArray },if_pos rfl⟩)) (fun b u z=>?_) (fun b z=>?_) fun _=>hk
  ·by_cases hb:b=a
   ·exact .inr ⟨_,_,if_pos hb⟩
   ·exact .inl (if_neg hb)
  ·by_cases hb:b=a
   ·have z':=(if_pos hb).symm.trans z;cases z';subst hb;exact⟨ha,by rw[List.length_map];exact hl,vs,_,rv,ha⟩
   ·have z':=(if_neg hb).symm.trans z;cases z'
  ·by_cases hb:b=a
   ·exact hb
   ·exact absurd (if_neg hb) z
end L2
namespace L2
open PySem PySem.Spec PyProof.Rows
theorem walk_of{l:PySem.W.OpenLaw}{n k:Nat}{q:Program}{loose:List Str}{XP:(Str->Option Value)->Heap->Prop}{YP:World->Heap->Prop}{d:DefRec}{K:Params->PySem.W.Frag}{CX:World->CXT}{sp:World->Sp}{x:Str}
  (hn:l.most=some n) (hn2:n≤sizeLine) (hdf:d.params.defaults=[]) (hr:Room k callerA)
  (hY:∀(w:World) (h:Heap),YP w h->(K w.params).In h)
  (F:∀(w:World) (mg:Str->Option Value) (fa:Addr) (h:Heap),(K w.params).In h->h.Ns mainGlobals mg->mg d.name=some (.ref fa) ->
   ∃fd:FuncData,(∀(s:Shared) (u:Value),BindsTo s fd ⟨[u],[]⟩ [(x,u)]) ∧
    ∀base:Heap,(K w.params).In base->base.Ns mainGlobals mg->FnOk l.prog w (K w.params) mg base (CX w) k fa fd [x] (sp w))
  (hsp:∀(w:World) (H:Hp) (a:Addr) (ns:List Int),ns.length≤n->Only H->SqL (K w.params) H a (ns.map V.int)->sp w [.ref a] H (fun v _=>v=.bl true) fun _ _ _=>False)
  (hCX:∀(w:World) (H:Hp) (s:Shared) (e:Value) (s':Shared),CX w [] H s (fun _ _ _=>False) e s'->False):
  PySem.W.WalkO q loose XP YP l.row.toRowW d [] (fun f vs=>PySem.call f vs):=by
 refine Att.attach_call hn hdf fun w s₀ s₁ mg mb fa o pm cd doc a vs ns G Y ho hd hcd hmg hobj hints hlen hg=>?_;have KX:=hY w _ Y;obtain⟨fd,hb,hF⟩:=F w mg fa _ KX G.T.g hmg;exact qqvz KX G.T.g G.T.b G.T.builtins G.T.nolimit hg hobj hints (Nat.le_trans hlen hn2) hr hF hb (fun H hO hS=>hsp w H a ns hlen hO hS) fun H e s'=>hCX w H s₁ e s'
end L2
/- THE LAST THEOREM (shape;LID,My.* are yours):
  My.Adr: a structure of the addresses that your layer names (classes,functions);My.Txt K t: a structure (Prop) of the equations over K;
  My.txt_mk:{K} {implicit addresses ..} (e1:nsIn K mainGlobals "law" = some (some (.ref f))) (e2:K.lookup f=some ⟨oc,od,.func (fnOf "law" "law" params body scope dV kV doc pm an cdv ct),sl⟩) (e3:codeIn K cdv "law" = true) ..:∃t,My.Txt K t
set_option maxRecDepth 100000 in
set_option maxHeartbeats 0 in
theorem PySem.Challenge.cw_LID_holds : PySem.Challenge.rw_LID.Holds := by
 w_on;o_law;k_head;(case hw=>w_witness2)
 k_fill
 refine L2.walk_of (l:=PySem.Challenge.rw_LID) (n:=63) (k:=40) (x:="script") (CX:=fun w=>..) (sp:=fun _=>My.sp_law) rfl (by decide) rfl ⟨rfl,by decide,by decide⟩ (fun w h Y=>PySem.W.kIn_of Y) ?F ?S ?C
 case F=>
  intro w mg fa h KX G hmg
  have T:∃t,My.Txt (L2.KOf KX) t:=by
   dsimp only[L2.KOf]                          -- K must stand as «<heap const> w.params» for k_is
   refine' My.txt_mk ?e1 ?e2 ?e3 ..
   (case e1=>PySem.W.k_is)                    -- in the order: a name -> its address -> its object -> its parts
   (case e2=>PySem.W.k_is)
   ..
  obtain⟨t,T⟩:=T
  have e0:=hmg.symm.trans (PySem.W.mg_of KX G T.law)
  cases e0                                       -- fa is the law's own address
  exact⟨_,fun s u=>.of_eq rfl,fun base kb nb=>My.law_fn T kb nb⟩     -- if «.of_eq rfl» comes too early: refine' ⟨_,?b,fun base kb nb=>My.law_fn T kb nb⟩;exact fun s u=>.of_eq rfl
 case S=>exact fun w H a ns hl hO hS=>..
 case C=>exact ..
(the tactic k_is has no namespace: write k_is) -/
namespace L2
open PySem PySem.Spec PyProof.Rows
def defArgs(s:Stmt):Arguments:=match s with
 |.FunctionDef _ a _ _ _ _ _ _ _ _=>a
 |_=>{ posonlyargs:=[],args:=[],vararg:=none,kwonlyargs:=[],kw_defaults:=[],kwarg:=none,defaults:=[]}
def defBody(s:Stmt):List Stmt:=match s with
 |.FunctionDef _ _ b _ _ _ _ _ _ _=>b
 |_=>[]
def defScope(s:Stmt):Scope:=match s with
 |.FunctionDef _ _ _ _ _ _ sc _ _ _=>sc
 |_=>{ kind:=.function,names:=[],isGenerator:=false,isCoroutine:=false }
abbrev CX0:CXT:=fun _ _ _ _ _ _=>False
abbrev E0:XK:=fun _ _ _=>False
theorem pass0{X:Cx}:Passes CX0 X E0:=fun _ _ _ _ _ _ _ h=>h.elim
structure Fun(K:PySem.W.Frag)(x qual:Str)(st:Stmt)(f:Addr)(fd:FuncData):Prop where
 ex:∃(oc:Value) (od:Option Addr) (kV doc pm:Value) (an:Option Addr) (cdv ct:Value) (osl:Array (Option Value)),
  fd=PySem.W.fnOf x qual (defArgs st) (defBody st) (defScope st) .none kV doc pm an cdv ct/\K.lookup f=some ⟨oc,od,.func fd,osl⟩/\PySem.W.codeIn K cdv qual=true
 kp:PySem.W.keepIn K (.ref f)=true
section
variable {P:Program} {w:World} {K:PySem.W.Frag} {mg:Str->Option Value} {base:Heap}
theorem Fun.ok{x qual:Str}{st:Stmt}{f:Addr}{fd:FuncData}{N ps:List Str}{k:Nat}{sp:Sp}(F:Fun K x qual st f fd)(S:FnScope N ps (defScope st))(len:∀vs H Q E,sp vs H Q E->vs.length=ps.length)
  (hbody:∀(cdv:Value) (A:Around) (outer:List Env) (s:Shared) (H:Hp) (vs:List V) (Q:VK) (E:XK),Room k (A.deeper (envOfC qual (defScope st) s.heap.objs.size f cdv))->sp vs H Q E ->
   ∃t,PSs (cxOf CX0 P w K mg base N qual (defScope st) f cdv A outer s H E).nox (defBody st) t/\t { nx:=fun _ H'=>Q .non H',rt:=Q } (start N vs) H):FnOk P w K mg base CX0 (k+1) f fd ps sp:=by
 obtain⟨oc,od,kV,doc,pm,an,cdv,ct,osl,rfl,lk,hcd⟩:=F.ex;refine qp1z lk hcd S len fun A outer s H vs Q E hr hsp=>?_;obtain⟨t,h,q⟩:=hbody cdv A outer s H vs Q E hr hsp;exact⟨t,h.nox,q⟩
theorem Fun.binds{x qual:Str}{st:Stmt}{f:Addr}{fd:FuncData}{ps:List Str}(F:Fun K x qual st f fd)
  (h:∀(kV doc pm:Value) (an:Option Addr) (cdv ct:Value) (us:List Value),us.length=ps.length->bindArgs (PySem.W.fnOf x qual (defArgs st) (defBody st) (defScope st) .none kV doc pm an cdv ct) ⟨us,[]⟩=pure (ps.zip us)):Binds K fd ps []:=by
 obtain⟨oc,od,kV,doc,pm,an,cdv,ct,osl,rfl,lk,hcd⟩:=F.ex;exact .all (h kV doc pm an cdv ct)
theorem qqwz{x qual:Str}{st:Stmt}{f:Addr}{oc:Value}{od an:Option Addr}{osl:Array (Option Value)}{kV doc pm cdv ct:Value}(l:K.lookup f=some ⟨oc,od,.func (PySem.W.fnOf x qual (defArgs st) (defBody st) (defScope st) .none kV doc pm an cdv ct),osl⟩)
  (c:PySem.W.codeIn K cdv qual=true) (k:PySem.W.keepIn K (.ref f)=true):Fun K x qual st f (PySem.W.fnOf x qual (defArgs st) (defBody st) (defScope st) .none kV doc pm an cdv ct):=⟨⟨oc,od,kV,doc,pm,an,cdv,ct,osl,rfl,l,c⟩,k⟩
end
section
variable {X:Cx}
theorem pv(i:Nat){x:Str}{pos:Pos}(hN:X.N[i]?=some x:=by rfl)(hv:Vis X.env.scope x:=by first|exact Or.inl rfl|exact Or.inr (Or.inl rfl)|exact Or.inr (Or.inr rfl))(hd:(x==("__debug__":Str))=false:=by decide)
  (hcd:(x==("__classdict__":Str))=false:=by decide):PE X (.Name x pos) (tVar i):=qolz hN hv hd hcd
end
end L2
namespace L3
open PySem PySem.Spec PyProof.Rows L2
inductive D where
 |non|bl (b:Bool)|int (i:Int)|str (x:Str)|tup (xs:List D)|scr (xs:List D)|obj (a:Addr)|dc (a:Addr)
def SqF(K:PySem.W.Frag)(H:Hp)(a:Addr)(xs:List V):Prop:=
 (∃o,H a=some (.frz o (.lst xs))) ∨
  ∃(o:Obj) (its:Array Value) (n:Nat),K.lookup a=some o/\o.cls=.type "list"/\o.dict=none/\o.data=.seq its n/\its.size≤sizeLine/\Vals xs its.toList
theorem SqF.l{K:PySem.W.Frag}{H:Hp}{a:Addr}{xs:List V}(h:SqF K H a xs):SqL K H a xs:=by
 rcases h with h|h
 ·exact .inl (.inr h)
 ·exact .inr h
mutual
def Hv(K:PySem.W.Frag)(H:Hp):D->V->Prop
 |.non,v=>v=.non
 |.bl b,v=>v=.bl b
 |.int i,v=>v=.int i
 |.str x,v=>v=.str x
 |.tup ds,v=>∃a vs,v=.ref a/\SqT K H a vs/\Hvs K H ds vs
 |.scr ds,v=>∃a vs,v=.ref a/\SqF K H a vs/\Hvs K H ds vs
 |.obj a,v=>v=.ref a
 |.dc a,v=>v=.ref a/\∃ob φ,H a=some (.frz ob (.ext φ))/\ob.cls=.type "dict"
def Hvs(K:PySem.W.Frag)(H:Hp):List D->List V->Prop
 |[],vs=>vs=[]
 |d::ds,vs=>∃v r,vs=v::r/\Hv K H d v/\Hvs K H ds r
end
inductive GO where
 |lst (ds:List D)|pen|dct
 |gen (R:PySem.W.Frag->Addr->Hp->Prop)
def GO.plain:GO->Prop
 |.gen _=>False
 |_=>True
abbrev Gp:=Addr->Option GO
def upd3(G:Gp)(a:Addr)(o:GO):Gp:=fun b=>if b=a then some o else G b
theorem q8z{G:Gp}{a:Addr}{o:GO}:upd3 G a o a=some o:=by simp[upd3]
theorem qadz{G:Gp}{a b:Addr}{o:GO}(h:b≠a):upd3 G a o b=G b:=by simp[upd3,h]
theorem qqxz{G:Gp}{a b:Addr}{o u:GO}(hn:G a=none)(h:G b=some u):upd3 G a o b=some u:=by
 rw[qadz]
 ·exact h
 ·intro e;rw[e,hn] at h;cases h
theorem qqyz{G:Gp}{a:Addr}{o u:GO}:upd3 (upd3 G a o) a u=upd3 G a u:=by
 funext b;unfold upd3;by_cases h:b=a
 ·rw[if_pos h,if_pos h]
 ·rw[if_neg h,if_neg h,if_neg h]
def PenOk(a b c:Int):Prop:=0≤a/\0≤c/\c<2147483647
def GOk(K:PySem.W.Frag)(H:Hp)(a:Addr):GO->Prop
 |.lst ds=>∃vs,H a=some (.lst vs)/\Hvs K H ds vs
 |.pen=>∃i j k,H a=some (.lst [.int i,.int j,.int k])/\PenOk i j k
 |.dct=>H a=some (.ext fun h=>∃o,h.get? a=some o/\o.cls=.type "dict")
 |.gen R=>R K a H/\(∃o,H a=some o/\(∀xs,o≠.tup xs)/\∀ob u,o≠.frz ob u)/\∀H1 H2:Hp,(∀b xs,H1 b=some (.tup xs)->H2 b=some (.tup xs))->(∀b o u,H1 b=some (.frz o u)->H2 b=some (.frz o u))->H2 a=H1 a->R K a H1->R K a H2
def RepG(K:PySem.W.Frag)(G:Gp)(H:Hp):Prop:=∀a o,G a=some o->GOk K H a o
structure Ext(H H':Hp):Prop where
 tup:∀b xs,H b=some (.tup xs)->H' b=some (.tup xs)
 frz:∀b o u,H b=some (.frz o u)->H' b=some (.frz o u)
theorem Ext.refl(H:Hp):Ext H H:=⟨fun _ _ h=>h,fun _ _ _ h=>h⟩
theorem Ext.trans{H H1 H2:Hp}(a:Ext H H1)(b:Ext H1 H2):Ext H H2:=⟨fun c x h=>b.tup c x (a.tup c x h),fun c o u h=>b.frz c o u (a.frz c o u h)⟩
structure Step(H:Hp)(G:Gp)(H':Hp)(G':Gp):Prop where
 fr:∀a o,H a=some o->G a=none->H' a=some o
 trk:∀a,H a≠none->H' a≠none
 new:∀a,G a=none->G' a≠none->H a=none
theorem Step.refl(H:Hp)(G:Gp):Step H G H G:=⟨fun _ _ h _=>h,fun _ h=>h,fun _ h1 h2=>absurd h1 h2⟩
theorem Step.trans{H H1 H2:Hp}{G G1 G2:Gp}(a:Step H G H1 G1)(b:Step H1 G1 H2 G2):Step H G H2 G2 where
 fr:=fun c o h n=>b.fr c o (a.fr c o h n) (by
  refine Classical.byContradiction fun q=>?_;rw[a.new c n q] at h;cases h)
 trk:=fun c h=>b.trk c (a.trk c h)
 new:=fun c n q=>by
  by_cases h1:G1 c=none
  ·have h2:=b.new c h1 q;refine Classical.byContradiction fun z=>?_;exact a.trk c z h2
  ·exact a.new c n h1
def Sub(G' G:Gp):Prop:=∀a o,G' a=some o->G a=some o
theorem Sub.refl(G:Gp):Sub G G:=fun _ _ h=>h
theorem Sub.trans{A B C:Gp}(a:Sub A B)(b:Sub B C):Sub A C:=fun x o h=>b x o (a x o h)
theorem Sub.upd{G:Gp}{a:Addr}{o:GO}(h:G a=none):Sub G (upd3 G a o):=fun _ _ e=>qqxz h e
theorem Sub.of_none{G' G:Gp}(s:Sub G' G){a:Addr}(h:G a=none):G' a=none:=by
 cases e:G' a with
 |none=>rfl
 |some o=>
  rw[s a o e] at h;cases h
structure New(G:Gp)(p:Addr)(o:GO)(G':Gp):Prop where
 non:G p=none
 sub:Sub G G'
 at_:G' p=some o
theorem New.mk'{G:Gp}{p:Addr}{o:GO}(h:G p=none):New G p o (upd3 G p o):=⟨h,Sub.upd h,q8z⟩
theorem Step.sub{H:Hp}{G G':Gp}(s:Sub G' G):Step H G H G':=⟨fun _ _ h _=>h,fun _ h=>h,fun a n q=>by
 exact absurd (s.of_none n) q⟩
section
variable {K:PySem.W.Frag} {H H':Hp} {G G':Gp}
theorem RepG.sub(R:RepG K G H)(s:Sub G' G):RepG K G' H:=fun a o e=>R a o (s a o e)
theorem GOk.mut{a:Addr}{o:GO}(h:GOk K H a o):∃o,H a=some o/\(∀xs,o≠.tup xs)/\∀ob u,o≠.frz ob u:=by
 cases o with
 |lst ds=>obtain⟨vs,e,_⟩:=h;exact⟨_,e,fun _=>nofun,fun _ _=>nofun⟩
 |pen=>obtain⟨i,j,k,e,_⟩:=h;exact⟨_,e,fun _=>nofun,fun _ _=>nofun⟩
 |dct=>exact⟨_,h,fun _=>nofun,fun _ _=>nofun⟩
 |gen R=>exact h.2.1
theorem RepG.outT(R:RepG K G H){a:Addr}{xs:List V}(e:H a=some (.tup xs)):G a=none:=by
 cases q:G a with
 |none=>rfl
 |some u=>
  obtain⟨o,z,h1,_⟩:=(R a u q).mut;rw[e] at z;exact absurd (Option.some.inj z).symm (h1 xs)
theorem RepG.outF(R:RepG K G H){a:Addr}{ob:Obj}{u:HO}(e:H a=some (.frz ob u)):G a=none:=by
 cases q:G a with
 |none=>rfl
 |some g=>
  obtain⟨o,z,_,h1⟩:=(R a g q).mut;rw[e] at z;exact absurd (Option.some.inj z).symm (h1 ob u)
theorem RepG.free(R:RepG K G H){a:Addr}(e:H a=none):G a=none:=by
 cases q:G a with
 |none=>rfl
 |some u=>
  obtain⟨o,z,_⟩:=(R a u q).mut;rw[e] at z;cases z
theorem Step.ext(S:Step H G H' G')(R:RepG K G H):Ext H H':=⟨fun b xs h=>S.fr b _ h (R.outT h),fun b o u h=>S.fr b _ h (R.outF h)⟩
theorem SqT.ext{a:Addr}{xs:List V}(E:Ext H H')(h:SqT K H a xs):SqT K H' a xs:=by
 rcases h with (h|⟨o,h⟩)|h
 ·exact .inl (.inl (E.tup _ _ h))
 ·exact .inl (.inr ⟨o,E.frz _ _ _ h⟩)
 ·exact .inr h
theorem SqF.ext{a:Addr}{xs:List V}(E:Ext H H')(h:SqF K H a xs):SqF K H' a xs:=by
 rcases h with⟨o,h⟩|h
 ·exact .inl ⟨o,E.frz _ _ _ h⟩
 ·exact .inr h
mutual
theorem Hv.ext(E:Ext H H'):∀{d:D} {v:V},Hv K H d v->Hv K H' d v
 |.non,_,h=>by simpa [Hv] using h
 |.bl _,_,h=>by simpa [Hv] using h
 |.int _,_,h=>by simpa [Hv] using h
 |.str _,_,h=>by simpa [Hv] using h
 |.obj _,_,h=>by simpa [Hv] using h
 |.dc a,v,h=>by
  unfold Hv at h ⊢;obtain⟨e,ob,φ,q,c⟩:=h;exact⟨e,ob,φ,E.frz _ _ _ q,c⟩
 |.tup ds,v,h=>by
  unfold Hv at h ⊢;obtain⟨a,vs,e,q,r⟩:=h;exact⟨a,vs,e,SqT.ext E q,Hvs.ext E r⟩
 |.scr ds,v,h=>by
  unfold Hv at h ⊢;obtain⟨a,vs,e,q,r⟩:=h;exact⟨a,vs,e,SqF.ext E q,Hvs.ext E r⟩
theorem Hvs.ext(E:Ext H H'):∀{ds:List D} {vs:List V},Hvs K H ds vs->Hvs K H' ds vs
 |[],_,h=>by simpa [Hvs] using h
 |d::ds,vs,h=>by
  unfold Hvs at h ⊢;obtain⟨v,r,e,q,z⟩:=h;exact⟨v,r,e,Hv.ext E q,Hvs.ext E z⟩
end
theorem Hvs.nil:Hvs K H [] []:=by simp[Hvs]
theorem Hvs.cons{d:D}{v:V}{ds:List D}{vs:List V}(h:Hv K H d v)(r:Hvs K H ds vs):Hvs K H (d::ds) (v::vs):=by
 unfold Hvs;exact⟨v,vs,rfl,h,r⟩
theorem Hvs.inv{d:D}{ds:List D}{vs:List V}(h:Hvs K H (d::ds) vs):∃v r,vs=v::r/\Hv K H d v/\Hvs K H ds r:=by
 unfold Hvs at h;exact h
theorem Hvs.inv0{vs:List V}(h:Hvs K H [] vs):vs=[]:=by
 unfold Hvs at h;exact h
theorem Hvs.length:∀{ds:List D} {vs:List V},Hvs K H ds vs->ds.length=vs.length
 |[],_,h=>by rw[h.inv0];rfl
 |d::ds,vs,h=>by
  obtain⟨v,r,rfl,_,q⟩:=h.inv;simp[q.length]
theorem Hvs.get:∀{ds:List D} {vs:List V} {i:Nat} {d:D},Hvs K H ds vs->ds[i]?=some d->∃v,vs[i]?=some v/\Hv K H d v
 |[],_,_,_,_,e=>by simp at e
 |x::ds,vs,0,d,h,e=>by
  obtain⟨v,r,rfl,q,_⟩:=h.inv;simp at e;subst e;exact⟨v,rfl,q⟩
 |x::ds,vs,i+1,d,h,e=>by
  obtain⟨v,r,rfl,_,q⟩:=h.inv;simp at e;obtain⟨u,e2,q2⟩:=q.get e;exact⟨u,by simpa using e2,q2⟩
theorem Hvs.append:∀{ds es:List D} {vs us:List V},Hvs K H ds vs->Hvs K H es us->Hvs K H (ds++es) (vs++us)
 |[],es,_,_,h,q=>by rw[h.inv0];exact q
 |d::ds,es,vs,us,h,q=>by
  obtain⟨v,r,rfl,z,w⟩:=h.inv;exact .cons z (w.append q)
theorem Hvs.drop:∀{ds:List D} {vs:List V} (n:Nat),Hvs K H ds vs->Hvs K H (ds.drop n) (vs.drop n)
 |ds,vs,0,h=>h
 |[],_,n+1,h=>by rw[h.inv0];exact .nil
 |d::ds,vs,n+1,h=>by
  obtain⟨v,r,rfl,_,q⟩:=h.inv;exact q.drop n
theorem Hvs.take:∀{ds:List D} {vs:List V} (n:Nat),Hvs K H ds vs->Hvs K H (ds.take n) (vs.take n)
 |ds,vs,0,h=>by simpa using Hvs.nil
 |[],_,n+1,h=>by rw[h.inv0];exact .nil
 |d::ds,vs,n+1,h=>by
  obtain⟨v,r,rfl,q,z⟩:=h.inv;exact .cons q (z.take n)
theorem Hvs.set:∀{ds:List D} {vs:List V} (i:Nat) {d:D} {v:V},Hvs K H ds vs->Hv K H d v->Hvs K H (ds.set i d) (vs.set i v)
 |[],_,i,d,v,h,_=>by rw[h.inv0];exact .nil
 |x::ds,vs,0,d,v,h,q=>by
  obtain⟨u,r,rfl,_,z⟩:=h.inv;exact .cons q z
 |x::ds,vs,i+1,d,v,h,q=>by
  obtain⟨u,r,rfl,y,z⟩:=h.inv;exact .cons y (z.set i q)
theorem Hvs.erase:∀{ds:List D} {vs:List V} (i:Nat),Hvs K H ds vs->Hvs K H (ds.eraseIdx i) (vs.eraseIdx i)
 |[],_,i,h=>by rw[h.inv0];exact .nil
 |x::ds,vs,0,h=>by
  obtain⟨u,r,rfl,_,z⟩:=h.inv;exact z
 |x::ds,vs,i+1,h=>by
  obtain⟨u,r,rfl,y,z⟩:=h.inv;exact .cons y (z.erase i)
theorem Hvs.rep{ds:List D}{vs:List V}(h:Hvs K H ds vs):∀k:Nat,Hvs K H (List.replicate k ds).flatten (List.replicate k vs).flatten
 |0=>.nil
 |k+1=>by
  simp only[List.replicate_succ,List.flatten_cons];exact h.append (h.rep k)
theorem Hvs.ints:∀(ns:List Int),Hvs K H (ns.map D.int) (ns.map V.int)
 |[]=>.nil
 |n::ns=>.cons (by simp[Hv]) (Hvs.ints ns)
theorem Ext.laid{p:Addr}{o:HO}(h:H p=none):Ext H (upd H p o):=⟨fun b xs e=>by rw[qmz (qajz e h)];exact e,fun b x u e=>by rw[qmz (qajz e h)];exact e⟩
theorem GOk.ext{a:Addr}{o:GO}(h:GOk K H a o)(E:Ext H H')(e:H' a=H a):GOk K H' a o:=by
 cases o with
 |lst ds=>
  obtain⟨vs,z,q⟩:=h;exact⟨vs,e.trans z,q.ext E⟩
 |pen=>
  obtain⟨i,j,k,z,q⟩:=h;exact⟨i,j,k,e.trans z,q⟩
 |dct=>exact e.trans h
 |gen R=>
  obtain⟨h1,h2,h3⟩:=h;exact⟨h3 H H' E.tup E.frz e h1,by rw[e];exact h2,h3⟩
theorem RepG.laid{p:Addr}{o:HO}(R:RepG K G H)(h:H p=none):RepG K G (upd H p o):=fun a u e=>by
 have hne:a≠p:=fun z=>by
  rw[z,R.free h] at e;cases e
 exact (R a u e).ext (Ext.laid h) (qmz hne)
theorem RepG.laidG{p:Addr}{o:HO}{g:GO}(R:RepG K G H)(h:H p=none)(new:GOk K (upd H p o) p g):RepG K (upd3 G p g) (upd H p o):=fun a u e=>by
 by_cases z:a=p
 ·subst z;rw[q8z] at e;cases e;exact new
 ·rw[qadz z] at e;exact (R.laid h) a u e
theorem Step.laid{p:Addr}{o:HO}(h:H p=none):Step H G (upd H p o) G:=⟨fun a u e _=>by rw[qmz (qajz e h)];exact e,fun a q=>by
 by_cases z:a=p
 ·rw[z,quz];simp
 ·rw[qmz z];exact q,fun a n q=>absurd n q⟩
theorem Step.laidG{p:Addr}{o:HO}{g:GO}(h:H p=none):Step H G (upd H p o) (upd3 G p g):=⟨(Step.laid (G:=G) h).fr,(Step.laid (G:=G) h).trk,fun a n q=>by
 by_cases z:a=p
 ·rw[z];exact h
 ·rw[qadz z] at q;exact absurd n q⟩
theorem qqzz{p b:Addr}{xs ys:List V}(h:H p=some (.lst xs))(e:H b=some (.tup ys)):b≠p:=fun z=>by
 rw[z,h] at e;cases e
theorem qq0z{p b:Addr}{xs:List V}{o:Obj}{u:HO}(h:H p=some (.lst xs))(e:H b=some (.frz o u)):b≠p:=fun z=>by
 rw[z,h] at e;cases e
theorem Ext.wrote{p:Addr}{xs:List V}{o:HO}(h:H p=some (.lst xs)):Ext H (upd H p o):=
 ⟨fun b ys e=>by rw[qmz (qqzz h e)];exact e,fun b x u e=>by rw[qmz (qq0z h e)];exact e⟩
theorem RepG.wrote{p:Addr}{xs:List V}{o:HO}{g:GO}(R:RepG K G H)(h:H p=some (.lst xs))(new:GOk K (upd H p o) p g):RepG K (upd3 G p g) (upd H p o):=fun a u e=>by
 by_cases z:a=p
 ·subst z;rw[q8z] at e;cases e;exact new
 ·rw[qadz z] at e;exact (R a u e).ext (Ext.wrote h) (qmz z)
theorem RepG.newL{p:Addr}{xs:List V}{ds:List D}(R:RepG K G H)(h:H p=none)(hv:Hvs K H ds xs):RepG K (upd3 G p (.lst ds)) (upd H p (.lst xs)):=R.laidG h ⟨xs,quz,hv.ext (.laid h)⟩
theorem RepG.wroteL{p:Addr}{xs ys:List V}{ds:List D}(R:RepG K G H)(e:H p=some (.lst xs))(hv:Hvs K H ds ys):RepG K (upd3 G p (.lst ds)) (upd H p (.lst ys)):=R.wrote e ⟨ys,quz,hv.ext (.wrote e)⟩
theorem Step.wrote{p:Addr}{o:HO}{g u:GO}(h:G p=some u):Step H G (upd H p o) (upd3 G p g):=⟨fun a x e n=>by
 have hne:a≠p:=fun z=>by
  rw[z,h] at n;cases n
 rw[qmz hne];exact e,fun a q=>by
 by_cases z:a=p
 ·rw[z,quz];simp
 ·rw[qmz z];exact q,fun a n q=>by
 have hne:a≠p:=fun z=>by
  rw[z,h] at n;cases n
 rw[qadz hne] at q;exact absurd n q⟩
end
abbrev S3:=List (Option D)
def at3:S3->Nat->Option D
 |[],_=>none
 |x::_,0=>x
 |_::r,n+1=>at3 r n
def set3:S3->Nat->D->S3
 |[],_,_=>[]
 |_::r,0,d=>some d::r
 |x::r,n+1,d=>x::set3 r n d
structure RepS(K:PySem.W.Frag)(τ:S3)(σ:L2.St)(H:Hp):Prop where
 len:τ.length=σ.length
 at_:∀(i:Nat) d,at3 τ i=some d->∃v,σ[i]?=some (some v)/\Hv K H d v
theorem qi0z:∀(τ:S3) (i:Nat) (d:D),(set3 τ i d).length=τ.length
 |[],_,_=>rfl
 |_::r,0,d=>rfl
 |x::r,n+1,d=>by simp[set3,qi0z r n d]
theorem qi1z:∀(τ:S3) (i j:Nat) (d:D),at3 (set3 τ i d) j=if j=i/\i<τ.length then some d else at3 τ j
 |[],i,j,d=>by simp[set3,at3]
 |x::r,0,0,d=>by simp[set3,at3]
 |x::r,0,j+1,d=>by simp[set3,at3]
 |x::r,i+1,0,d=>by simp[set3,at3]
 |x::r,i+1,j+1,d=>by
  simp only[set3,at3,qi1z r i j d,List.length_cons];by_cases h:j=i/\i<r.length
  ·rw[if_pos h,if_pos (by omega)]
  ·rw[if_neg h,if_neg (by omega)]
section
variable {K:PySem.W.Frag} {τ:S3} {σ:L2.St} {H H':Hp}
theorem RepS.ext(R:RepS K τ σ H)(E:Ext H H'):RepS K τ σ H':=⟨R.len,fun i d h=>by
 obtain⟨v,e,q⟩:=R.at_ i d h;exact⟨v,e,q.ext E⟩⟩
theorem RepS.set(R:RepS K τ σ H){i:Nat}{d:D}{v:V}(h:Hv K H d v):RepS K (set3 τ i d) (σ.set i (some v)) H:=⟨by rw[qi0z,List.length_set];exact R.len,fun j e q=>by
 rw[qi1z] at q;by_cases c:j=i/\i<τ.length
 ·rw[if_pos c] at q;cases q;refine⟨v,?_,h⟩;rw[c.1,List.getElem?_set_self (by rw[←R.len];exact c.2)]
 ·rw[if_neg c] at q;obtain⟨u,e1,e2⟩:=R.at_ j e q;refine⟨u,?_,e2⟩;by_cases hij:i=j
  ·subst hij;have:σ.length≤i:=by
    have:=R.len;have:¬i<τ.length:=fun z=>c ⟨rfl,z⟩;omega
   rw[List.getElem?_eq_none_iff.mpr this] at e1;cases e1
  ·rw[List.getElem?_set_ne hij];exact e1⟩
end
def start3:List Str->List D->S3
 |[],_=>[]
 |_::N,[]=>none::start3 N []
 |_::N,d::ds=>some d::start3 N ds
theorem qfwz:∀(N:List Str) (ds:List D),(start3 N ds).length=N.length
 |[],_=>rfl
 |_::N,[]=>by simp[start3,qfwz N []]
 |_::N,d::ds=>by simp[start3,qfwz N ds]
theorem qi2z:∀(N:List Str) (i:Nat),at3 (start3 N []) i=none
 |[],i=>rfl
 |_::N,0=>rfl
 |_::N,i+1=>qi2z N i
theorem qi3z:∀(N:List Str) (ds:List D) (i:Nat) (d:D),at3 (start3 N ds) i=some d->ds[i]?=some d
 |[],_,_,_,h=>by cases h
 |_::N,[],i,d,h=>by
  rw[qi2z] at h;cases h
 |_::N,x::ds,0,d,h=>by
  simp only[start3,at3] at h;simpa using h
 |_::N,x::ds,i+1,d,h=>by
  simp only[start3,at3] at h;simpa using qi3z N ds i d h
theorem RepS.start{K:PySem.W.Frag}{N:List Str}{ds:List D}{vs:List V}{H:Hp}(h:Hvs K H ds vs)(hl:vs.length≤N.length):RepS K (start3 N ds) (L2.start N vs) H:=⟨by
 rw[qfwz];simp[L2.start];omega,fun i d e=>by
 obtain⟨v,e1,q⟩:=h.get (qi3z N ds i d e);refine⟨v,?_,q⟩;unfold L2.start;have hi:i<vs.length:=(List.getElem?_eq_some_iff.mp e1).1;rw[List.getElem?_append_left (by simpa using hi),List.getElem?_map,e1];rfl⟩
abbrev V3:=D->Gp->Prop
abbrev TE3:=S3->Gp->V3->Prop
abbrev TT3:=S3->Gp->(Bool->Gp->Prop)->Prop
abbrev TA3:=S3->Gp->(List D->Gp->Prop)->Prop
structure Ends3 where
 nx:S3->Gp->Prop
 rt:V3
 bk:S3->Gp->Prop:=fun _ _=>False
 ct:S3->Gp->Prop:=fun _ _=>False
abbrev TS3:=Ends3->S3->Gp->Prop
def low(K:PySem.W.Frag)(t:TE3):TE:=fun σ H Q=>∃τ G Q3,RepS K τ σ H/\RepG K G H/\t τ G Q3/\∀v H' d G',Hv K H' d v->Step H G H' G'->RepG K G' H'->Q3 d G'->Q v H'
def lowT(K:PySem.W.Frag)(t:TT3):TT:=fun σ H Q=>∃τ G Q3,RepS K τ σ H/\RepG K G H/\t τ G Q3/\∀b H' G',Step H G H' G'->RepG K G' H'->Q3 b G'->Q b H'
def lowA(K:PySem.W.Frag)(t:TA3):TA:=fun σ H Q=>∃τ G Q3,RepS K τ σ H/\RepG K G H/\t τ G Q3/\∀vs H' ds G',Hvs K H' ds vs->Step H G H' G'->RepG K G' H'->Q3 ds G'->Q vs H'
structure EndsLow(K:PySem.W.Frag)(H:Hp)(G:Gp)(D3:Ends3)(D2:Ends):Prop where
 nx:∀τ σ G' H',RepS K τ σ H'->Step H G H' G'->RepG K G' H'->D3.nx τ G'->D2.nx σ H'
 bk:∀τ σ G' H',RepS K τ σ H'->Step H G H' G'->RepG K G' H'->D3.bk τ G'->D2.bk σ H'
 ct:∀τ σ G' H',RepS K τ σ H'->Step H G H' G'->RepG K G' H'->D3.ct τ G'->D2.ct σ H'
 rt:∀d v G' H',Hv K H' d v->Step H G H' G'->RepG K G' H'->D3.rt d G'->D2.rt v H'
theorem EndsLow.step{K:PySem.W.Frag}{H H1:Hp}{G G1:Gp}{D3:Ends3}{D2:Ends}(E:EndsLow K H G D3 D2)(S:Step H G H1 G1):EndsLow K H1 G1 D3 D2:=
 ⟨fun τ σ G' H' a b c q=>E.nx τ σ G' H' a (S.trans b) c q,fun τ σ G' H' a b c q=>E.bk τ σ G' H' a (S.trans b) c q,fun τ σ G' H' a b c q=>E.ct τ σ G' H' a (S.trans b) c q,fun d v G' H' a b c q=>E.rt d v G' H' a (S.trans b) c q⟩
def lowS(K:PySem.W.Frag)(t:TS3):TS:=fun D2 σ H=>∃τ G D3,RepS K τ σ H/\RepG K G H/\t D3 τ G/\EndsLow K H G D3 D2
abbrev PE3(X:Cx)(e:Expr)(t:TE3):Prop:=PE X e (low X.K t)
abbrev PT3(X:Cx)(e:Expr)(t:TT3):Prop:=PT X e (lowT X.K t)
abbrev PW3(X:Cx)(e:Expr)(t:TT3):Prop:=PW X e (lowT X.K t)
abbrev PA3(X:Cx)(es:List Expr)(t:TA3):Prop:=PA X es (lowA X.K t)
abbrev PS3(X:Cx)(st:Stmt)(t:TS3):Prop:=PS X st (lowS X.K t)
abbrev PSs3(X:Cx)(st:List Stmt)(t:TS3):Prop:=PSs X st (lowS X.K t)
section
variable {X:Cx} {e:Expr}
theorem qxz{t t':TE}(h:PE X e t)(f:∀σ H Q,t' σ H Q->t σ H Q):PE X e t':=fun pins s σ H Q I q=>h pins s σ H Q I (f σ H Q q)
theorem qfxz{t t':TT}(h:PT X e t)(f:∀σ H Q,t' σ H Q->t σ H Q):PT X e t':=fun pins s σ H Q I q=>h pins s σ H Q I (f σ H Q q)
theorem pw_of{t t':TT}(h:PW X e t)(f:∀σ H Q,t' σ H Q->t σ H Q):PW X e t':=fun w pins s σ H Q I q=>h w pins s σ H Q I (f σ H Q q)
theorem qi4z{es:List Expr}{t t':TA}(h:PA X es t)(f:∀σ H Q,t' σ H Q->t σ H Q):PA X es t':=fun p pins s σ H Q I q=>h p pins s σ H Q I (f σ H Q q)
theorem qavz{st:Stmt}{t t':TS}(h:PS X st t)(f:∀D σ H,t' D σ H->t D σ H):PS X st t':=fun pins s σ H Q I q=>h pins s σ H Q I (f Q σ H q)
theorem qi5z{st:List Stmt}{t t':TS}(h:PSs X st t)(f:∀D σ H,t' D σ H->t D σ H):PSs X st t':=fun pins s σ H Q I q=>h pins s σ H Q I (f Q σ H q)
end
def Br(b:Bool)(A B:Prop):Prop:=(b=true->A)/\(b=false->B)
theorem Br.ite{b:Bool}{A B A' B':Prop}(h:Br b A B)(f:A->A')(g:B->B'):if b=true then A' else B':=by
 cases b with
 |true=>rw[if_pos rfl];exact f (h.1 rfl)
 |false=>rw[if_neg Bool.false_ne_true];exact g (h.2 rfl)
section
variable {X:Cx} {a b e c:Expr} {ta tb te:TE3} {tA tB:TT3} {pos:Pos} {es rest:List Expr}
def eC(d:D):TE3:=fun _ G Q=>Q d G
def eVar(i:Nat):TE3:=fun τ G Q=>match at3 τ i with
 |some d=>Q d G
 |none=>False
theorem qq1z{i:Nat}{x:Str}(h:PE X (.Name x pos) (tVar i)):PE3 X (.Name x pos) (eVar i):=qxz h fun σ H Q ⟨τ,G,Q3,RS,RG,h,k⟩=>by
 unfold eVar at h;cases hd:at3 τ i with
 |none=>rw[hd] at h;exact h.elim
 |some d=>
  rw[hd] at h;obtain⟨v,e1,e2⟩:=RS.at_ i d hd;exact⟨v,e1,k v H d G e2 (.refl H G) RG h⟩
theorem qecz{v:V}{d:D}(h:PE X e (tC v))(r:∀H,Hv X.K H d v):PE3 X e (eC d):=qxz h fun σ H Q ⟨τ,G,Q3,RS,RG,h,k⟩=>k v H d G (r H) (.refl H G) RG h
theorem qq2z{i:Int}{j}:PE3 X (.Constant (.int i) j pos) (eC (.int i)):=qecz qomz fun H=>by simp[Hv]
theorem e_bl{i:Bool}{j}:PE3 X (.Constant (.bool i) j pos) (eC (.bl i)):=qecz qonz fun H=>by simp[Hv]
theorem qq3z{j}:PE3 X (.Constant .none j pos) (eC .non):=qecz qihz fun H=>by simp[Hv]
theorem qq4z{x:Str}{i:Int}{u:Tok}(hm:X.mg x=some (.int i u))(hg:Gl X x:=by rfl)(hd:(x==("__debug__":Str))=false:=by decide):PE3 X (.Name x pos) (eC (.int i)):=qecz (v:=.int i) (qooz hg hm ⟨u,rfl⟩ hd) fun H=>by simp[Hv]
abbrev R3:=D->D->Gp->V3->Prop
def eOp(r:R3)(ta tb:TE3):TE3:=fun τ G Q=>ta τ G fun x G1=>tb τ G1 fun y G2=>r x y G2 Q
def LowR(K:PySem.W.Frag)(r:R3)(r2:R2):Prop:=∀x y vx vy G H Q3 Q,Hv K H x vx->Hv K H y vy->RepG K G H->r x y G Q3->(∀v H' d G',Hv K H' d v->Step H G H' G'->RepG K G' H'->Q3 d G'->Q v H')->r2 vx vy H Q
theorem qedz{K:PySem.W.Frag}{r:R3}{r2:R2}(L:LowR K r r2){σ:L2.St}{H:Hp}{Q:VK}(h:low K (eOp r ta tb) σ H Q):tOp r2 (low K ta) (low K tb) σ H Q:=by
 obtain⟨τ,G,Q3,RS,RG,h,k⟩:=h;refine⟨τ,G,_,RS,RG,h,fun v1 H1 d1 G1 h1 S1 R1 q1=>?_⟩;refine⟨τ,G1,_,RS.ext (S1.ext RG),R1,q1,fun v2 H2 d2 G2 h2 S2 R2 q2=>?_⟩;exact L _ _ _ _ _ _ _ _ (h1.ext (S2.ext R1)) h2 R2 q2 fun v H' d G' z1 z2 z3 z4=>k v H' d G' z1 ((S1.trans S2).trans z2) z3 z4
theorem e_op{op:Operator}{r:R3}{r2:R2}(L:LowR X.K r r2)(ho:OpR X (binaryOp op) r2)(ha:PE3 X a ta)(hb:PE3 X b tb):PE3 X (.BinOp a op b pos) (eOp r ta tb):=
 qxz (qpjz ho ha hb) fun _ _ _ h=>qedz L h
theorem qq5z{op:CmpOp}{r:R3}{r2:R2}(L:LowR X.K r r2)(ho:OpR X (compareOp op) r2)(ha:PE3 X a ta)(hb:PE3 X b tb)(hm:behindInMarks op b=false):PE3 X (.Compare a [op] [b] pos) (eOp r ta tb):=
 qxz (qppz ho ha hb hm) fun _ _ _ h=>qedz L h
def eTest(t:TE3):TT3:=fun τ G Q=>t τ G fun x G1=>match x with
 |.bl k=>Q k G1
 |_=>False
theorem qi6z{K:PySem.W.Frag}{t:TE3}{σ:L2.St}{H:Hp}{Q:Bool->Hp->Prop}(h:lowT K (eTest t) σ H Q):tTest (low K t) σ H Q:=by
 obtain⟨τ,G,Q3,RS,RG,h,k⟩:=h;refine⟨τ,G,_,RS,RG,h,fun v H' d G' h1 h2 h3 h4=>?_⟩;cases d with
 |bl c=>
  unfold Hv at h1;exact⟨c,h1,k c H' G' h2 h3 h4⟩
 |_=>exact h4.elim
theorem qq6z{op:CmpOp}{r:R3}{r2:R2}(L:LowR X.K r r2)(ho:OpR X (compareOp op) r2)(ha:PE3 X a ta)(hb:PE3 X b tb)(hm:behindInMarks op b=false):PT3 X (.Compare a [op] [b] pos) (eTest (eOp r ta tb)):=
 qfxz (qpqz ho ha hb hm) fun σ H Q h=>by
  obtain⟨τ,G,Q3,RS,RG,h,k⟩:=qi6z h;exact qedz L ⟨τ,G,Q3,RS,RG,h,k⟩
theorem qq7z(h:PE3 X a ta)(he:∀whole,isTrue a X.env whole=(do let v ←whole;standAt a.pos;holding [v] (truthy v)):=by intro _;rfl):PT3 X a (eTest ta):=
 qfxz (qpuz h he) fun σ H Q h=>by
  obtain⟨τ,G,Q3,RS,RG,h,k⟩:=qi6z h;refine⟨τ,G,Q3,RS,RG,h,fun v H' d G' h1 h2 h3 h4=>?_⟩;obtain⟨c,rfl,q⟩:=k v H' d G' h1 h2 h3 h4;exact⟨c,rfl,q⟩
def eChain(r r':R3)(ta tb tc:TE3):TE3:=fun τ G Q=>ta τ G fun x G1=>tb τ G1 fun y G2=>r x y G2 fun z G3=>match z with
 |.bl k=>Br k (tc τ G3 fun w G4=>r' y w G4 Q) (Q (.bl false) G3)
 |_=>False
theorem qq8z{K:PySem.W.Frag}{r r':R3}{r2 r2':R2}(L:LowR K r r2)(L':LowR K r' r2'){tc:TE3}{σ:L2.St}{H:Hp}{Q:VK}(h:low K (eChain r r' ta tb tc) σ H Q):tChain r2 r2' (low K ta) (low K tb) (low K tc) σ H Q:=by
 obtain⟨τ,G,Q3,RS,RG,h,k⟩:=h;refine⟨τ,G,_,RS,RG,h,fun v1 H1 d1 G1 h1 S1 R1 q1=>?_⟩;refine⟨τ,G1,_,RS.ext (S1.ext RG),R1,q1,fun v2 H2 d2 G2 h2 S2 R2 q2=>?_⟩;refine L _ _ _ _ _ _ _ _ (h1.ext (S2.ext R1)) h2 R2 q2 fun v H3 d G3 z1 S3 R3 z4=>?_;cases d with
 |bl c=>
  unfold Hv at z1;refine⟨c,z1,Br.ite z4 (fun q=>?_) fun q=>?_⟩
  ·refine⟨τ,G3,_,((RS.ext (S1.ext RG)).ext (S2.ext R1)).ext (S3.ext R2),R3,q,fun v4 H4 d4 G4 h4 S4 R4 q4=>?_⟩;exact L' _ _ _ _ _ _ _ _ ((h2.ext (S3.ext R2)).ext (S4.ext R3)) h4 R4 q4 fun v H' d G' y1 y2 y3 y4=>k v H' d G' y1 ((((S1.trans S2).trans S3).trans S4).trans y2) y3 y4
  ·exact k _ H3 (.bl false) G3 (by simp[Hv]) ((S1.trans S2).trans S3) R3 q
 |_=>exact z4.elim
theorem qq9z{op op':CmpOp}{r r':R3}{r2 r2':R2}{tc:TE3}(L:LowR X.K r r2)(L':LowR X.K r' r2')(h:PE X e (tChain r2 r2' (low X.K ta) (low X.K tb) (low X.K tc))):PE3 X e (eChain r r' ta tb tc):=
 qxz h fun _ _ _ h=>qq8z L L' h
def eAnd(t u:TT3):TT3:=fun τ G Q=>t τ G fun c G1=>Br c (u τ G1 Q) (Q false G1)
def eOr(t u:TT3):TT3:=fun τ G Q=>t τ G fun c G1=>Br c (Q true G1) (u τ G1 Q)
def eNot(t:TT3):TT3:=fun τ G Q=>t τ G fun c G1=>Q (!c) G1
theorem qraz(ha:PT3 X a tA):PW3 X (.BoolOp .And [a] pos) tA:=pw_and1 ha
theorem qrbz(ha:PT3 X a tA):PW3 X (.BoolOp .Or [a] pos) tA:=pw_or1 ha
theorem qrcz(ha:PT3 X a tA)(hb:PW3 X (.BoolOp .And (b::rest) pos) tB):PW3 X (.BoolOp .And (a::b::rest) pos) (eAnd tA tB):=pw_of (pw_and ha hb) fun σ H Q h=>by
 obtain⟨τ,G,Q3,RS,RG,h,k⟩:=h;refine⟨τ,G,_,RS,RG,h,fun c H1 G1 S1 R1 q1=>?_⟩;exact Br.ite q1 (fun q=>⟨τ,G1,Q3,RS.ext (S1.ext RG),R1,q,fun b' H' G' y1 y2 y3=>k b' H' G' (S1.trans y1) y2 y3⟩) fun q=>k false H1 G1 S1 R1 q
theorem qrdz(ha:PT3 X a tA)(hb:PW3 X (.BoolOp .Or (b::rest) pos) tB):PW3 X (.BoolOp .Or (a::b::rest) pos) (eOr tA tB):=pw_of (pw_or ha hb) fun σ H Q h=>by
 obtain⟨τ,G,Q3,RS,RG,h,k⟩:=h;refine⟨τ,G,_,RS,RG,h,fun c H1 G1 S1 R1 q1=>?_⟩;exact Br.ite q1 (fun q=>k true H1 G1 S1 R1 q) fun q=>⟨τ,G1,Q3,RS.ext (S1.ext RG),R1,q,fun b' H' G' y1 y2 y3=>k b' H' G' (S1.trans y1) y2 y3⟩
theorem tt_w(h:PW3 X a tA):PT3 X a tA:=h.pt
theorem qrez(ha:PT3 X a tA):PT3 X (.UnaryOp .Not a pos) (eNot tA):=qfxz (qoqz ha) fun σ H Q h=>by
 obtain⟨τ,G,Q3,RS,RG,h,k⟩:=h;exact⟨τ,G,_,RS,RG,h,fun c H1 G1 S1 R1 q1=>k _ H1 G1 S1 R1 q1⟩
def eAndV(ta tb:TE3):TE3:=fun τ G Q=>ta τ G fun x G1=>match x with
 |.bl c=>Br c (tb τ G1 Q) (Q (.bl false) G1)
 |_=>False
def eOrV(ta tb:TE3):TE3:=fun τ G Q=>ta τ G fun x G1=>match x with
 |.bl c=>Br c (Q (.bl true) G1) (tb τ G1 Q)
 |_=>False
def eNotV(ta:TE3):TE3:=fun τ G Q=>ta τ G fun x G1=>match x with
 |.bl c=>Q (.bl (!c)) G1
 |_=>False
theorem qrfz{op}(h:PE3 X a ta):PE3 X (.BoolOp op [a] pos) ta:=qorz h
theorem qrgz(ha:PE3 X a ta)(hb:PE3 X (.BoolOp .And (b::rest) pos) tb):PE3 X (.BoolOp .And (a::b::rest) pos) (eAndV ta tb):=qxz (qosz ha hb) fun σ H Q h=>by
 obtain⟨τ,G,Q3,RS,RG,h,k⟩:=h;refine⟨τ,G,_,RS,RG,h,fun v H1 d G1 h1 S1 R1 q1=>?_⟩;cases d with
 |bl c=>
  unfold Hv at h1;exact⟨c,h1,Br.ite q1 (fun q=>⟨τ,G1,Q3,RS.ext (S1.ext RG),R1,q,fun b' H' d' G' y0 y1 y2 y3=>k b' H' d' G' y0 (S1.trans y1) y2 y3⟩) fun q=>k _ H1 (.bl false) G1 (by simp[Hv]) S1 R1 q⟩
 |_=>exact q1.elim
theorem e_or(ha:PE3 X a ta)(hb:PE3 X (.BoolOp .Or (b::rest) pos) tb):PE3 X (.BoolOp .Or (a::b::rest) pos) (eOrV ta tb):=qxz (qotz ha hb) fun σ H Q h=>by
 obtain⟨τ,G,Q3,RS,RG,h,k⟩:=h;refine⟨τ,G,_,RS,RG,h,fun v H1 d G1 h1 S1 R1 q1=>?_⟩;cases d with
 |bl c=>
  unfold Hv at h1;exact⟨c,h1,Br.ite q1 (fun q=>k _ H1 (.bl true) G1 (by simp[Hv]) S1 R1 q) fun q=>⟨τ,G1,Q3,RS.ext (S1.ext RG),R1,q,fun b' H' d' G' y0 y1 y2 y3=>k b' H' d' G' y0 (S1.trans y1) y2 y3⟩⟩
 |_=>exact q1.elim
theorem qrhz(ha:PE3 X a ta):PE3 X (.UnaryOp .Not a pos) (eNotV ta):=qxz (qouz ha) fun σ H Q h=>by
 obtain⟨τ,G,Q3,RS,RG,h,k⟩:=h;refine⟨τ,G,_,RS,RG,h,fun v H1 d G1 h1 S1 R1 q1=>?_⟩;cases d with
 |bl c=>
  unfold Hv at h1;exact⟨c,h1,k _ H1 (.bl (!c)) G1 (by simp[Hv]) S1 R1 q1⟩
 |_=>exact q1.elim
def notStar:Expr->Bool
 |.Starred ..=>false
 |_=>true
theorem qnz{e:Expr}{es:List Expr}{env:Env}(h:notStar e=true):starEach (e::es) env=(false,eval e env)::starEach es env:=by
 cases e<;>first|rfl|(simp[notStar] at h)
theorem qaez{pos:Pos}{env:Env}:∀{es:List Expr},es.all notStar=true->(backTo pos (starEach es env)).any (·.1)=false
 |[],_=>rfl
 |e::es,h=>by
  rw[List.all_cons,Bool.and_eq_true] at h;rw[qnz h.1];show (false||(backTo pos (starEach es env)).any (·.1))=false;rw[qaez h.2];rfl
def aNil:TA3:=fun _ G Q=>Q [] G
def aCons(ta:TE3)(tr:TA3):TA3:=fun τ G Q=>ta τ G fun x G1=>tr τ G1 fun xs G2=>Q (x::xs) G2
theorem qriz:PA3 X [] aNil:=qi4z qccz fun σ H Q ⟨τ,G,Q3,RS,RG,h,k⟩=>k [] H [] G .nil (.refl H G) RG h
theorem qrjz{tr:TA3}(ha:PE3 X a ta)(hr:PA3 X es tr)(hs:notStar a=true:=by rfl):PA3 X (a::es) (aCons ta tr):=qi4z (qbqz ha hr (qnz hs)) fun σ H Q h=>by
 obtain⟨τ,G,Q3,RS,RG,h,k⟩:=h;refine⟨τ,G,_,RS,RG,h,fun v1 H1 d1 G1 h1 S1 R1 q1=>?_⟩;refine⟨τ,G1,_,RS.ext (S1.ext RG),R1,q1,fun vs H2 ds G2 h2 S2 R2 q2=>?_⟩;exact k _ H2 _ G2 (.cons (h1.ext (S2.ext R1)) h2) (S1.trans S2) R2 q2
def smallL{α:Type}(P:Prop):List α->Nat->Prop
 |[],_=>P
 |_::_,0=>False
 |_::xs,n+1=>smallL P xs n
theorem qeez{α:Type}{P:Prop}:∀{xs:List α} {n:Nat},smallL P xs n->xs.length≤n/\P
 |[],n,h=>⟨Nat.zero_le _,h⟩
 |_::_,0,h=>h.elim
 |_::xs,n+1,h=>by
  obtain⟨h1,h2⟩:=qeez (xs:=xs) (n:=n) h;exact⟨Nat.succ_le_succ h1,h2⟩
theorem line64{n:Nat}(h:n≤64):n≤sizeLine:=Nat.le_trans h (by decide)
def eTup(t:TA3):TE3:=fun τ G Q=>t τ G fun ds G1=>smallL (Q (.tup ds) G1) ds 64
def eLst(t:TA3):TE3:=fun τ G Q=>t τ G fun ds G1=>smallL (∀p G2,New G1 p (.lst ds) G2->Q (.obj p) G2) ds 64
theorem qrkz{t:TA3}{x1}(h:PA3 X es t):PE3 X (.Tuple es x1 pos) (eTup t):=qxz (qpxz h) fun σ H Q h=>by
 obtain⟨τ,G,Q3,RS,RG,h,k⟩:=h;refine⟨τ,G,_,RS,RG,h,fun vs H1 ds G1 h1 S1 R1 q1=>?_⟩;obtain⟨z,q1⟩:=qeez q1;refine⟨by rw[←h1.length];exact line64 z,fun p hp=>?_⟩;refine k _ _ (.tup ds) G1 ?_ (S1.trans (.laid hp)) (R1.laid hp) q1;unfold Hv;exact⟨p,vs,rfl,.of quz,h1.ext (.laid hp)⟩
theorem qrlz{t:TA3}(h:PA3 X es t):PE3 X (.List es pos) (eLst t):=qxz (qinz h) fun σ H Q h=>by
 obtain⟨τ,G,Q3,RS,RG,h,k⟩:=h;refine⟨τ,G,_,RS,RG,h,fun vs H1 ds G1 h1 S1 R1 q1=>?_⟩;obtain⟨z,q1⟩:=qeez q1;refine⟨by rw[←h1.length];exact line64 z,fun p hp=>?_⟩;exact k _ _ (.obj p) (upd3 G1 p (.lst ds)) (by simp[Hv]) (S1.trans (.laidG hp)) (R1.laidG hp ⟨vs,quz,h1.ext (.laid hp)⟩) (q1 p _ (.mk' (R1.free hp)))
end
end L3
namespace L2
open PySem PySem.Spec PyProof.Rows
def clos(env:Env):List (Str×NameKind)->List (Str×Addr)->List (Str×Addr)
 |[],acc=>acc
 | (n,k)::r,acc=>clos env r (if k=.free then (n,(env.cells.lookup n).getD 0)::acc else acc)
theorem qi7z{scope:Scope}{env:Env}(h:∀y∈scope.names,y.2=.free->∃c,env.cells.lookup y.1=some c):closureFor scope env=pure (clos env scope.names []):=by
 have key:∀(l:List (Str×NameKind)) (acc:List (Str×Addr)),(∀y∈l,y.2=.free->∃c,env.cells.lookup y.1=some c) ->
   (forIn l acc fun (x:Str×NameKind) (r:List (Str×Addr))=>(do
    if (x.2==NameKind.free)=true then do
     let a ←cellOf env x.1
     pure (ForInStep.yield ((x.1,a)::r))
    else pure (ForInStep.yield r):Sem (ForInStep (List (Str×Addr)))))=pure (clos env l acc):=by
  intro l
  induction l with
  |nil=>intro acc _;rfl
  |cons y r ih=>
   intro acc hy;obtain⟨n,k⟩:=y;rw[List.forIn_cons];by_cases hk:k=.free
   ·obtain⟨c,hc⟩:=hy (n,k) List.mem_cons_self hk;have e1:cellOf env n=pure c:=by unfold cellOf;rw[show env.cells.lookup n=some c from hc]
    subst hk;simp only[beq_self_eq_true,if_true,e1,pure_bind];rw[ih _ fun y hy'=>hy y (List.mem_cons_of_mem _ hy')];show _=pure (clos env r (if NameKind.free=NameKind.free then (n,(env.cells.lookup n).getD 0)::acc else acc));rw[if_pos rfl,show env.cells.lookup n=some c from hc];rfl
   ·have hb:(k==NameKind.free)=false:=by simpa using hk
    simp only[hb,Bool.false_eq_true,if_false,pure_bind];rw[ih _ fun y hy'=>hy y (List.mem_cons_of_mem _ hy')];show _=pure (clos env r (if k=NameKind.free then (n,(env.cells.lookup n).getD 0)::acc else acc));rw[if_neg hk]
 have:=key scope.names [] h;unfold closureFor
 first
  |exact (by simpa using this)
  | (simp only[bind_pure];exact this)
theorem qi8z{env:Env}{x:Str}{c:Addr}:∀(l:List (Str×NameKind)) (acc:List (Str×Addr)),(clos env l acc).lookup x=some c ->
  acc.lookup x=some c∨((x,NameKind.free)∈l/\c=(env.cells.lookup x).getD 0)
 |[],_,h=>.inl h
 | (n,k)::r,acc,h=>by
  rcases qi8z r _ h with q|⟨q1,q2⟩
  ·by_cases hk:k=.free
   ·rw[if_pos hk,List.lookup_cons] at q;by_cases hx:(x==n)=true
    ·rw[hx] at q;have hx':x=n:=by simpa using hx
     subst hx' hk;exact .inr ⟨List.mem_cons_self,(Option.some.inj q).symm⟩
    ·have hx2:(x==n)=false:=by simpa using hx
     rw[hx2] at q;exact .inl q
   ·rw[if_neg hk] at q;exact .inl q
  ·exact .inr ⟨List.mem_cons_of_mem _ q1,q2⟩
theorem qi9z{env:Env}{x:Str}:∀(l:List (Str×NameKind)) (acc:List (Str×Addr)),acc.lookup x=some ((env.cells.lookup x).getD 0)->(clos env l acc).lookup x=some ((env.cells.lookup x).getD 0)
 |[],_,h=>h
 | (n,k)::r,acc,h=>by
  refine qi9z r _ ?_;by_cases hk:k=.free
  ·rw[if_pos hk,List.lookup_cons];by_cases hx:(x==n)=true
   ·rw[hx];have hx':x=n:=by simpa using hx
    rw[hx']
   ·have hx2:(x==n)=false:=by simpa using hx
    rw[hx2];exact h
  ·rw[if_neg hk];exact h
theorem qjaz{env:Env}{x:Str}:∀(l:List (Str×NameKind)) (acc:List (Str×Addr)),(x,NameKind.free)∈l->(clos env l acc).lookup x=some ((env.cells.lookup x).getD 0)
 |[],_,h=>by cases h
 | (n,k)::r,acc,h=>by
  rcases List.mem_cons.mp h with e|e
  ·cases e;refine qi9z r _ ?_;rw[if_pos rfl,List.lookup_cons,beq_self_eq_true]
  ·exact qjaz r _ e
structure CmpOk(N:List Str)(sc scope:Scope)(own:List Str)(js:List Nat):Prop where
 kind:scope.kind=.function
 nocell:∀y∈scope.names,y.2≠.cell
 names:∀y∈scope.names,y.2=.local->scope.names.lookup y.1=some .local
 free:∀y∈scope.names,y.2=.free->sc.names.lookup y.1=some .cell/\own.contains y.1=false
 only:∀y∈scope.names,y.2=.free->scope.names.lookup y.1=some .free
 js:∀j∈js,j<N.length/\(N.getD j Str.empty,NameKind.free)∈scope.names
def cmpN(N own:List Str)(js:List Nat):List Str:=own++js.map fun j=>N.getD j Str.empty
def cmpSt(own:List Str)(js:List Nat)(σ:St):St:=List.replicate own.length none++js.map fun j=>(σ[j]?).getD none
def Cx.cmp(X:Cx)(scope:Scope)(own:List Str)(js:List Nat)(s:Shared)(H:Hp)(fp:List Addr):Cx:=
 { X with N:=cmpN X.N own js,s₀:=s,H₀:=H,env:=compEnvC scope (clos X.env scope.names []) s.heap.objs.size X.env,outer:=X.stack,ex:=fp,fn:=fun x=>own.contains x,pn:=[],xe:=fun _ _=>False }
theorem qefz{sc:Scope}{env:Env}{x:Str}{k:NameKind}:∀(names:List (Str×NameKind)),
  (names.map fun (n,k)=>if (k==NameKind.free&&env.scope.kind==.function&&env.kindOf n==some .cell) then (n,NameKind.cell) else (n,k)).lookup x=some k ->
  (names.lookup x=some k/\(k≠.free∨k=.free))∨(k=.cell/\names.lookup x=some .free)
 |[],h=>by simp at h
 | (n,k')::r,h=>by
  have ih:=@qefz sc env x k r;have h':List.lookup x ((if (k'==NameKind.free&&env.scope.kind==.function&&env.kindOf n==some .cell)=true then (n,NameKind.cell) else (n,k'))::_)=some k:=h;rw[List.lookup_cons];by_cases hc:(k'==NameKind.free&&env.scope.kind==.function&&env.kindOf n==some .cell)=true
  ·rw[if_pos hc,List.lookup_cons] at h';cases hx:x==n with
   |true=>
    rw[hx] at h';have e:NameKind.cell=k:=Option.some.inj h';have hk':k'=.free:=by
     rw[Bool.and_eq_true,Bool.and_eq_true] at hc;simpa using hc.1.1
    exact .inr ⟨e.symm,by rw[hk']⟩
   |false=>
    rw[hx] at h';exact ih h'
  ·rw[if_neg hc,List.lookup_cons] at h';cases hx:x==n with
   |true=>
    rw[hx] at h';have e:k'=k:=Option.some.inj h';subst e;exact .inl ⟨rfl,by by_cases z:k'=.free;exact .inr z;exact .inl z⟩
   |false=>
    rw[hx] at h';exact ih h'
theorem qfyz{x:Str}{k:NameKind}{l:List (Str×NameKind)}(h:l.lookup x=some k):(x,k)∈l:=PySem.mem_of_lookup h
section
variable {X:Cx} {pins:List (Addr×Obj)} {σ:St} {H:Hp} {s:Shared} {scope:Scope} {own:List Str} {js:List Nat} {fp:List Addr}
theorem CmpOk.cells(C:CmpOk X.N X.env.scope scope own js)(ok:X.Ok):∀y∈scope.names,y.2=.free->∃c,X.env.cells.lookup y.1=some c:=fun y hy e=>
 ok.has y.1 (.inl (C.free y hy e).1)
theorem CmpOk.cl_of(C:CmpOk X.N X.env.scope scope own js)(ok:X.Ok){x:Str}{c:Addr}(h:(clos X.env scope.names []).lookup x=some c):(x,NameKind.free)∈scope.names/\X.env.cells.lookup x=some c:=by
 rcases qi8z scope.names [] h with q|⟨q1,q2⟩
 ·cases q
 ·obtain⟨c',e⟩:=C.cells ok _ q1 rfl;refine⟨q1,?_⟩;rw[q2,show X.env.cells.lookup x=some c' from e];rfl
theorem CmpOk.cl_has(C:CmpOk X.N X.env.scope scope own js)(ok:X.Ok){x:Str}(h:(x,NameKind.free)∈scope.names):∃c,(clos X.env scope.names []).lookup x=some c/\X.env.cells.lookup x=some c:=by
 obtain⟨c,e⟩:=C.cells ok _ h rfl;refine⟨c,?_,e⟩;rw[qjaz scope.names [] h,show X.env.cells.lookup x=some c from e];rfl
theorem Inv.cmpOk(I:Inv X pins σ H s)(C:CmpOk X.N X.env.scope scope own js)(hf:∀b∈fp,FpOk X pins H b/\b<s.heap.objs.size):(X.cmp scope own js s H fp).Ok where
 mod:=I.ok.mod
 kind:=C.kind
 glob:=I.ok.glob
 blt:=I.ok.blt
 above:=Nat.le_refl _
 inj:=fun x y c h1 h2=>I.ok.inj x y c (C.cl_of I.ok h1).2 (C.cl_of I.ok h2).2
 has:=fun x h=>by
  have hfree:(x,NameKind.free)∈scope.names:=by
   rcases h with h|h
   ·rcases qefz (sc:=scope) (env:=X.env) scope.names h with⟨q,_⟩|⟨_,q⟩
    ·exact absurd rfl (C.nocell _ (qfyz q))
    ·exact qfyz q
   ·rcases qefz (sc:=scope) (env:=X.env) scope.names h with⟨q,_⟩|⟨q,_⟩
    ·exact qfyz q
    ·cases q
  obtain⟨c,e,_⟩:=C.cl_has I.ok hfree;exact⟨c,e⟩
 cab:=fun x c h1 h2=>by
  have q:=(C.free _ (C.cl_of I.ok h2).1 rfl).2;have h1':own.contains x=true:=h1;rw[q] at h1';cases h1'
 hd:=I.ok.hd
 frames:=I.ok.frames
 stk:=.inl rfl
 exf:=fun b hb=>⟨Nat.ne_of_lt (hf b hb).2,fun x c e=>(hf b hb).1.2.2.2.2.1 x c (C.cl_of I.ok e).2⟩
 bs:=I.bs
 bsz:=Nat.le_trans I.ok.bsz I.sz
 noex:=fun b o e hb=>by
  rcases (hf b hb).1.2.2.2.1 with z|z
  ·exact I.ok.noex b o e z
  ·exact absurd (Nat.lt_of_lt_of_le (Heap.lt_size e) (Nat.le_trans I.ok.bsz z)) (Nat.lt_irrefl _)
 exfs:=fun b hb z=>by
  rcases List.mem_cons.mp (I.stkSub b z) with e|e
  ·exact (hf b hb).1.2.1 e
  ·exact (hf b hb).1.2.2.1 e
 funs:=I.stack
 frf:=I.stkFree
theorem qrmz{N:List Str}{js:List Nat}{i:Nat}{x:Str}(h:(js.map fun j=>N.getD j Str.empty)[i]?=some x):∃j,js[i]?=some j/\x=N.getD j Str.empty:=by
 rw[List.getElem?_map] at h;cases e:js[i]? with
 |none=>rw[e] at h;cases h
 |some j=>rw[e] at h;exact⟨j,rfl,(Option.some.inj h).symm⟩
theorem Inv.cmp(I:Inv X pins σ H s)(C:CmpOk X.N X.env.scope scope own js)(hf:∀b∈fp,FpOk X pins H b/\b<s.heap.objs.size){h':Heap}{tk:Nat}(hn:h'.Ns s.heap.objs.size fun _=>none)
  (kept:∀b o,s.heap.get? b=some o->h'.get? b=some o):Inv (X.cmp scope own js s H fp) [] (cmpSt own js σ) H { s with heap:=h',toks:=tk }:=by
 have ok:=I.cmpOk C hf;refine⟨ok,rfl,I.bare,Un.kept kept,⟨_,hn,fun i x v h1 h2 h3=>?_⟩,fun x c e=>?_,I.hok.fresh (Nat.le_refl _),fun x c e=>I.freeC x c (C.cl_of I.ok e).2,fun p hp=>?_,I.hok.kept kept,?_⟩
 ·have h1':(own++js.map fun j=>X.N.getD j Str.empty)[i]?=some x:=h1;have h2':(List.replicate own.length none++js.map fun j=>(σ[j]?).getD none)[i]?=some (some v):=h2;by_cases hi:i<own.length
  ·rw[List.getElem?_append_left (by simpa using hi),List.getElem?_replicate,if_pos hi] at h2';cases h2'
  ·rw[List.getElem?_append_right (by omega)] at h1';rw[List.getElem?_append_right (by simp;omega),List.length_replicate] at h2';obtain⟨j,hj,rfl⟩:=qrmz h1';rw[List.getElem?_map,hj] at h2';have h2'':(σ[j]?).getD none=some v:=Option.some.inj h2';have hσ:σ[j]?=some (some v):=by
    cases e:σ[j]? with
    |none=>rw[e] at h2'';cases h2''
    |some o=>
     rw[e] at h2'';have:o=some v:=h2'';rw[this]
   obtain⟨jl,jf⟩:=C.js j (List.mem_of_getElem? hj);have hN:X.N[j]?=some (X.N.getD j Str.empty):=by
    rw[List.getD_eq_getElem?_getD,List.getElem?_eq_getElem jl];rfl
   have hcell:=(C.free _ jf rfl).1;obtain⟨m,hm,hl⟩:=I.loc;obtain⟨u,ru,lk⟩:=hl j _ v hN hσ (.inr (.inl hcell));refine⟨u,ru,?_⟩;obtain⟨c,e1,e2⟩:=C.cl_has I.ok jf;rcases lk with⟨z,_⟩|⟨_,c',z1,z2⟩
   ·have z':X.env.scope.names.lookup (X.N.getD j Str.empty)=some .local:=z;rw[show X.env.scope.names.lookup (X.N.getD j Str.empty)=some .cell from hcell] at z';cases z'
   ·rw[e2] at z1;cases z1;have ic:h'.IsCell c (some u):=by
     obtain⟨o,q1,q2⟩:=z2;exact⟨o,kept _ _ q1,q2⟩
    rcases h3 with h3|h3|h3
    ·exfalso;rcases qefz (sc:=scope) (env:=X.env) scope.names h3 with⟨q,_⟩|⟨q,_⟩
     ·have z:=C.only _ jf rfl;rw[q] at z;cases z
     ·cases q
    ·exact .inr ⟨.inl h3,c,e1,ic⟩
    ·exact .inr ⟨.inr h3,c,e1,ic⟩
 ·obtain⟨v,o,q1,q2⟩:=I.cell x c (C.cl_of I.ok e).2;exact⟨v,o,kept _ _ q1,q2⟩
 ·exact absurd (show p∈([]:List (Addr×Obj)) from hp) (by simp)
 ·show (List.replicate own.length none++js.map fun j=>(σ[j]?).getD none).length=(own++js.map fun j=>X.N.getD j Str.empty).length;simp
theorem Inv.uncmp{σ':St}{H':Hp}{s':Shared}{pl:List (Addr×Obj)}(I:Inv X pins σ H s)(hf:∀b∈fp,FpOk X pins H b/\b<s.heap.objs.size)(J:Inv (X.cmp scope own js s H fp) pl σ' H' s'):Inv X pins σ H' s':=by
 refine I.call' (ch:=fp) J.os J.base J.hok J.bare fun b hb=>?_;obtain⟨f0,f1,f2,f3,f4,f5⟩:=(hf b hb).1;exact⟨f3,f1,f4,f5⟩
theorem Inv.other{H':Hp}{s':Shared}{h':Heap}{b:Addr}(I0:Inv X pins σ H s)(I:Inv X pins σ H' s')(hb:s.heap.objs.size≤b)(hn:H' b=none)(sb:Heap.SameBut b s'.heap h'):Inv X pins σ H' { s' with heap:=h' }:=by
 obtain⟨f0,f1,f2,f3,f4,f5⟩:=I0.fpOk hb hn;exact I.turned (t':=s'.toks) (fun c o hc e=>(sb.2 c hc).trans e) f0 f1 f3 f4 f5
end
def PCt(X:Cx)(ifs:List Expr)(t:TT):Prop:=
 ∀(pins:List (Addr×Obj)) (s:Shared) (σ:St) (H:Hp) (Q:Bool->Hp->Prop),Inv X pins σ H s->t σ H Q ->
  wpAny (model X.prog X.w) X.A (forIn ifs true fun c r=>if r=true then do let ok ←isTrue c X.env (eval c X.env);pure (ForInStep.yield ok) else pure (ForInStep.yield r)) (TP X pins σ Q) X.xe s
def tNoTest:TT:=fun _ H Q=>Q true H
theorem qrnz{X:Cx}:PCt X [] tNoTest:=fun _ _ _ H _ I h=>wpAny_tests_nil ⟨H,I,h⟩
theorem qroz{X:Cx}{c:Expr}{t:TT}(h:PT X c t):PCt X [c] t:=fun pins s σ H Q I hq=>wpAny_tests_one (h pins s σ H Q I hq)
section
variable {prog:Program} {w:World} {A:Around} {R:Result->Shared->Prop} {s:Shared}
theorem qrpz{elt target iter:Expr}{ifs:List Expr}{scope:Scope}{pos:Pos}{it acc:Value}{env:Env}(I:Nat->Shared->Prop)
  (turn:∀n s,I n s->wpAny (model prog w) A (pyNext it) (fun r s₁=>match r with
   |none=>R (.ok .next) s₁
   | some v=>wpAny (model prog w) A (letOwnedTupleGo target it v) (fun _ s₁'=>wpAny (model prog w) A (assign target env v) (fun _ s₂=>
     wpAny (model prog w) A (forIn ifs true fun c r=>if r=true then do let ok ←isTrue c env (eval c env);pure (ForInStep.yield ok) else pure (ForInStep.yield r)) (fun ok s₃=>
      if ok=true then wpAny (model prog w) A (eval elt env) (fun x s₄=>
       wpAny (model prog w) A (call (.builtin "list.append") [acc,x]) (fun _ s₅=>∃m,m<n/\I m s₅) (fun _ _=>False) s₄) (fun _ _=>False) s₃
      else ∃m,m<n/\I m s₃) (fun _ _=>False) s₂) (fun _ _=>False) s₁') (fun _ _=>False) s₁) (fun _ _=>False) s)
  (n:Nat) (h:I n s):
  codeAny (model prog w) A (.compLoop (.ListComp elt [⟨target,iter,ifs,0⟩] scope pos) 0 it acc env) R s:=by
 refine codeAny_loop rfl I (fun n s hI=>?_) n h;show wpAny _ A ((compTurn (.ListComp elt [⟨target,iter,ifs,0⟩] scope pos) 0 it acc env).onRaise (fun x=>do noteFrame x env;theTreesLotGoes x)) _ _ s
 refine wpAny_noted ?_;rw[compTurn_list];refine wpAny_bind (wpAny_standAt (wpAny_bind (wpAny_mono (turn n s hI) (fun r s₁ h₁=>?_) fun _ _ h'=>h'.elim)));cases r with
 |none=>exact wpAny_pure h₁
 |some v=>
  refine wpAny_bind (wpAny_mono h₁ (fun _ s₁' h₁'=>?_) fun _ _ h'=>h'.elim);refine wpAny_bind (wpAny_mono h₁' (fun _ s₂ h₂=>wpAny_bind (wpAny_mono h₂ (fun ok s₃ h₃=>?_) fun _ _ h'=>h'.elim)) fun _ _ h'=>h'.elim);cases ok with
  |false=>exact wpAny_pure ⟨rfl,h₃⟩
  |true=>
   exact wpAny_bind (wpAny_bind (wpAny_mono h₃ (fun x s₄ h₄=>wpAny_bind (wpAny_mono h₄ (fun _ s₅ h₅=>wpAny_pure (wpAny_pure ⟨rfl,h₅⟩)) fun _ _ h'=>h'.elim)) fun _ _ h'=>h'.elim))
end
def LcRd(own:List Str)(js:List Nat)(g:TG)(tc:TT)(te:TE)(J:It)(σ:St)(H:Hp)(Q:VK):Prop:=
 ∀D,H D=none->∃W:Nat->Nat->List V->St->Hp->Prop,(∃m,W 0 m [] (cmpSt own js σ) (upd H D (.lst [])))/\∀i m ys σ' H',W i m ys σ' H'->H' D=some (.lst ys) ∧
  ((J.stop i H'/\Q (.ref D) H')∨(J.go i H'/\ys.length<sizeLine/\∀x H2,J.yld i H' x H2->g x σ' H2 fun σ2 H3=>tc σ2 H3 fun b H4=>
   if b=true then te σ2 H4 fun v H5=>H5 D=some (.lst ys)/\∃m',m' < m/\W (i+1) m' (ys++[v]) σ2 (upd H5 D (.lst (ys++[v]))) else ∃m',m' < m/\W (i+1) m' ys σ2 H4))
def tLc(own:List Str)(js:List Nat)(wi:TI)(g:TG)(tc:TT)(te:TE):TE:=fun σ H Q=>wi σ H fun J H1=>LcRd own js g tc te J σ H1 Q
section
variable {X:Cx} {tg iter elt:Expr} {ifs:List Expr} {scope:Scope} {pos:Pos} {own:List Str} {js:List Nat} {g:TG} {tc:TT} {te:TE}
theorem qjbz{pins:List (Addr×Obj)}{σ:St}{H:Hp}{s:Shared}{Q:VK}{it:Addr}{fp:List Addr}{tn:Nat->Heap->Prop}{J:It}{E:Value->Shared->Prop}{RR:Value->Addr->Result->Shared->Prop}
  (hc:X.calm=true) (C:CmpOk X.N X.env.scope scope own js)
  (hb:∀s H fp,PG (X.cmp scope own js s H fp) tg g/\PCt (X.cmp scope own js s H fp) ifs tc/\PE (X.cmp scope own js s H fp) elt te)
  (I:Inv X pins σ H s) (T:Turn X.prog X.w X.K tg J fp it tn) (st:tn 0 s.heap) (hf:∀b∈fp,FpOk X pins H b) (rd:LcRd own js g tc te J σ H Q)
  (hRR:∀D N s' H',Inv X pins σ H' s'->Q (.ref D) H'->s.heap.objs.size≤N->H' N=none->(∃m,s'.heap.Ns N m)->RR (.ref D) N (.ok .next) s'):
  wpAny (model X.prog X.w) X.A (newList []) (fun acc s₃=>wpAny (model X.prog X.w) X.A (newFunctionEnv scope X.env.globals (clos X.env scope.names []) [] X.env.qual none .none (some X.env)) (fun cenv s₄=>
   codeAny (model X.prog X.w) X.A (.compStart (.ListComp elt [⟨tg,iter,ifs,0⟩] scope pos) 0 (.ref it) acc { cenv with scope:=relabel scope X.env }) (RR acc cenv.locals) s₄) E s₃) E s:=by
 have hD:H s.heap.objs.size=none:=I.fresh;obtain⟨W,⟨m0,w0⟩,turn⟩:=rd s.heap.objs.size hD;refine wpAny_newObj_type ?_;have hI3:Inv X pins σ (upd H s.heap.objs.size (.lst [])) { s with heap:=s.heap.push { cls:=.type "list",data:=.seq ([]:List Value).toArray }}:=
  I.lnew (t':=s.toks) (its:=[]) (ys:=[]) .nil (Nat.zero_le _)
 have hlt:∀b∈fp,b<s.heap.objs.size:=fun b hb=>by
  obtain⟨o,e,_⟩:=T.obj 0 _ st b hb;exact Heap.lt_size e
 have st3:tn 0 (s.heap.push { cls:=.type "list",data:=.seq ([]:List Value).toArray }):=T.keep 0 _ _ st fun b _ o e=>Heap.get?_push_of_some _ e;generalize hs3:({ s with heap:=s.heap.push { cls:=.type "list",data:=.seq ([]:List Value).toArray }}:Shared)=s3 at hI3 ⊢;have hsz3:s3.heap.objs.size=s.heap.objs.size+1:=by rw[←hs3];exact Heap.size_push ..
 have st3':tn 0 s3.heap:=by rw[←hs3];exact st3
 have hf3:∀b∈fp,FpOk X pins (upd H s.heap.objs.size (.lst [])) b/\b<s3.heap.objs.size:=fun b hb=>by
  obtain⟨f0,f1⟩:=hf b hb;refine⟨⟨?_,f1⟩,by rw[hsz3];exact Nat.lt_succ_of_lt (hlt b hb)⟩;rw[qmz (Nat.ne_of_lt (hlt b hb))];exact f0
 refine wpAny_newFunctionEnv C.nocell (by intro y hy;simp at hy) (fun h₁ hns₁ hsb₁=>?_) C.kind;have kept1:∀b o,s3.heap.get? b=some o->h₁.get? b=some o:=fun b o e=>(hsb₁.2 b (Nat.ne_of_lt (Heap.lt_size e))).trans (Heap.get?_push_of_some _ e);have I4:Inv (X.cmp scope own js s3 (upd H s.heap.objs.size (.lst [])) fp) [] (cmpSt own js σ) (upd H s.heap.objs.size (.lst [])) { s3 with heap:=h₁,toks:=s3.toks+([]:List (Str×Value)).length }:=
  hI3.cmp C hf3 hns₁ kept1
 have st4:tn 0 h₁:=T.keep 0 _ _ st3' fun b _ o e=>kept1 b o e;obtain⟨hg,ht,he⟩:=hb s3 (upd H s.heap.objs.size (.lst [])) fp
 -- the iterator's objects in the block's context
 have stat:∀{H':Hp},(∀b∈fp,H' b=none)->∀b∈fp,FpOk (X.cmp scope own js s3 (upd H s.heap.objs.size (.lst [])) fp) [] H' b:=fun {H'} hn b hb=>by
  have q:=I4.ok;exact⟨hn b hb,(q.exf b hb).1,q.exfs b hb,.inl hb,(q.exf b hb).2,fun p hp=>absurd (show p∈([]:List (Addr×Obj)) from hp) (by simp)⟩
 have loop:codeAny (model X.prog X.w) X.A (.compLoop (.ListComp elt [⟨tg,iter,ifs,0⟩] scope pos) 0 (.ref it) (.ref s.heap.objs.size) (compEnvC scope (clos X.env scope.names []) s3.heap.objs.size X.env))
   (RR (.ref s.heap.objs.size) s3.heap.objs.size) { s3 with heap:=h₁,toks:=s3.toks+([]:List (Str×Value)).length }:=by
  refine qrpz (fun n s'=>∃i ys σ' H',Inv (X.cmp scope own js s3 (upd H s.heap.objs.size (.lst [])) fp) [] σ' H' s'/\tn i s'.heap/\(∀b∈fp,H' b=none)/\W i n ys σ' H') ?_ m0
   ⟨0,[],_,_,I4,st4,fun b hb=>(hf3 b hb).1.1,w0⟩
  rintro n s5 ⟨i,ys,σ5,H5,I5,st5,fr5,w5⟩;obtain⟨hacc,hcase⟩:=turn i n ys σ5 H5 w5;rcases hcase with⟨stop,qn⟩|⟨go,hys,step⟩
  ·refine thn (T.done (X.cmp scope own js s3 (upd H s.heap.objs.size (.lst [])) fp) rfl rfl rfl hc i [] s5 σ5 H5 (fun _ _=>False) I5 (stat fr5) st5 stop) fun r s6 ⟨hr,I6⟩=>?_;subst hr;have I7:=hI3.uncmp hf3 I6;obtain⟨m,hm,_⟩:=I6.loc;exact hRR _ _ _ _ I7 qn (by rw[hsz3];exact Nat.le_succ _) I6.free ⟨m,hm⟩
  ·refine thn (T.item (X.cmp scope own js s3 (upd H s.heap.objs.size (.lst [])) fp) rfl rfl rfl hc i [] s5 σ5 H5 (fun _ _=>False) I5 (stat fr5) st5 go) fun r s6 ⟨u,hr,h6⟩=>?_;subst hr;refine thn h6 fun _ s7 ⟨x,H7,I7,r7,y7,st7,fr7⟩=>?_;have I7':=I7.pinned (stat fr7) (T.obj _ _ st7);refine thn (hg _ s7 σ5 H7 x u _ I7' r7 (step x H7 y7)) fun _ s8 ⟨σ8,H8,I8,q8⟩=>?_;refine thn (ht _ s8 σ8 H8 _ I8 q8) fun ok s9 ⟨H9,I9,q9⟩=>?_;have back:∀{σ':St} {H':Hp} {s':Shared} {ys':List V},Inv (X.cmp scope own js s3 (upd H s.heap.objs.size (.lst [])) fp) ([]++pinsAt fp s7.heap) σ' H' s'->(∃m',m' < n/\W (i+1) m' ys' σ' H') ->
     ∃m',m' < n/\∃i ys σ' H',Inv (X.cmp scope own js s3 (upd H s.heap.objs.size (.lst [])) fp) [] σ' H' s'/\tn i s'.heap/\(∀b∈fp,H' b=none)/\W i m' ys σ' H':=fun {σ' H' s' ys'} I' ⟨m',hm,w'⟩=>by
    refine⟨m',hm,i+1,ys',σ',H',I'.unpinned,T.keep _ _ _ st7 fun b hb o e=>(I'.pin (b,o) (List.mem_append_right _ (List.mem_append_right _ (qd9z hb e)))).1,fun b hb=>?_,w'⟩;obtain⟨o,e,d⟩:=T.obj _ _ st7 b hb;exact (I'.pin (b,o) (List.mem_append_right _ (List.mem_append_right _ (qd9z hb e)))).2.1
   cases ok with
   |false=>
    rw[if_neg Bool.false_ne_true] at q9 ⊢;exact back I9 q9
   |true=>
    rw[if_pos rfl] at q9 ⊢;refine thn (he _ s9 σ8 H9 _ I9 q9) fun xv s10 ⟨v,H10,I10,r10,hD10,q10⟩=>?_;refine thn (qfvz (X:=X.cmp scope own js s3 (upd H s.heap.objs.size (.lst [])) fp) _ s10 σ8 H10 (.ref s.heap.objs.size) [v] (.ref s.heap.objs.size) [xv] (fun _ H'=>H'=upd H10 s.heap.objs.size (.lst (ys++[v]))) I10 rfl (.cons r10 .nil)
     ⟨_,ys,v,rfl,rfl,hD10,hys,rfl⟩) fun _ s11 ⟨_,H11,I11,_,e11⟩=>?_
    subst e11;exact back I11 q10
 exact codeAny_compStart_list loop (T.self _ 0 _ _ _ st4 loop)
theorem qrqz{wi:TI}(hc:X.calm=true)(C:CmpOk X.N X.env.scope scope own js)(hi:PI X tg iter wi)
  (hb:∀s H fp,PG (X.cmp scope own js s H fp) tg g/\PCt (X.cmp scope own js s H fp) ifs tc/\PE (X.cmp scope own js s H fp) elt te)
  (hs:∀x,foldedSetIterable iter X.env x=pure x:=by intro _;rfl):PE X (.ListComp elt [⟨tg,iter,ifs,0⟩] scope pos) (tLc own js wi g tc te):=by
 intro pins s σ H Q I h;rw[eval_ListComp];refine wpAny_comprehension_free (use:=none) rfl hs (qi7z (C.cells I.ok)) C.kind C.names (thn (hi pins s σ H _ I h) fun xv s₁ h₁=>thn h₁ fun itv s₂ h₂=>?_);obtain⟨it,fp,tn,J,H2,e,I2,T,st2,f2,rd⟩:=h₂;subst e;refine qjbz (RR:=fun acc C'=>compPost (model X.prog X.w) X.A X.xe none (EP X pins σ Q) acc C') hc C hb I2 T st2 f2 rd fun D N s' H' I' q hN hHN ⟨m,hm⟩=>?_;exact⟨m,hm,fun h' sb=>⟨.ref D,H',I2.other I' hN hHN sb,rfl,q⟩⟩
theorem qrrz{wi:TI}{i:Nat}{y:Str}{py spos:Pos}(hc:X.calm=true)(hN:X.N.Nodup)(hy:X.N[i]?=some y)(hyl:X.env.scope.names.lookup y=some .local)(C:CmpOk X.N X.env.scope scope own js)(hi:PI X tg iter wi)
  (hb:∀s H fp,PG (X.cmp scope own js s H fp) tg g/\PCt (X.cmp scope own js s H fp) ifs tc/\PE (X.cmp scope own js s H fp) elt te)
  (hsw:swapsWith (.ListComp elt [⟨tg,iter,ifs,0⟩] scope pos) (some (.Name y py)) spos.line X.env=pure true:=by rfl)
  (hs:∀x,foldedSetIterable iter X.env x=pure x:=by intro _;rfl):PS X (.Assign [.Name y py] (.ListComp elt [⟨tg,iter,ifs,0⟩] scope pos) spos) (tAsg (tLc own js wi g tc te) (gName i)):=by
 intro pins s σ H D I h;rw[exec_Assign_Name_used _ _ _ _ hsw];refine wpAny_bind (wpAny_standAt (wpAny_bind ?_));show wpAny _ X.A (do let _ ←comprehension (.ListComp elt [⟨tg,iter,ifs,0⟩] scope pos) scope X.env _ (newList []) false (eval iter X.env) (some (assign (.Name y py) X.env))) _ _ s;refine wpAny_bind (wpAny_mono (wpAny_comprehension_free (use:=some (assign (.Name y py) X.env)) (Q:=fun _ s'=>SP X pins D .next s') rfl hs (qi7z (C.cells I.ok)) C.kind C.names
  (thn (hi pins s σ H _ I h) fun xv s₁ h₁=>thn h₁ fun itv s₂ h₂=>?_)) (fun _ s' hq=>wpAny_pure (wpAny_pure hq)) fun _ _ e=>e)
 obtain⟨it,fp,tn,J,H2,e,I2,T,st2,f2,rd⟩:=h₂;subst e;refine qjbz (RR:=fun acc C'=>compPost (model X.prog X.w) X.A X.xe (some (assign (.Name y py) X.env)) (fun _ s'=>SP X pins D .next s') acc C') hc C hb I2 T st2 f2 rd fun L N s' H' I' q hN' hHN ⟨m,hm⟩=>?_
 show wpAny _ _ (assign (.Name y py) X.env (.ref L)) _ _ _;refine wpAny_assign_Name (qigz I' hN hy (.inl hyl) (v:=.ref L) rfl (fun s'' I'' ⟨a,sb,ha⟩=>?_) (.inr hyl));have hNa:N≠a:=by
  obtain⟨f0,f1,f2,f3,f4,f5⟩:=I2.fpOk hN' hHN;rcases ha with rfl|ha
  ·exact f1
  ·exact Ne.symm (f4 _ _ ha)
 refine⟨m,hm.sameBut sb hNa,fun h'' sb''=>?_⟩;refine⟨σ.set i (some (.ref L)),H',?_,q⟩;obtain⟨f0,f1,f2,f3,f4,f5⟩:=I2.fpOk hN' hHN;exact I''.turned (t':=s''.toks) (fun c o hc e=>(sb''.2 c hc).trans e) f0 f1 f3 f4 f5
end
end L2
namespace L3
open PySem PySem.Spec PyProof.Rows L2
section
variable {X:Cx} {st:Stmt} {rest:List Stmt} {t u:TS3} {e c:Expr} {te:TE3} {tc:TT3} {pos:Pos}
def sNext:TS3:=fun D τ G=>D.nx τ G
def sSeq(t u:TS3):TS3:=fun D τ G=>t { D with nx:=u D } τ G
theorem qrsz:PSs3 X [] sNext:=qi5z qovz fun D σ H ⟨τ,G,D3,RS,RG,h,k⟩=>k.nx τ σ G H RS (.refl H G) RG h
theorem qrtz(h1:PS3 X st t)(h2:PSs3 X rest u):PSs3 X (st::rest) (sSeq t u):=qi5z (qowz h1 h2) fun D σ H ⟨τ,G,D3,RS,RG,h,k⟩=>
 ⟨τ,G,{ D3 with nx:=u D3 },RS,RG,h,⟨fun τ' σ' G' H' a b c q=>⟨τ',G',D3,a,c,q,k.step b⟩,k.bk,k.ct,k.rt⟩⟩
theorem qruz(h1:PS3 X st t):PSs3 X [st] t:=qoxz h1
def sDrop(te:TE3):TS3:=fun D τ G=>te τ G fun _ G1=>D.nx τ G1
theorem qrvz(he:PE3 X e te)(hs:swapsWith e none pos.line X.env=pure false:=by rfl):PS3 X (.Expr e pos) (sDrop te):=qavz (qoyz he hs) fun D σ H ⟨τ,G,D3,RS,RG,h,k⟩=>
 ⟨τ,G,_,RS,RG,h,fun v H1 d G1 h1 S1 R1 q1=>k.nx τ σ G1 H1 (RS.ext (S1.ext RG)) S1 R1 q1⟩
def sRet(te:TE3):TS3:=fun D τ G=>te τ G D.rt
theorem qrwz(he:PE3 X e te):PS3 X (.Return (some e) pos) (sRet te):=qavz (qozz he) fun D σ H ⟨τ,G,D3,RS,RG,h,k⟩=>
 ⟨τ,G,D3.rt,RS,RG,h,fun v H1 d G1 h1 S1 R1 q1=>k.rt d v G1 H1 h1 S1 R1 q1⟩
def sIf(c:TT3)(t u:TS3):TS3:=fun D τ G=>c τ G fun b G1=>Br b (t D τ G1) (u D τ G1)
theorem s_if{a b:List Stmt}(hc:PT3 X c tc)(ha:PSs3 X a t)(hb:PSs3 X b u):PS3 X (.If c a b pos) (sIf tc t u):=qavz (qo0z hc ha hb) fun D σ H ⟨τ,G,D3,RS,RG,h,k⟩=>
 ⟨τ,G,_,RS,RG,h,fun b H1 G1 S1 R1 q1=>Br.ite q1 (fun q=>⟨τ,G1,D3,RS.ext (S1.ext RG),R1,q,k.step S1⟩) fun q=>⟨τ,G1,D3,RS.ext (S1.ext RG),R1,q,k.step S1⟩⟩
def sNever:TS3:=fun _ _ _=>False
theorem qrxz:PS3 X st sNever:=qavz qo1z fun D σ H ⟨τ,G,D3,RS,RG,h,k⟩=>h
end
abbrev TG3:=D->S3->Gp->(S3->Gp->Prop)->Prop
abbrev TGs3:=List D->S3->Gp->(S3->Gp->Prop)->Prop
def lowG(K:PySem.W.Frag)(t:TG3):TG:=fun v σ H Q=>∃d τ G Q3,Hv K H d v/\RepS K τ σ H/\RepG K G H/\t d τ G Q3/\∀τ' σ' G' H',RepS K τ' σ' H'->Step H G H' G'->RepG K G' H'->Q3 τ' G'->Q σ' H'
def lowGs(K:PySem.W.Frag)(t:TGs3):TGs:=fun vs σ H Q=>∃ds τ G Q3,Hvs K H ds vs/\RepS K τ σ H/\RepG K G H/\t ds τ G Q3/\∀τ' σ' G' H',RepS K τ' σ' H'->Step H G H' G'->RepG K G' H'->Q3 τ' G'->Q σ' H'
abbrev PG3(X:Cx)(tg:Expr)(t:TG3):Prop:=PG X tg (lowG X.K t)
abbrev PGs3(X:Cx)(tgs:List Expr)(t:TGs3):Prop:=PGs X tgs (lowGs X.K t)
section
variable {X:Cx} {pos:Pos} {e:Expr} {es:List Expr}
theorem qfzz{t t':TG}(h:PG X e t)(f:∀v σ H Q,t' v σ H Q->t v σ H Q):PG X e t':=fun pins s σ H v u Q I r q=>h pins s σ H v u Q I r (f v σ H Q q)
theorem qjcz{t t':TGs}(h:PGs X es t)(f:∀v σ H Q,t' v σ H Q->t v σ H Q):PGs X es t':=fun pins s σ H v u Q I r q=>h pins s σ H v u Q I r (f v σ H Q q)
def hName(i:Nat):TG3:=fun d τ G Q=>Q (set3 τ i d) G
theorem qryz{i:Nat}{x:Str}(hN:X.N.Nodup)(hi:X.N[i]?=some x:=by rfl)(hx:Loc X.env.scope x:=by first|exact Or.inl rfl|exact Or.inr rfl)(hf:X.fn x=true∨X.env.scope.names.lookup x=some .local:=by first|exact .inl rfl|exact .inr rfl|assumption):PG3 X (.Name x pos) (hName i):=
 qfzz (qo2z hN hi hx hf) fun v σ H Q ⟨d,τ,G,Q3,hd,RS,RG,h,k⟩=>k _ _ G H (RS.set hd) (.refl H G) RG h
def hNil:TGs3:=fun ds τ G Q=>match ds with
 |[]=>Q τ G
 |_::_=>False
def hCons(t:TG3)(u:TGs3):TGs3:=fun ds τ G Q=>match ds with
 |[]=>False
 |d::r=>t d τ G fun τ' G'=>u r τ' G' Q
theorem qrzz:PGs3 X [] hNil:=qjcz qo3z fun vs σ H Q ⟨ds,τ,G,Q3,hd,RS,RG,h,k⟩=>by
 cases ds with
 |nil=>exact⟨hd.inv0,k _ _ G H RS (.refl H G) RG h⟩
 |cons d r=>exact h.elim
theorem qr0z{t:TG3}{u:TGs3}(h1:PG3 X e t)(h2:PGs3 X es u)(hs:(assignEach (e::es) X.env).map (·.2)=assign e X.env::(assignEach es X.env).map (·.2):=by rfl):PGs3 X (e::es) (hCons t u):=
 qjcz (qo4z h1 h2 hs) fun vs σ H Q ⟨ds,τ,G,Q3,hd,RS,RG,h,k⟩=>by
  cases ds with
  |nil=>exact h.elim
  |cons d r=>
   obtain⟨v,vr,rfl,q1,q2⟩:=hd.inv;refine⟨v,vr,rfl,d,τ,G,_,q1,RS,RG,h,fun τ' σ' G' H' a b c q=>?_⟩;exact⟨r,τ',G',Q3,q2.ext (b.ext RG),a,c,q,fun τ2 σ2 G2 H2 a2 b2 c2=>k τ2 σ2 G2 H2 a2 (b.trans b2) c2⟩
def hTup(n:Nat)(t:TGs3):TG3:=fun d τ G Q=>match d with
 |.tup ds=>ds.length=n/\t ds τ G Q
 |_=>False
theorem qr1z{k:Nat}{t:TGs3}{n:Nat}(hc:X.calm=true)(h:PGs3 X es t)(hn:(assignEach es X.env).length=n:=by rfl)(hst:(assignEach es X.env).findIdx? (·.1)=none:=by rfl):PG3 X (.Tuple es k pos) (hTup n t):=
 qfzz (qo5z hc h hn hst) fun v σ H Q ⟨d,τ,G,Q3,hd,RS,RG,h,k⟩=>by
  cases d with
  |tup ds=>
   unfold Hv at hd;obtain⟨a,vs,e1,e2,e3⟩:=hd;exact⟨a,vs,e1,e2,by rw[←e3.length];exact h.1,ds,τ,G,Q3,e3,RS,RG,h.2,k⟩
  |_=>exact h.elim
def sAsg(te:TE3)(g:TG3):TS3:=fun D τ G=>te τ G fun x G1=>g x τ G1 D.nx
theorem qr2z{tg:Expr}{te:TE3}{g:TG3}(he:PE3 X e te)(hg:PG3 X tg g)(hs:swapsWithSole [tg] e pos.line X.env=pure false:=by rfl)(hw:swappedStores [tg] e X.env=pure none:=by rfl)
  (h1:(assignEach [tg] X.env).map (·.2)=[assign tg X.env]:=by rfl):PS3 X (.Assign [tg] e pos) (sAsg te g):=qavz (qo7z he hg hs hw h1) fun D σ H ⟨τ,G,D3,RS,RG,h,k⟩=>
 ⟨τ,G,_,RS,RG,h,fun v H1 d G1 h1 S1 R1 q1=>⟨d,τ,G1,D3.nx,h1,RS.ext (S1.ext RG),R1,q1,fun τ' σ' G' H' a b c q=>k.nx τ' σ' G' H' a (S1.trans b) c q⟩⟩
theorem qr3z{i:Nat}{x:Str}{te:TE3}{pos':Pos}(hN:X.N.Nodup)(he:PE3 X e te)(hi:X.N[i]?=some x:=by rfl)(hx:Loc X.env.scope x:=by first|exact Or.inl rfl|exact Or.inr rfl)(hs:swapsWith e (some (.Name x pos')) pos.line X.env=pure false:=by rfl)
  (hf:X.fn x=true∨X.env.scope.names.lookup x=some .local:=by first|exact .inl rfl|exact .inr rfl|assumption):PS3 X (.Assign [.Name x pos'] e pos) (sAsg te (hName i)):=qavz (qo8z hN hi hx he hs hf) fun D σ H ⟨τ,G,D3,RS,RG,h,k⟩=>
 ⟨τ,G,_,RS,RG,h,fun v H1 d G1 h1 S1 R1 q1=>k.nx _ _ G1 H1 ((RS.ext (S1.ext RG)).set h1) S1 R1 q1⟩
def sAug(i:Nat)(te:TE3)(r:R3):TS3:=fun D τ G=>match at3 τ i with
 |some x=>te τ G fun y G1=>r x y G1 fun z G2=>D.nx (set3 τ i z) G2
 |none=>False
theorem qr4z{i:Nat}{x:Str}{te:TE3}{op:Operator}{r:R3}{r2:TIp}{pos':Pos}(L:LowR X.K r r2)(hN:X.N.Nodup)(he:PE3 X e te)(ho:PIp X op r2)(hi:X.N[i]?=some x:=by rfl)(hx:Loc X.env.scope x:=by first|exact Or.inl rfl|exact Or.inr rfl)(hf:X.fn x=true∨X.env.scope.names.lookup x=some .local:=by first|exact .inl rfl|exact .inr rfl|assumption):
  PS3 X (.AugAssign (.Name x pos') op e pos) (sAug i te r):=qavz (qo9z hN hi hx he ho hf) fun D σ H ⟨τ,G,D3,RS,RG,h,k⟩=>by
 unfold sAug at h;cases hd:at3 τ i with
 |none=>rw[hd] at h;exact h.elim
 |some d=>
  rw[hd] at h;obtain⟨v,e1,e2⟩:=RS.at_ i d hd;refine⟨v,e1,τ,G,_,RS,RG,h,fun v1 H1 d1 G1 h1 S1 R1 q1=>?_⟩;refine L _ _ _ _ _ _ _ _ (e2.ext (S1.ext RG)) h1 R1 q1 fun v2 H2 d2 G2 z1 z2 z3 z4=>?_;exact k.nx _ _ G2 H2 (((RS.ext (S1.ext RG)).ext (z2.ext R1)).set z1) (S1.trans z2) z3 z4
def rSet3:D->D->D->Gp->(Gp->Prop)->Prop:=fun o i v G Q=>match o,i with
 |.obj p,.int k=>∃ds j,G p=some (.lst ds)/\ixN ds.length k=some j/\Q (upd3 G p (.lst (ds.set j v)))
 |_,_=>False
def hSub(to ti:TE3):TG3:=fun v τ G Q=>to τ G fun o G1=>ti τ G1 fun i G2=>rSet3 o i v G2 fun G3=>Q τ G3
theorem qjdz{K:PySem.W.Frag}{o i v:D}{vo vi vv:V}{G:Gp}{H:Hp}{Q3:Gp->Prop}{Q:Hp->Prop}(ho:Hv K H o vo)(hi:Hv K H i vi)(hv:Hv K H v vv)(RG:RepG K G H)(h:rSet3 o i v G Q3)
  (k:∀H' G',Step H G H' G'->RepG K G' H'->Q3 G'->Q H'):rSetL vo vi vv H Q:=by
 match o,i,ho,hi,h with
 |.obj p,.int j,ho,hi,h=>
  unfold Hv at ho hi;obtain⟨ds,n,e1,e2,q⟩:=h;obtain⟨vs,e3,e4⟩:=RG p _ e1;refine⟨p,vs,j,n,ho,hi,e3,by rw[←e4.length];exact e2,k _ _ (Step.wrote (g:=.lst (ds.set n v)) e1) (RG.wrote e3 ⟨_,quz,?_⟩) q⟩;exact (e4.ext (Ext.wrote e3)).set n (hv.ext (Ext.wrote e3))
 |.obj _,.non,_,_,h=>exact h.elim
 |.obj _,.bl _,_,_,h=>exact h.elim
 |.obj _,.str _,_,_,h=>exact h.elim
 |.obj _,.tup _,_,_,h=>exact h.elim
 |.obj _,.scr _,_,_,h=>exact h.elim
 |.obj _,.obj _,_,_,h=>exact h.elim
 |.obj _,.dc _,_,_,h=>exact h.elim
 |.dc _,_,_,_,h=>exact h.elim
 |.non,_,_,_,h=>exact h.elim
 |.bl _,_,_,_,h=>exact h.elim
 |.int _,_,_,_,h=>exact h.elim
 |.str _,_,_,_,h=>exact h.elim
 |.tup _,_,_,_,h=>exact h.elim
 |.scr _,_,_,_,h=>exact h.elim
theorem qr5z{o i:Expr}{to ti:TE3}(ho:PE3 X o to)(hi:PE3 X i ti)
  (ha:∀v,assign (.Subscript o i pos) X.env v=(do
   let ov ←holding [v] (eval o X.env)
   let iv ←holding [v,ov] (eval i X.env)
   standAt pos
   holding [v,ov,iv] (setItem ov iv v)
   release [v,ov,iv] []):=by intro _;rfl):PG3 X (.Subscript o i pos) (hSub to ti):=qfzz (qo6z ho hi set_list ha) fun v σ H Q ⟨d,τ,G,Q3,hd,RS,RG,h,k⟩=>
 ⟨τ,G,_,RS,RG,h,fun v1 H1 d1 G1 h1 S1 R1 q1=>⟨τ,G1,_,RS.ext (S1.ext RG),R1,q1,fun v2 H2 d2 G2 h2 S2 R2 q2=>
  qjdz (h1.ext (S2.ext R1)) h2 ((hd.ext (S1.ext RG)).ext (S2.ext R1)) R2 q2 fun H' G' y1 y2 y3=>k _ _ G' H' (((RS.ext (S1.ext RG)).ext (S2.ext R1)).ext (y1.ext R2)) ((S1.trans S2).trans y1) y2 y3⟩⟩
def sAugS(to ti te:TE3)(f:Int->Int->Int):TS3:=fun D τ G=>to τ G fun o G1=>ti τ G1 fun i G2=>match o,i with
 |.obj p,.int k=>∃ds x,G2 p=some (.lst ds)/\atI ds k=some (.int x)/\te τ G2 fun y G3=>match y with
  |.int y=>rSet3 o i (.int (f x y)) G3 fun G4=>D.nx τ G4
  |_=>False
 |_,_=>False
def sWhile(c:TT3)(tb:TS3):TS3:=fun D τ G=>∃W:Nat->S3->Gp->Prop,(∃m,W m τ G)/\∀m τ G,W m τ G ->
 c τ G fun b G1=>Br b (tb { D with nx:=fun τ' G'=>∃m',m' < m/\W m' τ' G',ct:=fun τ' G'=>∃m',m' < m/\W m' τ' G',bk:=D.nx } τ G1) (D.nx τ G1)
theorem qr6z{c:Expr}{body:List Stmt}{tc:TT3}{tb:TS3}(hp:PassesOwn (model X.prog X.w) X.A X.env X.xe)(hc:PT3 X c tc)(hb:PSs3 X body tb):PS3 X (.While c body [] pos) (sWhile tc tb):=
 qavz (qpbz hp hc hb) fun D σ H ⟨τ,G,D3,RS,RG,⟨W,⟨m0,w0⟩,turn⟩,k⟩=>by
  refine⟨fun m σ' H'=>∃τ' G',W m τ' G'/\RepS X.K τ' σ' H'/\RepG X.K G' H'/\Step H G H' G',⟨m0,τ,G,w0,RS,RG,.refl H G⟩,fun m σ1 H1 ⟨τ1,G1,w1,RS1,RG1,S1⟩=>?_⟩;refine⟨τ1,G1,_,RS1,RG1,turn m τ1 G1 w1,fun b H2 G2 S2 R2 q2=>Br.ite q2 (fun q=>?_) fun q=>k.nx _ _ G2 H2 (RS1.ext (S2.ext RG1)) (S1.trans S2) R2 q⟩;refine⟨fun σ' H'=>∃τ' G',(∃m',m' < m/\W m' τ' G')/\RepS X.K τ' σ' H'/\RepG X.K G' H'/\Step H G H' G',fun σ' H' ⟨τ',G',⟨m',hm,w'⟩,a,b,c⟩=>⟨m',hm,τ',G',w',a,b,c⟩,?_⟩;refine⟨τ1,G2,_,RS1.ext (S2.ext RG1),R2,q,⟨?_,?_,?_,?_⟩⟩
  ·exact fun τ' σ' G' H' a b c q=>⟨τ',G',q,a,c,(S1.trans S2).trans b⟩
  ·exact fun τ' σ' G' H' a b c q=>k.nx τ' σ' G' H' a ((S1.trans S2).trans b) c q
  ·exact fun τ' σ' G' H' a b c q=>⟨τ',G',q,a,c,(S1.trans S2).trans b⟩
  ·exact fun d v G' H' a b c q=>k.rt d v G' H' a ((S1.trans S2).trans b) c q
end
abbrev Sp3:=List D->Gp->V3->Prop
def lowSp(K:PySem.W.Frag)(sp:Sp3):Sp:=fun vs H Q _=>∃ds G Q3,Hvs K H ds vs/\RepG K G H/\sp ds G Q3/\∀v H' d G',Hv K H' d v->Step H G H' G'->RepG K G' H'->Q3 d G'->Q v H'
abbrev FnOk3(P:Program)(w:World)(K:PySem.W.Frag)(mg:Str->Option Value)(base:Heap)(k:Nat)(f:Addr)(fd:FuncData)(ps:List Str)(sp:Sp3):Prop:=FnOk P w K mg base CX0 k f fd ps (lowSp K sp)
def eCall(sp:Sp3)(t:TA3):TE3:=fun τ G Q=>t τ G fun ds G1=>sp ds G1 Q
section
variable {X:Cx} {k:Nat} {f:Addr} {fd:FuncData} {ps:List Str} {sp:Sp3} {x:Str} {p pos:Pos} {e:Expr} {es:List Expr} {t:TA3}
theorem qr7z{K:PySem.W.Frag}{σ:L2.St}{H:Hp}{Q:VK}{E:XK}(h:low K (eCall sp t) σ H Q):tCall (lowSp K sp) [] E (lowA K t) σ H Q:=by
 obtain⟨τ,G,Q3,RS,RG,h,k⟩:=h;refine⟨τ,G,_,RS,RG,h,fun vs H1 ds G1 h1 S1 R1 q1=>?_⟩;refine⟨ds,G1,Q3,by rw[List.append_nil];exact h1,R1,q1,fun v H' d G' z1 z2 z3 z4=>k v H' d G' z1 (S1.trans z2) z3 z4⟩
theorem qr8z(F:FnOk3 X.prog X.w X.K X.mg X.base k f fd ps sp)(hr:Room k X.A)(hm:X.mg x=some (.ref f))(hk:PySem.W.keepIn X.K (.ref f)=true)(hb:Binds X.K fd ps [])(ha:PA3 X (e::es) t)(hg:Gl X x:=by rfl)
  (hdb:(x==("__debug__":Str))=false:=by decide) (he:notStar e=true:=by rfl) (hpl:es.all notStar=true:=by rfl):
  PE3 X (.Call (.Name x p) (e::es) [] pos) (eCall sp t):=qxz (qpzz (E:=E0) F hr hg hm hk hb .nil pass0 ha hdb (qnz he) (qaez hpl)) fun σ H Q h=>qr7z h
end
section
variable {P:Program} {w:World} {K:PySem.W.Frag} {mg:Str->Option Value} {base:Heap}
def endsOf(Q:V3):Ends3:={ nx:=fun _ G'=>∃G0,Sub G0 G'/\Q .non G0,rt:=fun d G'=>∃G0,Sub G0 G'/\Q d G0 }
theorem fn3{x qual:Str}{st:Stmt}{f:Addr}{fd:FuncData}{N ps:List Str}{k:Nat}{sp:Sp3}(F:Fun K x qual st f fd)(S:FnScope N ps (defScope st))(hN:ps.length≤N.length)(len:∀ds G Q,sp ds G Q->ds.length=ps.length)(tb:TS3)
  (hbody:∀(cdv:Value) (A:Around) (outer:List Env) (s:Shared) (H:Hp) (E:XK),Room k (A.deeper (envOfC qual (defScope st) s.heap.objs.size f cdv)) ->
   PSs3 (cxOf CX0 P w K mg base N qual (defScope st) f cdv A outer s H E).nox (defBody st) tb)
  (hrd:∀ds G Q,sp ds G Q->tb (endsOf Q) (start3 N ds) G):FnOk3 P w K mg base (k+1) f fd ps sp:=by
 refine F.ok S (fun vs H Q E h=>?_) (fun cdv A outer s H vs Q E hr h=>?_)
 ·obtain⟨ds,G,Q3,h1,h2,h3,h4⟩:=h;rw[←h1.length];exact len _ _ _ h3
 ·obtain⟨ds,G,Q3,h1,h2,h3,h4⟩:=h;refine⟨_,hbody cdv A outer s H E hr,start3 N ds,G,endsOf Q3,.start h1 ?_,h2,hrd _ _ _ h3,⟨?_,?_,?_,?_⟩⟩
  ·rw[←h1.length,len _ _ _ h3];exact hN
  ·exact fun τ σ G' H' a b c ⟨G0,s0,q⟩=>h4 _ H' .non G0 (by simp[Hv]) (b.trans (.sub s0)) (c.sub s0) q
  ·exact fun τ σ G' H' a b c q=>q.elim
  ·exact fun τ σ G' H' a b c q=>q.elim
  ·exact fun d v G' H' a b c ⟨G0,s0,q⟩=>h4 _ H' d G0 a (b.trans (.sub s0)) (c.sub s0) q
end
end L3
namespace L3
open PySem PySem.Spec PyProof.Rows L2
structure Src where
 items:List D
 guard:Gp->Prop
structure SrcOk(K:PySem.W.Frag)(H0:Hp)(J:It)(S:Src):Prop where
 go:∀(i:Nat) d H G,Ext H0 H->RepG K G H->S.guard G->S.items[i]?=some d->J.go i H/\∀x H',J.yld i H x H'->Hv K H' d x/\Step H G H' G/\RepG K G H'
 stop:∀(i:Nat) H G,Ext H0 H->RepG K G H->S.guard G->S.items.length≤i->J.stop i H
abbrev TI3:=S3->Gp->(Src->Gp->Prop)->Prop
def lowI(K:PySem.W.Frag)(ti:TI3):TI:=fun σ H R=>∃τ G R3,RepS K τ σ H/\RepG K G H/\ti τ G R3/\∀J H' S G',SrcOk K H' J S->Step H G H' G'->RepG K G' H'->R3 S G'->R J H'
abbrev PI3(X:Cx)(tg iter:Expr)(ti:TI3):Prop:=PI X tg iter (lowI X.K ti)
section
variable {X:Cx} {tg iter:Expr} {pos p:Pos}
theorem qcwz{t t':TI}(h:PI X tg iter t)(f:∀σ H R,t' σ H R->t σ H R):PI X tg iter t':=fun pins s σ H R I q=>h pins s σ H R I (f σ H R q)
def iSeq(te:TE3):TI3:=fun τ G R=>te τ G fun x G1=>match x with
 |.obj p=>∃ds,G1 p=some (.lst ds)/\R ⟨ds,fun G=>G p=some (.lst ds)⟩ G1
 |.tup ds=>R ⟨ds,fun _=>True⟩ G1
 |.scr ds=>R ⟨ds,fun _=>True⟩ G1
 |_=>False
theorem qr9z{l:Expr}{te:TE3}(hl:PE3 X l te):PI3 X tg l (iSeq te):=by
 intro pins s σ H R I h;obtain⟨τ,G,R3,RS,RG,h,k⟩:=h
 -- the state carries what a list of the heap is
 refine thn (hl pins s σ H (fun v H'=>∃d G',Hv X.K H' d v/\Step H G H' G'/\RepG X.K G' H'/\(match d with
  |.obj p=>∃ds,G' p=some (.lst ds)/\R3 ⟨ds,fun G=>G p=some (.lst ds)⟩ G'
  |.tup ds=>R3 ⟨ds,fun _=>True⟩ G'
  |.scr ds=>R3 ⟨ds,fun _=>True⟩ G'
  | _=>False)) I ⟨τ,G,_,RS,RG,h,fun v H' d G' a b c q=>⟨d,G',a,b,c,q⟩⟩) fun v s1 ⟨x,H1,I1,r1,d,G1,hv,S1,R1,q⟩=>?_
 have hlist:∀(a:Addr) (its:List Value) (xs:List V),Vals xs its->PlainL s1.heap a its.toArray->R (Itl X.K a) H1->wpAny (model X.prog X.w) X.A (pyIter (.ref a)) (PIE X pins σ tg R) X.xe s1:=by
  intro a its xs rv p q;refine wpAny_pyIter_list p.isList ?_;refine⟨s1.heap.objs.size,[s1.heap.objs.size],_,_,H1,rfl,I1.kept (t':=s1.toks) fun b o e=>Heap.get?_push_of_some _ e,qpcz a _,⟨_,Heap.get?_push_size _ rfl,rfl,rfl⟩,fun b hb=>?_,q⟩;have e:b=s1.heap.objs.size:=by simpa using hb
  subst e;exact I1.fpOk (Nat.le_refl _) (I1.hok.fresh (Nat.le_refl _))
 cases d with
 |obj a=>
  unfold Hv at hv;subst hv;cases r1;obtain⟨ds,e1,q⟩:=q;obtain⟨vs,e2,e3⟩:=R1 a _ e1;obtain⟨its,rv,p,hz⟩:=I1.list (SqL.of e2);refine hlist a its vs rv p (k _ _ _ _ ⟨?_,?_⟩ S1 R1 q)
  ·intro i d H' G' E' RG' hg hi;obtain⟨vs',z1,z2⟩:=RG' a _ hg;obtain⟨v',y1,y2⟩:=z2.get hi;refine⟨⟨vs',v',.of z1,y1⟩,fun x H'' hy=>?_⟩;obtain⟨rfl,hy⟩:=hy;have:=hy vs' (.of z1);rw[y1] at this;cases this;exact⟨y2,.refl _ _,RG'⟩
  ·intro i H' G' E' RG' hg hi;obtain⟨vs',z1,z2⟩:=RG' a _ hg;exact⟨vs',.of z1,by rw[←z2.length];exact hi⟩
 |tup ds=>
  unfold Hv at hv;obtain⟨a,vs,rfl,e2,e3⟩:=hv;cases r1;obtain⟨its,rv,p,hz⟩:=I1.tuple e2;have hq:R (Itt X.K a) H1:=by
   refine k _ _ _ _ ⟨?_,?_⟩ S1 R1 q
   ·intro i d H' G' E' RG' hg hi;obtain⟨v',y1,y2⟩:=e3.get hi;refine⟨⟨vs,v',SqT.ext E' e2,y1⟩,fun x H'' hy=>?_⟩;obtain⟨rfl,hy⟩:=hy;have:=hy vs (SqT.ext E' e2);rw[y1] at this;cases this;exact⟨y2.ext E',.refl _ _,RG'⟩
   ·intro i H' G' E' RG' hg hi;exact⟨vs,SqT.ext E' e2,by rw[←e3.length];exact hi⟩
  refine wpAny_pyIter_tuple (show s1.heap.IsTuple a its.toArray from p) ?_;refine⟨s1.heap.objs.size,[s1.heap.objs.size],_,_,H1,rfl,I1.kept (t':=s1.toks) fun b o e=>Heap.get?_push_of_some _ e,qpdz a _,⟨_,Heap.get?_push_size _ rfl,rfl,rfl⟩,fun b hb=>?_,hq⟩;have e:b=s1.heap.objs.size:=by simpa using hb
  subst e;exact I1.fpOk (Nat.le_refl _) (I1.hok.fresh (Nat.le_refl _))
 |scr ds=>
  unfold Hv at hv;obtain⟨a,vs,rfl,e2,e3⟩:=hv;cases r1;obtain⟨its,rv,p,hz⟩:=I1.list e2.l;refine hlist a its vs rv p (k _ _ _ _ ⟨?_,?_⟩ S1 R1 q)
  ·intro i d H' G' E' RG' hg hi;obtain⟨v',y1,y2⟩:=e3.get hi;refine⟨⟨vs,v',(SqF.ext E' e2).l,y1⟩,fun x H'' hy=>?_⟩;obtain⟨rfl,hy⟩:=hy;have:=hy vs (SqF.ext E' e2).l;rw[y1] at this;cases this;exact⟨y2.ext E',.refl _ _,RG'⟩
  ·intro i H' G' E' RG' hg hi;exact⟨vs,(SqF.ext E' e2).l,by rw[←e3.length];exact hi⟩
 |non=>exact q.elim
 |bl _=>exact q.elim
 |int _=>exact q.elim
 |str _=>exact q.elim
 |dc _=>exact q.elim
def rngL(lo:Int)(n:Nat):List D:=(List.range n).map fun i:Nat=>.int (lo+(i:Int))
theorem qjez{lo:Int}{n i:Nat}{d:D}(h:(rngL lo n)[i]?=some d):i<n/\d=.int (lo+(i:Int)):=by
 unfold rngL at h;rw[List.getElem?_map] at h;by_cases hi:i<n
 ·rw[List.getElem?_range hi] at h;simp at h;exact⟨hi,h.symm⟩
 ·rw[List.getElem?_eq_none_iff.mpr (by simpa using hi)] at h;cases h
theorem qbjz(lo:Int)(n:Nat):(rngL lo n).length=n:=by simp[rngL]
theorem qjfz{K:PySem.W.Frag}{H:Hp}(lo:Int)(n:Nat):SrcOk K H (Itr lo n) ⟨rngL lo n,fun _=>True⟩:=⟨by
 intro i d H' G' _ RG _ hi;obtain⟨h1,h2⟩:=qjez hi;refine⟨h1,fun x H'' hy=>?_⟩;obtain⟨rfl,rfl⟩:=hy;exact⟨by rw[h2];simp[Hv],.refl _ _,RG⟩,by
 intro i H' G' _ RG _ hi;rw[qbjz] at hi;exact hi⟩
def iRng1(ta:TA3):TI3:=fun τ G R=>ta τ G fun ds G1=>match ds with
 |[.int j]=>(-(2^62)≤j/\j<2^62)/\R ⟨rngL 0 j.toNat,fun _=>True⟩ G1
 |_=>False
def iRng2(ta:TA3):TI3:=fun τ G R=>ta τ G fun ds G1=>match ds with
 |[.int i,.int j]=>(-(2^62)≤i/\i<2^62/\-(2^62)≤j/\j<2^62)/\R ⟨rngL i (j-i).toNat,fun _=>True⟩ G1
 |_=>False
theorem qsaz{a:Expr}{ta:TA3}(hm:X.mg "range" = none)(ha:PA3 X [a] ta)(hg:Gl X "range":=by rfl)(hs:notStar a=true:=by rfl):PI3 X tg (.Call (.Name "range" p) [a] [] pos) (iRng1 ta):=
 qcwz (qpfz hg hm ha (qnz hs)) fun σ H R ⟨τ,G,R3,RS,RG,h,k⟩=>⟨τ,G,_,RS,RG,h,fun vs H1 ds G1 h1 S1 R1 q1=>by
  rcases ds with _|⟨d,_|⟨d2,ds⟩⟩
  ·exact q1.elim
  ·cases d with
   |int j=>
    obtain⟨v,r,rfl,z1,z2⟩:=h1.inv;cases z2.inv0;unfold Hv at z1;exact⟨j,by rw[z1],q1.1.1,q1.1.2,k _ _ _ _ (qjfz 0 _) S1 R1 q1.2⟩
   |_=>exact q1.elim
  ·cases d<;>exact q1.elim⟩
theorem qsbz{a b:Expr}{ta:TA3}(hm:X.mg "range" = none)(ha:PA3 X [a,b] ta)(hg:Gl X "range":=by rfl)(hs:notStar a=true:=by rfl)(hs2:notStar b=true:=by rfl):
  PI3 X tg (.Call (.Name "range" p) [a,b] [] pos) (iRng2 ta):=
 qcwz (qpgz hg hm ha (by rw[qnz hs,qnz hs2];rfl) (qnz hs2)) fun σ H R ⟨τ,G,R3,RS,RG,h,k⟩=>⟨τ,G,_,RS,RG,h,fun vs H1 ds G1 h1 S1 R1 q1=>by
  rcases ds with _|⟨d,_|⟨d2,_|⟨d3,ds⟩⟩⟩
  ·exact q1.elim
  ·cases d<;>exact q1.elim
  ·cases d with
   |int i=>
    cases d2 with
    |int j=>
     obtain⟨v,r,rfl,z1,z2⟩:=h1.inv;obtain⟨v',r',rfl,z3,z4⟩:=z2.inv;cases z4.inv0;unfold Hv at z1 z3;exact⟨i,j,by rw[z1,z3],q1.1,k _ _ _ _ (qjfz i _) S1 R1 q1.2⟩
    |_=>exact q1.elim
   |_=>exact q1.elim
  ·cases d with
   |int i=>cases d2<;>exact q1.elim
   |_=>exact q1.elim⟩
def forGo(guard:Gp->Prop)(g:TG3)(tb:TS3)(D3:Ends3):List D->S3->Gp->Prop
 |[],τ,G=>guard G/\D3.nx τ G
 |d::ds,τ,G=>guard G/\g d τ G fun τ2 G2=>tb { D3 with nx:=forGo guard g tb D3 ds,ct:=forGo guard g tb D3 ds,bk:=D3.nx } τ2 G2
def sFor(ti:TI3)(g:TG3)(tb:TS3):TS3:=fun D3 τ G=>ti τ G fun S G1=>forGo S.guard g tb D3 S.items τ G1
theorem qscz{body:List Stmt}{ti:TI3}{g:TG3}{tb:TS3}(hp:PassesOwn (model X.prog X.w) X.A X.env X.xe)(hc:X.calm=true)(hi:PI3 X tg iter ti)(hg:PG3 X tg g)(hb:PSs3 X body tb)
  (hs:∀x,foldedSetIterable iter X.env x=pure x:=by intro _;rfl):PS3 X (.For tg iter body [] pos) (sFor ti g tb):=qavz (qpiz hp hc hi hg hb hs) fun D2 σ H ⟨τ,G,D3,RS,RG,h,k⟩=>by
 refine⟨τ,G,_,RS,RG,h,fun J H1 S G1 ok S1 R1 q1=>?_⟩;refine⟨fun i m σ' H'=>∃τ' G',RepS X.K τ' σ' H'/\RepG X.K G' H'/\Step H G H' G'/\Ext H1 H'/\forGo S.guard g tb D3 (S.items.drop i) τ' G'/\m+i=S.items.length,⟨S.items.length,τ,G1,RS.ext (S1.ext RG),R1,S1,.refl H1,by simpa using q1,by omega⟩,?_⟩;rintro i m σ' H' ⟨τ',G',RS',RG',S',E',q,hm⟩;by_cases hlt:i<S.items.length
 ·have hd:S.items.drop i=S.items[i]::S.items.drop (i+1):=List.drop_eq_getElem_cons hlt;have hget:S.items[i]?=some S.items[i]:=List.getElem?_eq_getElem hlt;rw[hd] at q;obtain⟨hgd,q⟩:=q;obtain⟨z1,z2⟩:=ok.go i _ H' G' E' RG' hgd hget;refine .inr ⟨z1,fun σ2 H2=>∃τ2 G2,RepS X.K τ2 σ2 H2/\RepG X.K G2 H2/\Step H G H2 G2/\Ext H1 H2/\forGo S.guard g tb D3 (S.items.drop (i+1)) τ2 G2,fun σ2 H2 ⟨τ2,G2,a1,a2,a3,a4,a5⟩=>⟨m-1,by omega,τ2,G2,a1,a2,a3,a4,a5,by omega⟩,fun x H2 hy=>?_⟩;obtain⟨y1,y2,y3⟩:=z2 x H2 hy;refine⟨S.items[i],τ',G',_,y1,RS'.ext (y2.ext RG'),y3,q,fun τ3 σ3 G3 H3 b1 b2 b3 b4=>?_⟩;refine⟨τ3,G3,_,b1,b3,b4,⟨?_,?_,?_,?_⟩⟩
  ·exact fun τ4 σ4 G4 H4 c1 c2 c3 c4=>⟨τ4,G4,c1,c3,((S'.trans y2).trans b2).trans c2,((E'.trans (y2.ext RG')).trans (b2.ext y3)).trans (c2.ext b3),c4⟩
  ·exact fun τ4 σ4 G4 H4 c1 c2 c3 c4=>k.nx τ4 σ4 G4 H4 c1 (((S'.trans y2).trans b2).trans c2) c3 c4
  ·exact fun τ4 σ4 G4 H4 c1 c2 c3 c4=>⟨τ4,G4,c1,c3,((S'.trans y2).trans b2).trans c2,((E'.trans (y2.ext RG')).trans (b2.ext y3)).trans (c2.ext b3),c4⟩
  ·exact fun d v G4 H4 c1 c2 c3 c4=>k.rt d v G4 H4 c1 (((S'.trans y2).trans b2).trans c2) c3 c4
 ·have hd:S.items.drop i=[]:=List.drop_eq_nil_of_le (by omega);rw[hd] at q;exact .inl ⟨ok.stop i H' G' E' RG' q.1 (by omega),k.nx τ' σ' G' H' RS' S' RG' q.2⟩
def compGo(guard:Gp->Prop)(g:TG3)(tc:TT3)(te:TE3)(Q:List D->Gp->Prop):List D->List D->S3->Gp->Prop
 |[],acc,τ,G=>guard G/\Q acc G
 |d::ds,acc,τ,G=>guard G/\g d τ G fun τ2 G2=>tc τ2 G2 fun b G3=>Br b (te τ2 G3 fun v G4=>compGo guard g tc te Q ds (acc++[v]) τ2 G4) (compGo guard g tc te Q ds acc τ2 G3)
def cmp3(own:List Str)(js:List Nat)(τ:S3):S3:=(own.map fun _=>none)++js.map fun j=>at3 τ j
def eComp(own:List Str)(js:List Nat)(ti:TI3)(g:TG3)(tc:TT3)(te:TE3):TE3:=fun τ G Q=>ti τ G fun S G1=>S.items.length≤sizeLine ∧
 compGo S.guard g tc te (fun ds G2=>∀p G3,New G2 p (.lst ds) G3->Q (.obj p) G3) S.items [] (cmp3 own js τ) G1
theorem qjgz:∀(τ:S3) (i:Nat),at3 τ i=(τ[i]?).getD none
 |[],i=>by simp[at3]
 |x::r,0=>by simp[at3]
 |x::r,i+1=>by simp[at3,qjgz r i]
theorem RepS.cmp{K:PySem.W.Frag}{τ:S3}{σ:L2.St}{H:Hp}(own:List Str)(js:List Nat)(R:RepS K τ σ H):RepS K (cmp3 own js τ) (cmpSt own js σ) H:=⟨by simp[cmp3,cmpSt],fun i d h=>by
 rw[qjgz] at h;unfold cmp3 at h;by_cases hi:i<own.length
 ·rw[List.getElem?_append_left (by simpa using hi)] at h;rw[List.getElem?_map,List.getElem?_eq_getElem hi] at h;cases h
 ·rw[List.getElem?_append_right (by simpa using hi),List.getElem?_map] at h;simp only[List.length_map] at h;cases hj:js[i-own.length]? with
  |none=>rw[hj] at h;cases h
  |some j=>
   rw[hj] at h;have h':at3 τ j=some d:=h;obtain⟨v,e1,e2⟩:=R.at_ j d h';refine⟨v,?_,e2⟩;unfold cmpSt;rw[List.getElem?_append_right (by simpa using hi),List.getElem?_map];simp only[List.length_replicate,hj,Option.map_some,e1,Option.getD_some]⟩
def tNoTest3:TT3:=fun _ G Q=>Q true G
theorem qsdz:PCt X [] (lowT X.K tNoTest3):=fun pins s σ H Q I ⟨τ,G,Q3,RS,RG,h,k⟩=>qrnz pins s σ H Q I (k true H G (.refl H G) RG h)
theorem qsez{c:Expr}{t:TT3}(h:PT3 X c t):PCt X [c] (lowT X.K t):=qroz h
theorem qjhz{K:PySem.W.Frag}{own:List Str}{js:List Nat}{ti:TI3}{g:TG3}{tc:TT3}{te:TE3}{σ:L2.St}{H:Hp}{Q:VK}(h:low K (eComp own js ti g tc te) σ H Q):tLc own js (lowI K ti) (lowG K g) (lowT K tc) (low K te) σ H Q:=by
 obtain⟨τ,G,Q3,RS,RG,h,k⟩:=h;refine⟨τ,G,_,RS,RG,h,fun J H1 S G1 ok S1 R1 q1=>?_⟩;obtain⟨hz,q1⟩:=q1;intro p hp;have hGp:G1 p=none:=R1.free hp;refine⟨fun i m ys σ' H'=>∃τ' G' acc,RepS K τ' σ' H'/\RepG K G' H'/\Step H G H' G'/\Ext H1 H'/\H' p=some (.lst ys)/\G' p=none/\Hvs K H' acc ys ∧
  compGo S.guard g tc te (fun ds G2=>∀p G3,New G2 p (.lst ds) G3->Q3 (.obj p) G3) (S.items.drop i) acc τ' G'/\m+i=S.items.length/\ys.length≤i,?_,?_⟩
 ·have E1:Ext H1 (upd H1 p (.lst [])):=.laid hp;exact⟨S.items.length,cmp3 own js τ,G1,[],((RS.ext (S1.ext RG)).cmp own js).ext E1,R1.laid hp,S1.trans (.laid hp),E1,quz,hGp,.nil,by simpa using q1,by omega,Nat.zero_le _⟩
 rintro i m ys σ' H' ⟨τ',G',acc,RS',RG',S',E',hpl,hG',hacc,q,hm,hy⟩;refine⟨hpl,?_⟩;by_cases hlt:i<S.items.length
 ·have hd:S.items.drop i=S.items[i]::S.items.drop (i+1):=List.drop_eq_getElem_cons hlt;have hget:S.items[i]?=some S.items[i]:=List.getElem?_eq_getElem hlt;rw[hd] at q;obtain⟨hgd,q⟩:=q;obtain⟨z1,z2⟩:=ok.go i _ H' G' E' RG' hgd hget;refine .inr ⟨z1,by omega,fun x H2 hyl=>?_⟩;obtain⟨y1,y2,y3⟩:=z2 x H2 hyl
  -- what is not in G stays
  have keep:∀{Ha Hb:Hp} {Ga Gb:Gp},Step Ha Ga Hb Gb->Ha p=some (.lst ys)->Ga p=none->Hb p=some (.lst ys)/\Gb p=none:=fun {Ha Hb Ga Gb} st e n=>by
   refine⟨st.fr p _ e n,?_⟩;refine Classical.byContradiction fun z=>?_;rw[st.new p n z] at e;cases e
  obtain⟨p2,n2⟩:=keep y2 hpl hG';refine⟨S.items[i],τ',G',_,y1,RS'.ext (y2.ext RG'),y3,q,fun τ3 σ3 G3 H3 b1 b2 b3 b4=>?_⟩;obtain⟨p3,n3⟩:=keep b2 p2 n2;refine⟨τ3,G3,_,b1,b3,b4,fun bb H4 G4 c1 c2 c3=>?_⟩;obtain⟨p4,n4⟩:=keep c1 p3 n3;have E4:Ext H' H4:=((y2.ext RG').trans (b2.ext y3)).trans (c1.ext b3);have S4:Step H G H4 G4:=((S'.trans y2).trans b2).trans c1;have RS4:=b1.ext (c1.ext b3);refine Br.ite c3 (fun c3=>?_) fun c3=>?_
  ·refine⟨τ3,G4,_,RS4,c2,c3,fun v H5 d G5 e1 e2 e3 e4=>?_⟩;obtain⟨p5,n5⟩:=keep e2 p4 n4;refine⟨p5,m-1,by omega,τ3,G5,acc++[d],?_,?_,?_,?_,quz,n5,?_,e4,by omega,by rw[List.length_append];simp;omega⟩
   ·exact (RS4.ext (e2.ext c2)).ext (.wrote p5)
   ·intro a o e;have hne:a≠p:=fun z=>by
     rw[z,n5] at e;cases e
    exact (e3 a o e).ext (.wrote p5) (qmz hne)
   ·refine⟨fun a o e n=>?_,fun a q=>?_,fun a n q=>((S4.trans e2).new a n q)⟩
    ·by_cases hne:a=p
     ·exfalso;rw[hne] at e n;have hh:=S1.fr p o e n;rw[hp] at hh;cases hh
     ·rw[qmz hne];exact (S4.trans e2).fr a o e n
    ·by_cases hne:a=p
     ·rw[hne,quz];simp
     ·rw[qmz hne];exact (S4.trans e2).trk a q
   ·exact ((E'.trans E4).trans (e2.ext c2)).trans (.wrote p5)
   ·have E5:Ext H' (upd H5 p (.lst (ys++[v]))):=(E4.trans (e2.ext c2)).trans (.wrote p5);exact (hacc.ext E5).append (.cons (e1.ext (.wrote p5)) .nil)
  ·exact⟨m-1,by omega,τ3,G4,acc,RS4,c2,S4,E'.trans E4,p4,n4,hacc.ext E4,c3,by omega,by omega⟩
 ·have hd:S.items.drop i=[]:=List.drop_eq_nil_of_le (by omega);rw[hd] at q;refine .inl ⟨ok.stop i H' G' E' RG' q.1 (by omega),?_⟩;refine k _ H' (.obj p) (upd3 G' p (.lst acc)) (by simp[Hv]) ?_ ?_ (q.2 p _ (.mk' hG'))
  ·refine⟨S'.fr,S'.trk,fun a n z=>?_⟩;by_cases hne:a=p
   ·rw[hne];cases hh:H p with
    |none=>rfl
    |some o=>
     exfalso;rw[hne] at n;have:=S1.fr p o hh n;rw[hp] at this;cases this
   ·rw[qadz hne] at z;exact S'.new a n z
  ·intro a o e;by_cases hne:a=p
   ·rw[hne,q8z] at e;cases e;rw[hne];exact⟨ys,hpl,hacc⟩
   ·rw[qadz hne] at e;exact RG' a o e
theorem qsfz{elt:Expr}{ifs:List Expr}{scope:Scope}{own:List Str}{js:List Nat}{ti:TI3}{g:TG3}{tc:TT3}{te:TE3}(hc:X.calm=true)(C:CmpOk X.N X.env.scope scope own js)(hi:PI3 X tg iter ti)
  (hb:∀s H fp,PG3 (X.cmp scope own js s H fp) tg g/\PCt (X.cmp scope own js s H fp) ifs (lowT X.K tc)/\PE3 (X.cmp scope own js s H fp) elt te)
  (hs:∀x,foldedSetIterable iter X.env x=pure x:=by intro _;rfl):PE3 X (.ListComp elt [⟨tg,iter,ifs,0⟩] scope pos) (eComp own js ti g tc te):=
 qxz (qrqz hc C hi hb hs) fun σ H Q h=>qjhz h
theorem qsgz{elt:Expr}{ifs:List Expr}{scope:Scope}{own:List Str}{js:List Nat}{ti:TI3}{g:TG3}{tc:TT3}{te:TE3}{i:Nat}{y:Str}{py spos:Pos}(hc:X.calm=true)(hN:X.N.Nodup)(C:CmpOk X.N X.env.scope scope own js)(hi:PI3 X tg iter ti)
  (hb:∀s H fp,PG3 (X.cmp scope own js s H fp) tg g/\PCt (X.cmp scope own js s H fp) ifs (lowT X.K tc)/\PE3 (X.cmp scope own js s H fp) elt te) (hy:X.N[i]?=some y:=by rfl) (hyl:X.env.scope.names.lookup y=some .local:=by rfl)
  (hsw:swapsWith (.ListComp elt [⟨tg,iter,ifs,0⟩] scope pos) (some (.Name y py)) spos.line X.env=pure true:=by rfl)
  (hs:∀x,foldedSetIterable iter X.env x=pure x:=by intro _;rfl):PS3 X (.Assign [.Name y py] (.ListComp elt [⟨tg,iter,ifs,0⟩] scope pos) spos) (sAsg (eComp own js ti g tc te) (hName i)):=
 qavz (qrrz hc hN hy hyl C hi hb hsw hs) fun D2 σ H ⟨τ,G,D3,RS,RG,h,k⟩=>
  qjhz ⟨τ,G,_,RS,RG,h,fun v H1 d G1 h1 S1 R1 q1=>k.nx _ _ G1 H1 ((RS.ext (S1.ext RG)).set h1) S1 R1 q1⟩
theorem qshz{guard:Gp->Prop}{g:TG3}{tb:TS3}{D3:Ends3}(I:List D->S3->Gp->Prop)(hg:∀ds τ G,I ds τ G->guard G)
  (step:∀d ds τ G,I (d::ds) τ G->g d τ G fun τ2 G2=>tb { D3 with nx:=I ds,ct:=I ds,bk:=D3.nx } τ2 G2) (hend:∀τ G,I [] τ G->D3.nx τ G)
  (mono:∀(N N':S3->Gp->Prop),(∀τ G,N τ G->N' τ G)->∀d τ G,(g d τ G fun τ2 G2=>tb { D3 with nx:=N,ct:=N,bk:=D3.nx } τ2 G2)->g d τ G fun τ2 G2=>tb { D3 with nx:=N',ct:=N',bk:=D3.nx } τ2 G2):
  ∀ds τ G,I ds τ G->forGo guard g tb D3 ds τ G
 |[],τ,G,h=>⟨hg _ _ _ h,hend _ _ h⟩
 |d::ds,τ,G,h=>⟨hg _ _ _ h,mono (I ds) _ (fun τ G q=>qshz I hg step hend mono ds τ G q) d τ G (step d ds τ G h)⟩
theorem qwz{guard:Gp->Prop}{g:TG3}{tb:TS3}{D3:Ends3}(I:List D->S3->Gp->Prop)(hg:∀ds τ G,I ds τ G->guard G)
  (step:∀d ds τ G (N:S3->Gp->Prop),I (d::ds) τ G->(∀τ' G',I ds τ' G'->N τ' G')->g d τ G fun τ2 G2=>tb { D3 with nx:=N,ct:=N,bk:=D3.nx } τ2 G2) (hend:∀τ G,I [] τ G->D3.nx τ G):
  ∀ds τ G,I ds τ G->forGo guard g tb D3 ds τ G
 |[],τ,G,h=>⟨hg _ _ _ h,hend _ _ h⟩
 |d::ds,τ,G,h=>⟨hg _ _ _ h,step d ds τ G _ h fun τ' G' q=>qwz I hg step hend ds τ' G' q⟩
end
end L3
namespace Dat
open PySem PySem.SeqAt
inductive D where
 |non|bl (b:Bool)|int (i:Int)|str (x:Str)|tup (xs:List D)|lst (xs:List D)|dct
mutual
def D.eqb:D->D->Bool
 |.non,.non=>true
 |.bl a,.bl b=>a==b
 |.bl a,.int b=>(if a then 1 else 0)==b
 |.int a,.bl b=>a==(if b then 1 else 0)
 |.int a,.int b=>a==b
 |.str a,.str b=>a==b
 |.tup xs,.tup ys=>eqbs xs ys
 |.lst xs,.lst ys=>eqbs xs ys
 |_,_=>false
def eqbs:List D->List D->Bool
 |[],[]=>true
 |x::xs,y::ys=>x.eqb y&&eqbs xs ys
 |_,_=>false
end
mutual
def D.dep:D->Nat
 |.tup xs=>deps xs+1
 |.lst xs=>deps xs+1
 |_=>0
def deps:List D->Nat
 |[]=>0
 |x::xs=>max x.dep (deps xs)
end
theorem dep_mem{d:D}:∀{xs:List D},d∈xs->d.dep≤deps xs
 |x::xs,h=>by
  unfold deps;rcases List.mem_cons.mp h with e|e
  ·rw[e];exact Nat.le_max_left _ _
  ·exact Nat.le_trans (dep_mem e) (Nat.le_max_right _ _)
mutual
def Hv(h:Heap):D->Value->Prop
 |.non,u=>u=.none
 |.bl b,u=>u=.bool b
 |.int i,u=>∃t,u=.int i t
 |.str x,u=>∃t,u=.str x t
 |.tup ds,u=>∃(a:Addr) (its:List Value),u=.ref a/\h.IsTuple a its.toArray/\Hvs h ds its
 |.lst ds,u=>∃(a:Addr) (its:List Value),u=.ref a/\h.IsList a its.toArray/\Hvs h ds its
 |.dct,_=>False
def Hvs(h:Heap):List D->List Value->Prop
 |[],us=>us=[]
 |d::ds,us=>∃u r,us=u::r/\Hv h d u/\Hvs h ds r
end
theorem Hvs.length{h:Heap}:∀{ds:List D} {us:List Value},Hvs h ds us->us.length=ds.length
 |[],us,e=>by
  unfold Hvs at e;rw[e];rfl
 |d::ds,us,e=>by
  unfold Hvs at e;obtain⟨u,r,rfl,_,e2⟩:=e;rw[List.length_cons,List.length_cons,e2.length]
theorem Hvs.get{h:Heap}:∀{ds:List D} {us:List Value} {j:Nat} {d:D} {u:Value},Hvs h ds us->ds[j]?=some d->us[j]?=some u->Hv h d u
 |[],_,_,_,_,_,e,_=>by simp at e
 |d::ds,us,0,_,_,q,e1,e2=>by
  unfold Hvs at q;obtain⟨u,r,rfl,q1,_⟩:=q;simp at e1 e2;rw[←e1,←e2];exact q1
 |d::ds,us,j+1,_,_,q,e1,e2=>by
  unfold Hvs at q;obtain⟨u,r,rfl,_,q2⟩:=q;exact q2.get (j:=j) (by simpa using e1) (by simpa using e2)
theorem qjiz{h:Heap}{a:Addr}{xs ys:Array Value}(hl:h.IsList a xs)(ht:h.IsTuple a ys):False:=by
 obtain⟨o,ho,hc,_⟩:=hl;obtain⟨o',ho',hc',_⟩:=ht;rw[ho] at ho';cases ho';rw[hc] at hc';exact absurd hc' (by decide)
mutual
theorem Hv.inj{h:Heap}:∀{d e:D} {u:Value},Hv h d u->Hv h e u->d=e
 |d,e,u,p,q=>by
  cases d with
  |non=>unfold Hv at p;subst p;cases e<;>unfold Hv at q<;>first|rfl|(simp at q)
  |bl b=>unfold Hv at p;subst p;cases e<;>unfold Hv at q<;>first|(simp at q;rw[q])|(simp at q)
  |int b=>unfold Hv at p;obtain⟨t,rfl⟩:=p;cases e<;>unfold Hv at q<;>first|(simp at q;rw[q])|(simp at q)
  |str b=>unfold Hv at p;obtain⟨t,rfl⟩:=p;cases e<;>unfold Hv at q<;>first|(simp at q;rw[q])|(simp at q)
  |dct=>unfold Hv at p;exact p.elim
  |tup ds=>
   unfold Hv at p;obtain⟨a,its,rfl,ha,p⟩:=p;cases e with
   |tup es=>
    unfold Hv at q;obtain⟨a',its',e1,ha',q⟩:=q;cases e1;have e2:its=its':=by
     obtain⟨o,ho,_,n,hd⟩:=ha;obtain⟨o',ho',_,n',hd'⟩:=ha';rw[ho] at ho';cases ho';rw[hd] at hd';injection hd' with e3 _
     simpa using congrArg Array.toList e3
    subst e2;rw[Hvs.inj p q]
   |lst es=>
    unfold Hv at q;obtain⟨a',its',e1,ha',q⟩:=q;cases e1;exact (qjiz ha' ha).elim
   |_=>unfold Hv at q<;>simp at q
  |lst ds=>
   unfold Hv at p;obtain⟨a,its,rfl,ha,p⟩:=p;cases e with
   |lst es=>
    unfold Hv at q;obtain⟨a',its',e1,ha',q⟩:=q;cases e1;have e2:its=its':=by
     obtain⟨o,ho,_,n,hd⟩:=ha;obtain⟨o',ho',_,n',hd'⟩:=ha';rw[ho] at ho';cases ho';rw[hd] at hd';injection hd' with e3 _
     simpa using congrArg Array.toList e3
    subst e2;rw[Hvs.inj p q]
   |tup es=>
    unfold Hv at q;obtain⟨a',its',e1,ha',q⟩:=q;cases e1;exact (qjiz ha ha').elim
   |_=>unfold Hv at q<;>simp at q
theorem Hvs.inj{h:Heap}:∀{ds es:List D} {us:List Value},Hvs h ds us->Hvs h es us->ds=es
 |[],[],_,_,_=>rfl
 |[],e::es,us,p,q=>by
  unfold Hvs at p q;subst p;obtain⟨_,_,e1,_⟩:=q;cases e1
 |d::ds,[],us,p,q=>by
  unfold Hvs at p q;subst q;obtain⟨_,_,e1,_⟩:=p;cases e1
 |d::ds,e::es,us,p,q=>by
  unfold Hvs at p q;obtain⟨u,r,rfl,p1,p2⟩:=p;obtain⟨u',r',e1,q1,q2⟩:=q;cases e1;rw[Hv.inj p1 q1,Hvs.inj p2 q2]
end
theorem qbrz:∀(ds es:List D),((List.range (min ds.length es.length)).all (fun j=>(ds.getD j .non).eqb (es.getD j .non))&&ds.length==es.length)=eqbs ds es
 |[],[]=>by simp[eqbs]
 |[],e::es=>by simp[eqbs]
 |d::ds,[]=>by simp[eqbs]
 |d::ds,e::es=>by
  have ih:=qbrz ds es;unfold eqbs;rw[←ih];rw[List.length_cons,List.length_cons,show min (ds.length+1) (es.length+1)=min ds.length es.length+1 by omega,List.range_succ_eq_map,List.all_cons,List.all_map];have e1:((ds.length+1==es.length+1):Bool)=(ds.length==es.length):=by simp
  rw[e1,Bool.and_assoc];rfl
theorem qegz:∀(ds es:List D),ds.length≠es.length->eqbs ds es=false
 |[],[],h=>absurd rfl h
 |[],e::es,_=>rfl
 |d::ds,[],_=>rfl
 |d::ds,e::es,h=>by
  unfold eqbs;rw[qegz ds es (by simpa using h),Bool.and_false]
mutual
theorem Hv.refl{h:Heap}:∀{d:D} {u:Value},Hv h d u->d.eqb d=true
 |.non,_,_=>rfl
 |.bl b,_,_=>by unfold D.eqb;simp
 |.int b,_,_=>by unfold D.eqb;simp
 |.str b,_,_=>by unfold D.eqb;simp
 |.dct,_,p=>by unfold Hv at p;exact p.elim
 |.tup ds,_,p=>by
  unfold Hv at p;obtain⟨_,_,_,_,p⟩:=p;unfold D.eqb;exact Hvs.refl p
 |.lst ds,_,p=>by
  unfold Hv at p;obtain⟨_,_,_,_,p⟩:=p;unfold D.eqb;exact Hvs.refl p
theorem Hvs.refl{h:Heap}:∀{ds:List D} {us:List Value},Hvs h ds us->eqbs ds ds=true
 |[],_,_=>rfl
 |d::ds,us,p=>by
  unfold Hvs at p;obtain⟨u,r,_,p1,p2⟩:=p;unfold eqbs;rw[Hv.refl p1,Hvs.refl p2];rfl
end
theorem q4z{h:Heap}{ds:List D}{us:List Value}(p:Hvs h ds us){j:Nat}(hj:j<us.toArray.size):Hv h (ds.getD j .non) (us.toArray[j])/\ds.getD j .non∈ds:=by
 have hl:=p.length;have hj':j<ds.length:=by simp at hj;omega
 have e1:ds[j]?=some (ds.getD j .non):=by simp[hj']
 exact⟨p.get e1 (by simp at hj;simp[hj]),List.mem_of_getElem? e1⟩
theorem eqAt{s:Shared}:∀(d e:D) (u v:Value) (A:Around),Hv s.heap d u->Hv s.heap e v->A.units+d.dep+1<cLine->EqAt A s u v (d.eqb e)
 |.non,.non,u,v,A,p1,p2,hu=>by
  unfold Hv at p1;subst p1;unfold Hv at p2;subst p2;exact EqAt.same _
 |.non,.bl b2,u,v,A,p1,p2,hu=>by
  unfold Hv at p1;subst p1;unfold Hv at p2;subst p2;exact EqAt.none_bool  b2
 |.non,.int b2,u,v,A,p1,p2,hu=>by
  unfold Hv at p1;subst p1;unfold Hv at p2;obtain⟨t2,rfl⟩:=p2;exact EqAt.none_int  b2 t2
 |.non,.str b2,u,v,A,p1,p2,hu=>by
  unfold Hv at p1;subst p1;unfold Hv at p2;obtain⟨t2,rfl⟩:=p2;exact EqAt.none_str  b2 t2
 |.non,.tup ds2,u,v,A,p1,p2,hu=>by
  unfold Hv at p1;subst p1;unfold Hv at p2;obtain⟨a2,its2,rfl,l2,p2⟩:=p2;exact EqAt.none_tuple  l2 (by omega)
 |.non,.lst ds2,u,v,A,p1,p2,hu=>by
  unfold Hv at p1;subst p1;unfold Hv at p2;obtain⟨a2,its2,rfl,l2,p2⟩:=p2;exact EqAt.none_list  l2 (by omega)
 |.bl b1,.non,u,v,A,p1,p2,hu=>by
  unfold Hv at p1;subst p1;unfold Hv at p2;subst p2;exact EqAt.bool_none b1
 |.bl b1,.bl b2,u,v,A,p1,p2,hu=>by
  unfold Hv at p1;subst p1;unfold Hv at p2;subst p2;exact EqAt.bool_bool b1 b2
 |.bl b1,.int b2,u,v,A,p1,p2,hu=>by
  unfold Hv at p1;subst p1;unfold Hv at p2;obtain⟨t2,rfl⟩:=p2;exact EqAt.bool_int b1 b2 t2
 |.bl b1,.str b2,u,v,A,p1,p2,hu=>by
  unfold Hv at p1;subst p1;unfold Hv at p2;obtain⟨t2,rfl⟩:=p2;exact EqAt.bool_str b1 b2 t2
 |.bl b1,.tup ds2,u,v,A,p1,p2,hu=>by
  unfold Hv at p1;subst p1;unfold Hv at p2;obtain⟨a2,its2,rfl,l2,p2⟩:=p2;exact EqAt.bool_tuple b1 l2 (by omega)
 |.bl b1,.lst ds2,u,v,A,p1,p2,hu=>by
  unfold Hv at p1;subst p1;unfold Hv at p2;obtain⟨a2,its2,rfl,l2,p2⟩:=p2;exact EqAt.bool_list b1 l2 (by omega)
 |.int b1,.non,u,v,A,p1,p2,hu=>by
  unfold Hv at p1;obtain⟨t1,rfl⟩:=p1;unfold Hv at p2;subst p2;exact EqAt.int_none b1 t1
 |.int b1,.bl b2,u,v,A,p1,p2,hu=>by
  unfold Hv at p1;obtain⟨t1,rfl⟩:=p1;unfold Hv at p2;subst p2;exact EqAt.int_bool b1 t1 b2
 |.int b1,.int b2,u,v,A,p1,p2,hu=>by
  unfold Hv at p1;obtain⟨t1,rfl⟩:=p1;unfold Hv at p2;obtain⟨t2,rfl⟩:=p2;exact EqAt.int_int b1 t1 b2 t2
 |.int b1,.str b2,u,v,A,p1,p2,hu=>by
  unfold Hv at p1;obtain⟨t1,rfl⟩:=p1;unfold Hv at p2;obtain⟨t2,rfl⟩:=p2;exact EqAt.int_str b1 t1 b2 t2
 |.int b1,.tup ds2,u,v,A,p1,p2,hu=>by
  unfold Hv at p1;obtain⟨t1,rfl⟩:=p1;unfold Hv at p2;obtain⟨a2,its2,rfl,l2,p2⟩:=p2;exact EqAt.int_tuple b1 t1 l2 (by omega)
 |.int b1,.lst ds2,u,v,A,p1,p2,hu=>by
  unfold Hv at p1;obtain⟨t1,rfl⟩:=p1;unfold Hv at p2;obtain⟨a2,its2,rfl,l2,p2⟩:=p2;exact EqAt.int_list b1 t1 l2 (by omega)
 |.str b1,.non,u,v,A,p1,p2,hu=>by
  unfold Hv at p1;obtain⟨t1,rfl⟩:=p1;unfold Hv at p2;subst p2;exact EqAt.str_none b1 t1
 |.str b1,.bl b2,u,v,A,p1,p2,hu=>by
  unfold Hv at p1;obtain⟨t1,rfl⟩:=p1;unfold Hv at p2;subst p2;exact EqAt.str_bool b1 t1 b2
 |.str b1,.int b2,u,v,A,p1,p2,hu=>by
  unfold Hv at p1;obtain⟨t1,rfl⟩:=p1;unfold Hv at p2;obtain⟨t2,rfl⟩:=p2;exact EqAt.str_int b1 t1 b2 t2
 |.str b1,.str b2,u,v,A,p1,p2,hu=>by
  unfold Hv at p1;obtain⟨t1,rfl⟩:=p1;unfold Hv at p2;obtain⟨t2,rfl⟩:=p2;exact EqAt.str_str b1 t1 b2 t2
 |.str b1,.tup ds2,u,v,A,p1,p2,hu=>by
  unfold Hv at p1;obtain⟨t1,rfl⟩:=p1;unfold Hv at p2;obtain⟨a2,its2,rfl,l2,p2⟩:=p2;exact EqAt.str_tuple b1 t1 l2 (by omega)
 |.str b1,.lst ds2,u,v,A,p1,p2,hu=>by
  unfold Hv at p1;obtain⟨t1,rfl⟩:=p1;unfold Hv at p2;obtain⟨a2,its2,rfl,l2,p2⟩:=p2;exact EqAt.str_list b1 t1 l2 (by omega)
 |.tup ds1,.non,u,v,A,p1,p2,hu=>by
  unfold Hv at p1;obtain⟨a1,its1,rfl,l1,p1⟩:=p1;unfold Hv at p2;subst p2;exact EqAt.tuple_none  l1 (by omega)
 |.tup ds1,.bl b2,u,v,A,p1,p2,hu=>by
  unfold Hv at p1;obtain⟨a1,its1,rfl,l1,p1⟩:=p1;unfold Hv at p2;subst p2;exact EqAt.tuple_bool b2 l1 (by omega)
 |.tup ds1,.int b2,u,v,A,p1,p2,hu=>by
  unfold Hv at p1;obtain⟨a1,its1,rfl,l1,p1⟩:=p1;unfold Hv at p2;obtain⟨t2,rfl⟩:=p2;exact EqAt.tuple_int b2 t2 l1 (by omega)
 |.tup ds1,.str b2,u,v,A,p1,p2,hu=>by
  unfold Hv at p1;obtain⟨a1,its1,rfl,l1,p1⟩:=p1;unfold Hv at p2;obtain⟨t2,rfl⟩:=p2;exact EqAt.tuple_str b2 t2 l1 (by omega)
 |.tup ds1,.tup ds2,u,v,A,p1,p2,hu=>by
  unfold Hv at p1;obtain⟨a1,its1,rfl,l1,p1⟩:=p1;unfold Hv at p2;obtain⟨a2,its2,rfl,l2,p2⟩:=p2;unfold D.eqb;by_cases ha:a1=a2
  ·subst ha;have e0:(.tup ds1:D)=.tup ds2:=Hv.inj (h:=s.heap) (u:=.ref a1) (by unfold Hv;exact⟨a1,its1,rfl,l1,p1⟩) (by unfold Hv;exact⟨a1,its2,rfl,l2,p2⟩);injection e0 with e0;subst e0;rw[p1.refl];exact EqAt.same _
  ·refine EqAt.of_refs ha ?_;have hdep:A.units+deps ds1+1+1<cLine:=by
    have e9:(.tup ds1:D).dep=deps ds1+1:=by first|rfl|(unfold D.dep;rfl)
    omega
   have q:=RcAt.tuples (e:=fun j=>(ds1.getD j .non).eqb (ds2.getD j .non)) l1 l2 (by omega) fun j h1 h2=>
    have m:=(q4z p1 h1).2
    eqAt (ds1.getD j .non) (ds2.getD j .non) _ _ A.in1 (q4z p1 h1).1 (q4z p2 h2).1 (by
     have:=dep_mem m;show A.units+1+_+1<cLine;omega)
   rw[List.size_toArray,List.size_toArray,p1.length,p2.length,qbrz] at q;exact q
 |.tup ds1,.lst ds2,u,v,A,p1,p2,hu=>by
  unfold Hv at p1;obtain⟨a1,its1,rfl,l1,p1⟩:=p1;unfold Hv at p2;obtain⟨a2,its2,rfl,l2,p2⟩:=p2;exact EqAt.tuple_list l1 l2 (by omega)
 |.lst ds1,.non,u,v,A,p1,p2,hu=>by
  unfold Hv at p1;obtain⟨a1,its1,rfl,l1,p1⟩:=p1;unfold Hv at p2;subst p2;exact EqAt.list_none  l1 (by omega)
 |.lst ds1,.bl b2,u,v,A,p1,p2,hu=>by
  unfold Hv at p1;obtain⟨a1,its1,rfl,l1,p1⟩:=p1;unfold Hv at p2;subst p2;exact EqAt.list_bool b2 l1 (by omega)
 |.lst ds1,.int b2,u,v,A,p1,p2,hu=>by
  unfold Hv at p1;obtain⟨a1,its1,rfl,l1,p1⟩:=p1;unfold Hv at p2;obtain⟨t2,rfl⟩:=p2;exact EqAt.list_int b2 t2 l1 (by omega)
 |.lst ds1,.str b2,u,v,A,p1,p2,hu=>by
  unfold Hv at p1;obtain⟨a1,its1,rfl,l1,p1⟩:=p1;unfold Hv at p2;obtain⟨t2,rfl⟩:=p2;exact EqAt.list_str b2 t2 l1 (by omega)
 |.lst ds1,.tup ds2,u,v,A,p1,p2,hu=>by
  unfold Hv at p1;obtain⟨a1,its1,rfl,l1,p1⟩:=p1;unfold Hv at p2;obtain⟨a2,its2,rfl,l2,p2⟩:=p2;exact EqAt.list_tuple l1 l2 (by omega)
 |.lst ds1,.lst ds2,u,v,A,p1,p2,hu=>by
  unfold Hv at p1;obtain⟨a1,its1,rfl,l1,p1⟩:=p1;unfold Hv at p2;obtain⟨a2,its2,rfl,l2,p2⟩:=p2;unfold D.eqb;by_cases ha:a1=a2
  ·subst ha;have e0:(.lst ds1:D)=.lst ds2:=Hv.inj (h:=s.heap) (u:=.ref a1) (by unfold Hv;exact⟨a1,its1,rfl,l1,p1⟩) (by unfold Hv;exact⟨a1,its2,rfl,l2,p2⟩);injection e0 with e0;subst e0;rw[p1.refl];exact EqAt.same _
  ·refine EqAt.of_refs ha ?_;have hdep:A.units+deps ds1+1+1<cLine:=by
    have e9:(.lst ds1:D).dep=deps ds1+1:=by first|rfl|(unfold D.dep;rfl)
    omega
   by_cases hn:ds1.length=ds2.length
   ·have q:=RcAt.lists (e:=fun j=>(ds1.getD j .non).eqb (ds2.getD j .non)) l1 l2 (by simp[p1.length,p2.length,hn]) (by omega) fun j h1 h2=>
     have m:=(q4z p1 h1).2
     eqAt (ds1.getD j .non) (ds2.getD j .non) _ _ A.in1 (q4z p1 h1).1 (q4z p2 h2).1 (by
      have:=dep_mem m;show A.units+1+_+1<cLine;omega)
    have q2:=qbrz ds1 ds2;rw[hn,Nat.min_self,beq_self_eq_true,Bool.and_true] at q2;rw[List.size_toArray,p1.length,hn,q2] at q;exact q
   ·rw[qegz _ _ hn];exact RcAt.lists_lengths l1 l2 (by simp[p1.length,p2.length,hn]) (by omega)
 |.non,.dct,u,v,A,p1,p2,hu=>by
  unfold Hv at p2;exact p2.elim
 |.bl b1,.dct,u,v,A,p1,p2,hu=>by
  unfold Hv at p2;exact p2.elim
 |.int b1,.dct,u,v,A,p1,p2,hu=>by
  unfold Hv at p2;exact p2.elim
 |.str b1,.dct,u,v,A,p1,p2,hu=>by
  unfold Hv at p2;exact p2.elim
 |.tup ds1,.dct,u,v,A,p1,p2,hu=>by
  unfold Hv at p2;exact p2.elim
 |.lst ds1,.dct,u,v,A,p1,p2,hu=>by
  unfold Hv at p2;exact p2.elim
 |.dct,e,u,v,A,p1,p2,hu=>by
  unfold Hv at p1;exact p1.elim
termination_by d=>sizeOf d
decreasing_by
 all_goals (have:=List.sizeOf_lt_of_mem m;first|(rw[D.tup.sizeOf_spec];omega)|(rw[D.lst.sizeOf_spec];omega))
theorem rcAt{s:Shared}(d e:D)(u v:Value)(A:Around)(p1:Hv s.heap d u)(p2:Hv s.heap e v)(hu:A.units+d.dep+1<cLine):RcAt A s u v (d.eqb e):=
 match d,e,p1,p2,hu with
 |.non,.non,p1,p2,hu=>by
  unfold Hv at p1;subst p1;unfold Hv at p2;subst p2;exact RcAt.none_none
 |.non,.bl b2,p1,p2,hu=>by
  unfold Hv at p1;subst p1;unfold Hv at p2;subst p2;exact RcAt.none_bool  b2
 |.non,.int b2,p1,p2,hu=>by
  unfold Hv at p1;subst p1;unfold Hv at p2;obtain⟨t2,rfl⟩:=p2;exact RcAt.none_int  b2 t2
 |.non,.str b2,p1,p2,hu=>by
  unfold Hv at p1;subst p1;unfold Hv at p2;obtain⟨t2,rfl⟩:=p2;exact RcAt.none_str  b2 t2
 |.non,.tup ds2,p1,p2,hu=>by
  unfold Hv at p1;subst p1;unfold Hv at p2;obtain⟨a2,its2,rfl,l2,p2⟩:=p2;exact RcAt.none_tuple  l2 (by omega)
 |.non,.lst ds2,p1,p2,hu=>by
  unfold Hv at p1;subst p1;unfold Hv at p2;obtain⟨a2,its2,rfl,l2,p2⟩:=p2;exact RcAt.none_list  l2 (by omega)
 |.bl b1,.non,p1,p2,hu=>by
  unfold Hv at p1;subst p1;unfold Hv at p2;subst p2;exact RcAt.bool_none b1
 |.bl b1,.bl b2,p1,p2,hu=>by
  unfold Hv at p1;subst p1;unfold Hv at p2;subst p2;exact RcAt.bool_bool b1 b2
 |.bl b1,.int b2,p1,p2,hu=>by
  unfold Hv at p1;subst p1;unfold Hv at p2;obtain⟨t2,rfl⟩:=p2;exact RcAt.bool_int b1 b2 t2
 |.bl b1,.str b2,p1,p2,hu=>by
  unfold Hv at p1;subst p1;unfold Hv at p2;obtain⟨t2,rfl⟩:=p2;exact RcAt.bool_str b1 b2 t2
 |.bl b1,.tup ds2,p1,p2,hu=>by
  unfold Hv at p1;subst p1;unfold Hv at p2;obtain⟨a2,its2,rfl,l2,p2⟩:=p2;exact RcAt.bool_tuple b1 l2 (by omega)
 |.bl b1,.lst ds2,p1,p2,hu=>by
  unfold Hv at p1;subst p1;unfold Hv at p2;obtain⟨a2,its2,rfl,l2,p2⟩:=p2;exact RcAt.bool_list b1 l2 (by omega)
 |.int b1,.non,p1,p2,hu=>by
  unfold Hv at p1;obtain⟨t1,rfl⟩:=p1;unfold Hv at p2;subst p2;exact RcAt.int_none b1 t1
 |.int b1,.bl b2,p1,p2,hu=>by
  unfold Hv at p1;obtain⟨t1,rfl⟩:=p1;unfold Hv at p2;subst p2;exact RcAt.int_bool b1 t1 b2
 |.int b1,.int b2,p1,p2,hu=>by
  unfold Hv at p1;obtain⟨t1,rfl⟩:=p1;unfold Hv at p2;obtain⟨t2,rfl⟩:=p2;exact RcAt.int_int b1 t1 b2 t2
 |.int b1,.str b2,p1,p2,hu=>by
  unfold Hv at p1;obtain⟨t1,rfl⟩:=p1;unfold Hv at p2;obtain⟨t2,rfl⟩:=p2;exact RcAt.int_str b1 t1 b2 t2
 |.int b1,.tup ds2,p1,p2,hu=>by
  unfold Hv at p1;obtain⟨t1,rfl⟩:=p1;unfold Hv at p2;obtain⟨a2,its2,rfl,l2,p2⟩:=p2;exact RcAt.int_tuple b1 t1 l2 (by omega)
 |.int b1,.lst ds2,p1,p2,hu=>by
  unfold Hv at p1;obtain⟨t1,rfl⟩:=p1;unfold Hv at p2;obtain⟨a2,its2,rfl,l2,p2⟩:=p2;exact RcAt.int_list b1 t1 l2 (by omega)
 |.str b1,.non,p1,p2,hu=>by
  unfold Hv at p1;obtain⟨t1,rfl⟩:=p1;unfold Hv at p2;subst p2;exact RcAt.str_none b1 t1
 |.str b1,.bl b2,p1,p2,hu=>by
  unfold Hv at p1;obtain⟨t1,rfl⟩:=p1;unfold Hv at p2;subst p2;exact RcAt.str_bool b1 t1 b2
 |.str b1,.int b2,p1,p2,hu=>by
  unfold Hv at p1;obtain⟨t1,rfl⟩:=p1;unfold Hv at p2;obtain⟨t2,rfl⟩:=p2;exact RcAt.str_int b1 t1 b2 t2
 |.str b1,.str b2,p1,p2,hu=>by
  unfold Hv at p1;obtain⟨t1,rfl⟩:=p1;unfold Hv at p2;obtain⟨t2,rfl⟩:=p2;exact RcAt.str_str b1 t1 b2 t2
 |.str b1,.tup ds2,p1,p2,hu=>by
  unfold Hv at p1;obtain⟨t1,rfl⟩:=p1;unfold Hv at p2;obtain⟨a2,its2,rfl,l2,p2⟩:=p2;exact RcAt.str_tuple b1 t1 l2 (by omega)
 |.str b1,.lst ds2,p1,p2,hu=>by
  unfold Hv at p1;obtain⟨t1,rfl⟩:=p1;unfold Hv at p2;obtain⟨a2,its2,rfl,l2,p2⟩:=p2;exact RcAt.str_list b1 t1 l2 (by omega)
 |.tup ds1,.non,p1,p2,hu=>by
  unfold Hv at p1;obtain⟨a1,its1,rfl,l1,p1⟩:=p1;unfold Hv at p2;subst p2;exact RcAt.tuple_none  l1 (by omega)
 |.tup ds1,.bl b2,p1,p2,hu=>by
  unfold Hv at p1;obtain⟨a1,its1,rfl,l1,p1⟩:=p1;unfold Hv at p2;subst p2;exact RcAt.tuple_bool b2 l1 (by omega)
 |.tup ds1,.int b2,p1,p2,hu=>by
  unfold Hv at p1;obtain⟨a1,its1,rfl,l1,p1⟩:=p1;unfold Hv at p2;obtain⟨t2,rfl⟩:=p2;exact RcAt.tuple_int b2 t2 l1 (by omega)
 |.tup ds1,.str b2,p1,p2,hu=>by
  unfold Hv at p1;obtain⟨a1,its1,rfl,l1,p1⟩:=p1;unfold Hv at p2;obtain⟨t2,rfl⟩:=p2;exact RcAt.tuple_str b2 t2 l1 (by omega)
 |.tup ds1,.tup ds2,p1,p2,hu=>by
  unfold Hv at p1;obtain⟨a1,its1,rfl,l1,p1⟩:=p1;unfold Hv at p2;obtain⟨a2,its2,rfl,l2,p2⟩:=p2;unfold D.eqb;have hdep:A.units+deps ds1+1+1<cLine:=by
   have e9:(.tup ds1:D).dep=deps ds1+1:=by first|rfl|(unfold D.dep;rfl)
   omega
  have q:=RcAt.tuples (e:=fun j=>(ds1.getD j .non).eqb (ds2.getD j .non)) l1 l2 (by omega) fun j h1 h2=>
   eqAt (ds1.getD j .non) (ds2.getD j .non) _ _ A.in1 (q4z p1 h1).1 (q4z p2 h2).1 (by
    have:=dep_mem (q4z p1 h1).2;show A.units+1+_+1<cLine;omega)
  rw[List.size_toArray,List.size_toArray,p1.length,p2.length,qbrz] at q;exact q
 |.tup ds1,.lst ds2,p1,p2,hu=>by
  unfold Hv at p1;obtain⟨a1,its1,rfl,l1,p1⟩:=p1;unfold Hv at p2;obtain⟨a2,its2,rfl,l2,p2⟩:=p2;exact RcAt.tuple_list l1 l2 (by omega)
 |.lst ds1,.non,p1,p2,hu=>by
  unfold Hv at p1;obtain⟨a1,its1,rfl,l1,p1⟩:=p1;unfold Hv at p2;subst p2;exact RcAt.list_none  l1 (by omega)
 |.lst ds1,.bl b2,p1,p2,hu=>by
  unfold Hv at p1;obtain⟨a1,its1,rfl,l1,p1⟩:=p1;unfold Hv at p2;subst p2;exact RcAt.list_bool b2 l1 (by omega)
 |.lst ds1,.int b2,p1,p2,hu=>by
  unfold Hv at p1;obtain⟨a1,its1,rfl,l1,p1⟩:=p1;unfold Hv at p2;obtain⟨t2,rfl⟩:=p2;exact RcAt.list_int b2 t2 l1 (by omega)
 |.lst ds1,.str b2,p1,p2,hu=>by
  unfold Hv at p1;obtain⟨a1,its1,rfl,l1,p1⟩:=p1;unfold Hv at p2;obtain⟨t2,rfl⟩:=p2;exact RcAt.list_str b2 t2 l1 (by omega)
 |.lst ds1,.tup ds2,p1,p2,hu=>by
  unfold Hv at p1;obtain⟨a1,its1,rfl,l1,p1⟩:=p1;unfold Hv at p2;obtain⟨a2,its2,rfl,l2,p2⟩:=p2;exact RcAt.list_tuple l1 l2 (by omega)
 |.lst ds1,.lst ds2,p1,p2,hu=>by
  unfold Hv at p1;obtain⟨a1,its1,rfl,l1,p1⟩:=p1;unfold Hv at p2;obtain⟨a2,its2,rfl,l2,p2⟩:=p2;unfold D.eqb;have hdep:A.units+deps ds1+1+1<cLine:=by
   have e9:(.lst ds1:D).dep=deps ds1+1:=by first|rfl|(unfold D.dep;rfl)
   omega
  by_cases hn:ds1.length=ds2.length
  ·have q:=RcAt.lists (e:=fun j=>(ds1.getD j .non).eqb (ds2.getD j .non)) l1 l2 (by simp[p1.length,p2.length,hn]) (by omega) fun j h1 h2=>
    eqAt (ds1.getD j .non) (ds2.getD j .non) _ _ A.in1 (q4z p1 h1).1 (q4z p2 h2).1 (by
     have:=dep_mem (q4z p1 h1).2;show A.units+1+_+1<cLine;omega)
   have q2:=qbrz ds1 ds2;rw[hn,Nat.min_self,beq_self_eq_true,Bool.and_true] at q2;rw[List.size_toArray,p1.length,hn,q2] at q;exact q
  ·rw[qegz _ _ hn];exact RcAt.lists_lengths l1 l2 (by simp[p1.length,p2.length,hn]) (by omega)
 |d,.dct,p1,p2,hu=>by
  unfold Hv at p2;exact p2.elim
 |.dct,e,p1,p2,hu=>by
  unfold Hv at p1;exact p1.elim
theorem rcNe{s:Shared}(d e:D)(u v:Value)(A:Around)(p1:Hv s.heap d u)(p2:Hv s.heap e v)(hu:A.units+d.dep+1<cLine):RcNeAt A s u v (!d.eqb e):=
 match d,e,p1,p2,hu with
 |.non,.non,p1,p2,hu=>by
  unfold Hv at p1;subst p1;unfold Hv at p2;subst p2;exact RcNeAt.none_none
 |.non,.bl b2,p1,p2,hu=>by
  unfold Hv at p1;subst p1;unfold Hv at p2;subst p2;exact RcNeAt.none_bool  b2
 |.non,.int b2,p1,p2,hu=>by
  unfold Hv at p1;subst p1;unfold Hv at p2;obtain⟨t2,rfl⟩:=p2;exact RcNeAt.none_int  b2 t2
 |.non,.str b2,p1,p2,hu=>by
  unfold Hv at p1;subst p1;unfold Hv at p2;obtain⟨t2,rfl⟩:=p2;exact RcNeAt.none_str  b2 t2
 |.non,.tup ds2,p1,p2,hu=>by
  unfold Hv at p1;subst p1;unfold Hv at p2;obtain⟨a2,its2,rfl,l2,p2⟩:=p2;exact RcNeAt.none_tuple  l2 (by omega)
 |.non,.lst ds2,p1,p2,hu=>by
  unfold Hv at p1;subst p1;unfold Hv at p2;obtain⟨a2,its2,rfl,l2,p2⟩:=p2;exact RcNeAt.none_list  l2 (by omega)
 |.bl b1,.non,p1,p2,hu=>by
  unfold Hv at p1;subst p1;unfold Hv at p2;subst p2;exact RcNeAt.bool_none b1
 |.bl b1,.bl b2,p1,p2,hu=>by
  unfold Hv at p1;subst p1;unfold Hv at p2;subst p2;exact RcNeAt.bool_bool b1 b2
 |.bl b1,.int b2,p1,p2,hu=>by
  unfold Hv at p1;subst p1;unfold Hv at p2;obtain⟨t2,rfl⟩:=p2;exact RcNeAt.bool_int b1 b2 t2
 |.bl b1,.str b2,p1,p2,hu=>by
  unfold Hv at p1;subst p1;unfold Hv at p2;obtain⟨t2,rfl⟩:=p2;exact RcNeAt.bool_str b1 b2 t2
 |.bl b1,.tup ds2,p1,p2,hu=>by
  unfold Hv at p1;subst p1;unfold Hv at p2;obtain⟨a2,its2,rfl,l2,p2⟩:=p2;exact RcNeAt.bool_tuple b1 l2 (by omega)
 |.bl b1,.lst ds2,p1,p2,hu=>by
  unfold Hv at p1;subst p1;unfold Hv at p2;obtain⟨a2,its2,rfl,l2,p2⟩:=p2;exact RcNeAt.bool_list b1 l2 (by omega)
 |.int b1,.non,p1,p2,hu=>by
  unfold Hv at p1;obtain⟨t1,rfl⟩:=p1;unfold Hv at p2;subst p2;exact RcNeAt.int_none b1 t1
 |.int b1,.bl b2,p1,p2,hu=>by
  unfold Hv at p1;obtain⟨t1,rfl⟩:=p1;unfold Hv at p2;subst p2;exact RcNeAt.int_bool b1 t1 b2
 |.int b1,.int b2,p1,p2,hu=>by
  unfold Hv at p1;obtain⟨t1,rfl⟩:=p1;unfold Hv at p2;obtain⟨t2,rfl⟩:=p2;exact RcNeAt.int_int b1 t1 b2 t2
 |.int b1,.str b2,p1,p2,hu=>by
  unfold Hv at p1;obtain⟨t1,rfl⟩:=p1;unfold Hv at p2;obtain⟨t2,rfl⟩:=p2;exact RcNeAt.int_str b1 t1 b2 t2
 |.int b1,.tup ds2,p1,p2,hu=>by
  unfold Hv at p1;obtain⟨t1,rfl⟩:=p1;unfold Hv at p2;obtain⟨a2,its2,rfl,l2,p2⟩:=p2;exact RcNeAt.int_tuple b1 t1 l2 (by omega)
 |.int b1,.lst ds2,p1,p2,hu=>by
  unfold Hv at p1;obtain⟨t1,rfl⟩:=p1;unfold Hv at p2;obtain⟨a2,its2,rfl,l2,p2⟩:=p2;exact RcNeAt.int_list b1 t1 l2 (by omega)
 |.str b1,.non,p1,p2,hu=>by
  unfold Hv at p1;obtain⟨t1,rfl⟩:=p1;unfold Hv at p2;subst p2;exact RcNeAt.str_none b1 t1
 |.str b1,.bl b2,p1,p2,hu=>by
  unfold Hv at p1;obtain⟨t1,rfl⟩:=p1;unfold Hv at p2;subst p2;exact RcNeAt.str_bool b1 t1 b2
 |.str b1,.int b2,p1,p2,hu=>by
  unfold Hv at p1;obtain⟨t1,rfl⟩:=p1;unfold Hv at p2;obtain⟨t2,rfl⟩:=p2;exact RcNeAt.str_int b1 t1 b2 t2
 |.str b1,.str b2,p1,p2,hu=>by
  unfold Hv at p1;obtain⟨t1,rfl⟩:=p1;unfold Hv at p2;obtain⟨t2,rfl⟩:=p2;exact RcNeAt.str_str b1 t1 b2 t2
 |.str b1,.tup ds2,p1,p2,hu=>by
  unfold Hv at p1;obtain⟨t1,rfl⟩:=p1;unfold Hv at p2;obtain⟨a2,its2,rfl,l2,p2⟩:=p2;exact RcNeAt.str_tuple b1 t1 l2 (by omega)
 |.str b1,.lst ds2,p1,p2,hu=>by
  unfold Hv at p1;obtain⟨t1,rfl⟩:=p1;unfold Hv at p2;obtain⟨a2,its2,rfl,l2,p2⟩:=p2;exact RcNeAt.str_list b1 t1 l2 (by omega)
 |.tup ds1,.non,p1,p2,hu=>by
  unfold Hv at p1;obtain⟨a1,its1,rfl,l1,p1⟩:=p1;unfold Hv at p2;subst p2;exact RcNeAt.tuple_none  l1 (by omega)
 |.tup ds1,.bl b2,p1,p2,hu=>by
  unfold Hv at p1;obtain⟨a1,its1,rfl,l1,p1⟩:=p1;unfold Hv at p2;subst p2;exact RcNeAt.tuple_bool b2 l1 (by omega)
 |.tup ds1,.int b2,p1,p2,hu=>by
  unfold Hv at p1;obtain⟨a1,its1,rfl,l1,p1⟩:=p1;unfold Hv at p2;obtain⟨t2,rfl⟩:=p2;exact RcNeAt.tuple_int b2 t2 l1 (by omega)
 |.tup ds1,.str b2,p1,p2,hu=>by
  unfold Hv at p1;obtain⟨a1,its1,rfl,l1,p1⟩:=p1;unfold Hv at p2;obtain⟨t2,rfl⟩:=p2;exact RcNeAt.tuple_str b2 t2 l1 (by omega)
 |.tup ds1,.tup ds2,p1,p2,hu=>by
  unfold Hv at p1;obtain⟨a1,its1,rfl,l1,p1⟩:=p1;unfold Hv at p2;obtain⟨a2,its2,rfl,l2,p2⟩:=p2;unfold D.eqb;have hdep:A.units+deps ds1+1+1<cLine:=by
   have e9:(.tup ds1:D).dep=deps ds1+1:=by first|rfl|(unfold D.dep;rfl)
   omega
  have q:=RcNeAt.tuples (e:=fun j=>(ds1.getD j .non).eqb (ds2.getD j .non)) l1 l2 (by omega) fun j h1 h2=>
   eqAt (ds1.getD j .non) (ds2.getD j .non) _ _ A.in1 (q4z p1 h1).1 (q4z p2 h2).1 (by
    have:=dep_mem (q4z p1 h1).2;show A.units+1+_+1<cLine;omega)
  rw[List.size_toArray,List.size_toArray,p1.length,p2.length,qbrz] at q;exact q
 |.tup ds1,.lst ds2,p1,p2,hu=>by
  unfold Hv at p1;obtain⟨a1,its1,rfl,l1,p1⟩:=p1;unfold Hv at p2;obtain⟨a2,its2,rfl,l2,p2⟩:=p2;exact RcNeAt.tuple_list l1 l2 (by omega)
 |.lst ds1,.non,p1,p2,hu=>by
  unfold Hv at p1;obtain⟨a1,its1,rfl,l1,p1⟩:=p1;unfold Hv at p2;subst p2;exact RcNeAt.list_none  l1 (by omega)
 |.lst ds1,.bl b2,p1,p2,hu=>by
  unfold Hv at p1;obtain⟨a1,its1,rfl,l1,p1⟩:=p1;unfold Hv at p2;subst p2;exact RcNeAt.list_bool b2 l1 (by omega)
 |.lst ds1,.int b2,p1,p2,hu=>by
  unfold Hv at p1;obtain⟨a1,its1,rfl,l1,p1⟩:=p1;unfold Hv at p2;obtain⟨t2,rfl⟩:=p2;exact RcNeAt.list_int b2 t2 l1 (by omega)
 |.lst ds1,.str b2,p1,p2,hu=>by
  unfold Hv at p1;obtain⟨a1,its1,rfl,l1,p1⟩:=p1;unfold Hv at p2;obtain⟨t2,rfl⟩:=p2;exact RcNeAt.list_str b2 t2 l1 (by omega)
 |.lst ds1,.tup ds2,p1,p2,hu=>by
  unfold Hv at p1;obtain⟨a1,its1,rfl,l1,p1⟩:=p1;unfold Hv at p2;obtain⟨a2,its2,rfl,l2,p2⟩:=p2;exact RcNeAt.list_tuple l1 l2 (by omega)
 |.lst ds1,.lst ds2,p1,p2,hu=>by
  unfold Hv at p1;obtain⟨a1,its1,rfl,l1,p1⟩:=p1;unfold Hv at p2;obtain⟨a2,its2,rfl,l2,p2⟩:=p2;unfold D.eqb;have hdep:A.units+deps ds1+1+1<cLine:=by
   have e9:(.lst ds1:D).dep=deps ds1+1:=by first|rfl|(unfold D.dep;rfl)
   omega
  by_cases hn:ds1.length=ds2.length
  ·have q:=RcNeAt.lists (e:=fun j=>(ds1.getD j .non).eqb (ds2.getD j .non)) l1 l2 (by simp[p1.length,p2.length,hn]) (by omega) fun j h1 h2=>
    eqAt (ds1.getD j .non) (ds2.getD j .non) _ _ A.in1 (q4z p1 h1).1 (q4z p2 h2).1 (by
     have:=dep_mem (q4z p1 h1).2;show A.units+1+_+1<cLine;omega)
   have q2:=qbrz ds1 ds2;rw[hn,Nat.min_self,beq_self_eq_true,Bool.and_true] at q2;rw[List.size_toArray,p1.length,hn,q2] at q;exact q
  ·rw[qegz _ _ hn];exact RcNeAt.lists_lengths l1 l2 (by simp[p1.length,p2.length,hn]) (by omega)
 |d,.dct,p1,p2,hu=>by
  unfold Hv at p2;exact p2.elim
 |.dct,e,p1,p2,hu=>by
  unfold Hv at p1;exact p1.elim
end Dat
namespace L3
open PySem PySem.Spec PyProof.Rows L2
section
variable {X:Cx} {K:PySem.W.Frag}
def rI3(f:Int->Int->D):R3:=fun x y G Q=>match x,y with
 |.int i,.int j=>Q (f i j) G
 |_,_=>False
theorem qtz{H:Hp}{i:Int}{v:V}(h:Hv K H (.int i) v):v=.int i:=by unfold Hv at h;exact h
theorem qcxz{H:Hp}{i:Bool}{v:V}(h:Hv K H (.bl i) v):v=.bl i:=by unfold Hv at h;exact h
theorem qyz{H:Hp}{a:Addr}{v:V}(h:Hv K H (.obj a) v):v=.ref a:=by unfold Hv at h;exact h
theorem qakz{H:Hp}{ds:List D}{v:V}(h:Hv K H (.tup ds) v):∃a vs,v=.ref a/\SqT K H a vs/\Hvs K H ds vs:=by unfold Hv at h;exact h
theorem qbsz{H:Hp}{ds:List D}{v:V}(h:Hv K H (.scr ds) v):∃a vs,v=.ref a/\SqF K H a vs/\Hvs K H ds vs:=by unfold Hv at h;exact h
theorem q9z{H:Hp}{i:Int}:Hv K H (.int i) (.int i):=by simp[Hv]
theorem qalz{H:Hp}{i:Bool}:Hv K H (.bl i) (.bl i):=by simp[Hv]
theorem qcdz{H:Hp}{a:Addr}:Hv K H (.obj a) (.ref a):=by simp[Hv]
theorem qbcz{H:Hp}{ds:List D}{a:Addr}{vs:List V}(h:SqT K H a vs)(q:Hvs K H ds vs):Hv K H (.tup ds) (.ref a):=by
 unfold Hv;exact⟨a,vs,rfl,h,q⟩
theorem low_ints{f:Int->Int->D}{g:Int->Int->V}(hf:∀i j H,Hv K H (f i j) (g i j)):LowR K (rI3 f) (rI0 g):=fun x y vx vy G H Q3 Q hx hy RG h k=>by
 cases x with
 |int i=>
  cases y with
  |int j=>
   rw[qtz hx,qtz hy];exact⟨i,j,rfl,rfl,k _ H _ G (hf i j H) (.refl H G) RG h⟩
  |_=>exact h.elim
 |_=>exact h.elim
abbrev rSub3:R3:=rI3 fun i j=>.int (i-j)
theorem qcyz:LowR K rSub3 (rI0 fun i j=>.int (i-j)):=low_ints fun _ _ _=>q9z
abbrev rLe3:R3:=rI3 fun i j=>.bl (decide (i≤j))
theorem l_le:LowR K rLe3 (rI0 fun i j=>.bl (decide (i≤j))):=low_ints fun _ _ _=>qalz
abbrev rGt3:R3:=rI3 fun i j=>.bl (decide (j<i))
theorem l_gt:LowR K rGt3 (rI0 fun i j=>.bl (decide (j<i))):=low_ints fun _ _ _=>qalz
abbrev rGe3:R3:=rI3 fun i j=>.bl (decide (j≤i))
theorem l_ge:LowR K rGe3 (rI0 fun i j=>.bl (decide (j≤i))):=low_ints fun _ _ _=>qalz
def Big(i:Int):Prop:=i.natAbs<2^4000
theorem qjjz{i:Int}(h:Big i):i.natAbs.log2<4000:=by
 by_cases h0:i.natAbs=0
 ·rw[h0];decide
 ·exact (Nat.log2_lt h0).mpr h
theorem qjkz{i:Int}(h:Big i):Builtin.Int.intBits i≤4000:=by
 unfold Builtin.Int.intBits;split
 ·exact Nat.zero_le _
 ·exact qjjz h
theorem qsiz{i j:Int}(h1:Big i)(h2:Big j):IntMulOk i j:=by
 unfold IntMulOk Builtin.Int.intTooBig;have b1:=qjkz h1;have b2:=qjkz h2;have:¬((Builtin.Int.intBits i:Int)+(Builtin.Int.intBits j:Int) > (bitsLine:Int)):=by
  have:(bitsLine:Int)=134217728:=by decide
  omega
 rw[decide_eq_false this];simp
theorem qa0z:OpR X (binaryOp .FloorDiv) (rI (fun _ j=>0<j/\Big j) fun i j=>.int (i / j)):=opI fun i j _ _ _ _ _ hc q=>by
 have h1:(0:Int)<j:=hc.1;exact floordiv_int (by omega) (by rw[Int.fdiv_eq_ediv_of_nonneg i (by omega)];exact q) (.inl (PyProof.noPylong_of_log2 (Nat.lt_trans (qjjz hc.2) (by decide))))
theorem op_mulB:OpR X (binaryOp .Mult) (rI (fun i j=>Big i/\Big j) fun i j=>.int (i*j)):=opI fun _ _ _ _ _ _ _ hc q=>mul_int q (qsiz hc.1 hc.2)
def rIC3(C:Int->Int->Prop)(f:Int->Int->D):R3:=fun x y G Q=>match x,y with
 |.int i,.int j=>C i j/\Q (f i j) G
 |_,_=>False
theorem qehz{C:Int->Int->Prop}{f:Int->Int->D}{g:Int->Int->V}(hf:∀i j H,Hv K H (f i j) (g i j)):LowR K (rIC3 C f) (rI C g):=fun x y vx vy G H Q3 Q hx hy RG h k=>by
 cases x with
 |int i=>
  cases y with
  |int j=>
   rw[qtz hx,qtz hy];exact⟨i,j,rfl,rfl,h.1,k _ H _ G (hf i j H) (.refl H G) RG h.2⟩
  |_=>exact h.elim
 |_=>exact h.elim
abbrev rDiv3:R3:=rIC3 (fun _ j=>0<j/\Big j) fun i j=>.int (i / j)
theorem qa1z:LowR K rDiv3 (rI (fun _ j=>0<j/\Big j) fun i j=>.int (i / j)):=qehz fun _ _ _=>q9z
abbrev rMod3:R3:=rIC3 (fun _ j=>0<j) fun i j=>.int (i%j)
theorem qawz:LowR K rMod3 (rI (fun _ j=>0<j) fun i j=>.int (i%j)):=qehz fun _ _ _=>q9z
abbrev rPow3:R3:=rIC3 CPow fun i j=>.int (i^j.toNat)
theorem qsjz:LowR K rPow3 (rI CPow fun i j=>.int (i^j.toNat)):=qehz fun _ _ _=>q9z
theorem qskz{prog:Program}{w:World}{A:Around}{E:Value->Shared->Prop}{s:Shared}{t b:Addr}{ws:List Value}{Q:Value->Shared->Prop}(ht:IsTup s.heap t #[])(hb:IsTup s.heap b ws.toArray)(h1:Q (.ref b) s):
  wpAny (model prog w) A (binaryOp .Add (.ref t) (.ref b)) Q E s:=by
 obtain⟨⟨cls,dd,data,sl⟩,ho,hc,n,hd⟩:=id ht;obtain⟨⟨cls2,dd2,data2,sl2⟩,ho2,hc2,n2,hd2⟩:=id hb;simp only at hc hd hc2 hd2;subst hc hd hc2 hd2;exact concat_meets ⟨_,ho,rfl⟩ ⟨_,ho2,rfl⟩ noFill_tuple_add seq_tuple_add PySem.F.slot_tuple_add PySem.F.entry_tuple_add (PySem.F.args_tuple_add_2 _ _)
   (tuple_addW0 t b #[] ws.toArray n n2 dd dd2 sl sl2 rfl) ⟨ho,ho2,h1⟩
def rCatT0(K:PySem.W.Frag):R2:=fun x y H Q=>∃a b ys,x=.ref a/\y=.ref b/\SqT K H a []/\SqT K H b ys/\Q (.ref b) H
theorem qslz:OpR X (binaryOp .Add) (rCatT0 X.K):=by
 intro pins s σ H x y v u Q I rx ry h;obtain⟨a,b,ys,rfl,rfl,ha,hb,q⟩:=h;cases rx;cases ry;obtain⟨its,r1,p1,_⟩:=I.tuple ha;obtain⟨its2,r2,p2,_⟩:=I.tuple hb;cases r1;exact qskz p1 p2 ⟨.ref b,H,I,rfl,q⟩
def rAdd3:R3:=fun x y G Q=>match x,y with
 |.int i,.int j=>Q (.int (i+j)) G
 |.obj a,.obj b=>∃ds es,G a=some (.lst ds)/\G b=some (.lst es)/\ds.length+es.length≤sizeLine/\∀p G',New G p (.lst (ds++es)) G'->Q (.obj p) G'
 |.tup ds,.tup es=>ds.length+es.length≤sizeLine/\Q (.tup (ds++es)) G
 |_,_=>False
abbrev rAdd2(K:PySem.W.Frag):R2:=fun x y H Q=>rI0 (fun i j=>.int (i+j)) x y H Q∨(rCat x y H Q∨(rCatT K x y H Q∨rCatT0 K x y H Q))
theorem qaaz:OpR X (binaryOp .Add) (rAdd2 X.K):=op_add.or (op_cat.or (op_catT.or qslz))
theorem qabz:LowR K rAdd3 (rAdd2 K):=fun x y vx vy G H Q3 Q hx hy RG h k=>by
 cases x with
 |int i=>
  cases y with
  |int j=>
   rw[qtz hx,qtz hy];exact .inl ⟨i,j,rfl,rfl,k _ H _ G q9z (.refl H G) RG h⟩
  |_=>exact h.elim
 |obj a=>
  cases y with
  |obj b=>
   rw[qyz hx,qyz hy];obtain⟨ds,es,e1,e2,hz,q⟩:=h;obtain⟨vs,z1,z2⟩:=RG a _ e1;obtain⟨us,y1,y2⟩:=RG b _ e2;refine .inr (.inl ⟨a,b,vs,us,rfl,rfl,z1,y1,by rw[←z2.length,←y2.length];exact hz,fun p hp=>?_⟩);exact k _ _ (.obj p) _ qcdz (.laidG hp) (RG.newL hp (z2.append y2)) (q p _ (.mk' (RG.free hp)))
  |_=>exact h.elim
 |tup ds=>
  cases y with
  |tup es=>
   obtain⟨a,vs,rfl,e1,e2⟩:=qakz hx;obtain⟨b,us,rfl,y1,y2⟩:=qakz hy;by_cases h0:vs=[]
   ·subst h0;have:ds=[]:=by
     have:=e2.length;exact List.eq_nil_of_length_eq_zero (by simpa using this)
    subst this;exact .inr (.inr (.inr ⟨a,b,us,rfl,rfl,e1,y1,k _ H (.tup es) G (qbcz y1 y2) (.refl H G) RG h.2⟩))
   ·refine .inr (.inr (.inl ⟨a,b,vs,us,rfl,rfl,e1,y1,h0,by rw[←e2.length,←y2.length];exact h.1,fun z=>?_,fun z p hp=>?_⟩))
    ·subst z;have:es=[]:=List.eq_nil_of_length_eq_zero (by simpa using y2.length);subst this;refine k _ H (.tup ds) G (qbcz e1 e2) (.refl H G) RG ?_;have:=h.2;rwa [List.append_nil] at this
    ·exact k _ _ (.tup (ds++es)) G (qbcz (.of quz) ((e2.append y2).ext (.laid hp))) (.laid hp) (RG.laid hp) h.2
  |_=>exact h.elim
 |_=>exact h.elim
def rMul3:R3:=fun x y G Q=>match x,y with
 |.int i,.int j=>(Big i/\Big j)/\Q (.int (i*j)) G
 |.obj a,.int k=>∃ds,G a=some (.lst ds)/\(-(2^63)≤k/\k<2^63)/\ds.length*k.toNat≤sizeLine/\∀p G',New G p (.lst (List.replicate k.toNat ds).flatten) G'->Q (.obj p) G'
 |_,_=>False
abbrev rMul2:R2:=fun x y H Q=>rI (fun i j=>Big i/\Big j) (fun i j=>.int (i*j)) x y H Q∨rRep x y H Q
theorem qafz:OpR X (binaryOp .Mult) rMul2:=op_mulB.or qqrz
theorem qagz:LowR K rMul3 rMul2:=fun x y vx vy G H Q3 Q hx hy RG h k=>by
 cases x with
 |int i=>
  cases y with
  |int j=>
   rw[qtz hx,qtz hy];exact .inl ⟨i,j,rfl,rfl,h.1,k _ H _ G q9z (.refl H G) RG h.2⟩
  |_=>exact h.elim
 |obj a=>
  cases y with
  |int j=>
   rw[qyz hx,qtz hy];obtain⟨ds,e1,hk,hz,q⟩:=h;obtain⟨vs,z1,z2⟩:=RG a _ e1;refine .inr ⟨a,j,vs,rfl,rfl,z1,hk.1,hk.2,by rw[←z2.length];exact hz,fun p hp=>?_⟩;exact k _ _ (.obj p) _ qcdz (.laidG hp) (RG.newL hp (z2.rep _)) (q p _ (.mk' (RG.free hp)))
  |_=>exact h.elim
 |_=>exact h.elim
def isNon:D->Bool
 |.non=>true
 |_=>false
def rIs3(neg:Bool):R3:=fun x y G Q=>match y with
 |.non=>Q (.bl (if neg then !isNon x else isNon x)) G
 |_=>False
theorem qjlz{H:Hp}{x:D}{v:V}(h:Hv K H x v):decide (v=.non)=isNon x:=by
 cases x with
 |non=>unfold Hv at h;subst h;rfl
 |bl b=>rw[qcxz h];rfl
 |int b=>rw[qtz h];rfl
 |str b=>unfold Hv at h;subst h;rfl
 |obj b=>rw[qyz h];rfl
 |tup ds=>obtain⟨a,vs,rfl,_⟩:=qakz h;rfl
 |scr ds=>obtain⟨a,vs,rfl,_⟩:=qbsz h;rfl
 |dc a=>unfold Hv at h;rw[h.1];rfl
theorem l_is:LowR K (rIs3 false) (fun x y H Q=>y=.non/\Q (.bl (decide (x=.non))) H):=fun x y vx vy G H Q3 Q hx hy RG h k=>by
 cases y with
 |non=>
  refine⟨by unfold Hv at hy;exact hy,?_⟩;rw[qjlz hx];exact k _ H _ G qalz (.refl H G) RG h
 |_=>exact h.elim
theorem qsmz:LowR K (rIs3 true) (fun x y H Q=>y=.non/\Q (.bl (!decide (x=.non))) H):=fun x y vx vy G H Q3 Q hx hy RG h k=>by
 cases y with
 |non=>
  refine⟨by unfold Hv at hy;exact hy,?_⟩;rw[qjlz hx];exact k _ H _ G qalz (.refl H G) RG h
 |_=>exact h.elim
def intsOf:List D->Option (List Int)
 |[]=>some []
 |.int i::r=>(intsOf r).map (i::·)
 |_::_=>none
theorem qbkz{H:Hp}:∀{ds:List D} {vs:List V} {ns:List Int},Hvs K H ds vs->intsOf ds=some ns->vs=ns.map V.int
 |[],vs,ns,h,e=>by
  cases e;exact h.inv0
 |d::ds,vs,ns,h,e=>by
  cases d with
  |int i=>
   obtain⟨v,r,rfl,z1,z2⟩:=h.inv;unfold intsOf at e;cases hm:intsOf ds with
   |none=>rw[hm] at e;cases e
   |some ms=>
    rw[hm] at e;cases e;rw[qtz z1,qbkz z2 hm];rfl
  |_=>cases e
def rLtT3:R3:=fun x y G Q=>match x,y with
 |.int i,.int j=>Q (.bl (decide (i<j))) G
 |.tup ds,.tup es=>∃ns ms,intsOf ds=some ns/\intsOf es=some ms/\Q (.bl (HT.lexLt ns ms)) G
 |_,_=>False
abbrev rLtA(K:PySem.W.Frag):R2:=fun x y H Q=>rI0 (fun i j=>.bl (decide (i<j))) x y H Q∨rLtT K x y H Q
theorem qcez(hu:X.A.units<cLine):OpR X (compareOp .Lt) (rLtA X.K):=op_lt.or (qqgz hu)
theorem qcfz:LowR K rLtT3 (rLtA K):=fun x y vx vy G H Q3 Q hx hy RG h k=>by
 cases x with
 |int i=>
  cases y with
  |int j=>
   rw[qtz hx,qtz hy];exact .inl ⟨i,j,rfl,rfl,k _ H _ G qalz (.refl H G) RG h⟩
  |_=>exact h.elim
 |tup ds=>
  cases y with
  |tup es=>
   obtain⟨a,vs,rfl,e1,e2⟩:=qakz hx;obtain⟨b,us,rfl,y1,y2⟩:=qakz hy;obtain⟨ns,ms,z1,z2,q⟩:=h;have q1:=qbkz e2 z1;have q2:=qbkz y2 z2;subst q1 q2;exact .inr ⟨a,b,ns,ms,rfl,rfl,e1,y1,k _ H _ G qalz (.refl H G) RG q⟩
  |_=>exact h.elim
 |_=>exact h.elim
def rIx3:R3:=fun x y G Q=>match x,y with
 |.tup ds,.int i=>∃d,atI ds i=some d/\Q d G
 |.scr ds,.int i=>∃d,atI ds i=some d/\Q d G
 |.obj p,.int i=>∃ds d,G p=some (.lst ds)/\atI ds i=some d/\Q d G
 |_,_=>False
theorem qczz{H:Hp}{ds:List D}{vs:List V}{i:Int}{d:D}(h:Hvs K H ds vs)(e:atI ds i=some d):∃v,atI vs i=some v/\Hv K H d v:=by
 unfold atI at e ⊢;rw[←h.length];cases hx:ixN ds.length i with
 |none=>rw[hx] at e;cases e
 |some j=>
  rw[hx] at e;exact h.get e
theorem l_ix:LowR K rIx3 (rIx K):=fun x y vx vy G H Q3 Q hx hy RG h k=>by
 cases y with
 |int i=>
  rw[qtz hy];cases x with
  |tup ds=>
   obtain⟨d,e,q⟩:=h;obtain⟨a,vs,rfl,e1,e2⟩:=qakz hx;obtain⟨v,z1,z2⟩:=qczz e2 e;exact .inr (.inl ⟨a,vs,i,v,rfl,rfl,e1,z1,k _ H d G z2 (.refl H G) RG q⟩)
  |scr ds=>
   obtain⟨d,e,q⟩:=h;obtain⟨a,vs,rfl,e1,e2⟩:=qbsz hx;obtain⟨v,z1,z2⟩:=qczz e2 e;exact .inl ⟨a,vs,i,v,rfl,rfl,e1.l,z1,k _ H d G z2 (.refl H G) RG q⟩
  |obj p=>
   obtain⟨ds,d,e0,e,q⟩:=h;rw[qyz hx];obtain⟨vs,e1,e2⟩:=RG p _ e0;obtain⟨v,z1,z2⟩:=qczz e2 e;exact .inl ⟨p,vs,i,v,rfl,rfl,.of e1,z1,k _ H d G z2 (.refl H G) RG q⟩
  |_=>exact h.elim
 |_=>cases x<;>exact h.elim
theorem e_ix{a b:Expr}{ta tb:TE3}{pos:Pos}(ha:PE3 X a ta)(hb:PE3 X b tb)(hs:PlainIx b:=by intro _ _;rfl):PE3 X (.Subscript a b pos) (eOp rIx3 ta tb):=qxz (qixz qiyz ha hb hs) fun _ _ _ h=>qedz l_ix h
def eLstIx(ta:TA3)(tb:TE3):TE3:=fun τ G Q=>ta τ G fun ds G1=>smallL (tb τ G1 fun y G2=>match y with
 |.int i=>∃d,atI ds i=some d/\Q d G2
 | _=>False) ds 64
theorem qsnz{es:List Expr}{b:Expr}{ta:TA3}{tb:TE3}{pos pos':Pos}(ha:PA3 X es ta)(hb:PE3 X b tb)(hs:PlainIx b:=by intro _ _;rfl):PE3 X (.Subscript (.List es pos') b pos) (eLstIx ta tb):=
 qxz (qixz qiyz (qinz ha) hb hs) fun σ H Q ⟨τ,G,Q3,RS,RG,h,k⟩=>by
  refine⟨τ,G,_,RS,RG,h,fun vs H1 ds G1 h1 S1 R1 q1=>?_⟩;obtain⟨z,q1⟩:=qeez q1;refine⟨by rw[←h1.length];exact line64 z,fun p hp=>?_⟩;refine⟨τ,G1,_,(RS.ext (S1.ext RG)).ext (.laid hp),R1.laid hp,q1,fun v2 H2 d2 G2 h2 S2 R2 q2=>?_⟩;have e2:H2 p=some (.lst vs):=S2.fr p _ quz (R1.free hp);cases d2 with
  |int i=>
   obtain⟨d,e,q⟩:=q2;obtain⟨v,z1,z2⟩:=qczz ((h1.ext (.laid hp)).ext (S2.ext (R1.laid hp))) e;rw[qtz h2];exact .inl ⟨p,vs,i,v,rfl,rfl,.of e2,z1,k _ H2 d G2 z2 ((S1.trans (.laid hp)).trans S2) R2 q⟩
  |_=>exact q2.elim
end
end L3
namespace L3
open PySem PySem.Spec PyProof.Rows L2
mutual
def toDat0:D->Option Dat.D
 |.non=>some .non
 |.bl b=>some (.bl b)
 |.int i=>some (.int i)
 |.str x=>some (.str x)
 |.tup ds=>match toDats0 ds with
  |some xs=>some (.tup xs)
  |none=>none
 |.scr ds=>match toDats0 ds with
  |some xs=>some (.lst xs)
  |none=>none
 |.obj _=>none
 |.dc _=>none
def toDats0:List D->Option (List Dat.D)
 |[]=>some []
 |d::ds=>match toDat0 d with
  |some x=>match toDats0 ds with
   |some xs=>some (x::xs)
   |none=>none
  |none=>none
end
def toDat(G:Gp):D->Option Dat.D
 |.obj a=>match G a with
  |some (.lst ds)=>match toDats0 ds with
   |some xs=>some (.lst xs)
   |none=>none
  |_=>none
 |d=>toDat0 d
section
variable {X:Cx} {pins:List (Addr×Obj)} {σ:L2.St} {H:Hp} {s:Shared}
mutual
theorem qblz(I:Inv X pins σ H s):∀{d:D} {v:V} {u:Value} {x:Dat.D},Hv X.K H d v->RelV v u->toDat0 d=some x->Dat.Hv s.heap x u
 |.non,v,u,x,h,r,e=>by
  unfold Hv at h;subst h;cases e;unfold Dat.Hv;exact r
 |.bl b,v,u,x,h,r,e=>by
  unfold Hv at h;subst h;cases e;unfold Dat.Hv;exact r
 |.int b,v,u,x,h,r,e=>by
  unfold Hv at h;subst h;cases e;unfold Dat.Hv;exact r
 |.str b,v,u,x,h,r,e=>by
  unfold Hv at h;subst h;cases e;unfold Dat.Hv;exact r
 |.obj a,v,u,x,h,r,e=>by cases e
 |.dc a,v,u,x,h,r,e=>by cases e
 |.tup ds,v,u,x,h,r,e=>by
  obtain⟨a,vs,rfl,q1,q2⟩:=qakz h;cases r;unfold toDat0 at e;cases hd:toDats0 ds with
  |none=>rw[hd] at e;cases e
  |some xs=>
   rw[hd] at e;cases e;obtain⟨its,rv,p,_⟩:=I.tuple q1;unfold Dat.Hv;exact⟨a,its,rfl,p,qeiz I q2 rv hd⟩
 |.scr ds,v,u,x,h,r,e=>by
  obtain⟨a,vs,rfl,q1,q2⟩:=qbsz h;cases r;unfold toDat0 at e;cases hd:toDats0 ds with
  |none=>rw[hd] at e;cases e
  |some xs=>
   rw[hd] at e;cases e;obtain⟨its,rv,p,_⟩:=I.list q1.l;unfold Dat.Hv;exact⟨a,its,rfl,p.isList,qeiz I q2 rv hd⟩
theorem qeiz(I:Inv X pins σ H s):∀{ds:List D} {vs:List V} {us:List Value} {xs:List Dat.D},Hvs X.K H ds vs->Vals vs us->toDats0 ds=some xs->Dat.Hvs s.heap xs us
 |[],vs,us,xs,h,r,e=>by
  cases h.inv0;cases r;cases e;unfold Dat.Hvs;rfl
 |d::ds,vs,us,xs,h,r,e=>by
  obtain⟨v,vr,rfl,q1,q2⟩:=h.inv;unfold toDats0 at e;cases hd:toDat0 d with
  |none=>rw[hd] at e;cases e
  |some x=>
   rw[hd] at e;cases hr:toDats0 ds with
   |none=>rw[hr] at e;cases e
   |some xr=>
    rw[hr] at e;cases e;cases r with
    |cons r1 r2=>
     unfold Dat.Hvs;exact⟨_,_,rfl,qblz I q1 r1 hd,qeiz I q2 r2 hr⟩
end
theorem qa2z{G:Gp}(I:Inv X pins σ H s)(RG:RepG X.K G H){d:D}{v:V}{u:Value}{x:Dat.D}(h:Hv X.K H d v)(r:RelV v u)(e:toDat G d=some x):Dat.Hv s.heap x u:=by
 cases d with
 |obj a=>
  rw[qyz h] at r;cases r;unfold toDat at e;cases hG:G a with
  |none=>simp[hG] at e
  |some o=>
   cases o with
   |lst ds=>
    simp only[hG] at e;cases hr:toDats0 ds with
    |none=>rw[hr] at e;cases e
    |some xs=>
     rw[hr] at e;cases e;obtain⟨vs,e1,e2⟩:=RG a _ hG;obtain⟨its,rv,p,_⟩:=I.list (SqL.of e1);unfold Dat.Hv;exact⟨a,its,rfl,p.isList,qeiz I e2 rv hr⟩
   |pen=>simp[hG] at e
   |dct=>simp[hG] at e
   |gen R=>simp[hG] at e
 |non=>exact qblz I h r e
 |bl _=>exact qblz I h r e
 |int _=>exact qblz I h r e
 |str _=>exact qblz I h r e
 |tup _=>exact qblz I h r e
 |scr _=>exact qblz I h r e
 |dc _=>exact qblz I h r e
end
section
variable {X:Cx} {a b e:Expr} {ta tb:TE3} {pos:Pos}
def rEq3(neg:Bool):R3:=fun x y G Q=>∃u v,toDat G x=some u/\toDat G y=some v/\u.dep≤50/\Q (.bl (if neg then !u.eqb v else u.eqb v)) G
def CmpR(X:Cx)(f:Value->Value->Sem Value)(r:R3):Prop:=
 ∀(pins:List (Addr×Obj)) (s:Shared) (σ:L2.St) (H:Hp) (G:Gp) (x y:D) (vx vy:V) (u v:Value) (Q3:V3),Inv X pins σ H s->RepG X.K G H->Hv X.K H x vx->Hv X.K H y vy->RelV vx u->RelV vy v->r x y G Q3 ->
  wpAny (model X.prog X.w) X.A (f u v) (EP X pins σ fun w H'=>∃d G',Hv X.K H' d w/\Step H G H' G'/\RepG X.K G' H'/\Q3 d G') X.xe s
theorem eqR(hu:X.A.units+64<cLine):CmpR X (compareOp .Eq) (rEq3 false):=by
 intro pins s σ H G x y vx vy u v Q3 I RG hx hy rx ry ⟨p,q,e1,e2,hd,h⟩;have:=Dat.rcAt p q u v X.A (qa2z I RG hx rx e1) (qa2z I RG hy ry e2) (by omega);exact this _ _ _ _ ⟨.bl (p.eqb q),H,I,rfl,.bl (p.eqb q),G,qalz,.refl H G,RG,h⟩
theorem neR(hu:X.A.units+64<cLine):CmpR X (compareOp .NotEq) (rEq3 true):=by
 intro pins s σ H G x y vx vy u v Q3 I RG hx hy rx ry ⟨p,q,e1,e2,hd,h⟩;have:=Dat.rcNe p q u v X.A (qa2z I RG hx rx e1) (qa2z I RG hy ry e2) (by omega);exact this _ _ _ _ ⟨.bl (!p.eqb q),H,I,rfl,.bl (!p.eqb q),G,qalz,.refl H G,RG,h⟩
def cmpR2(K:PySem.W.Frag)(r:R3):R2:=fun vx vy H Q=>∃x y G Q3,RepG K G H/\Hv K H x vx/\Hv K H y vy/\r x y G Q3/\∀v H' d G',Hv K H' d v->Step H G H' G'->RepG K G' H'->Q3 d G'->Q v H'
theorem CmpR.op{f:Value->Value->Sem Value}{r:R3}(h:CmpR X f r):OpR X f (cmpR2 X.K r):=by
 intro pins s σ H vx vy u v Q I rx ry ⟨x,y,G,Q3,RG,hx,hy,q,k⟩;refine thn (h pins s σ H G x y vx vy u v Q3 I RG hx hy rx ry q) fun w s' ⟨v',H',I',r',d,G',z1,z2,z3,z4⟩=>⟨v',H',I',r',k v' H' d G' z1 z2 z3 z4⟩
theorem qejz{K:PySem.W.Frag}{r:R3}:LowR K r (cmpR2 K r):=fun x y vx vy G H Q3 Q hx hy RG h k=>⟨x,y,G,Q3,RG,hx,hy,h,k⟩
theorem qaqz(hu:X.A.units+64<cLine):OpR X (compareOp .Eq) (cmpR2 X.K (rEq3 false)):=(eqR hu).op
theorem qamz(hu:X.A.units+64<cLine):OpR X (compareOp .NotEq) (cmpR2 X.K (rEq3 true)):=(neR hu).op
theorem l_eq{K:PySem.W.Frag}:LowR K (rEq3 false) (cmpR2 K (rEq3 false)):=qejz
theorem l_ne{K:PySem.W.Frag}:LowR K (rEq3 true) (cmpR2 K (rEq3 true)):=qejz
abbrev TO3:=S3->Gp->(Option Int->Gp->Prop)->Prop
def lowO(K:PySem.W.Frag)(t:TO3):TO:=fun σ H Q=>∃τ G Q3,RepS K τ σ H/\RepG K G H/\t τ G Q3/\∀o H' G',Step H G H' G'->RepG K G' H'->Q3 o G'->Q o H'
abbrev PO3(X:Cx)(e:Option Expr)(t:TO3):Prop:=PO X e (lowO X.K t)
theorem qjmz{o:Option Expr}{t t':TO}(h:PO X o t)(f:∀σ H Q,t' σ H Q->t σ H Q):PO X o t':=fun pins s σ H Q I q=>h pins s σ H Q I (f σ H Q q)
def oNone:TO3:=fun _ G Q=>Q none G
def oSome(t:TE3):TO3:=fun τ G Q=>t τ G fun x G1=>match x with
 |.int i=>Q (some i) G1
 |_=>False
theorem qsoz:PO3 X none oNone:=qjmz qqdz fun σ H Q ⟨τ,G,Q3,RS,RG,h,k⟩=>k none H G (.refl H G) RG h
theorem qspz(h:PE3 X e ta):PO3 X (some e) (oSome ta):=qjmz (qqez h) fun σ H Q ⟨τ,G,Q3,RS,RG,h,k⟩=>
 ⟨τ,G,_,RS,RG,h,fun v H1 d G1 h1 S1 R1 q1=>by
  cases d with
  |int i=>exact⟨i,qtz h1,k (some i) H1 G1 S1 R1 q1⟩
  |_=>exact q1.elim⟩
def cut3(ds:List D)(lo hi:Option Int):List D:=(ds.drop (HT.sIx ds.length 0 lo)).take (HT.sIx ds.length ds.length hi-HT.sIx ds.length 0 lo)
def eSl(ta:TE3)(tl th:TO3):TE3:=fun τ G Q=>ta τ G fun x G1=>tl τ G1 fun lo G2=>th τ G2 fun hi G3=>match x with
 |.tup ds=>Q (.tup (cut3 ds lo hi)) G3
 |.scr ds=>∀p G4,New G3 p (.lst (cut3 ds lo hi)) G4->Q (.obj p) G4
 |.obj a=>∃ds,G3 a=some (.lst ds)/\∀p G4,New G3 p (.lst (cut3 ds lo hi)) G4->Q (.obj p) G4
 |_=>False
theorem qf0z{K:PySem.W.Frag}{H:Hp}{ds:List D}{vs:List V}(h:Hvs K H ds vs)(lo hi:Option Int):Hvs K H (cut3 ds lo hi) (cutV vs lo hi):=by
 unfold cut3 cutV;rw[h.length];exact (h.drop _).take _
theorem qsqz{prog:Program}{w:World}{A:Around}{E:Value->Shared->Prop}{s:Shared}{t sl:Addr}{items:Array Value}{vl vu:Value}{lo hi:Option Int}{Q:Value->Shared->Prop}(ht:IsTup s.heap t items)(hs:s.heap.IsSliceOf sl vl vu .none)(pl:IsPart vl lo)(pu:IsPart vu hi)
  (hw:HT.sIx items.size 0 lo=0/\HT.sIx items.size items.size hi=items.size) (h:Q (.ref t) s):wpAny (model prog w) A (getItem (.ref t) (.ref sl)) Q E s:=by
 obtain⟨os,hos,hcs,hds⟩:=id hs;have hTs:s.TypeIs (.ref sl) "slice":=⟨os,hos,hcs⟩;unfold getItem
 try with_reducible refine wpAny_holding ?_
 first|refine wpAny_bind (wpAny_pure ?_)|skip
 refine wpAny_bind (wpAny_sequenceKey ht.typeIs (by decide) ?_);refine wpAny_bind (wpAny_callSpecial?_slot (name:=Str.ofString "__getitem__") ht.typeIs PyProof.Rows.slot_tuple_getitem
  (wpAny_call_entry PyProof.Rows.slot_tuple_getitem ht.typeIs entry_tuple_getitem ?_ (args_tuple_getitem _ _)))
 show wpAny _ _ (Builtin.Tuple.tupleItemsOf (.ref t) >>= _) _ _ s;refine wpAny_bind (tupleItemsOf_ ht ?_);refine wpAny_bind (wpAny_typeOf hTs ?_);rw[if_pos (by decide)];refine wpAny_bind (HT.sliceApplied_gen hs pl pu ?_);have hyes:(((HT.sIx items.size 0 lo:Nat):Int)==0&&(1:Int)==1&&(HT.sIx items.size items.size hi-HT.sIx items.size 0 lo)==items.size)=true:=by
  rw[hw.1,hw.2];simp
 show wpAny _ _ (if (((HT.sIx items.size 0 lo:Nat):Int)==0&&(1:Int)==1&&(HT.sIx items.size items.size hi-HT.sIx items.size 0 lo)==items.size)=true then _ else _) _ _ s;rw[if_pos hyes];unfold Builtin.Tuple.tupleIsExact;refine wpAny_bind (wpAny_bind (wpAny_typeOf ht.typeIs (wpAny_pure ?_)));rw[if_pos (by decide)];exact wpAny_bind (wpAny_rule (wpAny_pure ⟨_,rfl,wpAny_pure h⟩))
def rSlT3(K:PySem.W.Frag):V->Option Int->Option Int->Hp->VK->Prop:=fun x lo hi H Q=>∃a xs,x=.ref a/\SqT K H a xs ∧
 (HT.sIx xs.length 0 lo=0/\HT.sIx xs.length xs.length hi=xs.length)/\Q (.ref a) H
theorem sl_tupW:SlR X (rSlT3 X.K):=by
 intro pins s σ H x v vl vu lo hi sl Q I rx hs pl pu h;obtain⟨a,xs,rfl,hx,hw,q⟩:=h;cases rx;obtain⟨its,r,ht,hz⟩:=I.tuple hx;have hlen:its.toArray.size=xs.length:=by rw[List.size_toArray];exact r.length.symm
 refine⟨"tuple",_,PyProof.Rows.slot_tuple_getitem.lookup,ht.typeIs,?_⟩;exact qsqz ht hs pl pu (by rw[hlen];exact hw) ⟨.ref a,H,I,rfl,q⟩
theorem e_sl{lo hi:Option Expr}{tl th:TO3}{p2:Pos}(ha:PE3 X a ta)(hl:PO3 X lo tl)(hh:PO3 X hi th):PE3 X (.Subscript a (.Slice lo hi none p2) pos) (eSl ta tl th):=
 qxz (qqfz (sl_tup.or (sl_tupW.or qqlz)) ha hl hh) fun σ H Q ⟨τ,G,Q3,RS,RG,h,k⟩=>by
  refine⟨τ,G,_,RS,RG,h,fun v1 H1 d1 G1 h1 S1 R1 q1=>?_⟩;have RS1:=RS.ext (S1.ext RG);refine⟨τ,G1,_,RS1,R1,q1,fun l H2 G2 S2 R2 q2=>?_⟩;have RS2:=RS1.ext (S2.ext R1);refine⟨τ,G2,_,RS2,R2,q2,fun u H3 G3 S3 R3 q3=>?_⟩;have S13:Step H G H3 G3:=(S1.trans S2).trans S3;have hv:=(h1.ext (S2.ext R1)).ext (S3.ext R2);cases d1 with
  |tup ds=>
   obtain⟨a',vs,rfl,e1,e2⟩:=qakz hv;by_cases hw:HT.sIx vs.length 0 l=0/\HT.sIx vs.length vs.length u=vs.length
   ·refine .inr (.inl ⟨a',vs,rfl,e1,hw,k _ H3 (.tup (cut3 ds l u)) G3 (qbcz e1 ?_) S13 R3 q3⟩);have:cut3 ds l u=ds:=by
     unfold cut3;rw[e2.length,hw.1,hw.2];simp[←e2.length]
    rw[this];exact e2
   ·refine .inl ⟨a',vs,rfl,e1,hw,fun p hp=>?_⟩;exact k _ _ (.tup (cut3 ds l u)) G3 (qbcz (.of quz) ((qf0z e2 l u).ext (.laid hp))) (S13.trans (.laid hp)) (R3.laid hp) q3
  |scr ds=>
   obtain⟨a',vs,rfl,e1,e2⟩:=qbsz hv;refine .inr (.inr ⟨a',vs,rfl,e1.l,fun p hp=>?_⟩);exact k _ _ (.obj p) _ qcdz (S13.trans (.laidG hp)) (R3.newL hp (qf0z e2 l u)) (q3 p _ (.mk' (R3.free hp)))
  |obj a'=>
   rw[qyz hv];obtain⟨ds,e0,q3⟩:=q3;obtain⟨vs,e1,e2⟩:=R3 a' _ e0;refine .inr (.inr ⟨a',vs,rfl,.of e1,fun p hp=>?_⟩);exact k _ _ (.obj p) _ qcdz (S13.trans (.laidG hp)) (R3.newL hp (qf0z e2 l u)) (q3 p _ (.mk' (R3.free hp)))
  |_=>exact q3.elim
end
end L3
namespace L3
open PySem PySem.Spec PyProof.Rows L2
abbrev C3:=List D->Gp->V3->Prop
def eCB(r:C3)(t:TA3):TE3:=fun τ G Q=>t τ G fun ds G1=>r ds G1 Q
def LowC(K:PySem.W.Frag)(r:C3)(r2:List V->Hp->VK->Prop):Prop:=∀ds vs G H Q3 Q,Hvs K H ds vs->RepG K G H->r ds G Q3->(∀v H' d G',Hv K H' d v->Step H G H' G'->RepG K G' H'->Q3 d G'->Q v H')->r2 vs H Q
section
variable {X:Cx} {K:PySem.W.Frag} {e:Expr} {es:List Expr} {t:TA3} {ta:TE3} {pos p:Pos}
theorem qsrz{r:C3}{r2:List V->Hp->VK->Prop}(L:LowC K r r2){σ:L2.St}{H:Hp}{Q:VK}(h:low K (eCB r t) σ H Q):tCB r2 (lowA K t) σ H Q:=by
 obtain⟨τ,G,Q3,RS,RG,h,k⟩:=h;refine⟨τ,G,_,RS,RG,h,fun vs H1 ds G1 h1 S1 R1 q1=>?_⟩;exact L _ _ _ _ _ _ h1 R1 q1 fun v H' d G' z1 z2 z3 z4=>k v H' d G' z1 (S1.trans z2) z3 z4
theorem e_cb{r:C3}{r2:List V->Hp->VK->Prop}(L:LowC X.K r r2)(h:PE X e (tCB r2 (lowA X.K t))):PE3 X e (eCB r t):=qxz h fun _ _ _ h=>qsrz L h
theorem hvs1{H:Hp}{d:D}{vs:List V}(h:Hvs K H [d] vs):∃v,vs=[v]/\Hv K H d v:=by
 obtain⟨v,r,rfl,z1,z2⟩:=h.inv;cases z2.inv0;exact⟨v,rfl,z1⟩
theorem hvs2{H:Hp}{d d':D}{vs:List V}(h:Hvs K H [d,d'] vs):∃v v',vs=[v,v']/\Hv K H d v/\Hv K H d' v':=by
 obtain⟨v,r,rfl,z1,z2⟩:=h.inv;obtain⟨v',rfl,z3⟩:=hvs1 z2;exact⟨v,v',rfl,z1,z3⟩
def qvz:C3:=fun ds G Q=>match ds with
 |[.obj a]=>∃xs,G a=some (.lst xs)/\Q (.int xs.length) G
 |[.tup xs]=>Q (.int xs.length) G
 |[.scr xs]=>Q (.int xs.length) G
 |_=>False
theorem qssz:LowC K qvz (fun xs H Q=>∃p ys,xs=[.ref p]/\(SqL K H p ys∨SqT K H p ys)/\Q (.int ys.length) H):=fun ds vs G H Q3 Q h RG q k=>by
 rcases ds with _|⟨d,_|⟨d2,ds⟩⟩
 ·exact q.elim
 ·obtain⟨v,rfl,hv⟩:=hvs1 h;cases d with
  |obj a=>
   obtain⟨xs,e,q⟩:=q;obtain⟨us,e1,e2⟩:=RG a _ e;rw[qyz hv];exact⟨a,us,rfl,.inl (.of e1),by rw[←e2.length];exact k _ H _ G q9z (.refl H G) RG q⟩
  |tup xs=>
   obtain⟨a,us,rfl,e1,e2⟩:=qakz hv;exact⟨a,us,rfl,.inr e1,by rw[←e2.length];exact k _ H _ G q9z (.refl H G) RG q⟩
  |scr xs=>
   obtain⟨a,us,rfl,e1,e2⟩:=qbsz hv;exact⟨a,us,rfl,.inl e1.l,by rw[←e2.length];exact k _ H _ G q9z (.refl H G) RG q⟩
  |_=>exact q.elim
 ·cases d<;>exact q.elim
theorem qstz(hu:X.A.units+64<cLine)(hm:X.mg "len" = none)(ha:PA3 X (e::es) t)(hg:Gl X "len":=by rfl)(he:notStar e=true:=by rfl)(hpl:es.all notStar=true:=by rfl):
  PE3 X (.Call (.Name "len" p) (e::es) [] pos) (eCB qvz t):=e_cb qssz (qbhz qqmz hg hm PySem.boot_len ha (he:=qnz he) (hpl:=qaez hpl))
def qekz:C3:=fun ds G Q=>match ds with
 |[.bl b]=>Q (.int (if b then 1 else 0)) G
 |[.int i]=>Q (.int i) G
 |_=>False
theorem qsuz:LowC K qekz (fun xs H Q=>(∃i,xs=[.int i]/\Q (.int i) H)∨∃k,xs=[.bl k]/\Q (.int (if k then 1 else 0)) H):=fun ds vs G H Q3 Q h RG q k=>by
 rcases ds with _|⟨d,_|⟨d2,ds⟩⟩
 ·exact q.elim
 ·obtain⟨v,rfl,hv⟩:=hvs1 h;cases d with
  |bl b=>
   rw[qcxz hv];exact .inr ⟨b,rfl,k _ H _ G q9z (.refl H G) RG q⟩
  |int b=>
   rw[qtz hv];exact .inl ⟨b,rfl,k _ H _ G q9z (.refl H G) RG q⟩
  |_=>exact q.elim
 ·cases d<;>exact q.elim
theorem qsvz(hu:X.A.units+64<cLine)(hm:X.mg "int" = none)(ha:PA3 X (e::es) t)(hg:Gl X "int":=by rfl)(he:notStar e=true:=by rfl)(hpl:es.all notStar=true:=by rfl):
  PE3 X (.Call (.Name "int" p) (e::es) [] pos) (eCB qekz t):=e_cb qsuz (qeaz qpwz hg hm rfl ha (he:=qnz he) (hpl:=qaez hpl))
def qf1z:C3:=fun ds G Q=>match ds with
 |[.int i,.int j]=>Q (.int (if j > i then j else i)) G
 |_=>False
theorem qswz{f:Int->Int->Int}:LowC K (fun ds G Q=>match ds with
 |[.int i,.int j]=>Q (.int (f i j)) G
 | _=>False) (fun xs H Q=>∃i j,xs=[.int i,.int j]/\Q (.int (f i j)) H):=fun ds vs G H Q3 Q h RG q k=>by
 rcases ds with _|⟨d,_|⟨d2,_|⟨d3,ds⟩⟩⟩
 ·exact q.elim
 ·cases d<;>exact q.elim
 ·obtain⟨v,v',rfl,h1,h2⟩:=hvs2 h;cases d with
  |int i=>
   cases d2 with
   |int j=>
    rw[qtz h1,qtz h2];exact⟨i,j,rfl,k _ H _ G q9z (.refl H G) RG q⟩
   |_=>exact q.elim
  |_=>exact q.elim
 ·cases d with
  |int i=>cases d2<;>exact q.elim
  |_=>exact q.elim
theorem qsxz(hu:X.A.units+64<cLine)(hm:X.mg "max" = none)(ha:PA3 X (e::es) t)(hc:X.calm=true:=by rfl)(hg:Gl X "max":=by rfl)(he:notStar e=true:=by rfl)(hpl:es.all notStar=true:=by rfl):
  PE3 X (.Call (.Name "max" p) (e::es) [] pos) (eCB qf1z t):=e_cb (qswz (f:=fun i j=>if j > i then j else i)) (qbhz (qpvz hc) hg hm rfl ha (he:=qnz he) (hpl:=qaez hpl))
def qa3z:C3:=fun ds G Q=>match ds with
 |[.obj a]=>∃xs,G a=some (.lst xs)/\Q (.tup xs) G
 |[.tup xs]=>Q (.tup xs) G
 |[.scr xs]=>Q (.tup xs) G
 |_=>False
theorem qsyz:LowC K qa3z (fun xs H Q=>∃p ys,xs=[.ref p]/\((SqL K H p ys/\∀l,H l=none->Q (.ref l) (upd H l (.tup ys)))∨(SqT K H p ys/\Q (.ref p) H))):=fun ds vs G H Q3 Q h RG q k=>by
 rcases ds with _|⟨d,_|⟨d2,ds⟩⟩
 ·exact q.elim
 ·obtain⟨v,rfl,hv⟩:=hvs1 h;cases d with
  |obj a=>
   obtain⟨xs,e,q⟩:=q;obtain⟨us,e1,e2⟩:=RG a _ e;rw[qyz hv];exact⟨a,us,rfl,.inl ⟨.of e1,fun l hl=>k _ _ (.tup xs) G (qbcz (.of quz) (e2.ext (.laid hl))) (.laid hl) (RG.laid hl) q⟩⟩
  |tup xs=>
   obtain⟨a,us,rfl,e1,e2⟩:=qakz hv;exact⟨a,us,rfl,.inr ⟨e1,k _ H _ G (qbcz e1 e2) (.refl H G) RG q⟩⟩
  |scr xs=>
   obtain⟨a,us,rfl,e1,e2⟩:=qbsz hv;exact⟨a,us,rfl,.inl ⟨e1.l,fun l hl=>k _ _ (.tup xs) G (qbcz (.of quz) (e2.ext (.laid hl))) (.laid hl) (RG.laid hl) q⟩⟩
  |_=>exact q.elim
 ·cases d<;>exact q.elim
theorem qszz(hu:X.A.units+64<cLine)(hm:X.mg "tuple" = none)(ha:PA3 X (e::es) t)(hg:Gl X "tuple":=by rfl)(he:notStar e=true:=by rfl)(hpl:es.all notStar=true:=by rfl):
  PE3 X (.Call (.Name "tuple" p) (e::es) [] pos) (eCB qa3z t):=e_cb qsyz (qeaz qqnz hg hm rfl ha (he:=qnz he) (hpl:=qaez hpl))
def eM(r:D->List D->Gp->V3->Prop)(to:TE3)(t:TA3):TE3:=fun τ G Q=>to τ G fun x G1=>(∃a xs,x=.obj a/\G1 a=some (.lst xs))/\t τ G1 fun ds G2=>r x ds G2 Q
def LowM(K:PySem.W.Frag)(r:D->List D->Gp->V3->Prop)(r2:V->List V->Hp->VK->Prop):Prop:=∀x vx ds vs G H Q3 Q,Hv K H x vx->Hvs K H ds vs->RepG K G H->r x ds G Q3->(∀v H' d G',Hv K H' d v->Step H G H' G'->RepG K G' H'->Q3 d G'->Q v H')->r2 vx vs H Q
theorem qs0z{r:D->List D->Gp->V3->Prop}{r2:V->List V->Hp->VK->Prop}{to:TE3}(L:LowM K r r2){σ:L2.St}{H:Hp}{Q:VK}(h:low K (eM r to t) σ H Q):tBM K "list" r2 (low K to) (lowA K t) σ H Q:=by
 obtain⟨τ,G,Q3,RS,RG,h,k⟩:=h;refine⟨τ,G,_,RS,RG,h,fun v1 H1 d1 G1 h1 S1 R1 q1=>?_⟩;obtain⟨⟨a,xs,rfl,e1⟩,q1⟩:=q1;obtain⟨us,e2,e3⟩:=R1 a _ e1;refine⟨?_,τ,G1,_,RS.ext (S1.ext RG),R1,q1,fun vs H2 ds G2 h2 S2 R2 q2=>?_⟩
 ·rw[qyz h1];exact .inl ⟨rfl,us,.of e2⟩
 ·exact L _ _ _ _ _ _ _ _ (h1.ext (S2.ext R1)) h2 R2 q2 fun v H' d G' z1 z2 z3 z4=>k v H' d G' z1 ((S1.trans S2).trans z2) z3 z4
def qf2z:D->List D->Gp->V3->Prop:=fun x ds G Q=>match x,ds with
 |.obj a,[d]=>∃xs,G a=some (.lst xs)/\xs.length<sizeLine/\Q .non (upd3 G a (.lst (xs++[d])))
 |_,_=>False
theorem qjnz:LowM K qf2z rAppend:=fun x vx ds vs G H Q3 Q hx hs RG q k=>by
 rcases ds with _|⟨d,_|⟨d2,ds⟩⟩
 ·cases x<;>exact q.elim
 ·cases x with
  |obj a=>
   obtain⟨xs,e1,hz,q⟩:=q;obtain⟨us,e2,e3⟩:=RG a _ e1;obtain⟨v,rfl,hv⟩:=hvs1 hs;rw[qyz hx];refine⟨a,us,v,rfl,rfl,e2,by rw[←e3.length];exact hz,?_⟩;exact k _ _ .non _ (by simp[Hv]) (.wrote e1) (RG.wroteL e2 (e3.append (.cons hv .nil))) q
  |_=>exact q.elim
 ·cases x<;>exact q.elim
theorem qs1z{r:D->List D->Gp->V3->Prop}{r2:V->List V->Hp->VK->Prop}{to:TE3}(L:LowM X.K r r2)(h:PE X e (tBM X.K "list" r2 (low X.K to) (lowA X.K t))):PE3 X e (eM r to t):=qxz h fun _ _ _ z=>qs0z L z
def qjoz:D->List D->Gp->V3->Prop:=fun x ds G Q=>match x,ds with
 |.obj a,[.int i]=>∃xs k d,G a=some (.lst xs)/\(-(2^63)≤i/\i<2^63)/\seqIndex? i xs.length=some k/\xs[k]?=some d/\Q d (upd3 G a (.lst (xs.eraseIdx k)))
 |_,_=>False
theorem qs2z:LowM K qjoz rPopAt:=fun x vx ds vs G H Q3 Q hx hs RG q k=>by
 rcases ds with _|⟨d,_|⟨d2,ds⟩⟩
 ·cases x<;>exact q.elim
 ·cases x with
  |obj a=>
   cases d with
   |int i=>
    obtain⟨xs,j,y,e1,hb,hk,hy,q⟩:=q;obtain⟨us,e2,e3⟩:=RG a _ e1;obtain⟨v,rfl,hv⟩:=hvs1 hs;obtain⟨w,e4,e5⟩:=e3.get hy;rw[qyz hx,qtz hv];refine⟨a,us,i,j,w,rfl,rfl,e2,hb.1,hb.2,by rw[←e3.length];exact hk,e4,?_⟩;exact k _ _ y _ (e5.ext (.wrote e2)) (.wrote e1) (RG.wroteL e2 (e3.erase j)) q
   |_=>exact q.elim
  |_=>exact q.elim
 ·cases x with
  |obj a=>cases d<;>exact q.elim
  |_=>exact q.elim
def instD(T:String)(G:Gp):D->Option Bool
 |.non=>some false
 |.bl _=>some (T=="bool" || T=="int")
 |.int _=>some (T=="int")
 |.str _=>some (T=="str")
 |.tup _=>some (T=="tuple")
 |.scr _=>some (T=="list")
 |.dc _=>some (T=="dict")
 |.obj a=>match G a with
  |some (.lst _)=>some (T=="list")
  |some .pen=>some (T=="list")
  |some .dct=>some (T=="dict")
  |some (.gen _)=>none
  |none=>none
def eInst(T:String)(ta:TE3):TE3:=fun τ G Q=>ta τ G fun x G1=>match instD T G1 x with
 |some b=>Q (.bl b) G1
 |none=>False
end
end L3
namespace KasS
open PySem PySem.W PyProof.Rows
structure Ord(n:Nat)(lt:Nat->Nat->Bool):Prop where
 asy:∀a b,a<n->b<n->lt a b=true->lt b a=false
 tra:∀a b c,a<n->b<n->c<n->lt b a=false->lt c b=false->lt c a=false
abbrev g(p:Array Nat)(i:Nat):Nat:=p.getD i 0
structure Va(n:Nat)(p:Array Nat):Prop where
 perm:p.toList.Perm (List.range n)
section
variable {n:Nat} {lt:Nat->Nat->Bool} {cmp:Nat->Nat->(Bool->Shared->Prop)->Shared->Prop} {s:Shared}
theorem Va.size{p:Array Nat}(v:Va n p):p.size=n:=by
 have:=v.perm.length_eq;simpa using this
theorem Va.get{p:Array Nat}(v:Va n p){i:Nat}(hi:i<n):p[i]?=some (g p i):=by
 have h:=v.size;simp[g,Array.getD,h,hi]
theorem Va.inr{p:Array Nat}(v:Va n p){i:Nat}(hi:i<n):g p i<n:=by
 have h:=v.get hi;have hm:g p i∈p.toList:=List.mem_of_getElem? (by rw[Array.getElem?_toList];exact h);have:=v.perm.mem_iff.mp hm;simpa using this
theorem Ord.refl(O:Ord n lt){a:Nat}(ha:a<n):lt a a=false:=by
 cases h:lt a a with
 |false=>rfl
 |true=>
  have:=O.asy a a ha ha h;rw[h] at this;exact this
def So(lt:Nat->Nat->Bool)(p:Array Nat)(k:Nat):Prop:=∀i j,i≤j->j<k->lt (g p j) (g p i)=false
def Ni(lt:Nat->Nat->Bool)(p:Array Nat)(k:Nat):Prop:=∀i j,i≤j->j<k->lt (g p i) (g p j)=false
def Eq'(lt:Nat->Nat->Bool)(p:Array Nat)(lo hi:Nat):Prop:=∀i j,lo≤i->i<hi->lo≤j->j<hi->lt (g p i) (g p j)=false
theorem So.one(O:Ord n lt){p:Array Nat}(v:Va n p)(hn:1≤n):So lt p 1:=fun i j h1 h2=>by
 have e1:i=0:=by omega
 have e2:j=0:=by omega
 rw[e1,e2];exact O.refl (v.inr (by omega))
theorem So.next(O:Ord n lt){p:Array Nat}(v:Va n p){a:Nat}(h1:1≤a)(ha:a<n)(S:So lt p a)(h:lt (g p a) (g p (a-1))=false):So lt p (a+1):=fun i j hij hj=>by
 by_cases hja:j<a
 ·exact S i j hij hja
 ·have e:j=a:=by omega
  subst e;by_cases hij':i=j
  ·rw[hij'];exact O.refl (v.inr ha)
  ·exact O.tra (g p i) (g p (j-1)) (g p j) (v.inr (by omega)) (v.inr (by omega)) (v.inr ha) (S i (j-1) (by omega) (by omega)) h
theorem Ni.next(O:Ord n lt){p:Array Nat}(v:Va n p){a:Nat}(h1:1≤a)(ha:a<n)(S:Ni lt p a)(h:lt (g p (a-1)) (g p a)=false):Ni lt p (a+1):=fun i j hij hj=>by
 by_cases hja:j<a
 ·exact S i j hij hja
 ·have e:j=a:=by omega
  subst e;by_cases hij':i=j
  ·rw[hij'];exact O.refl (v.inr ha)
  ·exact O.tra (g p j) (g p (j-1)) (g p i) (v.inr ha) (v.inr (by omega)) (v.inr (by omega)) h (S i (j-1) (by omega) (by omega))
theorem qbtz{p:Array Nat}(v:Va n p)(i j:Nat):Va n (kas_rev p i j):=⟨(mirror_perm p i j _).toList.trans v.perm⟩
theorem qelz{p:Array Nat}(v:Va n p){lo hi k:Nat}(hh:hi≤n)(hk:k<n):g (kas_rev p lo hi) k=if lo≤k/\k<hi then g p (lo+hi-1-k) else g p k:=by
 have h1:=getElem?_mirror_all (xs:=p) (i:=lo) (j:=hi) (by rw[v.size];exact hh) k;have h2:=(qbtz v lo hi).get hk;have h3:(kas_rev p lo hi)[k]?=_:=h1;rw[h2] at h3;by_cases hc:lo≤k/\k<hi
 ·rw[if_pos hc] at h3 ⊢;rw[v.get (by omega)] at h3;exact Option.some.inj h3
 ·rw[if_neg hc] at h3 ⊢;rw[v.get hk] at h3;exact Option.some.inj h3
theorem qf3z{p:Array Nat}(v:Va n p){lo hi k:Nat}(hh:hi≤k)(hk:k≤n)(S:Ni lt p k)(e:Eq' lt p lo hi):Ni lt (kas_rev p lo hi) k:=fun i j hij hj=>by
 rw[qelz v (by omega) (show i<n by omega),qelz v (by omega) (show j<n by omega)];by_cases hi':lo≤i/\i<hi
 ·rw[if_pos hi'];by_cases hj':lo≤j/\j<hi
  ·rw[if_pos hj'];exact e _ _ (by omega) (by omega) (by omega) (by omega)
  ·rw[if_neg hj'];exact S _ _ (by omega) hj
 ·rw[if_neg hi'];by_cases hj':lo≤j/\j<hi
  ·rw[if_pos hj'];exact S _ _ (by omega) (by omega)
  ·rw[if_neg hj'];exact S _ _ hij hj
theorem qs3z{p:Array Nat}(v:Va n p){k:Nat}(hk:k≤n)(S:Ni lt p k):So lt (kas_rev p 0 k) k:=fun i j hij hj=>by
 rw[qelz v hk (show i<n by omega),qelz v hk (show j<n by omega),if_pos (by omega),if_pos (by omega)];exact S _ _ (by omega) (by omega)
variable (O:Ord n lt) (hc:∀i j,i<n->j<n->∀(C:Bool->Shared->Prop) (s:Shared),C (lt i j) s->cmp i j C s)
include O hc
theorem qf4z{p:Array Nat}(v:Va n p){G:Nat->Shared->Prop}:∀(f a:Nat),1≤a->a+f≤n->So lt p a->(∀m,a≤m->m≤a+f->So lt p m->(m=a+f∨lt (g p m) (g p (m-1))=true)->G m s)->(kas_asc p f a).kasWp cmp G s
 |0,a,_,_,S,h=>h a (Nat.le_refl _) (by omega) S (.inl (by omega))
 |f+1,a,h1,h2,S,h=>by
  show cmp _ _ _ s;refine hc _ _ (v.inr (by omega)) (v.inr (by omega)) _ s ?_;cases hb:lt (g p a) (g p (a-1)) with
  |true=>
   ((try dsimp only);rw[if_pos rfl])
   exact h a (Nat.le_refl _) (by omega) S (.inr hb)
  |false=>
   ((try dsimp only);rw[if_neg Bool.false_ne_true])
   exact qf4z v f (a+1) (by omega) (by omega) (S.next O v h1 (by omega) hb) fun m q1 q2 q3 q4=>h m (by omega) (by omega) q3 (by
    rcases q4 with q4|q4
    ·exact .inl (by omega)
    ·exact .inr q4)
theorem qemz{G:Array Nat×Nat×Nat->Shared->Prop}:∀(f:Nat) (p:Array Nat) (a q:Nat),Va n p->q+1≤a->a+f≤n->Ni lt p a->Eq' lt p (a-(q+1)) a ->
  (∀p' m q',Va n p'->a≤m->m≤a+f->q'+1≤m->Ni lt p' m->Eq' lt p' (m-(q'+1)) m->G (p',m,q') s)->(kas_desc f p a q).kasWp cmp G s
 |0,p,a,q,v,h1,h2,S,e,h=>h p a q v (Nat.le_refl _) (by omega) h1 S e
 |f+1,p,a,q,v,h1,h2,S,e,h=>by
  show cmp _ _ _ s;refine hc _ _ (v.inr (by omega)) (v.inr (by omega)) _ s ?_;have one:∀{p':Array Nat},Va n p'->Eq' lt p' (a+1-(0+1)) (a+1):=fun {p'} v' i j i1 i2 j1 j2=>by
   have e1:i=a:=by omega
   have e2:j=a:=by omega
   rw[e1,e2];exact O.refl (v'.inr (by omega))
  cases hb:lt (g p a) (g p (a-1)) with
  |true=>
   ((try dsimp only);rw[if_pos rfl])
   have S':=S.next O v (by omega) (by omega) (O.asy _ _ (v.inr (by omega)) (v.inr (by omega)) hb)
   by_cases hq:q > 0
   ·rw[if_pos hq];exact qemz f _ (a+1) 0 (qbtz v _ _) (by omega) (by omega) (qf3z v (by omega) (by omega) S' e) (one (qbtz v _ _)) fun p' m q' r1 r2 r3 r4 r5 r6=>h p' m q' r1 (by omega) (by omega) r4 r5 r6
   ·rw[if_neg hq];exact qemz f _ (a+1) 0 v (by omega) (by omega) S' (one v) fun p' m q' r1 r2 r3 r4 r5 r6=>h p' m q' r1 (by omega) (by omega) r4 r5 r6
  |false=>
   ((try dsimp only);rw[if_neg Bool.false_ne_true])
   show cmp _ _ _ s;refine hc _ _ (v.inr (by omega)) (v.inr (by omega)) _ s ?_;cases hd:lt (g p (a-1)) (g p a) with
   |true=>
    ((try dsimp only);rw[if_pos rfl])
    exact h p a q v (Nat.le_refl _) (by omega) h1 S e
   |false=>
    ((try dsimp only);rw[if_neg Bool.false_ne_true])
    refine qemz f _ (a+1) (q+1) v (by omega) (by omega) (S.next O v (by omega) (by omega) hd) (fun i j i1 i2 j1 j2=>?_) fun p' m q' r1 r2 r3 r4 r5 r6=>h p' m q' r1 (by omega) (by omega) r4 r5 r6
    have L:∀k,k<n->g p k<n:=fun k hk=>v.inr hk;by_cases hi:i=a
    ·by_cases hj:j=a
     ·rw[hi,hj];exact O.refl (L _ (by omega))
     ·rw[hi];exact O.tra (g p j) (g p (a-1)) (g p a) (L _ (by omega)) (L _ (by omega)) (L _ (by omega)) (e (a-1) j (by omega) (by omega) (by omega) (by omega)) hb
    ·by_cases hj:j=a
     ·rw[hj];exact O.tra (g p a) (g p (a-1)) (g p i) (L _ (by omega)) (L _ (by omega)) (L _ (by omega)) hd (e i (a-1) (by omega) (by omega) (by omega) (by omega))
     ·exact e i j (by omega) (by omega) (by omega) (by omega)
theorem qjpz{p:Array Nat}(v:Va n p){a:Nat}{G:Nat×Array Nat->Shared->Prop}(h1:1≤a)(h2:a≤n)(S:Ni lt p a)(h:∀m p',Va n p'->1≤m->m≤n->So lt p' m->G (m,p') s):(kas_tail3 a n p).kasWp cmp G s:=by
 unfold kas_tail3;rw[KasT.kasWp_bind];exact qf4z O hc (qbtz v 0 a) (n-a) a h1 (by omega) (qs3z v h2 S) fun m q1 q2 q3 _=>h m _ (qbtz v 0 a) (by omega) (by omega) q3
theorem qjqz{p:Array Nat}(v:Va n p){a:Nat}{G:Nat×Array Nat->Shared->Prop}(h1:1≤a)(h2:a+1≤n)(S:Ni lt p (a+1))(h:∀m p',Va n p'->1≤m->m≤n->So lt p' m->G (m,p') s):(kas_descPart a n p).kasWp cmp G s:=by
 unfold kas_descPart;rw[KasT.kasWp_bind];refine qemz O hc (n-(a+1)) p (a+1) 0 v (by omega) (by omega) S (fun i j i1 i2 j1 j2=>?_) fun p' m q' r1 r2 r3 r4 r5 r6=>?_
 ·have e1:i=a:=by omega
  have e2:j=a:=by omega
  rw[e1,e2];exact O.refl (v.inr (by omega))
 ·dsimp only;by_cases hq:q' > 0
  ·rw[if_pos hq];exact qjpz O hc (qbtz r1 _ _) (by omega) (by omega) (qf3z r1 (Nat.le_refl _) (by omega) r5 r6) h
  ·rw[if_neg hq];exact qjpz O hc r1 (by omega) (by omega) r5 h
theorem qs4z{p:Array Nat}(v:Va n p){G:Nat×Array Nat->Shared->Prop}(hn:1≤n)(h:∀m p',Va n p'->1≤m->m≤n->So lt p' m->G (m,p') s):(kas_count n p).kasWp cmp G s:=by
 unfold kas_count;rw[KasT.kasWp_bind];refine qf4z O hc v (n-1) 1 (Nat.le_refl _) (by omega) (So.one O v hn) fun a q1 q2 q3 q4=>?_;have L:∀k,k<n->g p k<n:=fun k hk=>v.inr hk;by_cases e1:(a==n)=true
 ·rw[if_pos e1];exact h a p v q1 (by omega) q3
 ·rw[if_neg e1];have hne:a≠n:=fun z=>e1 (by rw[z];exact beq_self_eq_true _);have hlt:lt (g p a) (g p (a-1))=true:=by
   rcases q4 with q4|q4
   ·omega
   ·exact q4
  have hle:=O.asy _ _ (L a (by omega)) (L (a-1) (by omega)) hlt;by_cases e2:a > 1
  ·rw[if_pos e2];show cmp _ _ _ s;refine hc _ _ (v.inr (by omega)) (v.inr (by omega)) _ s ?_;cases hb:lt (g p 0) (g p (a-1)) with
   |true=>
    ((try dsimp only);rw[if_pos rfl])
    exact h a p v q1 (by omega) q3
   |false=>
    ((try dsimp only);rw[if_neg Bool.false_ne_true])
    -- all of the run are alike
    have eqv:Eq' lt p 0 a:=fun i j i1 i2 j1 j2=>by
     have h1:lt (g p i) (g p 0)=false:=q3 0 i (by omega) i2;have h2:lt (g p (a-1)) (g p j)=false:=q3 j (a-1) (by omega) (by omega);have h3:lt (g p 0) (g p j)=false:=O.tra _ _ _ (L j (by omega)) (L (a-1) (by omega)) (L 0 (by omega)) h2 hb;have h4:lt (g p (a-1)) (g p i)=false:=q3 i (a-1) (by omega) (by omega);exact O.tra _ _ _ (L j (by omega)) (L 0 (by omega)) (L i (by omega)) h3 h1
    have ni:Ni lt p (a+1):=Ni.next O v (by omega) (by omega) (fun i j hij hj=>eqv i j (by omega) (by omega) (by omega) hj) hle
    exact qjqz O hc (qbtz v _ _) (by omega) (by omega) (qf3z v (by omega) (by omega) ni eqv) h
  ·rw[if_neg e2];have ea:a=1:=by omega
   subst ea;refine qjqz O hc v (Nat.le_refl _) (by omega) (Ni.next O v (by omega) (by omega) (fun i j hij hj=>?_) hle) h
   have e3:i=0:=by omega
   have e4:j=0:=by omega
   rw[e3,e4];exact O.refl (L 0 (by omega))
theorem qf5z{p:Array Nat}(v:Va n p){k:Nat}(hk:k<n)(S:So lt p k){G:Nat->Shared->Prop}:∀(f l r:Nat),l≤r->r≤k->r-l≤f->(∀i,i<l->lt (g p k) (g p i)=false)->(∀i,r≤i->i<k->lt (g p k) (g p i)=true) ->
  (∀l,l≤k->(∀i,i<l->lt (g p k) (g p i)=false)->(∀i,l≤i->i<k->lt (g p k) (g p i)=true)->G l s)->(kas_place p k f l r).kasWp cmp G s
 |0,l,r,h1,h2,h3,h4,h5,h=>by
  have e:l=r:=by omega
  subst e;exact h l h2 h4 h5
 |f+1,l,r,h1,h2,h3,h4,h5,h=>by
  unfold kas_place;by_cases hlr:l≥r
  ·rw[if_pos hlr];have e:l=r:=by omega
   subst e;exact h l h2 h4 h5
  ·rw[if_neg hlr];show cmp _ _ _ s;refine hc _ _ (v.inr hk) (v.inr (by omega)) _ s ?_;have L:∀k,k<n->g p k<n:=fun k hk=>v.inr hk;cases hb:lt (g p k) (g p ((l+r) / 2)) with
   |true=>
    ((try dsimp only);rw[if_pos rfl])
    refine qf5z v hk S f l ((l+r) / 2) (by omega) (by omega) (by omega) h4 (fun i i1 i2=>?_) h;by_cases hri:r≤i
    ·exact h5 i hri i2
    ·cases hx:lt (g p k) (g p i) with
     |true=>rfl
     |false=>
      have h6:lt (g p i) (g p ((l+r) / 2))=false:=S _ _ i1 i2;have:=O.tra _ _ _ (L ((l+r) / 2) (by omega)) (L i (by omega)) (L k hk) h6 hx;rw[hb] at this;exact this.symm
   |false=>
    ((try dsimp only);rw[if_neg Bool.false_ne_true])
    refine qf5z v hk S f ((l+r) / 2+1) r (by omega) h2 (by omega) (fun i hi=>?_) h5 h;exact O.tra _ _ _ (L i (by omega)) (L ((l+r) / 2) (by omega)) (L k hk) (S i ((l+r) / 2) (by omega) (by omega)) hb
theorem qjrz{G:Array Nat->Shared->Prop}:∀(f:Nat) (p:Array Nat) (k:Nat),Va n p->k+f=n->So lt p k->(∀p',Va n p'->So lt p' n->G p' s)->(kas_bin f p k).kasWp cmp G s
 | 0,p,k,v,hk,S,h=>h p v (by
  have e:k=n:=by omega
  rw[←e];exact S)
 |f+1,p,k,v,hk,S,h=>by
  show ((kas_place p k k 0 k).bind fun l=>kas_bin f (bubble p k (k-l)) (k+1)).kasWp cmp G s;rw[KasT.kasWp_bind];refine qf5z O hc v (by omega) S k 0 k (by omega) (Nat.le_refl _) (by omega) (fun i hi=>by omega) (fun i i1 i2=>by omega) fun l hl q1 q2=>?_;have v':Va n (bubble p k (k-l)):=⟨(bubble_perm p k (k-l)).toList.trans v.perm⟩;have L:∀k,k<n->g p k<n:=fun k hk=>v.inr hk;have bg:∀i,i<n->g (bubble p k (k-l)) i=if i=l then g p k else if l<i/\i≤k then g p (i-1) else g p i:=fun i hi=>by
   have h1:=getElem?_bubble (xs:=p) (src:=k) (by rw[v.size];omega) (k-l) (by omega) i;rw[v'.get hi,show k-(k-l)=l by omega] at h1;by_cases c1:i=l
   ·rw[if_pos c1] at h1 ⊢;rw[v.get (by omega)] at h1;exact Option.some.inj h1
   ·rw[if_neg c1] at h1 ⊢;by_cases c2:l<i/\i≤k
    ·rw[if_pos c2] at h1 ⊢;rw[v.get (by omega)] at h1;exact Option.some.inj h1
    ·rw[if_neg c2] at h1 ⊢;rw[v.get hi] at h1;exact Option.some.inj h1
  refine qjrz f _ (k+1) v' (by omega) (fun i j hij hj=>?_) h;rw[bg i (by omega),bg j (by omega)];by_cases ci:i=l
  ·rw[if_pos ci];by_cases cj:j=l
   ·rw[if_pos cj];exact O.refl (L k (by omega))
   ·rw[if_neg cj,if_pos (by omega)];exact O.asy _ _ (L k (by omega)) (L _ (by omega)) (q2 (j-1) (by omega) (by omega))
  ·rw[if_neg ci];by_cases cj:j=l
   ·rw[if_pos cj,if_neg (by omega)];exact q1 i (by omega)
   ·rw[if_neg cj];by_cases c3:l<i/\i≤k
    ·rw[if_pos c3,if_pos (by omega)];exact S (i-1) (j-1) (by omega) (by omega)
    ·rw[if_neg c3];by_cases c4:l<j/\j≤k
     ·rw[if_pos c4];exact S i (j-1) (by omega) (by omega)
     ·rw[if_neg c4];exact S i j hij (by omega)
theorem qs5z{G:Array Nat->Shared->Prop}(hn:1≤n)(h:∀p,Va n p->So lt p n->G p s):(kas_sort n).kasWp cmp G s:=by
 unfold kas_sort;rw[KasT.kasWp_bind];have v0:Va n (List.toArray (List.range n)):=⟨by simp⟩;refine qs4z O hc v0 hn fun m p' v m1 m2 S=>?_;dsimp only;by_cases hm:m<n
 ·rw[if_pos hm];have e:max m 1=m:=by omega
  rw[e];exact qjrz O hc (n-m) p' m v (by omega) S h
 ·rw[if_neg hm];have e:m=n:=by omega
  subst e;exact h p' v S
end
end KasS
namespace SetP
open PySem PySem.SetTable
def Masky(m:Nat):Prop:=m=7∨m=31∨m=127
def adv(m:Nat)(p:Probe):Probe:=
 if p.more > 0 then { p with j:=p.j+1,more:=p.more-1 } else
 { p with j:=(leap m p.i p.perturb).1,more:=runEnd m (leap m p.i p.perturb).1-(leap m p.i p.perturb).1,i:=(leap m p.i p.perturb).1,perturb:=(leap m p.i p.perturb).2 }
def rs(m:Nat)(q:Nat×Nat):Probe:={ j:=q.1,more:=runEnd m q.1-q.1,i:=q.1,perturb:=q.2,dummy:=none }
def sta(m:Nat)(h:Int):Probe:=rs m (bits h%(m+1),bits h)
def sq(m:Nat)(h:Int):Nat->Probe
 |0=>sta m h
 |k+1=>adv m (sq m h k)
def rn(m:Nat)(h:Int):Nat->Nat×Nat
 |0=>(bits h%(m+1),bits h)
 |r+1=>leap m (rn m h r).1 (rn m h r).2
theorem qjsz(m:Nat)(h:Int):∀k,(sq m h k).dummy=none
 |0=>rfl
 |k+1=>by
  show (adv m (sq m h k)).dummy=none;have ih:=qjsz m h k;unfold adv;split<;>simpa using ih
theorem qs6z(m i:Nat):runEnd m i-i≤9:=by
 unfold runEnd;split<;>omega
theorem qf6z(m:Nat)(h:Int)(n:Nat)(q:Nat×Nat)(e:sq m h n=rs m q):∀d,d≤runEnd m q.1-q.1->sq m h (n+d)={ j:=q.1+d,more:=runEnd m q.1-q.1-d,i:=q.1,perturb:=q.2,dummy:=none }
 |0,_=>by rw[Nat.add_zero,e];rfl
 |d+1,hd=>by
  have ih:=qf6z m h n q e d (by omega);show adv m (sq m h (n+d))=_;rw[ih];unfold adv;rw[if_pos (show runEnd m q.1-q.1-d > 0 by omega)];simp only[Probe.mk.injEq,and_true,true_and];omega
theorem qjtz(m:Nat)(h:Int)(n:Nat)(q:Nat×Nat)(e:sq m h n=rs m q):sq m h (n+(runEnd m q.1-q.1)+1)=rs m (leap m q.1 q.2):=by
 show adv m (sq m h (n+(runEnd m q.1-q.1)))=_;rw[qf6z m h n q e _ (Nat.le_refl _)];unfold adv;rw[if_neg (by simp)];rfl
theorem qjuz(m:Nat)(h:Int):∀r,∃n,n≤10*r/\sq m h n=rs m (rn m h r)
 |0=>⟨0,by omega,rfl⟩
 |r+1=>by
  obtain⟨n,hn,e⟩:=qjuz m h r;have:=qs6z m (rn m h r).1;exact⟨n+(runEnd m (rn m h r).1-(rn m h r).1)+1,by omega,qjtz m h n _ e⟩
theorem qs7z(h:Int):bits h<2^64:=by
 unfold bits;have h1:h%(2^64:Int)<2^64:=Int.emod_lt_of_pos _ (by decide);have h2:0≤h%(2^64:Int):=Int.emod_nonneg _ (by decide);omega
theorem qjvz(m:Nat)(h:Int):∀r,(rn m h r).2=bits h / 32^r
 |0=>by simp[rn]
 |r+1=>by
  show (rn m h r).2 / 32=_;rw[qjvz m h r,Nat.div_div_eq_div_mul,Nat.pow_succ]
theorem qs8z(m:Nat)(h:Int)(r:Nat)(hr:13≤r):(rn m h r).2=0:=by
 rw[qjvz];have h1:=qs7z h;have h2:(32:Nat)^13≤32^r:=Nat.pow_le_pow_right (by decide) hr;have h3:(2:Nat)^64<32^13:=by decide
 exact Nat.div_eq_of_lt (by omega)
def fl(m x:Nat):Nat:=(x*5+1)%(m+1)
def it(m:Nat):Nat->Nat->Nat
 |0,x=>x
 |n+1,x=>fl m (it m n x)
theorem qc0z(m:Nat)(a:Nat):∀b x,it m (b+a) x=it m b (it m a x)
 |0,x=>by rw[Nat.zero_add];rfl
 |b+1,x=>by
  rw[show b+1+a=(b+a)+1 by omega];show fl m (it m (b+a) x)=fl m (it m b (it m a x));rw[qc0z m a b x]
theorem qf7z(m:Nat)(h:Int):∀n,(rn m h (13+n)).1=it m n (rn m h 13).1
 |0=>rfl
 |n+1=>by
  show ((rn m h (13+n)).1*5+1+(rn m h (13+n)).2 / 32)%(m+1)=fl m (it m n (rn m h 13).1);rw[qs8z m h (13+n) (by omega),qf7z m h n];rfl
theorem qf8z(m:Nat)(h:Int):∀r,(rn m h r).1<m+1
 |0=>Nat.mod_lt _ (Nat.succ_pos _)
 |r+1=>Nat.mod_lt _ (Nat.succ_pos _)
def orb(m:Nat):Nat->Nat->List Nat
 |0,_=>[]
 |n+1,x=>x::orb m n (fl m x)
theorem qenz(m:Nat):∀(n x y:Nat),y∈orb m n x->∃k,k<n/\y=it m k x
 |0,_,_,h=>by cases h
 |n+1,x,y,h=>by
  rcases List.mem_cons.mp h with e|e
  ·exact⟨0,by omega,e⟩
  ·obtain⟨k,hk,e⟩:=qenz m n (fl m x) y e;refine⟨k+1,by omega,?_⟩;rw[qc0z m 1 k x];exact e
theorem orb7:((List.range 8).all fun x=>(orb 7 8 0).contains x)=true:=by decide +kernel
theorem orb31:((List.range 32).all fun x=>(orb 31 32 0).contains x)=true:=by decide +kernel
theorem orb127:((List.range 128).all fun x=>(orb 127 128 0).contains x)=true:=by decide +kernel
theorem back7:it 7 8 0=0:=by decide +kernel
theorem back31:it 31 32 0=0:=by decide +kernel
theorem back127:it 127 128 0=0:=by decide +kernel
theorem orbit{m:Nat}(hm:Masky m){x:Nat}(hx:x<m+1):∃k,k<m+1/\x=it m k 0:=by
 rcases hm with rfl|rfl|rfl
 ·have:=List.all_eq_true.mp orb7 x (List.mem_range.mpr hx);exact qenz 7 8 0 x (by simpa using this)
 ·have:=List.all_eq_true.mp orb31 x (List.mem_range.mpr hx);exact qenz 31 32 0 x (by simpa using this)
 ·have:=List.all_eq_true.mp orb127 x (List.mem_range.mpr hx);exact qenz 127 128 0 x (by simpa using this)
theorem back{m:Nat}(hm:Masky m):it m (m+1) 0=0:=by
 rcases hm with rfl|rfl|rfl
 ·exact back7
 ·exact back31
 ·exact back127
theorem period{m:Nat}(hm:Masky m){x y:Nat}(hx:x<m+1)(hy:y<m+1):∃n,n≤m/\it m n x=y:=by
 obtain⟨a,ha,ea⟩:=orbit hm hx;obtain⟨b,hb,eb⟩:=orbit hm hy;by_cases hab:a≤b
 ·refine⟨b-a,by omega,?_⟩;rw[ea,←qc0z,eb];congr 1;omega
 ·refine⟨m+1-a+b,by omega,?_⟩;rw[ea,←qc0z,eb,show m+1-a+b+a=b+(m+1) by omega,qc0z,back hm]
theorem comes{m:Nat}(hm:Masky m)(h:Int){e:Nat}(he:e≤m):∃k,k≤10*m+130/\(sq m h k).j=e:=by
 obtain⟨n,hn,en⟩:=period hm (qf8z m h 13) (show e<m+1 by omega);obtain⟨k,hk,ek⟩:=qjuz m h (13+n);refine⟨k,by omega,?_⟩;rw[ek];show (rn m h (13+n)).1=e;rw[qf7z,en]
theorem qf9z{xs:Array Nat}{j:Nat}(hr:xs.toList.Pairwise (· < ·)):∀(fuel lo hi:Nat),hi-lo≤fuel->lo≤hi->hi≤xs.size->(∀i x,i<lo->xs[i]?=some x->x<j)->(∀i x,hi≤i->xs[i]?=some x->j≤x) ->
  below.go xs j fuel lo hi≤xs.size/\(∀i x,i<below.go xs j fuel lo hi->xs[i]?=some x->x<j)/\(∀i x,below.go xs j fuel lo hi≤i->xs[i]?=some x->j≤x)
 |0,lo,hi,hf,hl,hs,h1,h2=>by
  have e:lo=hi:=by omega
  subst e;exact⟨hs,h1,h2⟩
 |fuel+1,lo,hi,hf,hl,hs,h1,h2=>by
  unfold below.go;by_cases hlt:lo<hi
  ·rw[if_pos hlt];dsimp only;have hmid:(lo+hi) / 2<xs.size:=by omega
   have hg:xs.getD ((lo+hi) / 2) j=xs[(lo+hi) / 2]:=by simp[Array.getD,hmid]
   rw[hg];have pw:∀a b x y,a<b->xs[a]?=some x->xs[b]?=some y->x<y:=fun a b x y hab ea eb=>by
    have ha':a<xs.toList.length:=by
     have:=(Array.getElem?_eq_some_iff.mp ea).1;simpa using this
    have hb':b<xs.toList.length:=by
     have:=(Array.getElem?_eq_some_iff.mp eb).1;simpa using this
    have:=List.pairwise_iff_getElem.mp hr a b ha' hb' hab;obtain⟨_,e1⟩:=Array.getElem?_eq_some_iff.mp ea;obtain⟨_,e2⟩:=Array.getElem?_eq_some_iff.mp eb;simpa [e1,e2] using this
   have em:xs[(lo+hi) / 2]?=some xs[(lo+hi) / 2]:=by simp[hmid]
   by_cases hc:xs[(lo+hi) / 2]<j
   ·rw[if_pos hc];refine qf9z hr fuel _ hi (by omega) (by omega) hs (fun i x hi' e=>?_) h2;by_cases hi2:i=(lo+hi) / 2
    ·subst hi2;rw[em] at e;cases e;exact hc
    ·exact Nat.lt_trans (pw i _ x _ (by omega) e em) hc
   ·rw[if_neg hc];refine qf9z hr fuel lo _ (by omega) (by omega) (by omega) h1 (fun i x hi' e=>?_);by_cases hi2:i=(lo+hi) / 2
    ·subst hi2;rw[em] at e;cases e;omega
    ·have:=pw _ i _ x (by omega) em e;omega
  ·rw[if_neg hlt];have e:lo=hi:=by omega
   subst e;exact⟨hs,h1,h2⟩
theorem qeoz{xs:Array Nat}{j:Nat}(hr:xs.toList.Pairwise (· < ·)):below xs j≤xs.size/\(∀i x,i<below xs j->xs[i]?=some x->x<j)/\(∀i x,below xs j≤i->xs[i]?=some x->j≤x):=
 qf9z hr xs.size 0 xs.size (by omega) (by omega) (by omega) (fun i _ h=>by omega) fun i x h e=>by
  have:=(Array.getElem?_eq_some_iff.mp e).1;omega
theorem below_at{xs:Array Nat}{j i:Nat}(hr:xs.toList.Pairwise (· < ·))(e:xs[i]?=some j):below xs j=i:=by
 obtain⟨h0,h1,h2⟩:=qeoz (j:=j) hr;have hi:=(Array.getElem?_eq_some_iff.mp e).1;by_cases hlt:i<below xs j
 ·exact absurd (h1 i j hlt e) (Nat.lt_irrefl _)
 ·by_cases hgt:below xs j<i
  ·have hb:below xs j<xs.size:=by omega
   have eb:xs[below xs j]?=some xs[below xs j]:=by simp[hb]
   have q1:=h2 _ _ (Nat.le_refl _) eb;have pw:=List.pairwise_iff_getElem.mp hr (below xs j) i (by simpa using hb) (by simpa using hi) hgt;obtain⟨_,e1⟩:=Array.getElem?_eq_some_iff.mp e;simp[e1] at pw;omega
  ·omega
end SetP
namespace SetP
open PySem PySem.SetTable
structure Tab(t:SetTable)(hs:List Int):Prop where
 mask:Masky t.mask
 size:t.place.size=hs.length
 rise:t.place.toList.Pairwise (· < ·)
 bound:∀j∈t.place.toList,j≤t.mask
 nodum:t.dummies = #[]
 room:hs.length*5<t.mask*3
 reach:∀j h,(j,h)∈t.place.toList.zip hs->∃k,(sq t.mask h k).j=j/\∀k',k' < k->(sq t.mask h k').j∈t.place.toList
theorem qjwz{t:SetTable}{j i:Nat}(hr:t.place.toList.Pairwise (· < ·))(e:t.place[i]?=some j):t.slot j=.live i:=by
 unfold slot;dsimp only;rw[below_at hr e,e];simp
theorem qs9z{t:SetTable}{j:Nat}(hd:t.dummies = #[])(e:j∉t.place.toList):t.slot j=.empty:=by
 unfold slot;dsimp only;have h1:¬(t.place[below t.place j]?==some j)=true:=by
  intro h;have h':t.place[below t.place j]?=some j:=by simpa using h
  exact e (by
   rw[←Array.getElem?_toList] at h';exact List.mem_of_getElem? h')
 rw[if_neg h1];have h2:has t.dummies j=false:=by
  rw[hd];rfl
 rw[h2];rfl
theorem qgaz:∀(n:Nat) (L:List Nat),(∀e,e<n->e∈L)->n≤L.length
 |0,_,_=>Nat.zero_le _
 |n+1,L,h=>by
  have h1:=h n (Nat.lt_succ_self n);have h2:=qgaz n (L.erase n) fun e he=>(List.mem_erase_of_ne (by omega)).mpr (h e (by omega));have h3:=List.length_erase_of_mem h1;have h4:=List.length_pos_of_mem h1;omega
theorem qtaz{t:SetTable}{hs:List Int}(T:Tab t hs)(h:Int):∃ke,ke≤10*t.mask+130/\(sq t.mask h ke).j∉t.place.toList/\∀k,k<ke->(sq t.mask h k).j∈t.place.toList:=by
 -- some slot is empty
 have hex:∃e,e≤t.mask/\e∉t.place.toList:=by
  refine Classical.byContradiction fun hn=>?_;have hall:∀e,e≤t.mask->e∈t.place.toList:=fun e he=>Classical.byContradiction fun q=>hn ⟨e,he,q⟩;have hl:=qgaz (t.mask+1) t.place.toList fun e he=>hall e (by omega);have e1:t.place.toList.length=t.place.size:=by simp
  have:=T.size;have:=T.room;omega
 obtain⟨e,he,ne⟩:=hex;obtain⟨k,hk,ek⟩:=comes T.mask h he;have hP:∃k,(sq t.mask h k).j∉t.place.toList:=⟨k,by rw[ek];exact ne⟩
 -- the least one
 have least:∀n,(∃k,k≤n/\(sq t.mask h k).j∉t.place.toList)->∃ke,ke≤n/\(sq t.mask h ke).j∉t.place.toList/\∀k,k<ke->(sq t.mask h k).j∈t.place.toList:=by
  intro n
  induction n with
  |zero=>
   rintro⟨k,hk,q⟩;have:k=0:=by omega
   subst this;exact⟨0,Nat.le_refl _,q,fun k hk=>by omega⟩
  |succ n ih=>
   rintro⟨k,hk,q⟩;by_cases hp:∃k,k≤n/\(sq t.mask h k).j∉t.place.toList
   ·obtain⟨ke,h1,h2,h3⟩:=ih hp;exact⟨ke,by omega,h2,h3⟩
   ·have hk':k=n+1:=by
     refine Classical.byContradiction fun z=>hp ⟨k,by omega,q⟩
    subst hk';exact⟨n+1,Nat.le_refl _,q,fun k' hk'=>Classical.byContradiction fun z=>hp ⟨k',by omega,z⟩⟩
 obtain⟨ke,h1,h2,h3⟩:=least k ⟨k,Nat.le_refl _,by rw[ek];exact ne⟩;exact⟨ke,by omega,h2,h3⟩
inductive Meets(t:SetTable)(hashAt:Nat->Int)(h:Int)(n ke:Nat):Met->Prop where
 |cand {k i:Nat} (h1:n≤k) (h2:k<ke) (h3:t.place[i]?=some (sq t.mask h k).j) (h4:hashAt i=h) (h5:∀k' i',n≤k'->k' < k->t.place[i']?=some (sq t.mask h k').j->hashAt i'≠h):
   Meets t hashAt h n ke (.candidate (sq t.mask h k).j i (sq t.mask h (k+1)))
 |free (h1:n≤ke) (h5:∀k' i',n≤k'->k' < ke->t.place[i']?=some (sq t.mask h k').j->hashAt i'≠h):Meets t hashAt h n ke (.empty (sq t.mask h ke).j none)
theorem qjxz{t:SetTable}{hashAt:Nat->Int}{h:Int}{ke:Nat}(hr:t.place.toList.Pairwise (· < ·))(hd:t.dummies = #[])(he:(sq t.mask h ke).j∉t.place.toList)(hl:∀k,k<ke->(sq t.mask h k).j∈t.place.toList):
  ∀(fuel n:Nat),n≤ke->ke-n<fuel->∃met,probe.go t hashAt h fuel (sq t.mask h n)=some met/\Meets t hashAt h n ke met
 |0,n,_,hf=>by omega
 |fuel+1,n,hn,hf=>by
  unfold probe.go;by_cases hlast:n=ke
  ·subst hlast;rw[qs9z hd he,qjsz];exact⟨_,rfl,.free (Nat.le_refl _) fun k' i' h1 h2=>by omega⟩
  ·have hmem:=hl n (by omega);obtain⟨i,hi⟩:=List.getElem?_of_mem hmem;have hi':t.place[i]?=some (sq t.mask h n).j:=by rw[←Array.getElem?_toList];exact hi
   rw[qjwz hr hi'];dsimp only;by_cases hh:hashAt i=h
   ·rw[if_pos (by simpa using hh)];exact⟨_,rfl,.cand (Nat.le_refl _) (by omega) hi' hh fun k' i' h1 h2=>by omega⟩
   ·rw[if_neg (by simpa using hh)];obtain⟨met,e,m⟩:=qjxz (hashAt:=hashAt) hr hd he hl fuel (n+1) (by omega) (by omega);refine⟨met,e,?_⟩;have one:∀i',t.place[i']?=some (sq t.mask h n).j->hashAt i'≠h:=fun i' e'=>by
     have e1:=below_at hr hi';have e2:=below_at hr e';have:i'=i:=by omega
     rw[this];exact hh
    cases m with
    |cand h1 h2 h3 h4 h5=>
     refine .cand (by omega) h2 h3 h4 fun k' i' q1 q2 q3=>?_;by_cases hk:k'=n
     ·subst hk;exact one i' q3
     ·exact h5 k' i' (by omega) q2 q3
    |free h1 h5=>
     refine .free (by omega) fun k' i' q1 q2 q3=>?_;by_cases hk:k'=n
     ·subst hk;exact one i' q3
     ·exact h5 k' i' (by omega) q2 q3
theorem qtbz{t:SetTable}{hs:List Int}(T:Tab t hs){hashAt:Nat->Int}{h:Int}{ke n:Nat}(hk:ke≤10*t.mask+130)(he:(sq t.mask h ke).j∉t.place.toList)(hl:∀k,k<ke->(sq t.mask h k).j∈t.place.toList)(hn:n≤ke):
  ∃met,t.probe hashAt h (sq t.mask h n)=some met/\Meets t hashAt h n ke met:=by
 unfold probe;exact qjxz T.rise T.nodum he hl _ n hn (by unfold turns;omega)
theorem qbuz{α:Type}(xs:Array α)(p:Nat)(x:α):(insertAt xs p x).toList=xs.toList.take p++x::xs.toList.drop p:=by
 unfold insertAt;have e:(xs.extract p xs.size).toList=xs.toList.drop p:=by
  rw[Array.toList_extract];simp[List.extract];exact List.take_of_length_le (by simp)
 simp[Array.toList_extract,List.extract];exact List.take_of_length_le (by simp)
theorem qjyz{α β:Type}:∀(p:Nat) (xs:List α) (ys:List β) (x:α) (y:β),xs.length=ys.length->((xs.take p++x::xs.drop p).zip (ys.take p++y::ys.drop p)).Perm ((x,y)::xs.zip ys)
 |0,xs,ys,x,y,_=>by simp
 |p+1,[],ys,x,y,h=>by
  have:ys=[]:=List.length_eq_zero_iff.mp (by simpa using h.symm);subst this;simp
 |p+1,a::xs,[],x,y,h=>by simp at h
 |p+1,a::xs,b::ys,x,y,h=>by
  have ih:=qjyz p xs ys x y (by simpa using h);simp only[List.take_succ_cons,List.drop_succ_cons,List.cons_append,List.zip_cons_cons];exact (List.Perm.cons (a,b) ih).trans (List.Perm.swap _ _ _)
theorem qcgz{α:Type}(p:Nat)(xs:List α)(x:α):(xs.take p++x::xs.drop p).Perm (x::xs):=by
 have:=List.perm_middle (a:=x) (l₁:=xs.take p) (l₂:=xs.drop p);rw[List.take_append_drop] at this;exact this
theorem qtcz{t:SetTable}{j:Nat}(hd:t.dummies = #[]):t.put j=({ t with place:=insertAt t.place (below t.place j) j,dummies:=#[]},below t.place j):=by
 unfold put;dsimp only;have h2:has t.dummies j=false:=by
  rw[hd];rfl
 rw[h2];simp[hd]
structure TabR(t:SetTable)(hs:List Int):Prop where
 mask:Masky t.mask
 size:t.place.size=hs.length
 rise:t.place.toList.Pairwise (· < ·)
 bound:∀j∈t.place.toList,j≤t.mask
 nodum:t.dummies = #[]
 fit:hs.length≤t.mask
 reach:∀j h,(j,h)∈t.place.toList.zip hs->∃k,(sq t.mask h k).j=j/\∀k',k' < k->(sq t.mask h k').j∈t.place.toList
theorem qjzz{m:Nat}(hm:Masky m)(h:Int):∀k,(sq m h k).j≤m/\(sq m h k).j+(sq m h k).more≤m:=by
 have hrun:∀i,i≤m->runEnd m i≤m:=fun i hi=>by
  unfold runEnd;split<;>omega
 have hrs:∀q:Nat×Nat,q.1≤m->(rs m q).j≤m/\(rs m q).j+(rs m q).more≤m:=fun q hq=>by
  have:=hrun q.1 hq;have h2:q.1≤runEnd m q.1:=by unfold runEnd;split<;>omega
  show q.1≤m/\q.1+(runEnd m q.1-q.1)≤m;omega
 intro k
 induction k with
 |zero=>exact hrs _ (by show bits h%(m+1)≤m;have:bits h%(m+1)<m+1:=Nat.mod_lt (bits h) (Nat.succ_pos m);omega)
 |succ k ih=>
  show (adv m (sq m h k)).j≤m/\(adv m (sq m h k)).j+(adv m (sq m h k)).more≤m;unfold adv;by_cases hc:(sq m h k).more > 0
  ·rw[if_pos hc];show (sq m h k).j+1≤m/\(sq m h k).j+1+((sq m h k).more-1)≤m;omega
  ·rw[if_neg hc];have hlt:(leap m (sq m h k).i (sq m h k).perturb).1≤m:=by
    show ((sq m h k).i*5+1+(sq m h k).perturb / 32)%(m+1)≤m;have:((sq m h k).i*5+1+(sq m h k).perturb / 32)%(m+1)<m+1:=Nat.mod_lt _ (Nat.succ_pos m);omega
   exact hrs (leap m (sq m h k).i (sq m h k).perturb) hlt
theorem Tab.put{t:SetTable}{hs:List Int}(T:Tab t hs){h:Int}{ke:Nat}(he:(sq t.mask h ke).j∉t.place.toList)(hl:∀k,k<ke->(sq t.mask h k).j∈t.place.toList):
  TabR { t with place:=insertAt t.place (below t.place (sq t.mask h ke).j) (sq t.mask h ke).j,dummies:=#[]} (hs.take (below t.place (sq t.mask h ke).j)++h::hs.drop (below t.place (sq t.mask h ke).j)):=by
 obtain⟨b0,b1,b2⟩:=qeoz (j:=(sq t.mask h ke).j) T.rise;have hlen:t.place.toList.length=hs.length:=by simpa using T.size
 have hmem:∀x,x∈(insertAt t.place (below t.place (sq t.mask h ke).j) (sq t.mask h ke).j).toList↔x=(sq t.mask h ke).j∨x∈t.place.toList:=fun x=>by
  rw[qbuz,(qcgz _ t.place.toList _).mem_iff,List.mem_cons]
 refine⟨T.mask,?_,?_,fun j hj=>?_,rfl,?_,fun j h' hj=>?_⟩
 ·show (insertAt t.place (below t.place (sq t.mask h ke).j) (sq t.mask h ke).j).size=_;have e1:(insertAt t.place (below t.place (sq t.mask h ke).j) (sq t.mask h ke).j).size=(insertAt t.place (below t.place (sq t.mask h ke).j) (sq t.mask h ke).j).toList.length:=by simp
  rw[e1,qbuz,(qcgz _ t.place.toList _).length_eq,(qcgz _ hs _).length_eq];simp only[List.length_cons];omega
 ·show (insertAt t.place (below t.place (sq t.mask h ke).j) (sq t.mask h ke).j).toList.Pairwise (· < ·);rw[qbuz];refine List.pairwise_append.mpr ⟨T.rise.sublist (List.take_sublist _ _),List.pairwise_cons.mpr ⟨fun x hx=>?_,T.rise.sublist (List.drop_sublist _ _)⟩,fun a ha b hb=>?_⟩
  ·obtain⟨i,hi⟩:=List.getElem?_of_mem hx;rw[List.getElem?_drop] at hi;have q:=b2 (below t.place (sq t.mask h ke).j+i) x (by omega) (by rw[←Array.getElem?_toList];exact hi);have ne:x≠(sq t.mask h ke).j:=fun e=>he (e▸List.mem_of_getElem? hi);omega
  ·obtain⟨i,hi⟩:=List.getElem?_of_mem ha;have hil:i<below t.place (sq t.mask h ke).j:=by
    have:=(List.getElem?_eq_some_iff.mp hi).1;rw[List.length_take] at this;omega
   rw[List.getElem?_take_of_lt hil] at hi;have qa:=b1 i a hil (by rw[←Array.getElem?_toList];exact hi);rcases List.mem_cons.mp hb with e|hb
   ·rw[e];exact qa
   ·obtain⟨i2,hi2⟩:=List.getElem?_of_mem hb;rw[List.getElem?_drop] at hi2;have q:=b2 (below t.place (sq t.mask h ke).j+i2) b (by omega) (by rw[←Array.getElem?_toList];exact hi2);omega
 ·rcases (hmem j).mp hj with e|e
  ·rw[e];exact (qjzz T.mask h ke).1
  ·exact T.bound j e
 ·rw[(qcgz _ hs _).length_eq];have:=T.room;rcases T.mask with e|e|e<;>(simp only[List.length_cons];show _≤t.mask;omega)
 ·have hp:(j,h')∈(t.place.toList.take (below t.place (sq t.mask h ke).j)++(sq t.mask h ke).j::t.place.toList.drop (below t.place (sq t.mask h ke).j)).zip
    (hs.take (below t.place (sq t.mask h ke).j)++h::hs.drop (below t.place (sq t.mask h ke).j)):=by
   rw[←qbuz];exact hj
  rw[(qjyz _ _ _ _ _ hlen).mem_iff] at hp;rcases List.mem_cons.mp hp with e|e
  ·cases e;exact⟨ke,rfl,fun k' hk'=>(hmem _).mpr (.inr (hl k' hk'))⟩
  ·obtain⟨k,e1,e2⟩:=T.reach j h' e;exact⟨k,e1,fun k' hk'=>(hmem _).mpr (.inr (e2 k' hk'))⟩
theorem TabR.tab{t:SetTable}{hs:List Int}(T:TabR t hs)(h:t.tooFull=false):Tab t hs:=by
 refine⟨T.mask,T.size,T.rise,T.bound,T.nodum,?_,T.reach⟩;have h':¬(t.fill*5≥t.mask*3):=by simpa [tooFull] using h
 have e:t.fill=hs.length:=by
  unfold fill;rw[T.size,T.nodum];rfl
 rw[e] at h';omega
end SetP
namespace SetP
open PySem PySem.SetTable
def Taken(ow:Array (Option Nat))(j:Nat):Prop:=∃k,ow[j]?=some (some k)
theorem qgbz{ow:Array (Option Nat)}{j:Nat}(hj:j<ow.size):(ow.getD j (some 0)).isNone=true↔¬Taken ow j:=by
 have e:ow.getD j (some 0)=ow[j]:=by simp[Array.getD,hj]
 rw[e];unfold Taken;rw[Array.getElem?_eq_getElem hj];cases ow[j] with
 |none=>simp
 |some k=>simp
theorem qj0z{m:Nat}(hm:Masky m){h:Int}{ow:Array (Option Nat)}(hs:ow.size=m+1):∀(fuel r n:Nat),sq m h n=rs m (rn m h r)->(∀k,k<n->Taken ow (sq m h k).j) ->
  (∃r',r≤r'/\r' < r+fuel/\¬Taken ow (rn m h r').1)->∃ke,layClean.free m ow fuel (rn m h r).1 (rn m h r).2=some (sq m h ke).j/\¬Taken ow (sq m h ke).j/\∀k,k<ke->Taken ow (sq m h k).j
 |0,r,n,_,_,hx=>by
  obtain⟨r',h1,h2,_⟩:=hx;omega
 |fuel+1,r,n,hn,hk,hx=>by
  have hi:=qf8z m h r;have hre:runEnd m (rn m h r).1≤m:=by unfold runEnd;split<;>omega
  have hre2:(rn m h r).1≤runEnd m (rn m h r).1:=by unfold runEnd;split<;>omega
  have at_d:∀d,d≤runEnd m (rn m h r).1-(rn m h r).1->(sq m h (n+d)).j=(rn m h r).1+d:=fun d hd=>by
   rw[qf6z m h n _ hn d hd]
  unfold layClean.free;cases hf:(List.range (runEnd m (rn m h r).1+1-(rn m h r).1)).find? (fun k=>(ow.getD ((rn m h r).1+k) (some 0)).isNone) with
  |some k=>
   obtain⟨p1,p2,p3⟩:=List.find?_range_eq_some.mp hf;have hkr:=List.mem_range.mp p2;refine⟨n+k,?_,?_,fun k' hk'=>?_⟩
   ·rw[at_d k (by omega)]
   ·rw[at_d k (by omega)];exact (qgbz (by omega)).mp p1
   ·by_cases hlt:k' < n
    ·exact hk k' hlt
    ·obtain⟨d,rfl⟩:∃d,k'=n+d:=⟨k' - n,by omega⟩;rw[at_d d (by omega)];have q:=p3 d (by omega);refine Classical.byContradiction fun z=>?_;rw[(qgbz (by omega)).mpr z] at q;cases q
  |none=>
   have hnone:=List.find?_eq_none.mp hf;have occ:∀d,d≤runEnd m (rn m h r).1-(rn m h r).1->Taken ow ((rn m h r).1+d):=fun d hd=>
    Classical.byContradiction fun z=>hnone d (List.mem_range.mpr (by omega)) ((qgbz (by omega)).mpr z)
   refine qj0z hm hs fuel (r+1) (n+(runEnd m (rn m h r).1-(rn m h r).1)+1) (qjtz m h n _ hn) (fun k hk'=>?_) ?_
   ·by_cases hlt:k<n
    ·exact hk k hlt
    ·obtain⟨d,rfl⟩:∃d,k=n+d:=⟨k-n,by omega⟩;rw[at_d d (by omega)];exact occ d (by omega)
   ·obtain⟨r',h1,h2,h3⟩:=hx;refine⟨r',?_,by omega,h3⟩;have:r'≠r:=fun e=>h3 (by
     rw[e];have:=occ 0 (Nat.zero_le _);simpa using this)
    omega
structure Own(m:Nat)(ow:Array (Option Nat))(l:List Int):Prop where
 size:ow.size=m+1
 all:∀(k:Nat),k<l.length->∃j:Nat,ow[j]?=some (some k)
 one:∀(j j' k:Nat),ow[j]?=some (some k)->ow[j']?=some (some k)->j=j'
 reach:∀(j k:Nat),ow[j]?=some (some k)->∃h,l[k]?=some h/\∃n,(sq m h n).j=j/\∀n',n' < n->Taken ow (sq m h n').j
theorem Own.nil(m:Nat):Own m (Array.replicate (m+1) none) []:=by
 have hno:∀(j k:Nat),¬(Array.replicate (m+1) (none:Option Nat))[j]?=some (some k):=fun j k e=>by
  rw[Array.getElem?_replicate] at e;split at e<;>simp at e
 exact⟨by simp,fun k hk=>by simp at hk,fun j j' k e=>absurd e (hno j k),fun j k e=>absurd e (hno j k)⟩
theorem Own.room{m:Nat}{ow:Array (Option Nat)}{l:List Int}(O:Own m ow l)(hl:l.length≤m):∃e,e≤m/\¬Taken ow e:=by
 refine Classical.byContradiction fun hn=>?_;have hall:∀e,e≤m->Taken ow e:=fun e he=>Classical.byContradiction fun q=>hn ⟨e,he,q⟩;obtain⟨g,hg⟩:∃g:Nat->Nat,∀k,k<l.length->ow[g k]?=some (some k):=by
  refine⟨fun k=>if q:k<l.length then (O.all k q).choose else 0,fun k hk=>?_⟩;dsimp only;rw[dif_pos hk];exact (O.all k hk).choose_spec
 have hlen:=qgaz (m+1) ((List.range l.length).map g) fun e he=>by
  obtain⟨k,hk⟩:=hall e (by omega);obtain⟨h,e1,_⟩:=O.reach e k hk;have hkl:=(List.getElem?_eq_some_iff.mp e1).1;exact List.mem_map.mpr ⟨k,List.mem_range.mpr hkl,O.one _ _ k (hg k hkl) hk⟩
 simp at hlen;omega
theorem Own.add{m:Nat}(hm:Masky m){ow:Array (Option Nat)}{l:List Int}{h:Int}(O:Own m ow l)(hl:l.length≤m):
  ∃j,layClean.free m ow (turns m) (bits h%(m+1)) (bits h)=some j/\Own m (ow.setIfInBounds j (some l.length)) (l++[h]):=by
 obtain⟨e,he,ne⟩:=O.room hl;obtain⟨n0,hn0,en0⟩:=period hm (qf8z m h 13) (show e<m+1 by omega);obtain⟨ke,h1,h2,h3⟩:=qj0z hm (h:=h) O.size (turns m) 0 0 rfl (fun k hk=>by omega) ⟨13+n0,by omega,by unfold turns;omega,by rw[qf7z,en0];exact ne⟩;refine⟨(sq m h ke).j,h1,?_⟩;have hj:(sq m h ke).j<ow.size:=by
  have:=(qjzz hm h ke).1;rw[O.size];omega
 have hget:∀j:Nat,(ow.setIfInBounds (sq m h ke).j (some l.length))[j]?=if (sq m h ke).j=j then some (some l.length) else ow[j]?:=fun j=>by
  rw[Array.getElem?_setIfInBounds];by_cases e:(sq m h ke).j=j
  ·rw[if_pos e,if_pos e,if_pos (by omega)]
  ·rw[if_neg e,if_neg e]
 have tk:∀j,Taken ow j->Taken (ow.setIfInBounds (sq m h ke).j (some l.length)) j:=fun j ⟨k,hk⟩=>by
  unfold Taken;rw[hget];by_cases e:(sq m h ke).j=j
  ·exact⟨_,if_pos e⟩
  ·exact⟨k,by rw[if_neg e];exact hk⟩
 have lt_of:∀j k:Nat,ow[j]?=some (some k)->k<l.length:=fun j k e=>by
  obtain⟨h',e1,_⟩:=O.reach j k e;exact (List.getElem?_eq_some_iff.mp e1).1
 refine⟨by rw[Array.size_setIfInBounds];exact O.size,fun k hk=>?_,fun j j' k q q'=>?_,fun j k q=>?_⟩
 ·rw[List.length_append,List.length_singleton] at hk;by_cases hkl:k<l.length
  ·obtain⟨j,hj'⟩:=O.all k hkl;refine⟨j,?_⟩;rw[hget,if_neg (fun e=>h2 ⟨k,by rw[e];exact hj'⟩)];exact hj'
  ·have:k=l.length:=by omega
   exact⟨(sq m h ke).j,by rw[hget,if_pos rfl,this]⟩
 ·rw[hget] at q q';by_cases e:(sq m h ke).j=j
  ·rw[if_pos e] at q;by_cases e':(sq m h ke).j=j'
   ·omega
   ·rw[if_neg e'] at q';cases q;exact absurd (lt_of _ _ q') (Nat.lt_irrefl _)
  ·rw[if_neg e] at q;by_cases e':(sq m h ke).j=j'
   ·rw[if_pos e'] at q';cases q';exact absurd (lt_of _ _ q) (Nat.lt_irrefl _)
   ·rw[if_neg e'] at q';exact O.one j j' k q q'
 ·rw[hget] at q;by_cases e:(sq m h ke).j=j
  ·rw[if_pos e] at q;cases q;exact⟨h,by simp,ke,e,fun n' hn'=>tk _ (h3 n' hn')⟩
  ·rw[if_neg e] at q;obtain⟨h',e1,n,e2,e3⟩:=O.reach j k q;exact⟨h',by rw[List.getElem?_append_left (lt_of j k q)];exact e1,n,e2,fun n' hn'=>tk _ (e3 n' hn')⟩
theorem qj1z{m:Nat}(hm:Masky m):∀(l' l:List Int) (ow:Array (Option Nat)),Own m ow l->l.length+l'.length≤m+1 ->
  ∃ow',(l'.foldl (fun (acc:Option (Array (Option Nat)×Nat)) h=>do
   let (owner,k) ←acc
   let j ←layClean.free m owner (turns m) (bits h%(m+1)) (bits h)
   pure (owner.setIfInBounds j (some k),k+1)) (some (ow,l.length)))=some (ow',(l++l').length)/\Own m ow' (l++l')
 |[],l,ow,O,_=>⟨ow,by simp,by simpa using O⟩
 |h::l',l,ow,O,hl=>by
  rw[List.length_cons] at hl
  obtain⟨j,e,O'⟩:=O.add hm (h:=h) (by omega)
  obtain⟨ow',e2,O2⟩:=qj1z hm l' (l++[h]) _ O' (by simp;omega)
  refine⟨ow',?_,by simpa using O2⟩
  rw[List.foldl_cons]
  have hs:(do
   let (owner,k) ←(some (ow,l.length):Option (Array (Option Nat)×Nat))
   let j ←layClean.free m owner (turns m) (bits h%(m+1)) (bits h)
   pure (owner.setIfInBounds j (some k),k+1))=some (ow.setIfInBounds j (some l.length),(l++[h]).length):=by
   show (do
    let j ←layClean.free m ow (turns m) (bits h%(m+1)) (bits h)
    pure (ow.setIfInBounds j (some l.length),l.length+1))=_
   rw[e]
   simp
  rw[hs,e2]
  simp
theorem qgcz{α:Type}:∀l:List α,((List.range l.length).filterMap fun k=>l[k]?)=l
 |[]=>rfl
 |a::l=>by
  rw[List.length_cons,List.range_succ_eq_map,List.filterMap_cons_some (b:=a) (by simp),List.filterMap_map];have ih:=qgcz l;congr 1
theorem qtdz{α:Type}(xs:Array α):((List.range xs.size).filterMap fun k=>xs[k]?)=xs.toList:=by
 have:=qgcz xs.toList;simpa using this
theorem qtez{m finger moves:Nat}{led plain:Bool}(hm:Masky m)(hs:Array Int)(hl:hs.size*5<m*3):
  ∃t order,laid m finger moves led plain hs=some (t,order)/\t.mask=m/\t.led=led/\t.plain=plain/\t.finger=finger/\order.toList.Perm (List.range hs.size)/\Tab t (order.toList.filterMap fun k=>hs[k]?):=by
 obtain⟨ow,e,O⟩:=qj1z hm hs.toList [] _ (Own.nil m) (by simp;omega);rw[List.nil_append] at e O;have hlc:layClean m hs=some ow:=by
  unfold layClean;rw[←Array.foldl_toList];have e':=congrArg (Option.map fun x:Array (Option Nat)×Nat=>x.1) e;exact e'
 have hmem:∀j k,(j,k)∈((List.range (m+1)).filterMap fun j=>(ow.getD j none).map (j,·))↔ow[j]?=some (some k):=fun j k=>by
  rw[List.mem_filterMap];constructor
  ·rintro⟨a,ha,q⟩;have ha':=List.mem_range.mp ha;cases ho:ow.getD a none with
   |none=>rw[ho] at q;cases q
   |some k'=>
    rw[ho] at q;cases q;have:ow.getD j none=ow[j]'(by rw[O.size];exact ha'):=by simp[Array.getD,O.size,ha']
    rw[this] at ho;rw[Array.getElem?_eq_getElem (by rw[O.size];exact ha'),ho]
  ·intro q;have hj:=(Array.getElem?_eq_some_iff.mp q).1;rw[O.size] at hj;refine⟨j,List.mem_range.mpr hj,?_⟩;have:ow.getD j none=some k:=by
    rw[Array.getD_eq_getD_getElem?,q];rfl
   rw[this];rfl
 generalize hL:((List.range (m+1)).filterMap fun j=>(ow.getD j none).map (j,·))=L at hmem;have rise:L.Pairwise fun a b=>a.1<b.1:=by
  rw[←hL];refine List.Pairwise.filterMap _ (fun a a' hlt b hb b' hb'=>?_) (List.pairwise_lt_range (n:=m+1));cases ho:ow.getD a none with
  |none=>rw[ho] at hb;cases hb
  |some k=>
   rw[ho] at hb;cases hb;cases ho':ow.getD a' none with
   |none=>rw[ho'] at hb';cases hb'
   |some k'=>
    rw[ho'] at hb';cases hb';exact hlt
 have nd:(L.map (·.2)).Nodup:=by
  refine List.Pairwise.map _ (R:=fun a b=>a.2≠b.2) (fun _ _ z=>z) ?_;refine List.Pairwise.imp_of_mem (fun {a b} ha hb hab=>?_) rise;intro q;obtain⟨j,k⟩:=a;obtain⟨j',k'⟩:=b;have ea:=(hmem j k).mp ha;have eb:=(hmem j' k').mp hb;have hab':j<j':=hab;have q':k=k':=q;subst q';have:=O.one j j' k ea eb;omega
 have hperm:(L.map (·.2)).Perm (List.range hs.size):=by
  refine (List.perm_ext_iff_of_nodup nd List.nodup_range).mpr fun k=>?_;rw[List.mem_map,List.mem_range];constructor
  ·rintro⟨⟨j,k'⟩,hjk,rfl⟩;obtain⟨h,e1,_⟩:=O.reach j k' ((hmem j k').mp hjk);have:=(List.getElem?_eq_some_iff.mp e1).1;simpa using this
  ·intro hk;obtain⟨j,ej⟩:=O.all k (by simpa using hk);exact⟨(j,k),(hmem j k).mpr ej,rfl⟩
 -- the hashes in the slots' order
 have hzip:∀j h,(j,h)∈(L.map (·.1)).zip ((L.map (·.2)).filterMap fun k=>hs[k]?)->∃k,(j,k)∈L/\hs[k]?=some h:=by
  have hall:∀p∈L,∃h,hs[p.2]?=some h:=fun p hp=>by
   obtain⟨h,e1,_⟩:=O.reach p.1 p.2 ((hmem p.1 p.2).mp hp);exact⟨h,by rw[←Array.getElem?_toList];exact e1⟩
  clear hmem rise nd hperm hL
  induction L with
  |nil=>intro j h q;cases q
  |cons p L ih=>
   intro j h q;obtain⟨h0,e0⟩:=hall p List.mem_cons_self;rw[List.map_cons,List.map_cons,List.filterMap_cons_some e0,List.zip_cons_cons] at q;rcases List.mem_cons.mp q with q|q
   ·cases q;exact⟨p.2,List.mem_cons_self,e0⟩
   ·obtain⟨k,q1,q2⟩:=ih (fun p hp=>hall p (List.mem_cons_of_mem _ hp)) j h q;exact⟨k,List.mem_cons_of_mem _ q1,q2⟩
 have hlenL:((L.map (·.2)).filterMap fun k=>hs[k]?).length=L.length:=by
  have h1:=(hperm.filterMap fun k=>hs[k]?).length_eq;rw[qtdz] at h1;have h3:=hperm.length_eq;rw[List.length_map,List.length_range] at h3;rw[h1,h3];simp
 refine⟨_,_,by unfold laid;rw[hlc];rfl,rfl,rfl,rfl,rfl,?_,?_⟩
 ·rw[hL];exact hperm
 ·rw[hL];have hlen:L.length=hs.size:=by
   have:=hperm.length_eq;simpa using this
  refine⟨hm,?_,?_,fun j hj=>?_,rfl,?_,fun j h hj=>?_⟩
  ·rw[hlenL];simp
  ·exact List.Pairwise.map _ (fun _ _ z=>z) rise
  ·obtain⟨⟨j',k⟩,hp,rfl⟩:=List.mem_map.mp hj;have:=(Array.getElem?_eq_some_iff.mp ((hmem j' k).mp hp)).1;rw[O.size] at this;show j'≤m;omega
  ·rw[hlenL,hlen];exact hl
  ·obtain⟨k,q1,q2⟩:=hzip j h hj;obtain⟨h',e1,n,e2,e3⟩:=O.reach j k ((hmem j k).mp q1);have eh:h'=h:=by
    rw[Array.getElem?_toList,q2] at e1;exact (Option.some.inj e1).symm
   subst eh;refine⟨n,e2,fun n' hn'=>?_⟩;obtain⟨k',hk'⟩:=e3 n' hn';exact List.mem_map.mpr ⟨(_,k'),(hmem _ k').mpr hk',rfl⟩
end SetP
namespace SetM
open PySem SetP
section
variable {prog:Program} {w:World} {A:Around} {E:Value->Shared->Prop} {s:Shared}
abbrev hk(prog:Program)(w:World)(ks:List Int):Int:=tupleKeyHash (intKind prog w) ks
abbrev IsK(prog:Program)(w:World)(h:Heap)(ks:List Int)(a:Addr):Prop:=IsTupleKey (intKind prog w) h ks a
def ent(prog:Program)(w:World)(p:List Int×Addr):Int×Value:=(hk prog w p.1,.ref p.2)
structure SetAt(prog:Program)(w:World)(h:Heap)(a:Addr)(o:Obj)(es:Array (Int×Value))(ep:Nat)(t:SetTable)(xs:List (List Int×Addr)):Prop where
 at_:h.get? a=some o
 ex:o.ExactSet
 dat:o.data=.set es ep t
 ents:es.toList=xs.map (ent prog w)
 keys:∀p∈xs,IsK prog w h p.1 p.2
 nd:(xs.map (·.1)).Nodup
 plain:t.plain=true
 led:t.led = !(w.params.followText "set-order")
theorem qc1z{es:Array (Int×Value)}:(es.toList.map (·.1)).length=es.size:=by simp
theorem qbvz{es:Array (Int×Value)}{t:SetTable}(T:TabR t (es.toList.map (·.1))):t.fits es.size=true:=by
 unfold SetTable.fits;have h1:=T.size;rw[qc1z] at h1;have h2:=T.fit;rw[qc1z] at h2;have h3:t.fill=es.size:=by
  unfold SetTable.fill;rw[h1,T.nodum];rfl
 rw[h3,h1];simp;exact h2
theorem Tab.r{t:SetTable}{hs:List Int}(T:Tab t hs):TabR t hs:=by
 refine⟨T.mask,T.size,T.rise,T.bound,T.nodum,?_,T.reach⟩;have:=T.room;omega
theorem qtfz{t:SetTable}(h:Masky t.mask):t.gaveWay=false:=by
 unfold SetTable.gaveWay;rcases h with e|e|e<;>rw[e]<;>rfl
theorem qtgz(n:Nat){v:Value}(h:carriedByValue v=true):ofAClassStatement n v=pure false:=by
 cases v with
 |ref a=>simp[carriedByValue] at h
 |_=>first|rfl|(cases n<;>rfl)
theorem qj2z{ks:List Int}{a:Addr}{Q:Bool->Shared->Prop}(hx:IsK prog w s.heap ks a)(h:Q false s):wpAny (model prog w) A (ofAClassStatement 8 (.ref a)) Q E s:=by
 have hT:=hx.typeIs;obtain⟨o,items,n,ho,hc,hd,hi⟩:=hx;unfold ofAClassStatement;refine wpAny_bind (wpAny_typeOf hT ?_);dsimp only;rw[if_pos (by decide)];refine wpAny_bind (wpAny_pure ?_);rw[if_neg (by decide)];refine wpAny_bind (wpAny_seqItems ho hd ?_);dsimp only;refine wpAny_bind ?_;rw[←Array.forIn_toList];refine wpAny_forIn_list _ (fun rest r s'=>r.1=none/\s'=s/\∀v∈rest,carriedByValue v=true) _ ?_ ?_ _ _ ⟨rfl,rfl,hi.byValue⟩
 ·rintro v rest r s' ⟨hr,rfl,hall⟩;rw[qtgz _ (hall v List.mem_cons_self)];refine wpAny_bind (wpAny_pure ?_);rw[if_neg Bool.false_ne_true];exact wpAny_pure ⟨rfl,rfl,fun u hu'=>hall u (List.mem_cons_of_mem _ hu')⟩
 ·rintro⟨r1,r2⟩ s' ⟨hr,rfl,_⟩;simp only at hr;subst hr;exact wpAny_pure h
theorem qthz{ks:List Int}{a:Addr}{Q:Bool->Shared->Prop}(hx:IsK prog w s.heap ks a)(l:List Value)(hl:∀v∈l,∃k y,v=.ref y/\IsK prog w s.heap k y)(h:Q false s):
  wpAny (model prog w) A (searchCouldBeSeen (.ref a) l) Q E s:=by
 unfold searchCouldBeSeen;refine wpAny_bind ?_;refine wpAny_forIn_list _ (fun rest r s'=>r.1=none/\s'=s/\∀v∈rest,∃k y,v=.ref y/\IsK prog w s.heap k y) _ ?_ ?_ _ _ ⟨rfl,rfl,hl⟩
 ·rintro v rest r s' ⟨hr,rfl,hall⟩;obtain⟨k,y,rfl,hy⟩:=hall v List.mem_cons_self;have hrest:∀v∈rest,∃k y,v=Value.ref y/\IsK prog w s'.heap k y:=fun v hv=>hall v (List.mem_cons_of_mem _ hv);dsimp only;by_cases hc:((a==y)||(carriedByValue (.ref a)&&carriedByValue (.ref y)))=true
  ·rw[if_pos hc];exact wpAny_pure ⟨rfl,rfl,hrest⟩
  ·rw[if_neg hc];refine wpAny_bind (wpAny_eqIsQuiet_tuple hx ?_);rw[if_neg (by decide)];refine wpAny_bind (wpAny_eqIsQuiet_tuple hy ?_);rw[if_neg (by decide)];refine wpAny_bind (qj2z hx ?_);rw[if_neg Bool.false_ne_true];refine wpAny_bind (qj2z hy ?_);rw[if_neg Bool.false_ne_true];exact wpAny_pure ⟨rfl,rfl,hrest⟩
 ·rintro⟨r1,r2⟩ s' ⟨hr,rfl,_⟩;simp only at hr;subst hr;exact wpAny_pure h
theorem qtiz{ks:List Int}{a:Addr}{Q:Bool->Shared->Prop}(hx:IsK prog w s.heap ks a)(h:Q true s):wpAny (model prog w) A (hashByValue 8 (.ref a)) Q E s:=by
 have hT:=hx.typeIs;obtain⟨o,items,n,ho,hc,hd,hi⟩:=hx;unfold hashByValue;refine wpAny_bind (wpAny_specialOf hT F.slot_tuple_hash.lookup ?_);dsimp only;refine wpAny_bind (wpAny_seqItems ho hd ?_);refine wpAny_bind ?_;show wpAny _ _ (forIn items _ _) _ _ s;rw[←Array.forIn_toList];refine wpAny_forIn_list _ (fun rest r s'=>r.1=none/\s'=s/\∃l,ItemsAre (intKind prog w) l rest) _ ?_ ?_ _ _ ⟨rfl,rfl,ks,hi⟩
 ·rintro v rest r s' ⟨hr,rfl,l,hl⟩;cases hl with
  |@cons k v' _ _ h1 h2=>
   obtain⟨tk,rfl⟩:=Value.isInt_shape (k:=k) h1;have e:hashByValue 7 (.int k tk)=pure true:=by rfl
   rw[e];refine wpAny_bind (wpAny_pure ?_);rw[if_neg (by decide)];exact wpAny_pure ⟨rfl,rfl,_,h2⟩
 ·rintro⟨r1,r2⟩ s' ⟨hr,rfl,_⟩;simp only at hr;subst hr;exact wpAny_pure h
theorem qtjz{es:Array (Int×Value)}{xs:List (List Int×Addr)}(he:es.toList=xs.map (ent prog w)){i:Nat}(hi:i<es.size):∃p,xs[i]?=some p/\es[i]?=some (ent prog w p):=by
 have hl:xs.length=es.size:=by
  have:=congrArg List.length he;simpa using this.symm
 obtain⟨p,hp⟩:∃p,xs[i]?=some p:=⟨xs[i]'(by omega),List.getElem?_eq_getElem (by omega)⟩;refine⟨p,hp,?_⟩;rw[←Array.getElem?_toList,he,List.getElem?_map,hp];rfl
theorem qj3z{a:Addr}{o:Obj}{es:Array (Int×Value)}{ep:Nat}{t:SetTable}{xs:List (List Int×Addr)}(S:SetAt prog w s.heap a o es ep t xs)(T:Tab t (es.toList.map (·.1)))(hu:A.units<cLine)
  {ks:List Int} {x:Addr} (hx:IsK prog w s.heap ks x) {ke:Nat} (hke:ke≤10*t.mask+130) (hemp:(sq t.mask (hk prog w ks) ke).j∉t.place.toList) (hliv:∀k,k<ke->(sq t.mask (hk prog w ks) k).j∈t.place.toList)
  {Q:SetFound->Shared->Prop} (hin:ks∈xs.map (·.1)->Q (.there none) s) (hout:ks∉xs.map (·.1)->Q (.free (sq t.mask (hk prog w ks) ke).j false) s):
  ∀(fuel n:Nat) (stand:Option SetTable.Probe),stand.getD (t.probeStart (hk prog w ks))=sq t.mask (hk prog w ks) n->n≤ke->ke-n<fuel ->
   (∀(k' i':Nat) p,k' < n->t.place[i']?=some (sq t.mask (hk prog w ks) k').j->xs[i']?=some p->p.1≠ks) ->
   wpAny (model prog w) A (setSearchFrom a (.ref x) (hk prog w ks) true fuel stand) Q E s
 |0,n,stand,_,_,hf,_=>by omega
 |fuel+1,n,stand,hst,hn,hf,hprev=>by
  have hsz:t.place.size=es.size:=by
   have:=T.size
   rw[qc1z] at this
   exact this
  have hfit:=qbvz (Tab.r T)
  have hal:∀(i:Nat) (p:List Int×Addr),xs[i]?=some p->((es[i]?).map fun z:Int×Value=>z.1).getD 0=hk prog w p.1:=fun i p hp=>by
   rw[←Array.getElem?_toList,S.ents,List.getElem?_map,hp]
   rfl
  unfold setSearchFrom
  refine wpAny_bind (wpAny_setState_of S.at_ S.dat hfit ?_)
  dsimp only
  rw[qtfz T.mask,if_neg Bool.false_ne_true,hst]
  obtain⟨met,e,m⟩:=qtbz T (hashAt:=fun i=>((es[i]?).map fun z:Int×Value=>z.1).getD 0) hke hemp hliv hn
  erw [e]
  dsimp only
  cases m with
  |free h1 h5=>
   dsimp only
   refine wpAny_pure (hout fun hmem=>?_)
   obtain⟨p,hp,rfl⟩:=List.mem_map.mp hmem
   obtain⟨i,hi⟩:=List.getElem?_of_mem hp
   have hil:i<es.size:=by
    have h1:=(List.getElem?_eq_some_iff.mp hi).1
    have h2:=congrArg List.length S.ents
    simp at h2
    omega
   have hj:∃j,t.place[i]?=some j:=⟨t.place[i]'(by omega),by simp⟩
   obtain⟨j,hj⟩:=hj
   have hz:(j,hk prog w p.1)∈t.place.toList.zip (es.toList.map (·.1)):=by
    refine List.mem_of_getElem? (i:=i) ?_
    rw[List.getElem?_zip_eq_some]
    refine⟨by rw[Array.getElem?_toList];exact hj,?_⟩
    rw[S.ents,List.map_map,List.getElem?_map,hi]
    rfl
   obtain⟨k,hk1,hk2⟩:=T.reach _ _ hz
   have hkke:k<ke:=by
    refine Classical.byContradiction fun z=>hemp ?_
    by_cases q:k=ke
    ·rw[←q,hk1]
     exact List.mem_of_getElem? (by rw[Array.getElem?_toList];exact hj)
    ·exact hk2 ke (by omega)
   rw[←hk1] at hj
   by_cases hkn:k<n
   ·exact hprev k i p hkn hj hi rfl
   ·exact h5 k i (by omega) hkke hj (hal i p hi)
  |@cand k i h1 h2 h3 h4 h5=>
   dsimp only
   have hil:i<es.size:=by
    have:=(Array.getElem?_eq_some_iff.mp h3).1
    omega
   obtain⟨p,hp,hesi⟩:=qtjz S.ents hil
   have hyk:=S.keys p (List.mem_of_getElem? hp)
   have hpk:p∈xs:=List.mem_of_getElem? hp
   have go:wpAny (model prog w) A (do
     let some (_,y):=es[i]? | unsupported "internal:set-entry"
     let equal ←holding [y] (eqBool y (.ref x))
     let (es',_,t') ←setState a
     if true&&equal then return .there none
     let some same:=t'.sameMemory t.moves t.mask|unsupported "set.changed-during-lookup:is-the-new-block-at-the-old-address"
     let still ←match (if same then t'.slot (sq t.mask (hk prog w ks) k).j else .empty) with
      |.live i'=>match es'[i']? with
       |some (_,y')=>do pure (if ←isSame y' y then some i' else none)
       |none=>pure none
      |_=>pure none
     match still with
     |none=>rule "set.search.anew";setSearchFrom a (.ref x) (hk prog w ks) true fuel none
     | some i'=>if equal then return .there (some i') else setSearchFrom a (.ref x) (hk prog w ks) true fuel (some (sq t.mask (hk prog w ks) (k+1)))) Q E s:=by
    rw[hesi]
    dsimp only[ent]
    refine wpAny_bind (wpAny_holding (wpAny_eqBool_tuple hu hyk hx ?_))
    refine wpAny_bind (wpAny_setState_of S.at_ S.dat hfit ?_)
    dsimp only
    by_cases heq:p.1=ks
    ·rw[decide_eq_true heq,if_pos (by decide)]
     exact wpAny_pure (hin (List.mem_map.mpr ⟨p,hpk,heq⟩))
    ·rw[decide_eq_false heq,if_neg (by decide)]
     have hsm:t.sameMemory t.moves t.mask=some true:=by unfold SetTable.sameMemory;simp
     rw[hsm]
     dsimp only
     rw[if_pos rfl,qjwz T.rise h3]
     dsimp only
     rw[hesi]
     dsimp only[ent]
     refine wpAny_bind (wpAny_isSame_ref_self ?_)
     rw[if_pos rfl]
     refine wpAny_bind (wpAny_pure ?_)
     dsimp only
     rw[if_neg Bool.false_ne_true]
     refine qj3z S T hu hx hke hemp hliv hin hout fuel (k+1) _ rfl (by omega) (by omega) fun k' i' p' hk' hpl hp'=>?_
     by_cases hkn:k' < n
     ·exact hprev k' i' p' hkn hpl hp'
     ·by_cases hkk:k'=k
      ·subst hkk
       have e1:=below_at T.rise h3
       have e2:=below_at T.rise hpl
       have:i'=i:=by omega
       subst this
       rw[hp] at hp'
       cases hp'
       exact heq
      ·intro he
       exact h5 k' i' (by omega) (by omega) hpl (by rw[hal i' p' hp',he])
   by_cases hled:t.led=true
   ·rw[hled]
    rw[if_neg (by decide)]
    exact go
   ·have hled':t.led=false:=by simpa using hled
    rw[hled']
    rw[if_pos (by decide)]
    refine wpAny_bind (qthz hx _ (fun v hv=>?_) ?_)
    ·obtain⟨e0,he0,rfl⟩:=List.mem_map.mp hv
     have he1:e0∈es.toList:=by
      have:=Array.mem_toList_iff.mp he0
      exact Array.mem_toList_iff.mpr (Array.mem_filter.mp this).1
     rw[S.ents] at he1
     obtain⟨p0,hp0,rfl⟩:=List.mem_map.mp he1
     exact⟨p0.1,p0.2,rfl,S.keys p0 hp0⟩
    ·rw[if_neg Bool.false_ne_true]
     exact go
end
end SetM
namespace SetM
open PySem SetP
section
variable {prog:Program} {w:World} {A:Around} {E:Value->Shared->Prop} {s:Shared}
def SetOn(prog:Program)(w:World)(h:Heap)(a:Addr)(xs:List (List Int×Addr)):Prop:=
 ∃o es ep t,SetAt prog w h a o es ep t xs/\Tab t (es.toList.map (·.1))
theorem qepz{h h':Heap}{a y:Addr}{ks:List Int}{o:Obj}{es:Array (Int×Value)}{ep:Nat}{t:SetTable}(ho:h.get? a=some o)(hd:o.data=.set es ep t)(sb:Heap.SameBut a h h')(hy:IsK prog w h ks y):IsK prog w h' ks y:=by
 obtain⟨oy,items,n,hoy,hc,hdy,hi⟩:=hy;have ne:y≠a:=by
  intro e;subst e;rw[ho] at hoy;cases hoy;rw[hd] at hdy;cases hdy
 exact⟨oy,items,n,(sb.2 y ne).trans hoy,hc,hdy,hi⟩
theorem qj4z{h:Heap}{a:Addr}{o:Obj}{es es':Array (Int×Value)}{ep:Nat}{t t':SetTable}(ho:h.get? a=some o)(hd:o.data=.set es ep t):
  (h.update a (Obj.putSet es' t')).get? a=some { o with data:=.set es' (ep+1) t' }:=by
 have q:=Heap.get?_update_self (Obj.putSet es' t') ho (by rw[putSet_of es' t' hd];rfl);rw[putSet_of es' t' hd] at q;exact q
theorem qtkz:∀n,n<8->5≤n->SetTable.sizeAbove (SetTable.grown n)=32:=by decide +kernel
theorem qtlz:∀n,n<32->19≤n->SetTable.sizeAbove (SetTable.grown n)=128:=by decide +kernel
theorem qtmz{t:SetTable}{hs:List Int}(T:TabR t hs)(hf:t.tooFull=true)(h64:hs.length≤64):∃m,SetTable.sizeAbove (SetTable.grown hs.length)=m+1/\Masky m/\hs.length*5<m*3/\m+1≤128:=by
 have hfill:t.fill=hs.length:=by
  unfold SetTable.fill;rw[T.size,T.nodum];rfl
 have h':hs.length*5≥t.mask*3:=by
  unfold SetTable.tooFull at hf;rw[hfill] at hf;simpa using hf
 have hfit:=T.fit;rcases T.mask with e|e|e
 ·rw[e] at h' hfit;exact⟨31,qtkz _ (by omega) (by omega),.inr (.inl rfl),by omega,by omega⟩
 ·rw[e] at h' hfit;exact⟨127,qtlz _ (by omega) (by omega),.inr (.inr rfl),by omega,by omega⟩
 ·rw[e] at h';omega
theorem qtnz{α β:Type}(f:α->β)(l:List α)(o:List Nat):(o.filterMap fun k=>(l.map f)[k]?)=(o.filterMap fun k=>l[k]?).map f:=by
 rw[List.map_filterMap];congr 1;funext k;rw[List.getElem?_map]
theorem qtoz{a:Addr}{o:Obj}{es:Array (Int×Value)}{ep:Nat}{t:SetTable}{xs:List (List Int×Addr)}(S:SetAt prog w s.heap a o es ep t xs)(T:TabR t (es.toList.map (·.1)))(hf:t.tooFull=true)(h64:es.size≤64)
  {Q:Unit->Shared->Prop} (h:∀h' xs',Heap.SameBut a s.heap h'->SetOn prog w h' a xs'->xs'.Perm xs->Q () { s with heap:=h' }):
  wpAny (model prog w) A (setRelay a (SetTable.grown es.size)) Q E s:=by
 have hsz:(es.toList.map (·.1)).length=es.size:=qc1z
 obtain⟨m,hm1,hm2,hm3,hm4⟩:=qtmz T hf (by rw[hsz];exact h64)
 rw[hsz] at hm1 hm3
 unfold setRelay
 refine wpAny_bind (wpAny_setState_of S.at_ S.dat (qbvz T) ?_)
 dsimp only
 rw[hm1,if_neg (by rw[sizeLine_eq];omega)]
 obtain⟨t2,order,e2,em,el,ep2,ef,hperm,T2⟩:=qtez (finger:=t.finger) (moves:=t.movedTo m) (led:=t.led) (plain:=t.plain) hm2 (es.map (·.1)) (by simpa using hm3)
 have erel:t.relaid (es.map (·.1)) (SetTable.grown es.size)=some (t2,order):=by
  unfold SetTable.relaid
  rw[hm1,Nat.add_sub_cancel]
  exact e2
 have hosz:(es.map (·.1)).size=es.size:=by simp
 rw[hosz] at hperm
 have hes2:(order.filterMap (es[·]?)).toList=(order.toList.filterMap fun k=>xs[k]?).map (ent prog w):=by
  rw[Array.toList_filterMap,←qtnz,←S.ents]
  congr 1
  funext k
  rw[Array.getElem?_toList]
 have hxl:xs.length=es.size:=by
  have:=congrArg List.length S.ents
  simpa using this.symm
 have hxp:(order.toList.filterMap fun k=>xs[k]?).Perm xs:=by
  have:=hperm.filterMap fun k=>xs[k]?
  rw[←hxl,qgcz] at this
  exact this
 have hsz2:(order.filterMap (es[·]?)).size=es.size:=by
  have:=congrArg List.length hes2
  simp only[List.length_map] at this
  rw[hxp.length_eq,hxl] at this
  rw[←Array.length_toList]
  exact this
 refine wpAny_bind ?_
 show wpAny _ _ (do
  let some (t,order):=t.relaid (es.map (·.1)) (SetTable.grown es.size)|unsupported "internal:set-table-without-room"
  let es':=order.filterMap (es[·]?)
  if es'.size != es.size then unsupported "internal:set-table-lost-an-element"
  pure (es',t)) _ _ _
 rw[erel]
 dsimp only
 rw[hsz2,if_neg (by simp)]
 refine wpAny_pure ?_
 dsimp only
 refine wpAny_storeSet_of S.at_ S.dat ?_ (by rw[hsz2,sizeLine_eq];omega)
 have sb:=Heap.SameBut.update s.heap a (Obj.putSet (order.filterMap (es[·]?)) t2)
 refine h _ _ sb ⟨_,_,_,_,⟨qj4z S.at_ S.dat,⟨S.ex.1,S.ex.2.1,S.ex.2.2⟩,rfl,hes2,fun p hp=>qepz S.at_ S.dat sb (S.keys p (hxp.mem_iff.mp hp)),?_,ep2.trans S.plain,el.trans S.led⟩,?_⟩ hxp
 ·exact (hxp.map _).nodup_iff.mpr S.nd
 ·have eT:(order.filterMap (es[·]?)).toList.map (·.1)=order.toList.filterMap fun k=>(es.map (·.1))[k]?:=by
   rw[Array.toList_filterMap,List.map_filterMap]
   congr 1
   funext k
   simp
  rw[eT]
  exact T2
theorem qtpz{a:Addr}{xs:List (List Int×Addr)}(S:SetOn prog w s.heap a xs)(h64:xs.length<64)(hu:A.units<cLine){ks:List Int}{x:Addr}(hx:IsK prog w s.heap ks x)
  {Q:Bool->Shared->Prop} (h:∀b h' tk xs',s.toks≤tk->Heap.SameBut a s.heap h'->SetOn prog w h' a xs'->(ks∈xs.map (·.1)->xs'.Perm xs)->(ks∉xs.map (·.1)->xs'.Perm ((ks,x)::xs))->Q b { s with heap:=h',toks:=tk }):
  wpAny (model prog w) A (setAdd a (.ref x)) Q E s:=by
 obtain⟨o,es,ep,t,S,T⟩:=S;have hxl:xs.length=es.size:=by
  have:=congrArg List.length S.ents;simpa using this.symm
 unfold setAdd;refine wpAny_holding (wpAny_bind (wpAny_pyHash_tuple hu hx ?_));unfold setAddHashed;refine wpAny_holding ?_;have hend:∀b h' xs',Heap.SameBut a s.heap h'->SetOn prog w h' a xs'->(ks∈xs.map (·.1)->xs'.Perm xs)->(ks∉xs.map (·.1)->xs'.Perm ((ks,x)::xs))->Q b { s with heap:=h',toks:=s.toks+(ks.length+1)}:=
  fun b h' xs' q1 q2 q3 q4=>h b h' _ xs' (Nat.le_add_right _ _) q1 q2 q3 q4
 obtain⟨ke,hke,hemp,hliv⟩:=qtaz T (hk prog w ks);unfold setAddHashedIn;refine wpAny_bind (wpAny_setState_of (s:={ s with toks:=s.toks+(ks.length+1)}) S.at_ S.dat (qbvz (Tab.r T)) ?_);dsimp only;rw[show byScan (.ref x) es=false from rfl,if_neg Bool.false_ne_true];refine wpAny_bind ?_;unfold setSearch;refine qj3z (s:={ s with toks:=s.toks+(ks.length+1)}) S T hu hx hke hemp hliv (fun hin=>?_) (fun hout=>?_) 100000 0 none rfl (Nat.zero_le _) (by rcases T.mask with e|e|e<;>rw[e] at hke<;>omega) fun k' i' p hk'=>absurd hk' (Nat.not_lt_zero _)
 ·dsimp only;exact wpAny_pure (hend false s.heap xs (.refl _ _) ⟨o,es,ep,t,S,T⟩ (fun _=>.refl _) fun z=>absurd hin z)
 ·dsimp only;refine wpAny_bind (wpAny_setState_of (s:={ s with toks:=s.toks+(ks.length+1)}) S.at_ S.dat (qbvz (Tab.r T)) ?_);dsimp only;rw[qtcz T.nodum];dsimp only;rw[S.plain,if_pos rfl];refine wpAny_bind (qtiz (s:={ s with toks:=s.toks+(ks.length+1)}) hx ?_);rw[if_pos rfl];have TR:=T.put hemp hliv;generalize hp:SetTable.below t.place (sq t.mask (hk prog w ks) ke).j=p at TR ⊢;have hes1:(SetTable.insertAt es p (hk prog w ks,Value.ref x)).toList=(xs.take p++(ks,x)::xs.drop p).map (ent prog w):=by
   rw[qbuz,S.ents,List.map_append,List.map_cons,List.map_take,List.map_drop];rfl
  have hhs:(SetTable.insertAt es p (hk prog w ks,Value.ref x)).toList.map (·.1)=(es.toList.map (·.1)).take p++hk prog w ks::(es.toList.map (·.1)).drop p:=by
   rw[qbuz,List.map_append,List.map_cons,List.map_take,List.map_drop]
  have hsz1:(SetTable.insertAt es p (hk prog w ks,Value.ref x)).size=es.size+1:=by
   rw[←Array.length_toList,qbuz,(qcgz p es.toList _).length_eq,List.length_cons,Array.length_toList]
  rw[←hhs] at TR;refine wpAny_bind (wpAny_storeSet_of (s:={ s with toks:=s.toks+(ks.length+1)}) S.at_ S.dat ?_ (by rw[hsz1,sizeLine_eq];omega));have sb:=Heap.SameBut.update s.heap a (Obj.putSet (SetTable.insertAt es p (hk prog w ks,Value.ref x)) { t with place:=SetTable.insertAt t.place p (sq t.mask (hk prog w ks) ke).j,dummies:=#[],plain:=true });have hpx:(xs.take p++(ks,x)::xs.drop p).Perm ((ks,x)::xs):=qcgz p xs _;have S1:SetAt prog w (s.heap.update a (Obj.putSet (SetTable.insertAt es p (hk prog w ks,Value.ref x)) { t with place:=SetTable.insertAt t.place p (sq t.mask (hk prog w ks) ke).j,dummies:=#[],plain:=true })) a { o with data:=.set (SetTable.insertAt es p (hk prog w ks,Value.ref x)) (ep+1) { t with place:=SetTable.insertAt t.place p (sq t.mask (hk prog w ks) ke).j,dummies:=#[],plain:=true }} (SetTable.insertAt es p (hk prog w ks,Value.ref x)) (ep+1)
    { t with place:=SetTable.insertAt t.place p (sq t.mask (hk prog w ks) ke).j,dummies:=#[],plain:=true } (xs.take p++(ks,x)::xs.drop p):=by
   refine⟨qj4z S.at_ S.dat,⟨S.ex.1,S.ex.2.1,S.ex.2.2⟩,rfl,hes1,fun q hq=>?_,?_,rfl,S.led⟩
   ·rcases List.mem_cons.mp (hpx.mem_iff.mp hq) with e|e
    ·rw[e];exact qepz S.at_ S.dat sb hx
    ·exact qepz S.at_ S.dat sb (S.keys q e)
   ·refine (hpx.map _).nodup_iff.mpr ?_;rw[List.map_cons,List.nodup_cons];exact⟨hout,S.nd⟩
  have TR':TabR { t with place:=SetTable.insertAt t.place p (sq t.mask (hk prog w ks) ke).j,dummies:=#[],plain:=true } ((SetTable.insertAt es p (hk prog w ks,Value.ref x)).toList.map (·.1)):=
   ⟨TR.mask,TR.size,TR.rise,TR.bound,TR.nodum,TR.fit,TR.reach⟩
  by_cases hfull:({ t with place:=SetTable.insertAt t.place p (sq t.mask (hk prog w ks) ke).j,dummies:=#[],plain:=true }:SetTable).tooFull=true
  ·rw[hfull,if_pos (by decide)];refine wpAny_bind ?_;rw[←hsz1];refine qtoz (s:={ s with heap:=s.heap.update a _,toks:=s.toks+(ks.length+1)}) S1 TR' hfull (by rw[hsz1];omega) fun h' xs' sb' S2 pm=>?_;exact wpAny_pure (hend true h' xs' (sb.trans sb') S2 (fun z=>absurd z hout) fun _=>pm.trans hpx)
  ·have hfull':({ t with place:=SetTable.insertAt t.place p (sq t.mask (hk prog w ks) ke).j,dummies:=#[],plain:=true }:SetTable).tooFull=false:=by simpa using hfull
   rw[hfull',if_neg (by decide)];exact wpAny_pure (hend true _ _ sb ⟨_,_,_,_,S1,TR'.tab hfull'⟩ (fun z=>absurd z hout) fun _=>hpx)
end
end SetM
namespace SetM
open PySem SetP
theorem slot_sit_next:Slot "set_iterator" "__next__" "set_iterator.__next__":=
 .of (owner:="set_iterator") (n:="__next__")
  (by rw[typeLookup_type,builtinLookup_eq_fast];kernel_rfl)
  (by decide +kernel) (by decide +kernel) (by decide +kernel)
  (by first|exact .inl (by decide +kernel)|exact .inr (by decide +kernel))
  (by rw[isSubtype_type];kernel_rfl)
theorem qj5z:Slot "set_iterator" "__iter__" "set_iterator.__iter__":=
 .of (owner:="set_iterator") (n:="__iter__")
  (by rw[typeLookup_type,builtinLookup_eq_fast];kernel_rfl)
  (by decide +kernel) (by decide +kernel) (by decide +kernel)
  (by first|exact .inl (by decide +kernel)|exact .inr (by decide +kernel))
  (by rw[isSubtype_type];kernel_rfl)
theorem qj6z:entryFor table "set_iterator.__next__" = some Builtin.«set_iterator.__next__»:=entryFor_of_tree (by kernel_rfl)
theorem qtqz:entryFor table "set.__iter__" = some Builtin.«frozenset.__iter__»:=
 entryFor_alias (id':="frozenset.__iter__") (by rw[fastTable_eq_tree];kernel_rfl) (by decide +kernel) (by decide +kernel) (by rw[fastTable_eq_tree];kernel_rfl)
theorem qj7z:Manifest.owners.lookup (String.ofList ['r','o','t','a','r','e','t','i','_','t','e','s'].reverse)=some Manifest.sig_set_iterator:=by kernel_rfl
theorem qj8z(a:Value):argsOk "set_iterator.__next__" ⟨[a],[]⟩:=by
 unfold argsOk;rw[signature?_of (id:="set_iterator.__next__") (n:=['_','_','t','x','e','n','_','_']) (o:=['r','o','t','a','r','e','t','i','_','t','e','s']) (by kernel_rfl) qj7z]
 kernel_rfl
theorem qj9z{α:Type}(next:Nat->Nat):∀(fuel k:Nat) (left:List α) (out:Array α),left.length≤fuel->(pickOrder.go next fuel k left out).toList.Perm (out.toList++left)
 |0,k,left,out,h=>by
  have:left=[]:=List.length_eq_zero_iff.mp (by omega);subst this;show out.toList.Perm (out.toList++[]);rw[List.append_nil]
 |fuel+1,k,left,out,h=>by
  unfold pickOrder.go;cases hl:left[next k%left.length]? with
  |none=>
   have:left=[]:=by
    cases left with
    |nil=>rfl
    |cons a l=>
     have:=Nat.mod_lt (next k) (show 0<(a::l).length by simp)
     rw[List.getElem?_eq_getElem this] at hl;cases hl
   subst this;show out.toList.Perm (out.toList++[]);rw[List.append_nil]
  |some x=>
   have hlt:=(List.getElem?_eq_some_iff.mp hl).1;have ih:=qj9z next fuel (k+1) (left.eraseIdx (next k%left.length)) (out.push x) (by rw[List.length_eraseIdx];split<;>omega)
   refine ih.trans ?_;rw[Array.toList_push,List.append_assoc];refine List.Perm.append_left _ ?_;obtain⟨_,e⟩:=List.getElem?_eq_some_iff.mp hl;rw[←e,List.eraseIdx_eq_take_drop_succ];have q:=List.perm_middle (a:=left[next k%left.length]) (l₁:=left.take (next k%left.length)) (l₂:=left.drop (next k%left.length+1))
   rw[List.getElem_cons_drop,List.take_append_drop] at q;exact q.symm
theorem qtrz{α:Type}(next:Nat->Nat)(xs:Array α):(pickOrder next xs).toList.Perm xs.toList:=by
 have:=qj9z next xs.size 0 xs.toList #[] (by simp)
 unfold pickOrder;simpa using this
def byText(w:World):Bool:=w.params.followText "set-order"
def walkL(w:World)(a:Addr)(ep:Nat)(es:Array (Int×Value)):List (Int×Value):=if byText w then (pickOrder (w.params.setOrder a ep) es).toList else es.toList
theorem walkL_perm(w:World)(a:Addr)(ep:Nat)(es:Array (Int×Value)):(walkL w a ep es).Perm es.toList:=by
 unfold walkL;split
 ·exact qtrz _ _
 ·exact .refl _
def IsSit(h:Heap)(it a:Addr)(slot i n ep:Nat):Prop:=h.get? it=some { cls:=.type "set_iterator",data:=.fields #[rawInt slot,rawInt i,.ref a,rawInt n,rawInt ep]}
def SlotOk(w:World)(t:SetTable)(slot i:Nat):Prop:=byText w=true∨SetTable.below t.place slot=i
section
variable {prog:Program} {w:World} {A:Around} {E:Value->Shared->Prop} {s:Shared}
theorem qgdz{Q:Bool->Shared->Prop}(h:Q (byText w) s):wpAny (model prog w) A setsByText Q E s:=by
 unfold setsByText;exact wpAny_bind (wpAny_askSetting (wpAny_pure h))
theorem qtsz{a:Addr}{o:Obj}{es:Array (Int×Value)}{ep:Nat}{t:SetTable}{xs:List (List Int×Addr)}(S:SetAt prog w s.heap a o es ep t xs)(T:Tab t (es.toList.map (·.1)))
  {Q:Value->Shared->Prop} (h:Q (.ref s.heap.objs.size) { s with heap:=s.heap.push { cls:=.type "set_iterator",data:=.fields #[rawInt (0:Nat),rawInt (0:Nat),.ref a,rawInt es.size,rawInt ep]}}):
  wpAny (model prog w) A (pyIter (.ref a)) Q E s:=by
 have hT:s.TypeIs (.ref a) "set":=⟨o,S.at_,S.ex.1⟩;have hfit:=qbvz (Tab.r T);refine wpAny_pyIter_slot hT F.slot_set_iter (wpAny_call_entry F.slot_set_iter hT qtqz ?_ (F.args_set_iter_1 _));unfold Builtin.«frozenset.__iter__»;show wpAny _ _ (Builtin.Frozenset.slot0 "__iter__" ⟨[.ref a],[]⟩ >>= _) _ _ s;refine wpAny_bind (m:=Builtin.Frozenset.slot0 "__iter__" ⟨[.ref a],[]⟩) (wpAny_of_eq (a:=a) rfl ?_);unfold Builtin.Frozenset.sizeOf setEntries;refine wpAny_bind (wpAny_bind (wpAny_bind (wpAny_setState_of S.at_ S.dat hfit (wpAny_pure (wpAny_pure ?_)))));unfold setDrawn;refine wpAny_bind (wpAny_bind (wpAny_setState_of S.at_ S.dat hfit ?_));refine wpAny_bind (qgdz (wpAny_pure ?_));have hnd:(!byText w&&(!t.plain&&decide (es.size > 1)))=false:=by rw[S.plain];simp
 show wpAny _ _ (if (!byText w&&(!t.plain&&decide (es.size > 1)))=true then _ else _) _ _ s;rw[hnd,if_neg Bool.false_ne_true];refine wpAny_bind (wpAny_pure ?_);refine wpAny_bind (wpAny_setEpoch_of S.at_ S.dat hfit ?_);refine wpAny_bind ?_;unfold newFields;refine wpAny_newObj_type ?_;refine wpAny_pure ⟨_,rfl,"set_iterator",_,⟨_,Heap.get?_push_size _ rfl,rfl⟩,slot_sit_next.lookup,h⟩
theorem qkaz{a:Addr}{o:Obj}{es:Array (Int×Value)}{ep:Nat}{t:SetTable}{xs:List (List Int×Addr)}(S:SetAt prog w s.heap a o es ep t xs)(T:Tab t (es.toList.map (·.1))){slot i:Nat}(hsl:SlotOk w t slot i)
  {Q:Option (Value×Nat)->Shared->Prop} (h1:∀p slot',(walkL w a ep es)[i]?=some p->SlotOk w t slot' (i+1)->Q (some (p.2,slot')) s) (h2:(walkL w a ep es)[i]?=none->Q none s):
  wpAny (model prog w) A (setNext a slot i ep) Q E s:=by
 have hfit:=qbvz (Tab.r T);have hsz:t.place.size=es.size:=by
  have:=T.size;rw[qc1z] at this;exact this
 unfold setNext;refine wpAny_bind (wpAny_setState_of S.at_ S.dat hfit ?_);dsimp only;refine wpAny_bind (qgdz ?_);unfold walkL at h1 h2;cases hbt:byText w with
 |true=>
  rw[hbt] at h1 h2;rw[if_pos rfl];simp only[if_true,Array.getElem?_toList] at h1 h2;rw[if_neg (by simp)];unfold setWalk;refine wpAny_bind (wpAny_bind (wpAny_setState_of S.at_ S.dat hfit ?_));dsimp only;refine wpAny_bind (qgdz ?_);rw[hbt,if_pos rfl];refine wpAny_bind (wpAny_askSetting (wpAny_pure ?_));refine wpAny_pure ?_;show Q (Option.map (fun e=>(e.snd,slot)) (pickOrder (w.params.setOrder a ep) es)[i]?) s;cases hp:(pickOrder (w.params.setOrder a ep) es)[i]? with
  |none=>exact h2 hp
  |some p=>exact h1 p slot hp (.inl hbt)
 |false=>
  rw[hbt] at h1 h2;rw[if_neg Bool.false_ne_true];simp only[Bool.false_eq_true,if_false,Array.getElem?_toList] at h1 h2;have hled:t.led=true:=by
   rw[S.led];show (!byText w)=true;rw[hbt];rfl
  have hb:SetTable.below t.place slot=i:=by
   rcases hsl with z|z
   ·rw[hbt] at z;cases z
   ·exact z
  have hnd:(!t.plain&&decide (es.size > 1))=false:=by rw[S.plain];simp
  show wpAny _ _ (if (!t.plain&&decide (es.size > 1))=true then _ else _) _ _ s;rw[hnd,if_neg Bool.false_ne_true];refine wpAny_bind ?_;show wpAny _ _ (if (!t.led && !es.isEmpty)=true then _ else _) _ _ s;rw[hled,if_neg (by simp)];refine wpAny_pure ?_;rw[hb];cases hp:es[i]? with
  |none=>
   refine wpAny_pure ?_;have hpl:t.place[i]?=none:=by
    have:=Array.getElem?_eq_none_iff.mp hp;exact Array.getElem?_eq_none_iff.mpr (by omega)
   exact h2 hp
  |some p=>
   have hil:=(Array.getElem?_eq_some_iff.mp hp).1;have hj:t.place[i]?=some (t.place[i]'(by omega)):=by simp[hsz,hil]
   rw[hj];obtain⟨ph,pv⟩:=p;refine wpAny_pure (h1 (ph,pv) _ hp (.inr ?_))
   -- the next place
   obtain⟨b0,b1,b2⟩:=qeoz (j:=t.place[i]'(by omega)+1) T.rise;refine Classical.byContradiction fun hne=>?_;by_cases hlt:SetTable.below t.place (t.place[i]'(by omega)+1)≤i
   ·have:=b2 i _ hlt hj;omega
   ·have hgt:i+1<SetTable.below t.place (t.place[i]'(by omega)+1):=by omega
    have hi1:i+1<t.place.size:=by omega
    have e1:t.place[i+1]?=some (t.place[i+1]):=by simp[hi1]
    have q:=b1 (i+1) _ hgt e1;have pw:=List.pairwise_iff_getElem.mp T.rise i (i+1) (by simp;omega) (by simpa using hi1) (Nat.lt_succ_self i);simp at pw;omega
theorem qgez{it a:Addr}{slot i n ep:Nat}(hit:IsSit s.heap it a slot i n ep):s.TypeIs (.ref it) "set_iterator":=⟨_,hit,rfl⟩
theorem qkbz{a it:Addr}{o:Obj}{es:Array (Int×Value)}{ep:Nat}{t:SetTable}{xs:List (List Int×Addr)}(S:SetAt prog w s.heap a o es ep t xs)(T:Tab t (es.toList.map (·.1))){slot i:Nat}(hit:IsSit s.heap it a slot i es.size ep)
  {P:PySem.Fin->Shared->Prop} (h:wpAny (model prog w) A (do
   match ←setNext a slot i ep with
   |some (x,next)=>
    setField (.ref it) 0 (rawInt next)
    setField (.ref it) 1 (rawInt ((i:Int)+1))
    ret x
   | none=>setField (.ref it) 2 .none;raiseNew (←newExc (.type "StopIteration") [])) P E s):
  wpAny (model prog w) A (Builtin.«set_iterator.__next__» ⟨[.ref it],[]⟩) P E s:=by
 have hfit:=qbvz (Tab.r T);unfold Builtin.«set_iterator.__next__»;refine wpAny_bind (m:=slotArgs "__next__" 0 ⟨[.ref it],[]⟩) (wpAny_of_eq (a:=(.ref it,[])) rfl ?_);refine wpAny_bind (wpAny_fieldsOf hit rfl ?_);dsimp only[rawInt];unfold setEntries;refine wpAny_bind (wpAny_bind (wpAny_setState_of S.at_ S.dat hfit (wpAny_pure ?_)));rw[if_neg (by simp)];exact h
theorem qttz{a it:Addr}{o:Obj}{es:Array (Int×Value)}{ep:Nat}{t:SetTable}{xs:List (List Int×Addr)}(S:SetAt prog w s.heap a o es ep t xs)(T:Tab t (es.toList.map (·.1))){slot i:Nat}(hsl:SlotOk w t slot i)(hit:IsSit s.heap it a slot i es.size ep)
  {p:Int×Value} (hp:(walkL w a ep es)[i]?=some p) {Q:Option Value->Shared->Prop}
  (h:∀h' slot',IsSit h' it a slot' (i+1) es.size ep->SlotOk w t slot' (i+1)->Heap.SameBut it s.heap h'->Q (some p.2) { s with heap:=h' }):wpAny (model prog w) A (pyNext (.ref it)) Q E s:=by
 have hT:=qgez hit;unfold pyNext;refine wpAny_bind (wpAny_attempt (wpAny_callSpecial?_slot (name:=Str.ofString "__next__") hT slot_sit_next
  (wpAny_call_entry slot_sit_next hT qj6z (qkbz S T hit (wpAny_bind (qkaz S T hsl (fun q slot' hq hs'=>?_) fun hn=>?_))) (qj8z _))))
 ·rw[hp] at hq;cases hq;dsimp only;refine wpAny_bind (wpAny_setField_rec hit (by simp) fun h1 e1 sb1=>?_);refine wpAny_bind (wpAny_setField_rec (s:={ s with heap:=h1 }) e1 (by simp) fun h2 e2 sb2=>?_)
  refine wpAny_pure ⟨_,rfl,wpAny_pure (h h2 slot' ?_ hs' (sb1.trans sb2))⟩;unfold IsSit;rw[e2];rfl
 ·rw[hp] at hn;cases hn
theorem qtuz{a it:Addr}{o:Obj}{es:Array (Int×Value)}{ep:Nat}{t:SetTable}{xs:List (List Int×Addr)}(hh:A.handled=none)(S:SetAt prog w s.heap a o es ep t xs)(T:Tab t (es.toList.map (·.1))){slot i:Nat}(hsl:SlotOk w t slot i)(hit:IsSit s.heap it a slot i es.size ep)
  (hp:(walkL w a ep es)[i]?=none) {Q:Option Value->Shared->Prop}
  (h:∀h',Heap.ExtBut it s.heap h'->Q none { s with heap:=h' }):wpAny (model prog w) A (pyNext (.ref it)) Q E s:=by
 have hT:=qgez hit;unfold pyNext;refine wpAny_bind (wpAny_attempt (wpAny_callSpecial?_slot (name:=Str.ofString "__next__") hT slot_sit_next
  (wpAny_call_entry slot_sit_next hT qj6z (qkbz S T hit (wpAny_bind (qkaz S T hsl (fun q slot' hq hs'=>?_) fun hn=>?_))) (qj8z _))))
 ·rw[hp] at hq;cases hq
 ·dsimp only;refine wpAny_bind (wpAny_setField_rec hit (by simp) fun h1 e1 sb1=>?_);refine wpAny_bind ?_;simp only[newExc,newTuple];refine wpAny_bind (wpAny_newObj_type ?_ (by size_fits));refine wpAny_bind (m:=firstArgMember _ _) (wpAny_of_eq (a:=Value.none) (by first|rfl|(simp only[firstArgMember];rfl)) ?_)
  refine wpAny_newObj_type ?_ (by size_fits);simp only[raiseNew];refine wpAny_bind (wpAny_handled ?_);rw[show A.in1.handled=none from hh];refine wpAny_bind (wpAny_pure (wpAny_throw ?_));refine wpAny_bind (wpAny_isInstance (T:="StopIteration") (b:=true) ⟨_,Heap.get?_push_size _ rfl,rfl⟩ isSubtype_stop ?_);refine wpAny_pure (h _ fun b ob hb e=>?_);exact Heap.get?_push_of_some _ (Heap.get?_push_of_some _ ((sb1.2 b hb).trans e))
end
end SetM
namespace SetM
open PySem SetP
section
variable {prog:Program} {w:World} {A:Around} {E:Value->Shared->Prop} {s:Shared}
theorem SetAt.kept{h h':Heap}{a:Addr}{o:Obj}{es:Array (Int×Value)}{ep:Nat}{t:SetTable}{xs:List (List Int×Addr)}(S:SetAt prog w h a o es ep t xs)
  (k:∀b∈a::xs.map (·.2),∀ob,h.get? b=some ob->h'.get? b=some ob):SetAt prog w h' a o es ep t xs:=by
 refine⟨k a List.mem_cons_self _ S.at_,S.ex,S.dat,S.ents,fun p hp=>?_,S.nd,S.plain,S.led⟩;obtain⟨oy,items,n,ho,r⟩:=S.keys p hp;exact⟨oy,items,n,k _ (List.mem_cons_of_mem _ (List.mem_map.mpr ⟨p,hp,rfl⟩)) _ ho,r⟩
theorem SetAt.ne_sit{h:Heap}{a it:Addr}{o:Obj}{es:Array (Int×Value)}{ep ep':Nat}{t:SetTable}{xs:List (List Int×Addr)}{slot i n:Nat}{b:Addr}(S:SetAt prog w h a o es ep t xs)(hit:IsSit h it b slot i n ep'):
  ∀c∈a::xs.map (·.2),c≠it:=fun c hc e=>by
 subst e;unfold IsSit at hit;rcases List.mem_cons.mp hc with e|e
 ·rw[e,S.at_] at hit;cases hit;have:=S.dat;cases this
 ·obtain⟨p,hp,rfl⟩:=List.mem_map.mp e;obtain⟨oy,items,k,ho,hc,hd,_⟩:=S.keys p hp;rw[ho] at hit;cases hit;cases hd
theorem qtvz(hh:A.handled=none){a it:Addr}{o:Obj}{es:Array (Int×Value)}{ep:Nat}{t:SetTable}{xs:List (List Int×Addr)}(T:Tab t (es.toList.map (·.1))):
  Walks prog w A it (it::a::xs.map (·.2)) [it] es.size (fun i v=>∃p,(walkL w a ep es)[i]?=some p/\v=p.2)
   (fun i h=>∃slot,IsSit h it a slot i es.size ep/\SlotOk w t slot i/\SetAt prog w h a o es ep t xs) where
 sub:=fun b hb=>by
  have:b=it:=by simpa using hb
  simp[this]
 frame:=fun i h h' ⟨slot,h1,h2,h3⟩ k=>⟨slot,k it List.mem_cons_self _ h1,h2,h3.kept fun b hb ob e=>k b (List.mem_cons_of_mem _ hb) ob e⟩
 item:=fun i s Q E hi ⟨slot,h1,h2,h3⟩ hQ=>by
  have hlen:(walkL w a ep es).length=es.size:=by rw[(walkL_perm w a ep es).length_eq];simp
  have hp:(walkL w a ep es)[i]?=some ((walkL w a ep es)[i]'(by omega)):=List.getElem?_eq_getElem (by omega);refine qttz h3 T h2 h1 hp fun h' slot' q1 q2 sb=>?_;refine hQ _ h' s.toks ⟨_,hp,rfl⟩ ⟨slot',q1,q2,h3.kept fun b hb ob e=>(sb.2 b (h3.ne_sit h1 b hb)).trans e⟩ fun b ob hb e=>?_;exact (sb.2 b (by simpa using hb)).trans e
 done:=fun s Q E ⟨slot,h1,h2,h3⟩ hQ=>by
  have hlen:(walkL w a ep es).length=es.size:=by rw[(walkL_perm w a ep es).length_eq];simp
  refine qtuz hh h3 T h2 h1 (List.getElem?_eq_none_iff.mpr (by omega)) fun h' q=>?_;exact hQ h' s.toks fun b ob hb e=>q b ob (by simpa using hb) e
 self:=fun i s Q E ⟨slot,h1,h2,h3⟩ h=>by
  have hT:=qgez h1;refine wpAny_pyIter_slot hT qj5z (wpAny_call_entry qj5z hT (b:=Builtin.«dict_keyiterator.__iter__») ?_ ?_ ?_)
  ·exact entryFor_alias (id':="dict_keyiterator.__iter__") (by kernel_rfl) (by decide +kernel) (by decide +kernel) (by kernel_rfl)
  ·show wpAny _ _ (ret (.ref it)) _ _ s;exact wpAny_pure ⟨_,rfl,"set_iterator",_,hT,slot_sit_next.lookup,h⟩
  ·unfold argsOk;rw[signature?_of (id:="set_iterator.__iter__") (n:=['_','_','r','e','t','i','_','_']) (o:=['r','o','t','a','r','e','t','i','_','t','e','s']) (by kernel_rfl) qj7z]
   kernel_rfl
theorem wp_collect_set(hh:A.handled=none){a:Addr}{o:Obj}{es:Array (Int×Value)}{ep:Nat}{t:SetTable}{xs:List (List Int×Addr)}(S:SetAt prog w s.heap a o es ep t xs)(T:Tab t (es.toList.map (·.1)))(h64:es.size≤64)
  {Q:List Value->Shared->Prop} (h:∀s',Moved [] (fun x y=>y=x) s s'->Q ((walkL w a ep es).map (·.2)) s'):wpAny (model prog w) A (collect (.ref a)) Q E s:=by
 have hT:s.TypeIs (.ref a) "set":=⟨o,S.at_,S.ex.1⟩;have hal:a<s.heap.objs.size:=Heap.lt_size S.at_;unfold collect;refine wpAny_bind (wpAny_runValue (codeAny_builtin F.entry_proto_collect ?_));rw[Around.under_plainId F.plain_proto_collect _];show wpAny _ A.in1 (newList [] >>= fun q=>again (.builtin "list.__iadd__" ⟨[q,.ref a],[]⟩)) _ _ s;refine wpAny_bind (wpAny_newObj_type ?_);refine wpAny_pure ⟨plainId_quiet F.plain_list_iadd _,codeAny_builtin F.entry_list_iadd ?_⟩;rw[Around.under_plainId F.plain_list_iadd _];show wpAny _ A.in1 (Builtin.List.listExtendWith (.ref s.heap.objs.size) (.ref a) (.ref s.heap.objs.size)) _ _ _;unfold Builtin.List.listExtendWith;have S1:SetAt prog w (s.heap.push { cls:=.type "list",data:=.seq ([]:List Value).toArray }) a o es ep t xs:=S.kept fun b _ ob e=>Heap.get?_push_of_some _ e;have hT1:Shared.TypeIs { s with heap:=s.heap.push { cls:=.type "list",data:=.seq ([]:List Value).toArray }} (.ref a) "set":=⟨o,S1.at_,S.ex.1⟩;refine wpAny_bind (wpAny_typeOf hT1 ?_);have ne:s.heap.objs.size≠a:=Nat.ne_of_gt hal;have e1:Builtin.List.listSameRef (.ref s.heap.objs.size) (.ref a)=false:=by simp[Builtin.List.listSameRef,ne]
 rw[if_neg (by rw[e1];decide)];refine wpAny_bind (qtsz (s:={ s with heap:=s.heap.push { cls:=.type "list",data:=.seq ([]:List Value).toArray }}) S1 T ?_);have S2:=S1.kept (h':=(s.heap.push { cls:=.type "list",data:=.seq ([]:List Value).toArray }).push { cls:=.type "set_iterator",data:=.fields #[rawInt (0:Nat),rawInt (0:Nat),.ref a,rawInt es.size,rawInt ep]}) fun b _ ob e=>Heap.get?_push_of_some _ e;have hit:IsSit ((s.heap.push { cls:=.type "list",data:=.seq ([]:List Value).toArray }).push { cls:=.type "set_iterator",data:=.fields #[rawInt (0:Nat),rawInt (0:Nat),.ref a,rawInt es.size,rawInt ep]})
   (s.heap.push { cls:=.type "list",data:=.seq ([]:List Value).toArray }).objs.size a 0 0 es.size ep:=Heap.get?_push_size _ rfl
 have hS0:((s.heap.push { cls:=.type "list",data:=.seq ([]:List Value).toArray }).push { cls:=.type "set_iterator",data:=.fields #[rawInt (0:Nat),rawInt (0:Nat),.ref a,rawInt es.size,rawInt ep]}).get? s.heap.objs.size
   = some { cls:=.type "list",data:=.seq ([]:List Value).toArray }:=Heap.get?_push_of_some _ (Heap.get?_push_size _ rfl)
 have keep0:∀b ob,s.heap.get? b=some ob->((s.heap.push { cls:=.type "list",data:=.seq ([]:List Value).toArray }).push { cls:=.type "set_iterator",data:=.fields #[rawInt (0:Nat),rawInt (0:Nat),.ref a,rawInt es.size,rawInt ep]}).get? b=some ob:=
  fun b ob e=>Heap.get?_push_of_some _ (Heap.get?_push_of_some _ e)
 have hI:(s.heap.push { cls:=.type "list",data:=.seq ([]:List Value).toArray }).objs.size=s.heap.objs.size+1:=Heap.size_push ..;generalize (s.heap.push { cls:=.type "list",data:=.seq ([]:List Value).toArray }).objs.size=it at hI hit ⊢;generalize ((s.heap.push { cls:=.type "list",data:=.seq ([]:List Value).toArray }).push { cls:=.type "set_iterator",data:=.fields #[rawInt (0:Nat),rawInt (0:Nat),.ref a,rawInt es.size,rawInt ep]})=hp at S2 hit hS0 keep0 ⊢;refine wpAny_bind (wpAny_holding ?_);have hT2:Shared.TypeIs { s with heap:=hp } (.ref a) "set":=⟨o,S2.at_,S.ex.1⟩;unfold Builtin.List.listLengthHint;refine wpAny_bind (wpAny_specialOf hT2 F.slot_set_len.lookup ?_);generalize hid:("set.__len__":String)=id0;dsimp only;rw[show splitId id0=some ("set","__len__") from by subst hid;decide +kernel];subst hid;dsimp only;refine wpAny_bind (wpAny_isInstance (b:=true) hT2 (by rw[isSubtype_type];kernel_rfl) ?_)
 rw[if_neg (by decide)];show wpAny _ A.in1 (typeOf (.ref a) >>= _) _ _ _;refine wpAny_bind (wpAny_typeOf hT2 (wpAny_pure ?_));show wpAny _ A.in1 (rule "list.extend.makes-room" >>= fun _=>Builtin.List.listTouch (.ref s.heap.objs.size) >>= fun _=>again (.builtin "list.extend.loop" ⟨[.ref s.heap.objs.size,.ref it,.ref s.heap.objs.size],[]⟩)) _ _ _;refine wpAny_bind (wpAny_rule (wpAny_bind ?_));show wpAny _ A.in1 (updateSeq s.heap.objs.size (·.push .none) >>= fun _=>updateSeq s.heap.objs.size (·.pop)) _ _ _;refine wpAny_bind (wpAny_updateSeq (s:={ s with heap:=hp }) hS0 rfl ?_);have q1:=Heap.get?_update_self (Obj.mapSeq (·.push Value.none)) hS0 rfl;refine wpAny_updateSeq (s:={ s with heap:=hp.update s.heap.objs.size (Obj.mapSeq (·.push Value.none))}) q1 rfl ?_;have q2:=Heap.get?_update_self (Obj.mapSeq (·.pop)) q1 rfl;have oth:∀b ob,b≠s.heap.objs.size->hp.get? b=some ob->((hp.update s.heap.objs.size (Obj.mapSeq (·.push Value.none))).update s.heap.objs.size (Obj.mapSeq (·.pop))).get? b=some ob:=
  fun b ob hb e=>(Heap.get?_update_other _ _ (Ne.symm hb)).trans ((Heap.get?_update_other _ _ (Ne.symm hb)).trans e)
 have q3:∃c,((hp.update s.heap.objs.size (Obj.mapSeq (·.push Value.none))).update s.heap.objs.size (Obj.mapSeq (·.pop))).get? s.heap.objs.size=some { cls:=.type "list",dict:=none,data:=.seq #[] c,slots:=#[]}:=⟨_,q2⟩;clear q2;generalize (hp.update s.heap.objs.size (Obj.mapSeq (·.push Value.none))).update s.heap.objs.size (Obj.mapSeq (·.pop))=hp2 at q3 oth ⊢;obtain⟨c0,q2⟩:=q3;have hfp:∀b∈it::a::xs.map (·.2),b≠s.heap.objs.size:=fun b hb e=>by
  rcases List.mem_cons.mp hb with z|z
  ·omega
  ·have hlt:b<s.heap.objs.size:=by
    rcases List.mem_cons.mp z with z|z
    ·rw[z];exact hal
    ·obtain⟨p,hp',rfl⟩:=List.mem_map.mp z;obtain⟨oy,_,_,ho,_⟩:=S.keys p hp';exact Heap.lt_size ho
   omega
 have W:=(qtvz (prog:=prog) (w:=w) (A:=A.in1) (by simpa using hh) (it:=it) (a:=a) (o:=o) (ep:=ep) (xs:=xs) T).toS;refine wpAny_pure ⟨plainId_quiet F.plain_extend_loop _,codeAny_extend_loopS W (by rw[sizeLine_eq];omega) _ (fun hm=>hfp _ hm rfl) _ es.size 0 _ _ _ rfl (Nat.zero_le _) ?_ q2 (ItemsOf.nil _) fun s' acc' c' hm hS' hacc=>?_⟩
 ·refine⟨0,oth _ _ (hfp _ List.mem_cons_self) hit,?_,S2.kept fun b hb ob e=>oth b ob (hfp b (List.mem_cons_of_mem _ hb)) e⟩;by_cases hb:byText w=true
  ·exact .inl hb
  ·refine .inr ?_;obtain⟨b0,b1,b2⟩:=qeoz (j:=0) T.rise;refine Classical.byContradiction fun hne=>?_;have hpos:0<SetTable.below t.place 0:=by omega
   have h0:0<t.place.size:=by omega
   have:=b1 0 (t.place[0]) hpos (by simp[h0]);omega
 ·show wpAny _ A (load s.heap.objs.size >>= _) _ _ s';refine wpAny_bind (wpAny_load hS' ?_);refine wpAny_pure ?_;have hlen:(walkL w a ep es).length=es.size:=by rw[(walkL_perm w a ep es).length_eq];simp
  have eacc:acc'.toList=(walkL w a ep es).map (·.2):=by
   refine List.ext_getElem? fun i=>?_;rw[List.getElem?_map,Array.getElem?_toList];cases ha:acc'[i]? with
   |none=>
    have h1:=Array.getElem?_eq_none_iff.mp ha;rw[hacc.1] at h1;rw[List.getElem?_eq_none_iff.mpr (by omega)];rfl
   |some v=>
    obtain⟨p,e1,e2⟩:=hacc.2 i v ha;rw[e1,e2];rfl
  show Q acc'.toList s';rw[eacc];refine h s' ⟨fun b ob _ e=>?_,hm.gens,hm.drawn,hm.os,?_⟩
  ·have hlt:=Heap.lt_size e;refine hm.heap b ob ?_ (oth b ob (Nat.ne_of_lt hlt) (keep0 b ob e));intro z;rcases List.mem_cons.mp z with z|z
   ·rw[z] at hlt;exact Nat.lt_irrefl _ hlt
   ·have:b=it:=by simpa using z
    rw[this,hI] at hlt;exact Nat.lt_irrefl _ (Nat.lt_of_succ_lt hlt)
  ·exact hm.toks
end
end SetM
namespace SetM
open PySem SetP
section
variable {prog:Program} {w:World} {A:Around} {E:Value->Shared->Prop} {s:Shared}
def freshSet(w:World):Obj:={ cls:=.type "set",dict:=none,data:=.set #[] 0 (.fresh 0 0 (!(byText w)))}
theorem qtwz(a:Value){Q₁:Value->Shared->Prop}(h:Q₁ (.ref s.heap.objs.size) { s with heap:=s.heap.push (freshSet w)}):
  codeAny (model prog w) A (.call (.builtin "set.__new__") ⟨[.type "set",a],[]⟩) (wants Q₁ E) s:=by
 refine codeAny_of_tree ?_;show wpAny _ A.in1 (checkBuiltinCall "set.__new__" ⟨[.type "set",a],[]⟩ >>= fun _=>again (.builtin "set.__new__" ⟨[.type "set",a],[]⟩)) _ _ s;refine wpAny_bind (wpAny_of_eq (F.newCall_set_1 a) (wpAny_pure ⟨plainId_quiet F.plain_set_new _,codeAny_builtin F.entry_set_new ?_⟩));rw[Around.under_plainId F.plain_set_new _];unfold Builtin.«set.__new__» Builtin.Frozenset.newClass;have hsub:=sub_set_self;obtain⟨hp,g,d,tk,os⟩:=s;dsimp only;wp_walk;refine wpAny_askSetting (wpAny_pure ?_);dsimp only;simp only[newObj];refine wpAny_bind (wpAny_alloc (wpAny_pure ?_));exact wpAny_pure h
theorem qtxz(led:Bool):Tab (SetTable.fresh 0 0 led) []:=
 ⟨.inl rfl,rfl,List.Pairwise.nil,(fun j hj=>(nomatch hj)),rfl,(by show 0*5<7*3;decide),(fun j h hj=>(nomatch hj))⟩
structure Ded(ps xs:List (List Int×Addr)):Prop where
 sub:∀p∈xs,p∈ps
 all:∀p∈ps,p.1∈xs.map (·.1)
 len:xs.length≤ps.length
theorem Ded.add{ps xs xs':List (List Int×Addr)}{p:List Int×Addr}(d:Ded ps xs)(h1:p.1∈xs.map (·.1)->xs'.Perm xs)(h2:p.1∉xs.map (·.1)->xs'.Perm (p::xs)):Ded (ps++[p]) xs':=by
 by_cases hm:p.1∈xs.map (·.1)
 ·have pm:=h1 hm;refine⟨fun q hq=>List.mem_append_left _ (d.sub q (pm.mem_iff.mp hq)),fun q hq=>?_,?_⟩
  ·rw[(pm.map _).mem_iff];rcases List.mem_append.mp hq with hq|hq
   ·exact d.all q hq
   ·have:q=p:=by simpa using hq
    rw[this];exact hm
  ·rw[pm.length_eq,List.length_append];have:=d.len;omega
 ·have pm:=h2 hm;refine⟨fun q hq=>?_,fun q hq=>?_,?_⟩
  ·rcases List.mem_cons.mp (pm.mem_iff.mp hq) with e|e
   ·exact List.mem_append_right _ (by simp[e])
   ·exact List.mem_append_left _ (d.sub q e)
  ·rw[(pm.map _).mem_iff,List.map_cons];rcases List.mem_append.mp hq with hq|hq
   ·exact List.mem_cons_of_mem _ (d.all q hq)
   ·have:q=p:=by simpa using hq
    rw[this];exact List.mem_cons_self
  ·rw[pm.length_eq,List.length_append,List.length_cons,List.length_singleton];have:=d.len;omega
theorem qtyz{I:Addr}{fp:List Addr}{n:Nat}{P:Nat->Value->Prop}{St:Nat->Heap->Prop}(W:Walks prog w A.in1 I fp [I] n P St)(S:Addr)(hSf:S∉fp)(ps:List (List Int×Addr))(hps:ps.length=n)(hn:n≤60)
  (hu:A.in1.units<cLine) (hval:∀(i:Nat) v,P i v->∃p,ps[i]?=some p/\v=.ref p.2) (hpf:∀p∈ps,p.2≠I/\p.2≠S) {R:Result->Shared->Prop}:
  ∀(k i:Nat) (s:Shared) (xs:List (List Int×Addr)),n-i=k->i≤n->St i s.heap->SetOn prog w s.heap S xs->Ded (ps.take i) xs->(∀p∈ps,IsK prog w s.heap p.1 p.2) ->
   (∀h' tk xs',(∀b ob,b≠S->b≠I->s.heap.get? b=some ob->h'.get? b=some ob)->SetOn prog w h' S xs'->Ded ps xs'->R (.ok (.ret .none)) { s with heap:=h',toks:=tk }) ->
   codeAny (model prog w) A (.builtin "set.update.loop" ⟨[.ref S,.ref I],[]⟩) R s:=by
 have hSI:S≠I:=fun e=>hSf (W.sub _ (by rw[e];simp));have on_kept:∀{h h':Heap} {xs:List (List Int×Addr)},SetOn prog w h S xs->(∀p∈xs,p∈ps)->(∀b ob,b≠I->h.get? b=some ob->h'.get? b=some ob)->SetOn prog w h' S xs:=fun {h h' xs} ⟨o,es,ep,t,q,T⟩ sub kp=>
  ⟨o,es,ep,t,q.kept fun b hb ob e=>kp b ob (by
   rcases List.mem_cons.mp hb with z|z
   ·rw[z];exact hSI
   ·obtain⟨p,hp,rfl⟩:=List.mem_map.mp z;exact (hpf p (sub p hp)).1) e,T⟩
 intro k
 induction k with
 |zero=>
  intro i s xs hk hi hst hS hd hkeys hR;have hin:i=n:=by omega
  subst hin;refine codeAny_builtin PyProof.Rows.F.entry_set_update_loop ?_;rw[Around.under_plainId PyProof.Rows.F.plain_set_update_loop _];show wpAny _ A.in1 (pyNext (.ref I) >>= _) _ _ s;refine wpAny_bind (W.done s _ _ hst fun h' tk kp=>?_);show wpAny _ A.in1 (ret Value.none) _ _ _;have hd':Ded ps xs:=by
   rw[←hps,List.take_length] at hd;exact hd
  exact wpAny_pure (hR h' tk xs (fun b ob _ hb e=>kp b ob (by simpa using hb) e) (on_kept hS hd'.sub fun b ob hb e=>kp b ob (by simpa using hb) e) hd')
 |succ k ih=>
  intro i s xs hk hi hst hS hd hkeys hR;have hlt:i<n:=by omega
  refine codeAny_builtin PyProof.Rows.F.entry_set_update_loop ?_;rw[Around.under_plainId PyProof.Rows.F.plain_set_update_loop _];show wpAny _ A.in1 (pyNext (.ref I) >>= _) _ _ s;refine wpAny_bind (W.item i s _ _ hlt hst fun v h1 tk1 hP hst1 kp1=>?_);obtain⟨p,hp,rfl⟩:=hval i v hP;have hpm:p∈ps:=List.mem_of_getElem? hp;have kp1':∀b ob,b≠I->s.heap.get? b=some ob->h1.get? b=some ob:=fun b ob hb e=>kp1 b ob (by simpa using hb) e;have key1:∀q∈ps,IsK prog w h1 q.1 q.2:=fun q hq=>by
   obtain⟨oy,items,m,ho,r⟩:=hkeys q hq;exact⟨oy,items,m,kp1' _ _ (hpf q hq).1 ho,r⟩
  have sub0:∀q∈xs,q∈ps:=fun q hq=>List.mem_of_mem_take (hd.sub q hq);have hS1:=on_kept hS sub0 kp1';show wpAny _ A.in1 (holding [Value.ref p.2] (setAdd S (.ref p.2)) >>= _) _ _ _;have hlen:xs.length<64:=by
   have h1:=hd.len;rw[List.length_take] at h1;omega
  refine wpAny_bind (wpAny_holding (qtpz (s:={ s with heap:=h1,toks:=tk1 }) hS1 hlen hu (key1 p hpm) fun b h2 tk2 xs2 _ sb hS2 q1 q2=>?_));have hd2:Ded (ps.take (i+1)) xs2:=by
   rw[List.take_add_one,hp];exact hd.add q1 q2
  obtain⟨oS,_,_,_,SS,_⟩:=hS1;refine wpAny_pure ⟨plainId_quiet PyProof.Rows.F.plain_set_update_loop _,ih (i+1) _ xs2 (by omega) hlt (W.frame _ _ _ hst1 fun c hc ob e=>(sb.2 c (fun z=>hSf (z▸hc))).trans e) hS2 hd2 (fun q hq=>qepz SS.at_ SS.dat sb (key1 q hq)) fun h' tk xs' kp' a1 a2=>?_⟩;exact hR h' tk xs' (fun c ob c1 c2 e=>kp' c ob c1 c2 ((sb.2 c c1).trans (kp1' c ob c2 e))) a1 a2
set_option maxHeartbeats 6400000 in
theorem call_set_tups{l:Addr}{vs:List Value}{ps:List (List Int×Addr)}{Q:Value->Shared->Prop}(hh:A.handled=none)(hl:s.heap.IsList l vs.toArray)(hv:vs=ps.map fun p=>Value.ref p.2)(hk:∀p∈ps,IsK prog w s.heap p.1 p.2)(hn:ps.length≤60)
  (hu:A.units+4<cLine)
  (h:∀h' tk xs,(∀b ob,s.heap.get? b=some ob->h'.get? b=some ob)->SetOn prog w h' s.heap.objs.size xs->Ded ps xs->Q (.ref s.heap.objs.size) { s with heap:=h',toks:=tk }):
  wpAny (model prog w) A (call (.type "set") [.ref l]) Q E s:=by
 obtain⟨c,tl,hmro⟩:=F.called_set.mro;have hmade:=F.called_set.made;have hsub:=F.called_set.sub;refine wpAny_call (codeAny_of_tree ?_);show wpAny _ _ (callAny (.type "set") _) _ _ _;refine wpAny_pure ⟨Code.quiet_builtin _ (by decide +kernel),codeAny_builtin F.entry_type_call ?_⟩;rw[Around.under_plain (weight_type_call_type "set" [.ref l] []) rfl];have h1:=F.called_set.notType;have h2:=F.called_set.canCreate;have hct:=F.typeCall_set_1 (.ref l)
 repeat (any_goals (first|assumption|wp_step))
 refine codeAny_mono (qtwz (.ref l) (E:=E) (Q₁:=fun obj s₁=>obj=.ref s.heap.objs.size/\s₁={ s with heap:=s.heap.push (freshSet w)}) ⟨rfl,rfl⟩) fun r s₁ hr=>?_;cases r with
 |error e=>exact hr
 |ok fl=>
  cases fl with
  |ret obj=>
   obtain⟨rfl,rfl⟩:=hr;have hS:(s.heap.push (freshSet w)).get? s.heap.objs.size=some (freshSet w):=Heap.get?_push_size _ rfl;have hT:Shared.TypeIs { s with heap:=s.heap.push (freshSet w)} (.ref s.heap.objs.size) "set":=⟨_,hS,rfl⟩;have hli:=F.called_set.init.lookup;have hbi:=F.called_set.init.bind (.ref s.heap.objs.size)
   repeat (any_goals (first|assumption|wp_step))
   refine codeAny_mono (codeAny_call_builtin (R:=wants (fun r s₂=>r=.none/\∃h' tk xs,s₂={ s with heap:=h',toks:=tk }/\(∀b ob,s.heap.get? b=some ob->h'.get? b=some ob)/\SetOn prog w h' s.heap.objs.size xs/\Ded ps xs) E)
    F.called_set.init.plain F.entry_set_init (check_set_init_1 hT ?_)) fun r₂ s₂ hr₂=>?_
   ·obtain⟨ol,hol,hcl,nl,hdl⟩:=hl;obtain⟨ocls,odict,odata,oslots⟩:=ol;simp only at hcl hdl;subst hcl;subst hdl;have hol':(s.heap.push (freshSet w)).get? l=some { cls:=.type "list",dict:=odict,data:=.seq vs.toArray nl,slots:=oslots }:=Heap.get?_push_of_some _ hol;have hsls:=F.sub_list_set;have hslf:=F.sub_list_frozenset;have hne:(Value.type "list" == Value.type "dict")=false:=by decide
    have hl1:(s.heap.push (freshSet w)).IsList l vs.toArray:=⟨_,hol',rfl,nl,rfl⟩;have hS2:(s.heap.push (freshSet w)).get? s.heap.objs.size=some { cls:=.type "set",dict:=none,data:=.set #[] 0 (.fresh 0 0 (!(byText w)))}:=hS;unfold Builtin.«set.__init__» noKeywords Builtin.Frozenset.updateFrom;generalize hPI:pyIter=PI;wp_walk;subst hPI;refine wpAny_pyIter_list hl1 ?_;refine wpAny_bind (wpAny_runValue ?_);have hlS:l<s.heap.objs.size:=Heap.lt_size hol;have hh3:A.in1.in1.in1.handled=none:=by simp[hh]
    have hu3:A.in1.in1.in1.units<cLine:=by
     show A.units+1+1+1<cLine;omega
    have hsz:(s.heap.push (freshSet w)).objs.size=s.heap.objs.size+1:=Heap.size_push ..;have hneI:l≠(s.heap.push (freshSet w)).objs.size:=by
     rw[hsz];exact Nat.ne_of_lt (Nat.lt_succ_of_lt hlS)
    have hSf:s.heap.objs.size∉[(s.heap.push (freshSet w)).objs.size,l]:=by
     rw[hsz];intro z;rcases List.mem_cons.mp z with z|z
     ·exact absurd z (Nat.ne_of_lt (Nat.lt_succ_self _))
     ·have:s.heap.objs.size=l:=by simpa using z
      exact absurd this (Nat.ne_of_gt hlS)
    have hlen:vs.toArray.size=ps.length:=by rw[hv];simp
    refine qtyz (Walks.list hh3 _ l hneI vs.toArray) s.heap.objs.size hSf ps hlen.symm (by rw[hlen];exact hn) hu3 (fun i v e=>?_) (fun p hp=>?_) (vs.toArray.size-0) 0 _ [] rfl (Nat.zero_le _)
     ⟨⟨_,Heap.get?_push_size _ rfl,rfl,rfl⟩,hl1.push _⟩ ?hS0 ⟨(fun p hp=>(nomatch hp)),(fun p hp=>by rw[List.take_zero] at hp;cases hp),Nat.zero_le _⟩ (fun p hp=>?_) ?hR
    case hS0=>
     refine⟨_,#[],0,_,⟨Heap.get?_push_of_some _ hS2,⟨rfl,rfl,rfl⟩,rfl,rfl,(fun p hp=>(nomatch hp)),List.nodup_nil,rfl,rfl⟩,qtxz _⟩
    case hR=>
     intro h' tk xs q1 q2 q3;refine wpAny_pure ?_;show wpAny _ _ (ret Value.none) _ _ _;refine wpAny_pure ⟨rfl,h',tk,xs,rfl,fun b ob e=>?_,q2,q3⟩;have hb:=Heap.lt_size e;refine q1 b ob (Nat.ne_of_lt hb) ?_ (Heap.get?_push_of_some _ (Heap.get?_push_of_some _ e));rw[hsz];exact Nat.ne_of_lt (Nat.lt_succ_of_lt hb)
    ·rw[hv,List.getElem?_toArray,List.getElem?_map] at e;cases hp:ps[i]? with
     |none=>rw[hp] at e;cases e
     |some p=>rw[hp] at e;exact⟨p,rfl,(Option.some.inj e).symm⟩
    ·obtain⟨oy,_,_,ho,_⟩:=hk p hp;have hb:=Heap.lt_size ho;rw[hsz];exact⟨Nat.ne_of_lt (Nat.lt_succ_of_lt hb),Nat.ne_of_lt hb⟩
    ·obtain⟨oy,items,m,ho,r⟩:=hk p hp;exact⟨oy,items,m,Heap.get?_push_of_some _ (Heap.get?_push_of_some _ ho),r⟩
   ·cases r₂ with
    |error e=>exact hr₂
    |ok fl₂=>
     cases fl₂ with
     |ret r=>
      obtain⟨rfl,h',tk,xs,rfl,q1,q2,q3⟩:=hr₂
      repeat (any_goals (first|assumption|wp_step))
      exact h _ _ _ q1 q2 q3
     |_=>exact hr₂.elim
  |_=>exact hr.elim
end
end SetM
namespace SortV
open PySem PySem.W PyProof.Rows SetM KasS
def lx:List Int->List Int->Bool
 |[],[]=>false
 |[],_::_=>true
 |_::_,[]=>false
 |x::xs,y::ys=>if x=y then lx xs ys else decide (x<y)
theorem qkcz:∀{x y:List Int},lx x y=true->lx y x=false
 |[],[],h=>by cases h
 |[],_::_,_=>rfl
 |_::_,[],h=>by cases h
 |x::xs,y::ys,h=>by
  unfold lx at h ⊢;by_cases e:x=y
  ·rw[if_pos e] at h;rw[if_pos e.symm];exact qkcz h
  ·rw[if_neg e] at h;rw[if_neg (Ne.symm e)];have:=of_decide_eq_true h;exact decide_eq_false (by omega)
theorem qkdz:∀{a b c:List Int},lx b a=false->lx c b=false->lx c a=false
 |[],b,[],_,_=>rfl
 |[],[],c::cs,_,h=>h
 |[],b::bs,c::cs,h,_=>rfl
 |a::as,[],c,h,_=>by cases h
 |a::as,b::bs,[],_,h=>by cases h
 |a::as,b::bs,c::cs,h1,h2=>by
  unfold lx at h1 h2 ⊢;by_cases e1:b=a
  ·rw[if_pos e1] at h1;by_cases e2:c=b
   ·rw[if_pos e2] at h2;rw[if_pos (e2.trans e1)];exact qkdz h1 h2
   ·rw[if_neg e2] at h2;have:=of_decide_eq_false h2;by_cases e3:c=a
    ·omega
    ·rw[if_neg e3];exact decide_eq_false (by omega)
  ·rw[if_neg e1] at h1;have:=of_decide_eq_false h1;by_cases e2:c=b
   ·rw[if_neg (by omega)];exact decide_eq_false (by omega)
   ·rw[if_neg e2] at h2;have:=of_decide_eq_false h2;by_cases e3:c=a
    ·omega
    ·rw[if_neg e3];exact decide_eq_false (by omega)
section
variable {prog:Program} {w:World} {A:Around} {E:Value->Shared->Prop} {s:Shared}
theorem qtzz{Q:Bool->Shared->Prop}:∀(xs ys:List Int) (us vs:List Value) (i:Nat) (fin:Bool),ItemsAre (intKind prog w) xs us->ItemsAre (intKind prog w) ys vs ->
  (fin=decide (us.length<vs.length)∨∃n m,fin=decide (n+us.length<n+vs.length)/\m=n)->Q (lx xs ys) s->KatLex prog w A true fin Q (us.zip vs) i s:=by
 intro xs
 induction xs with
 |nil=>
  intro ys us vs i fin h1 h2 hf h;cases h1;cases h2 with
  |nil=>
   have:fin=false:=by
    rcases hf with hf|⟨n,m,hf,_⟩<;>simp at hf<;>exact hf
   rw[this];exact kat_nil h
  |cons h3 h4=>
   have:fin=true:=by
    rcases hf with hf|⟨n,m,hf,_⟩<;>rw[hf]<;>simp
   rw[this];exact kat_nil h
 |cons x xs ih=>
  intro ys us vs i fin h1 h2 hf h;cases h1 with
  |cons h1 h1'=>
  cases h2 with
  |nil=>
   have:fin=false:=by
    rcases hf with hf|⟨n,m,hf,_⟩<;>rw[hf]<;>simp
   rw[this];exact kat_nil h
  |cons h3 h4=>
   obtain⟨t,rfl⟩:=Value.isInt_shape h1;obtain⟨t',rfl⟩:=Value.isInt_shape h3;refine kat_cons (wpAny_eqBool_int ?_);unfold lx at h;rename_i _ y ys _;by_cases e:x=y
   ·rw[if_pos e] at h;have:(x==y)=true:=by simpa using e
    rw[this];refine kat_yes (ih ys _ _ (i+1) fin h1' h4 (.inr ?_) h);rcases hf with hf|⟨n,m,hf,_⟩
    ·exact⟨1,1,by rw[hf];simp[Nat.add_comm],rfl⟩
    ·exact⟨n+1,n+1,by rw[hf];congr 1;simp only[List.length_cons];apply propext;omega,rfl⟩
   ·rw[if_neg e] at h;have:(x==y)=false:=by simpa using e
    rw[this];refine kat_no ?_;by_cases hi:i=0
    ·subst hi;exact oneLt_int h
    ·have hb:(true&&i==0)=false:=by simp[hi]
     rw[hb];exact kat_one _ _ (lt_int h)
theorem qt0z{Q:Bool->Shared->Prop}{x y:List Int}{a b:Addr}(hx:IsK prog w s.heap x a)(hy:IsK prog w s.heap y b)(h:Q (lx x y) s):wpAny (model prog w) A (keyLt' (tuples' true) (.ref a) (.ref b)) Q E s:=by
 obtain⟨o,its,n,ho,_,hd,hi⟩:=hx;obtain⟨o',its',n',ho',_,hd',hi'⟩:=hy;exact kat_lt ho hd ho' hd' (qtzz x y its.toList its'.toList 0 _ hi hi' (.inl (by simp)) h)
def plt(ps:List (List Int×Addr))(i j:Nat):Bool:=lx ((ps.getD i ([],0)).1) ((ps.getD j ([],0)).1)
theorem qt1z(ps:List (List Int×Addr))(n:Nat):Ord n (plt ps):=⟨fun a b _ _ h=>qkcz h,fun a b c _ _ _ h1 h2=>qkdz h1 h2⟩
def cmpP(n:Nat)(lt:Nat->Nat->Bool)(i j:Nat)(C:Bool->Shared->Prop)(s:Shared):Prop:=i<n/\j<n/\C (lt i j) s
theorem conv{α:Type}{n:Nat}{lt:Nat->Nat->Bool}{κ:SortKind}{vs:List Value}{Q:α->Shared->Prop}(ha:∀i j,i<n->j<n->∀C:Bool->Shared->Prop,C (lt i j) s->kas_ask prog w A κ vs i j C s):
  ∀t:KasT α,t.kasWp (cmpP n lt) Q s->t.kasWp (kas_ask prog w A κ vs) Q s
 |.ret a,h=>h
 |.ask i j k,h=>by
  obtain⟨h1,h2,h3⟩:=h;exact ha i j h1 h2 _ (conv ha (k (lt i j)) h3)
theorem qgfz{ps:List (List Int×Addr)}{i:Nat}(hi:i<ps.length):(ps.map fun p=>Value.ref p.2).getD i Value.none=.ref (ps.getD i ([],0)).2:=by
 simp[List.getD,hi]
theorem getD_mem{ps:List (List Int×Addr)}{i:Nat}(hi:i<ps.length):ps.getD i ([],0)∈ps:=by
 simp[List.getD,hi]
theorem qt2z{ps:List (List Int×Addr)}(hk:∀p∈ps,IsK prog w s.heap p.1 p.2):∀i j,i<ps.length->j<ps.length->∀C:Bool->Shared->Prop,C (plt ps i j) s->kas_ask prog w A (tuples' true) (ps.map fun p=>Value.ref p.2) i j C s:=fun i j hi hj C h=>by
 unfold kas_ask;rw[qgfz hi,qgfz hj];exact qt0z (hk _ (getD_mem hi)) (hk _ (getD_mem hj)) h
theorem qkez{h:Heap}:∀{ps:List (List Int×Addr)},(∀p∈ps,IsK prog w h p.1 p.2/\p.1≠[])->∃fs,KatTups h (ps.map fun p=>Value.ref p.2) fs/\fs.length=ps.length/\∀v∈fs,∃i t,v=.int i t
 |[],_=>⟨[],.nil,rfl,fun v hv=>nomatch hv⟩
 |p::ps,hk=>by
  obtain⟨fs,h1,h2,h3⟩:=qkez (ps:=ps) fun q hq=>hk q (List.mem_cons_of_mem _ hq);obtain⟨⟨o,its,n,ho,hc,hd,hi⟩,hne⟩:=hk p List.mem_cons_self;obtain⟨ks,a⟩:=p;cases ks with
  |nil=>exact absurd rfl hne
  |cons k ks=>
   obtain⟨its⟩:=its;cases hi with
   |cons h4 h5=>
    rename_i v vs;obtain⟨t,e⟩:=Value.isInt_shape h4;refine⟨v::fs,KatTups.cons ho hc hd (by simp) h1,by simp[h2],fun u hu=>?_⟩;rcases List.mem_cons.mp hu with q|q
    ·exact⟨k,t,q.trans e⟩
    ·exact h3 u q
theorem qt3z{ps:List (List Int×Addr)}(hne:ps≠[])(hk:∀p∈ps,IsK prog w s.heap p.1 p.2/\p.1≠[]){Q:SortKind->Shared->Prop}(h:Q (tuples' true) s):wpAny (model prog w) A (keyKind' (ps.map fun p=>Value.ref p.2).toArray) Q E s:=by
 obtain⟨fs,h1,h2,h3⟩:=qkez hk;have hl:0<fs.length:=by
  rw[h2];exact List.length_pos_iff.mpr hne
 refine kat_kind (T:=.type "int") h1 hl (fun v hv=>?_) rfl h;obtain⟨i,t,rfl⟩:=h3 v hv;exact .now
structure Srt(ps qs:List (List Int×Addr)):Prop where
 perm:qs.Perm ps
 rise:qs.Pairwise fun x y=>lx y.1 x.1=false
theorem qt4z{ps:List (List Int×Addr)}{p:Array Nat}(v:Va ps.length p)(S:So (plt ps) p ps.length):Srt ps (p.toList.map fun i=>ps.getD i ([],0)):=by
 refine⟨?_,?_⟩
 ·refine (v.perm.map _).trans ?_;have:(List.range ps.length).map (fun i=>ps.getD i ([],0))=ps:=by
   refine List.ext_getElem? fun i=>?_;by_cases hi:i<ps.length
   ·simp[List.getElem?_map,List.getElem?_range hi,List.getD,hi]
   ·rw[List.getElem?_eq_none_iff.mpr (by simpa using hi),List.getElem?_eq_none_iff.mpr (by omega)]
  rw[this]
 ·rw[List.pairwise_map,List.pairwise_iff_getElem];intro i j hi hj hij;have hs:=v.size;have h1:i<ps.length:=by rw[←hs];simpa using hi
  have h2:j<ps.length:=by rw[←hs];simpa using hj
  have e1:p.toList[i]=g p i:=by
   have:=v.get h1;simp[g,Array.getD,hs,h1]
  have e2:p.toList[j]=g p j:=by simp[g,Array.getD,hs,h2]
  rw[e1,e2];exact S i j (Nat.le_of_lt hij) h2
theorem qt5z{ps:List (List Int×Addr)}{p:Array Nat}(v:Va ps.length p):(p.toList.map fun i=>(ps.map fun q=>Value.ref q.2).getD i Value.none)=(p.toList.map fun i=>ps.getD i ([],0)).map fun q=>Value.ref q.2:=by
 rw[List.map_map];refine List.map_congr_left fun i hi=>?_;have:i<ps.length:=by
  have:=v.perm.mem_iff.mp hi;simpa using this
 exact qgfz this
theorem qt6z{h h':Heap}{ks:List Int}{a b:Addr}{its:Array Value}{n:Nat}(hb:h.get? b=some (seqObj "list" its n))(keep:∀c o,c≠b->h.get? c=some o->h'.get? c=some o)(hk:IsK prog w h ks a):IsK prog w h' ks a:=by
 obtain⟨o,it,m,ho,hc,hd,hi⟩:=hk;refine⟨o,it,m,keep a o (fun e=>?_) ho,hc,hd,hi⟩;rw[e,hb] at ho;cases ho;injection hc with hc
 exact absurd hc (by decide)
theorem qt7z{a:Addr}{n:Nat}{ps:List (List Int×Addr)}{P:PySem.Fin->Shared->Prop}(ho:s.heap.get? a=some (seqObj "list" (ps.map fun p=>Value.ref p.2).toArray n))(hk:∀p∈ps,IsK prog w s.heap p.1 p.2/\p.1≠[])(h2:2≤ps.length)(h64:ps.length<64)
  (h:∀qs h' c,Srt ps qs->h'.get? a=some (seqObj "list" (qs.map fun p=>Value.ref p.2).toArray c)->(∀b o,b≠a->s.heap.get? b=some o->h'.get? b=some o)->P (.done (.ret .none)) { s with heap:=h' }):
  wpAny (model prog w) A (Builtin.«list.sort» ⟨[.ref a],[]⟩) P E s:=by
 have ha:a<s.heap.objs.size:=Heap.lt_size ho;have s1:=Heap.SameBut.update s.heap a (Obj.mapSeq fun _=>(#[]:Array Value));obtain⟨e1,ho1⟩:∃e1,(s.heap.update a (Obj.mapSeq fun _=>(#[]:Array Value))).get? a=some (seqObj "list" #[] e1):=⟨_,get?_update_seq ho fun _=>#[]⟩;generalize hvs:(ps.map fun p=>Value.ref p.2)=vs at ho;have hlen:vs.length=ps.length:=by rw[←hvs,List.length_map]
 have hu3:∀b o,b≠a->s.heap.get? b=some o->(((s.heap.update a (Obj.mapSeq fun _=>(#[]:Array Value))).push (seqObj "tuple" vs.toArray 0)).push (seqObj "list" #[] 0)).get? b=some o:=fun b o hb e=>
  Heap.get?_push_of_some _ (Heap.get?_push_of_some _ ((s1.2 b hb).trans e))
 have ho3:(((s.heap.update a (Obj.mapSeq fun _=>(#[]:Array Value))).push (seqObj "tuple" vs.toArray 0)).push (seqObj "list" #[] 0)).get? a=some (seqObj "list" #[] e1):=Heap.get?_push_of_some _ (Heap.get?_push_of_some _ ho1);rw[list_sort_plain];refine wpAny_bind (listItems_at ho rfl ?_);refine wpAny_bind (listUpdate_at ho rfl ?_ (by rw[List.size_toArray,sizeLine_eq];omega) (Nat.zero_le _));refine wpAny_bind (seqEpoch_at ho1 rfl ?_);refine wpAny_bind (wpAny_newTuple ?_ (by show vs.length≤_;rw[sizeLine_eq];omega));refine wpAny_bind (wpAny_newList ?_ (Nat.zero_le _));refine wpAny_holding ?_;show wpAny (model prog w) A _ P E { s with heap:=((s.heap.update a (Obj.mapSeq fun _=>(#[]:Array Value))).push (seqObj "tuple" vs.toArray 0)).push (seqObj "list" #[] 0)};generalize ((s.heap.update a (Obj.mapSeq fun _=>(#[]:Array Value))).push (seqObj "tuple" vs.toArray 0)).push (seqObj "list" #[] 0)=h3 at hu3 ho3 ⊢;have hk3:∀p∈ps,IsK prog w h3 p.1 p.2/\p.1≠[]:=fun p hp=>⟨qt6z ho hu3 (hk p hp).1,(hk p hp).2⟩;dsimp only;have hn2:¬vs.toArray.size<2:=by rw[List.size_toArray];omega
 rw[if_neg hn2,if_neg hn2];have hne:ps≠[]:=fun z=>by rw[z] at h2;simp at h2
 refine wpAny_bind ?_;rw[←hvs];refine qt3z (s:={ s with heap:=h3 }) hne hk3 ?_;have hsort:(kas_sort vs.length).kasWp (kas_ask prog w A (tuples' true) (ps.map fun p=>Value.ref p.2)) (fun p s'=>s'={ s with heap:=h3 }/\Va ps.length p/\So (plt ps) p ps.length) { s with heap:=h3 }:=by
  refine conv (lt:=plt ps) (n:=ps.length) (qt2z (s:={ s with heap:=h3 }) fun p hp=>(hk3 p hp).1) _ ?_
  rw[hlen];exact qs5z (qt1z ps ps.length) (fun i j hi hj C s' hC=>⟨hi,hj,hC⟩) (by omega) fun p v S=>⟨rfl,v,S⟩
 have hsort:(kas_sort (ps.map fun p=>Value.ref p.2).length).kasWp (kas_ask prog w A (tuples' true) (ps.map fun p=>Value.ref p.2)) (fun p s'=>s'={ s with heap:=h3 }/\Va ps.length p/\So (plt ps) p ps.length) { s with heap:=h3 }:=by
  rw[hlen] at hsort;rw[List.length_map];exact hsort
 refine wpAny_bind (wpAny_mono (kat_run (Q:=fun st' s'=>∃p:Array Nat,p.size=(ps.map fun p=>Value.ref p.2).length/\arrOf st'=p.map (kas_item ((ps.map fun p=>Value.ref p.2).toArray.zip (ps.map fun p=>Value.ref p.2).toArray))/\failedOf st'=none/\s'={ s with heap:=h3 }/\Va ps.length p/\So (plt ps) p ps.length)
  rfl (by rw[List.length_map];exact h2) (by rw[List.length_map];exact h64) (fun p' st' s' a1 a2 a3 a4=>⟨p',a1,a2,a3,a4⟩) hsort) ?_ fun _ _ e=>e)
 rintro⟨⟨⟩,st'⟩ s' ⟨p,hp,har,hf,rfl,va,so⟩;dsimp only;have hout:=kat_snds rfl har;rw[qt5z va] at hout;have hS:=qt4z va so;generalize (p.toList.map fun i=>ps.getD i ([],0))=qs at hout hS;have hsz:(List.toArray (qs.map fun q=>Value.ref q.2)).size=ps.length:=by rw[List.size_toArray,List.length_map,hS.perm.length_eq]
 rw[hout];have s2:=Heap.SameBut.update h3 a (Obj.mapSeq fun _=>List.toArray (qs.map fun q=>Value.ref q.2));obtain⟨c2,hc2⟩:∃c2,(h3.update a (Obj.mapSeq fun _=>List.toArray (qs.map fun q=>Value.ref q.2))).get? a=some (seqObj "list" (List.toArray (qs.map fun q=>Value.ref q.2)) c2):=⟨_,get?_update_seq ho3 fun _=>List.toArray (qs.map fun q=>Value.ref q.2)⟩;refine wpAny_bind (seqEpoch_at ho3 rfl ?_);refine wpAny_bind (listUpdate_at ho3 rfl ?_ (Nat.zero_le _) (Nat.le_trans (Nat.le_of_eq hsz) (by rw[sizeLine_eq];omega)));rw[hf];simp only[bne_self_eq_false,Bool.false_eq_true,if_false];exact wpAny_pure (h qs _ c2 hS hc2 fun b o hb e=>(s2.2 b hb).trans (hu3 b o hb e))
theorem qt8z{a:Addr}{n:Nat}{vs:List Value}{P:PySem.Fin->Shared->Prop}(ho:s.heap.get? a=some (seqObj "list" vs.toArray n))(h2:vs.length<2)
  (h:∀h' c,h'.get? a=some (seqObj "list" vs.toArray c)->(∀b o,b≠a->s.heap.get? b=some o->h'.get? b=some o)->P (.done (.ret .none)) { s with heap:=h' }):
  wpAny (model prog w) A (Builtin.«list.sort» ⟨[.ref a],[]⟩) P E s:=by
 have s1:=Heap.SameBut.update s.heap a (Obj.mapSeq fun _=>(#[]:Array Value));obtain⟨e1,ho1⟩:∃e1,(s.heap.update a (Obj.mapSeq fun _=>(#[]:Array Value))).get? a=some (seqObj "list" #[] e1):=⟨_,get?_update_seq ho fun _=>#[]⟩;have hu3:∀b o,b≠a->s.heap.get? b=some o->(((s.heap.update a (Obj.mapSeq fun _=>(#[]:Array Value))).push (seqObj "tuple" vs.toArray 0)).push (seqObj "list" #[] 0)).get? b=some o:=fun b o hb e=>
  Heap.get?_push_of_some _ (Heap.get?_push_of_some _ ((s1.2 b hb).trans e))
 have ho3:(((s.heap.update a (Obj.mapSeq fun _=>(#[]:Array Value))).push (seqObj "tuple" vs.toArray 0)).push (seqObj "list" #[] 0)).get? a=some (seqObj "list" #[] e1):=Heap.get?_push_of_some _ (Heap.get?_push_of_some _ ho1);rw[list_sort_plain];refine wpAny_bind (listItems_at ho rfl ?_);refine wpAny_bind (listUpdate_at ho rfl ?_ (by rw[List.size_toArray,sizeLine_eq];omega) (Nat.zero_le _));refine wpAny_bind (seqEpoch_at ho1 rfl ?_);refine wpAny_bind (wpAny_newTuple ?_ (by show vs.length≤_;rw[sizeLine_eq];omega));refine wpAny_bind (wpAny_newList ?_ (Nat.zero_le _));refine wpAny_holding ?_;show wpAny (model prog w) A _ P E { s with heap:=((s.heap.update a (Obj.mapSeq fun _=>(#[]:Array Value))).push (seqObj "tuple" vs.toArray 0)).push (seqObj "list" #[] 0)};generalize ((s.heap.update a (Obj.mapSeq fun _=>(#[]:Array Value))).push (seqObj "tuple" vs.toArray 0)).push (seqObj "list" #[] 0)=h3 at hu3 ho3 ⊢;dsimp only;have hn2:vs.toArray.size<2:=by rw[List.size_toArray];omega
 rw[if_pos hn2,if_pos hn2];refine wpAny_bind (wpAny_pure ?_);rw[StateT.run_pure];refine wpAny_bind (wpAny_pure ?_);dsimp only;have hout:(arrOf (SortSt.mk' general' (vs.toArray.zip vs.toArray) #[] 7 none)).map (·.2)=vs.toArray:=by
  show (vs.toArray.zip vs.toArray).map (·.2)=vs.toArray;refine Array.ext (by simp) fun i h1 h2=>?_;simp
 rw[hout];have s2:=Heap.SameBut.update h3 a (Obj.mapSeq fun _=>vs.toArray);obtain⟨c2,hc2⟩:∃c2,(h3.update a (Obj.mapSeq fun _=>vs.toArray)).get? a=some (seqObj "list" vs.toArray c2):=⟨_,get?_update_seq ho3 fun _=>vs.toArray⟩;refine wpAny_bind (seqEpoch_at ho3 rfl ?_);refine wpAny_bind (listUpdate_at ho3 rfl ?_ (Nat.zero_le _) (by rw[List.size_toArray,sizeLine_eq];omega));simp only[bne_self_eq_false,Bool.false_eq_true,if_false];exact wpAny_pure (h _ c2 hc2 fun b o hb e=>(s2.2 b hb).trans (hu3 b o hb e))
theorem qt9z{h h':Heap}{ks:List Int}{a:Addr}(keep:∀c o,h.get? c=some o->h'.get? c=some o)(hk:IsK prog w h ks a):IsK prog w h' ks a:=by
 obtain⟨o,it,m,ho,r⟩:=hk;exact⟨o,it,m,keep a o ho,r⟩
theorem sorted_of{l:Addr}{ps:List (List Int×Addr)}{Q:Value->Shared->Prop}(hk:∀p∈ps,IsK prog w s.heap p.1 p.2/\p.1≠[])(h64:ps.length<64)
  (hcol:∀(R:List Value->Shared->Prop),(∀s',Moved [] (fun x y=>y=x) s s'->R (ps.map fun p=>Value.ref p.2) s')->wpAny (model prog w) A.in1 (collect (.ref l)) R E s)
  (h:∀qs s' c D,Srt ps qs->s.heap.get? D=none->s'.heap.get? D=some (seqObj "list" (qs.map fun p=>Value.ref p.2).toArray c)->Moved [] (fun x y=>y=x) s s'->Q (.ref D) s'):
  wpAny (model prog w) A (call (.builtin "sorted") [.ref l]) Q E s:=by
 refine Calls.call_function_entry kind_sorted plain_sorted entry_sorted (args_sorted1 _) ?_;unfold Builtin.«sorted»;refine wpAny_bind (m:=checkCount "sorted" 1 1 _) (wpAny_pure ?_);refine wpAny_bind (hcol _ fun s1 hm=>?_);refine wpAny_bind (wpAny_newList ?_ (by rw[List.length_map,sizeLine_eq];omega));have hoL:(s1.heap.push (seqObj "list" (ps.map fun p=>Value.ref p.2).toArray 0)).get? s1.heap.objs.size=some (seqObj "list" (ps.map fun p=>Value.ref p.2).toArray 0):=Heap.get?_push_size _ rfl;have keep0:∀b o,s.heap.get? b=some o->s1.heap.get? b=some o:=fun b o e=>hm.heap b o (fun z=>nomatch z) e;have hfr:s.heap.get? s1.heap.objs.size=none:=by
  cases hz:s.heap.get? s1.heap.objs.size with
  |none=>rfl
  |some o=>exact absurd (Heap.lt_size (keep0 _ _ hz)) (Nat.lt_irrefl _)
 have keep:∀b o,s.heap.get? b=some o->(s1.heap.push (seqObj "list" (ps.map fun p=>Value.ref p.2).toArray 0)).get? b=some o:=fun b o e=>Heap.get?_push_of_some _ (keep0 b o e);show wpAny _ _ _ _ _ { s1 with heap:=s1.heap.push (seqObj "list" (ps.map fun p=>Value.ref p.2).toArray 0)};refine wpAny_bind (wpAny_holding (wpAny_call_entry slot_list_sort ⟨_,hoL,rfl⟩ entry_list_sort ?body (args_list_sort _)));have fin:∀qs h' c,Srt ps qs->h'.get? s1.heap.objs.size=some (seqObj "list" (qs.map fun p=>Value.ref p.2).toArray c)->(∀b o,b≠s1.heap.objs.size->(s1.heap.push (seqObj "list" (ps.map fun p=>Value.ref p.2).toArray 0)).get? b=some o->h'.get? b=some o)->Q (.ref s1.heap.objs.size) { s1 with heap:=h' }:=fun qs h' c hS e kk=>
  h qs _ c _ hS hfr e ⟨fun b o _ e1=>kk b o (Nat.ne_of_lt (Heap.lt_size (keep0 b o e1))) (keep b o e1),hm.gens,hm.drawn,hm.os,hm.toks⟩
 case body=>
  by_cases h2:2≤ps.length
  ·refine qt7z (s:={ s1 with heap:=s1.heap.push (seqObj "list" (ps.map fun p=>Value.ref p.2).toArray 0)}) hoL (fun p hp=>⟨qt9z keep (hk p hp).1,(hk p hp).2⟩) h2 h64 fun qs h' c hS e kk=>?_;exact⟨_,rfl,wpAny_pure ⟨_,rfl,fin qs h' c hS e kk⟩⟩
  ·refine qt8z (s:={ s1 with heap:=s1.heap.push (seqObj "list" (ps.map fun p=>Value.ref p.2).toArray 0)}) hoL (by rw[List.length_map];omega) fun h' c e kk=>?_;have hS:Srt ps ps:=⟨.refl _,by
    rcases ps with _|⟨x,_|⟨y,r⟩⟩
    ·exact .nil
    ·exact List.pairwise_singleton _ _
    ·simp at h2⟩
   exact⟨_,rfl,wpAny_pure ⟨_,rfl,fin ps h' c hS e kk⟩⟩
end
end SortV
namespace L3
open PySem PySem.Spec PyProof.Rows L2
structure Kit(T:String):Prop where
 non:∀K,PySem.W.kitOne K (.type "NoneType") (.type T)=some false
 bl:∀K,PySem.W.kitOne K (.type "bool") (.type T)=some (T=="bool" || T=="int")
 int:∀K,PySem.W.kitOne K (.type "int") (.type T)=some (T=="int")
 str:∀K,PySem.W.kitOne K (.type "str") (.type T)=some (T=="str")
 tup:∀K,PySem.W.kitOne K (.type "tuple") (.type T)=some (T=="tuple")
 lst:∀K,PySem.W.kitOne K (.type "list") (.type T)=some (T=="list")
 dct:∀K,PySem.W.kitOne K (.type "dict") (.type T)=some (T=="dict")
theorem quaz:Kit "int":=⟨fun _=>rfl,fun _=>rfl,fun _=>rfl,fun _=>rfl,fun _=>rfl,fun _=>rfl,fun _=>rfl⟩
theorem qubz:Kit "bool":=⟨fun _=>rfl,fun _=>rfl,fun _=>rfl,fun _=>rfl,fun _=>rfl,fun _=>rfl,fun _=>rfl⟩
theorem kit_tuple:Kit "tuple":=⟨fun _=>rfl,fun _=>rfl,fun _=>rfl,fun _=>rfl,fun _=>rfl,fun _=>rfl,fun _=>rfl⟩
section
variable {X:Cx} {a e:Expr} {es:List Expr} {ta:TE3} {t:TA3} {pos p p2:Pos}
theorem qucz{T:String}(k:Kit T):CallR X (.builtin "isinstance") (fun vs H Q=>∃d v G b,vs=[v,.ty T]/\Hv X.K H d v/\RepG X.K G H/\instD T G d=some b/\Q (.bl b) H):=by
 intro pins s σ H vs us Q I r h;obtain⟨d,v,G,b,rfl,hd,RG,hb,q⟩:=h;obtain⟨u,c,rfl,ru,rc⟩:=vals2 r;cases (show c=Value.type T from rc);have fin:∀tk,EP X pins σ Q (.bool b) { s with toks:=tk }:=fun tk=>⟨.bl b,H,I.tok tk,rfl,q⟩
 cases d with
 |non=>
  unfold Hv at hd;subst hd;cases (show u=Value.none from ru);cases hb;exact PySem.W.kia_one PySem.W.kitx_none I.kIn True.intro (k.non _) (fun z=>nomatch z) fin
 |bl y=>
  rw[qcxz hd] at ru;cases (show u=Value.bool y from ru);cases hb;exact PySem.W.kia_one PySem.W.kitx_bool I.kIn True.intro (k.bl _) (fun z=>nomatch z) fin
 |int y=>
  rw[qtz hd] at ru;obtain⟨t,rfl⟩:=(show ∃t,u=Value.int y t from ru);cases hb;exact PySem.W.kia_one PySem.W.kitx_int I.kIn True.intro (k.int _) (fun z=>nomatch z) fin
 |str y=>
  unfold Hv at hd;subst hd;obtain⟨t,rfl⟩:=(show ∃t,u=Value.str y t from ru);cases hb;exact PySem.W.kia_one PySem.W.kitx_str I.kIn True.intro (k.str _) (fun z=>nomatch z) fin
 |tup ds=>
  obtain⟨x,xs,rfl,e1,_⟩:=qakz hd;cases (show u=Value.ref x from ru);cases hb;obtain⟨its,_,⟨o,h1,h2,_⟩,_⟩:=I.tuple e1;exact PySem.W.kia_one PySem.W.kitx_tuple I.kIn ⟨o,h1,h2⟩ (k.tup _) (fun z=>nomatch z) fin
 |scr ds=>
  obtain⟨x,xs,rfl,e1,_⟩:=qbsz hd;cases (show u=Value.ref x from ru);cases hb;obtain⟨its,_,p1,_⟩:=I.list e1.l;obtain⟨o,h1,h2,_⟩:=p1.isList;exact PySem.W.kia_one PySem.W.kitx_list I.kIn ⟨o,h1,h2⟩ (k.lst _) (fun z=>nomatch z) fin
 |dc x=>
  unfold Hv at hd;obtain⟨rfl,ob,φ,e1,c⟩:=hd;cases (show u=Value.ref x from ru);cases hb;obtain⟨h1,_⟩:=I.hok x _ e1;exact PySem.W.kia_one PySem.W.kitx_dict I.kIn ⟨ob,h1,c⟩ (k.dct _) (fun z=>nomatch z) fin
 |obj x=>
  rw[qyz hd] at ru;cases (show u=Value.ref x from ru);unfold instD at hb;cases hG:G x with
  |none=>simp[hG] at hb
  |some o=>
   have hl:∀xs,H x=some (.lst xs)->∃o,s.heap.get? x=some o/\o.cls=.type "list":=fun xs e=>by
    obtain⟨_,_,n,_,h1⟩:=(show ObjOk X.prog X.w H s.heap x (.lst xs) from I.hok x _ e);exact⟨_,h1,rfl⟩
   cases o with
   |lst ds=>
    simp only[hG] at hb;cases hb;obtain⟨vs,e1,_⟩:=RG x _ hG;obtain⟨o,h1,h2⟩:=hl _ e1;exact PySem.W.kia_one PySem.W.kitx_list I.kIn ⟨o,h1,h2⟩ (k.lst _) (fun z=>nomatch z) fin
   |pen=>
    simp only[hG] at hb;cases hb;obtain⟨_,_,_,e1,_⟩:=RG x _ hG;obtain⟨o,h1,h2⟩:=hl _ e1;exact PySem.W.kia_one PySem.W.kitx_list I.kIn ⟨o,h1,h2⟩ (k.lst _) (fun z=>nomatch z) fin
   |gen R=>simp[hG] at hb
   |dct=>
    simp only[hG] at hb;cases hb;have e1:H x=some (.ext fun h=>∃o,h.get? x=some o/\o.cls=.type "dict"):=RG x _ hG;obtain⟨⟨o,h1,h2⟩,_⟩:=(show ObjOk X.prog X.w H s.heap x _ from I.hok x _ e1);exact PySem.W.kia_one PySem.W.kitx_dict I.kIn ⟨o,h1,h2⟩ (k.dct _) (fun z=>nomatch z) fin
theorem qudz{T:String}{TS:Str}(k:Kit T)(hv:bootBuiltins TS=some (.type T))(ha:PE3 X a ta)(hm:X.mg "isinstance" = none)(hm2:X.mg TS=none)(hgT:Gl X TS)(hnT:TS≠"__name__")(hdT:(TS==("__debug__":Str))=false)(hg:Gl X "isinstance":=by rfl)
  (he:notStar a=true:=by rfl):
  PE3 X (.Call (.Name "isinstance" p) [a,.Name TS p2] [] pos) (eInst T ta):=
 qxz (qbhz (qucz k) hg hm rfl (qbqz ha (qbqz (qopz (v:=.ty T) hgT hm2 hv rfl hnT hdT) qccz (qnz rfl)) (qnz he)) (he:=qnz he) (hpl:=qaez rfl)) fun σ H Q ⟨τ,G,Q3,RS,RG,h,k⟩=>by
  refine⟨τ,G,_,RS,RG,h,fun v H1 d G1 h1 S1 R1 q1=>?_⟩;cases hb:instD T G1 d with
  |none=>rw[hb] at q1;exact q1.elim
  |some b=>
   rw[hb] at q1;exact⟨d,v,G1,b,rfl,h1,R1,hb,k _ H1 (.bl b) G1 qalz S1 R1 q1⟩
end
def tupI(ns:List Int):D:=.tup (ns.map D.int)
section
variable {P:Program} {w:World} {H:Hp} {h:Heap} {a:Addr} {o:HO}
theorem quez(x:ObjOk P w H h a o):∃o,h.get? a=some o:=by
 cases o with
 |lst xs=>obtain⟨_,_,_,_,e⟩:=x;exact⟨_,e⟩
 |tup xs=>obtain⟨_,_,_,o,e,_⟩:=x;exact⟨_,e⟩
 |dK kvs=>obtain⟨_,_,_,_,o,_,_,e,_⟩:=x;exact⟨_,e⟩
 |dT kvs=>obtain⟨_,_,_,_,o,_,_,e,_⟩:=x;exact⟨_,e⟩
 |set S n=>obtain⟨o,_,_,_,e,_⟩:=x;exact⟨_,e⟩
 |ins C dx fs=>obtain⟨_,_,_,e,_⟩:=x;exact⟨_,e⟩
 |own y=>obtain⟨_,e⟩:=x;exact⟨_,e⟩
 |xd fs=>obtain⟨_,⟨_,_,_,e,_⟩,_⟩:=x;exact⟨_,e⟩
 |rng lo hi=>obtain⟨_,_,_,e⟩:=x;exact⟨_,e⟩
 |frz ob u=>obtain⟨e,_⟩:=x;exact⟨_,e⟩
 |tbl ps=>exact⟨_,(show h.get? a=some _ from x)⟩
 |met f y=>exact⟨_,(show h.get? a=some _ from x)⟩
 |ext φ=>obtain⟨_,⟨_,e⟩,_⟩:=x;exact⟨_,e⟩
end
section
variable {X:Cx} {pins:List (Addr×Obj)} {σ:L2.St} {H:Hp} {s:Shared}
theorem Inv.freeN(I:Inv X pins σ H s){a:Addr}(hn:s.heap.get? a=none):H a=none:=by
 cases e:H a with
 |none=>rfl
 |some o=>
  obtain⟨ob,h⟩:=quez (I.hok a o e);rw[hn] at h;cases h
theorem Inv.laidN{a:Addr}{o:HO}{t':Nat}{h':Heap}(I:Inv X pins σ H s)(k:∀b u,s.heap.get? b=some u->h'.get? b=some u)(hn:s.heap.get? a=none)(new:ObjOk X.prog X.w (upd H a o) h' a o):
  Inv X pins σ (upd H a o) { s with heap:=h',toks:=t' }:=by
 have hH:=Inv.freeN I hn;have ne:∀b u,s.heap.get? b=some u->b≠a:=fun b u e z=>by rw[z,hn] at e;cases e
 refine I.un ⟨fun b u q _ _ _=>k b u q,fun b u q _ _ _=>⟨u.slots,k b u q⟩,fun b u q n _=>by rw[qmz (ne b u q)];exact n,fun b u q _=>⟨u,k b u q⟩,fun b xs q=>by rw[qmz (qajz q hH)];exact q,
  fun b u xs q=>by rw[qmz (qajz q hH)];exact q,fun b ps q=>⟨#[],by rw[qmz (qajz q hH),q];simp⟩⟩ fun b u e=>?_
 by_cases hb:b=a
 ·subst hb;rw[quz] at e;cases e;exact new
 ·rw[qmz hb] at e;exact (I.hok b u e).stay (fun c v _ q=>k c v q) (fun c q=>by rw[qmz (qajz q hH)];exact q) fun c xs q=>by rw[qmz (qajz q hH)];exact q
theorem qkfz{ns:List Int}:∀{us:List Value},Vals (ns.map V.int) us->ItemsAre (intKind X.prog X.w) ns us:=by
 induction ns with
 |nil=>intro us r;cases r;exact .nil
 |cons n ns ih=>
  intro us r;cases r with
  |cons r1 r2=>
   obtain⟨t,rfl⟩:=(show ∃t,_=Value.int n t from r1);exact .cons (by show Value.isInt n (.int n t)=true;simp[Value.isInt]) (ih r2)
theorem qggz(I:Inv X pins σ H s):∀{nss:List (List Int)} {vs:List V} {us:List Value},Hvs X.K H (nss.map tupI) vs->Vals vs us ->
  ∃ps:List (List Int×Addr),ps.map (·.1)=nss/\vs=ps.map (fun p=>.ref p.2)/\us=ps.map (fun p=>Value.ref p.2)/\∀p∈ps,SqT X.K H p.2 (p.1.map V.int)/\SetM.IsK X.prog X.w s.heap p.1 p.2
 |[],vs,us,h,r=>by
  cases h.inv0;cases r;exact⟨[],rfl,rfl,rfl,fun p hp=>nomatch hp⟩
 |ns::nss,vs,us,h,r=>by
  obtain⟨v,vr,rfl,q1,q2⟩:=h.inv;cases r with
  |cons r1 r2=>
   obtain⟨ps,e1,e2,e3,e4⟩:=qggz I q2 r2;obtain⟨a,ws,rfl,z1,z2⟩:=qakz q1;have hw:ws=ns.map V.int:=by
    refine qbkz z2 ?_;clear z2 z1 q1 h e1 e2 e3 e4 q2 r2 r1
    induction ns with
    |nil=>rfl
    |cons n ns ih=>simp[intsOf,ih]
   subst hw;cases (show _=Value.ref a from r1);obtain⟨its,rv,⟨o,h1,h2,n,h3⟩,_⟩:=I.tuple z1;refine⟨(ns,a)::ps,by simp[e1],by simp[e2],by simp[e3],fun p hp=>?_⟩;rcases List.mem_cons.mp hp with rfl|hp
   ·exact⟨z1,o,its.toArray,n,h1,h2,h3,qkfz rv⟩
   ·exact e4 p hp
theorem qghz{K:PySem.W.Frag}{H:Hp}:∀{qs:List (List Int×Addr)},(∀p∈qs,SqT K H p.2 (p.1.map V.int))->Hvs K H ((qs.map (·.1)).map tupI) (qs.map fun p=>.ref p.2)
 |[],_=>.nil
 |q::qs,h=>.cons (qbcz (h q List.mem_cons_self) (Hvs.ints _)) (qghz fun p hp=>h p (List.mem_cons_of_mem _ hp))
theorem qkgz:∀(qs:List (List Int×Addr)),Vals (qs.map fun p=>V.ref p.2) (qs.map fun p=>Value.ref p.2)
 |[]=>.nil
 |q::qs=>.cons rfl (qkgz qs)
def RiseL(nss:List (List Int)):Prop:=nss.Pairwise fun x y=>SortV.lx y x=false
theorem qkhz{Q:VK}(I:Inv X pins σ H s){ps qs:List (List Int×Addr)}{s':Shared}{c:Nat}{D':Addr}(hz:ps.length<64)(hS:SortV.Srt ps qs)(hn:s.heap.get? D'=none)(hD:s'.heap.get? D'=some (seqObj "list" (qs.map fun p=>Value.ref p.2).toArray c))
  (hm:Moved [] (fun x y=>y=x) s s') (q:H D'=none->Q (.ref D') (upd H D' (.lst (qs.map fun p=>.ref p.2)))):EP X pins σ Q (.ref D') s':=by
 have e:s'={ s with heap:=s'.heap,toks:=s'.toks }:=by
  cases s';cases s;have h1:=hm.gens;have h2:=hm.drawn;have h3:=hm.os;simp only at h1 h2 h3;subst h1 h2 h3;rfl
 rw[e];refine⟨.ref D',_,Inv.laidN I (o:=.lst (qs.map fun p=>.ref p.2)) (fun b u z=>hm.heap b u (fun y=>nomatch y) z) hn ?_,rfl,q (Inv.freeN I hn)⟩;refine⟨?_,_,c,qkgz qs,hD⟩;rw[List.length_map,hS.perm.length_eq,sizeLine_eq];omega
theorem qufz(hc:X.calm=true)(hu:X.A.units+64<cLine):CallR X (.builtin "sorted") (fun vs H Q=>∃(a:Addr) (xs:List V) (nss:List (List Int)),vs=[.ref a]/\SqL X.K H a xs/\Hvs X.K H (nss.map tupI) xs/\nss.length<64/\(∀ns∈nss,ns≠[]) ∧
  ∀(p:Addr) (mss:List (List Int)) (ys:List V),H p=none->mss.Perm nss->RiseL mss->Hvs X.K H (mss.map tupI) ys->Q (.ref p) (upd H p (.lst ys))):=by
 intro pins s σ H vs us Q I r h;obtain⟨a,xs,nss,rfl,hl,hv,hz,hne,q⟩:=h;obtain⟨u,rfl,ru⟩:=vals1 r;cases ru;obtain⟨its,rv,pl,_⟩:=I.list hl;obtain⟨ps,e1,e2,e3,e4⟩:=qggz I hv rv;subst e3;have hlen:ps.length=nss.length:=by rw[←e1,List.length_map]
 refine SortV.sorted_of (ps:=ps) (fun p hp=>⟨(e4 p hp).2,hne _ (by rw[←e1];exact List.mem_map.mpr ⟨p,hp,rfl⟩)⟩) (by omega) (fun R hR=>?_) fun qs s' c D' hS hn hD hm=>?_
 ·refine collect_list pl.isList (hR _ ⟨fun b o _ e=>?_,rfl,rfl,rfl,Nat.le_refl _⟩) (by rw[List.length_map,sizeLine_eq];omega);have hlt:=Heap.lt_size e;show ((s.heap.push (seqObj "list" #[] 0)).update s.heap.objs.size _).get? b=some o;rw[Heap.get?_update_other _ _ (Nat.ne_of_gt hlt)];exact Heap.get?_push_of_some _ e
 ·refine qkhz I (by omega) hS hn hD hm fun hf=>?_;refine q _ (qs.map (·.1)) _ hf (by rw[←e1];exact hS.perm.map _) ?_ (qghz fun p hp=>(e4 p (hS.perm.mem_iff.mp hp)).1);exact List.pairwise_map.mpr hS.rise
end
end L3
namespace L3
open PySem PySem.Spec PyProof.Rows L2
def setφ(P:Program)(w:World)(b:Addr)(zs:List (List Int×Addr)):Heap->Prop:=fun h=>∃o es ep t,h.get? b=some o/\o.ExactSet/\o.data=.set es ep t/\es.toList=zs.map (SetM.ent P w)/\(zs.map (·.1)).Nodup/\t.plain=true ∧
 t.led=(!(w.params.followText "set-order"))/\SetP.Tab t (es.toList.map (·.1))
theorem qugz{α β:Type}{f:α->β}{l l':List β}(h:l.Perm l'):∀{zs:List α},l'=zs.map f->∃zs':List α,zs'.Perm zs/\l=zs'.map f:=by
 induction h with
 |nil=>
  intro zs e;have:zs=[]:=by simpa using e.symm
  subst this;exact⟨[],.nil,rfl⟩
 |cons x _ ih=>
  intro zs e;cases zs with
  |nil=>cases e
  |cons z zs=>
   simp only[List.map_cons,List.cons.injEq] at e;obtain⟨zs',h1,h2⟩:=ih e.2;exact⟨z::zs',h1.cons z,by simp[e.1,h2]⟩
 |swap x y l=>
  intro zs e;rcases zs with _|⟨z,_|⟨z2,zs⟩⟩
  ·cases e
  ·simp at e
  ·simp only[List.map_cons,List.cons.injEq] at e;exact⟨z2::z::zs,.swap _ _ _,by simp[e.1,e.2.1,e.2.2]⟩
 |trans _ _ ih1 ih2=>
  intro zs e;obtain⟨z2,h1,h2⟩:=ih2 e;obtain⟨z1,h3,h4⟩:=ih1 h2;exact⟨z1,h3.trans h1,h4⟩
section
variable {X:Cx}
theorem quhz(hc:X.calm=true)(hu:X.A.units+64<cLine):CallR X (.type "set") (fun vs H Q=>∃(a:Addr) (xs:List V) (nss:List (List Int)),vs=[.ref a]/\SqL X.K H a xs/\Hvs X.K H (nss.map tupI) xs/\nss.length≤60 ∧
  ∀(b:Addr) (zs:List (List Int×Addr)),H b=none->(∀p∈zs,SqT X.K H p.2 (p.1.map V.int))->(∀ns,ns∈zs.map (·.1)↔ns∈nss)->(zs.map (·.1)).Nodup->zs.length≤nss.length->Q (.ref b) (upd H b (.ext (setφ X.prog X.w b zs)))):=by
 intro pins s σ H vs us Q I r h;obtain⟨a,xs,nss,rfl,hl,hv,hz,q⟩:=h;obtain⟨u,rfl,ru⟩:=vals1 r;cases ru;obtain⟨its,rv,pl,_⟩:=I.list hl;obtain⟨ps,e1,e2,e3,e4⟩:=qggz I hv rv;subst e3;have hlen:ps.length=nss.length:=by rw[←e1,List.length_map]
 refine SetM.call_set_tups (ps:=ps) (I.ok.hd hc) pl.isList rfl (fun p hp=>(e4 p hp).2) (by omega) (by omega) fun h' tk zs kk hS hD=>?_;obtain⟨o,es,ep,t,S,T⟩:=hS;refine⟨.ref s.heap.objs.size,_,I.laid (o:=.ext (setφ X.prog X.w s.heap.objs.size zs)) kk (Nat.le_refl _) ?_,rfl,q _ zs (I.hok.fresh (Nat.le_refl _)) (fun p hp=>(e4 p (hD.sub p hp)).1) (fun ns=>?_) S.nd ?_⟩
 ·refine⟨⟨o,es,ep,t,S.at_,S.ex,S.dat,S.ents,S.nd,S.plain,S.led,T⟩,⟨o,S.at_⟩,fun h1 h2 ⟨o',es',ep',t',y1,y⟩ kk2=>⟨o',es',ep',t',kk2 _ y1,y⟩⟩
 ·rw[←e1];constructor
  ·intro hm;obtain⟨p,hp,rfl⟩:=List.mem_map.mp hm;exact List.mem_map.mpr ⟨p,hD.sub p hp,rfl⟩
  ·intro hm;obtain⟨p,hp,rfl⟩:=List.mem_map.mp hm;exact hD.all p hp
 ·rw[←hlen];exact hD.len
theorem quiz(hc:X.calm=true)(hu:X.A.units+64<cLine):CallR X (.builtin "sorted") (fun vs H Q=>∃(b:Addr) (zs:List (List Int×Addr)),vs=[.ref b]/\H b=some (.ext (setφ X.prog X.w b zs))/\(∀p∈zs,SqT X.K H p.2 (p.1.map V.int))/\zs.length≤60/\(∀p∈zs,p.1≠[]) ∧
  ∀(p:Addr) (mss:List (List Int)) (ys:List V),H p=none->mss.Perm (zs.map (·.1))->RiseL mss->Hvs X.K H (mss.map tupI) ys->Q (.ref p) (upd H p (.lst ys))):=by
 intro pins s σ H vs us Q I r h;obtain⟨b,zs,rfl,hb,hk,hz,hne,q⟩:=h;obtain⟨u,rfl,ru⟩:=vals1 r;cases ru;obtain⟨⟨o,es,ep,t,y1,y2,y3,y4,y5,y6,y7,T⟩,_⟩:=(show ObjOk X.prog X.w H s.heap b _ from I.hok b _ hb);have hK:∀p∈zs,SetM.IsK X.prog X.w s.heap p.1 p.2:=fun p hp=>by
  obtain⟨its,rv,⟨o,h1,h2,n,h3⟩,_⟩:=I.tuple (hk p hp);exact⟨o,its.toArray,n,h1,h2,h3,qkfz rv⟩
 have S:SetM.SetAt X.prog X.w s.heap b o es ep t zs:=⟨y1,y2,y3,y4,hK,y5,y6,y7⟩;obtain⟨zs',p1,p2⟩:=qugz (SetM.walkL_perm X.w b ep es) y4;have hsz:es.size=zs.length:=by
  have:es.toList.length=zs.length:=by rw[y4,List.length_map]
  simpa using this
 refine SortV.sorted_of (ps:=zs') (fun p hp=>⟨hK p (p1.mem_iff.mp hp),hne p (p1.mem_iff.mp hp)⟩) (by rw[p1.length_eq];omega) (fun R hR=>?_) fun qs s' c D' hS hn hD hm=>?_
 ·refine SetM.wp_collect_set (by have:=I.ok.hd hc;simpa using this) S T (by omega) fun s' hm=>?_;have:=hR s' hm;rw[p2,List.map_map];exact this
 ·refine qkhz I (by rw[p1.length_eq];omega) hS hn hD hm fun hf=>?_;refine q _ (qs.map (·.1)) _ hf ((hS.perm.map _).trans (p1.map _)) ?_ (qghz fun p hp=>hk p (p1.mem_iff.mp (hS.perm.mem_iff.mp hp)));exact List.pairwise_map.mpr hS.rise
end
section
variable {X:Cx} {K:PySem.W.Frag} {e:Expr} {es:List Expr} {t:TA3} {ta:TE3} {pos p p' pos':Pos}
def qc2z:C3:=fun ds G Q=>match ds with
 |[.obj a]=>∃nss:List (List Int),G a=some (.lst (nss.map tupI))/\nss.length<64/\(∀ns∈nss,ns≠[])/\∀(p:Addr) (mss:List (List Int)) (G':Gp),New G p (.lst (mss.map tupI)) G'->mss.Perm nss->RiseL mss->Q (.obj p) G'
 |_=>False
theorem qujz:LowC K qc2z (fun vs H Q=>∃(a:Addr) (xs:List V) (nss:List (List Int)),vs=[.ref a]/\SqL K H a xs/\Hvs K H (nss.map tupI) xs/\nss.length<64/\(∀ns∈nss,ns≠[]) ∧
  ∀(p:Addr) (mss:List (List Int)) (ys:List V),H p=none->mss.Perm nss->RiseL mss->Hvs K H (mss.map tupI) ys->Q (.ref p) (upd H p (.lst ys))):=fun ds vs G H Q3 Q h RG q k=>by
 rcases ds with _|⟨d,_|⟨d2,ds⟩⟩
 ·exact q.elim
 ·obtain⟨v,rfl,hv⟩:=hvs1 h;cases d with
  |obj a=>
   obtain⟨nss,e1,hz,hne,q⟩:=q;obtain⟨xs,e2,e3⟩:=RG a _ e1;rw[qyz hv];exact⟨a,xs,nss,rfl,.of e2,e3,hz,hne,fun p mss ys hp h1 h2 h3=>k _ _ (.obj p) _ qcdz (.laidG hp) (RG.newL hp h3) (q p mss _ (.mk' (RG.free hp)) h1 h2)⟩
  |_=>exact q.elim
 ·cases d<;>exact q.elim
theorem qukz(hu:X.A.units+64<cLine)(hm:X.mg "sorted" = none)(ha:PA3 X (e::es) t)(hc:X.calm=true:=by rfl)(hg:Gl X "sorted":=by rfl)(he:notStar e=true:=by rfl)(hpl:es.all notStar=true:=by rfl):
  PE3 X (.Call (.Name "sorted" p) (e::es) [] pos) (eCB qc2z t):=e_cb qujz (qbhz (qufz hc hu) hg hm rfl ha (he:=qnz he) (hpl:=qaez hpl))
def eSortSet(ta:TE3):TE3:=fun τ G Q=>ta τ G fun x G1=>match x with
 |.obj a=>∃nss:List (List Int),G1 a=some (.lst (nss.map tupI))/\nss.length≤60/\(∀ns∈nss,ns≠[])/\∀(p:Addr) (mss:List (List Int)) (G':Gp),New G1 p (.lst (mss.map tupI)) G'->(∀ns,ns∈mss↔ns∈nss)->mss.Nodup->RiseL mss->mss.length≤nss.length->Q (.obj p) G'
 |_=>False
theorem qulz(hu:X.A.units+64<cLine)(ha:PE3 X e ta)(hm:X.mg "sorted" = none)(hm2:X.mg "set" = none)(hc:X.calm=true:=by rfl)(hg:Gl X "sorted":=by rfl)(hg2:Gl X "set":=by rfl)(he2:notStar e=true:=by rfl):
  PE3 X (.Call (.Name "sorted" p) [.Call (.Name "set" p') [e] [] pos'] [] pos) (eSortSet ta):=
 qxz (qbhz (quiz hc hu) hg hm rfl (qbqz (qeaz (quhz hc hu) hg2 hm2 rfl (qbqz ha qccz (qnz he2)) (he:=qnz he2) (hpl:=qaez rfl)) qccz (qnz rfl)) (he:=qnz rfl) (hpl:=qaez rfl)) fun σ H Q ⟨τ,G,Q3,RS,RG,h,k⟩=>by
  refine⟨τ,G,_,RS,RG,h,fun v H1 d G1 h1 S1 R1 q1=>?_⟩;cases d with
  |obj a=>
   obtain⟨nss,e1,hz,hne,q⟩:=q1;obtain⟨xs,e2,e3⟩:=R1 a _ e1;rw[qyz h1];refine⟨a,xs,nss,rfl,.of e2,e3,hz,fun b zs hb hk hmem hnd hlen=>?_⟩;have E2:Ext H1 (upd H1 b (.ext (setφ X.prog X.w b zs))):=.laid hb;refine⟨b,zs,rfl,quz,fun p hp=>SqT.ext E2 (hk p hp),by omega,fun p hp=>hne _ ((hmem _).mp (List.mem_map.mpr ⟨p,hp,rfl⟩)),fun p mss ys hp hpm hr hv=>?_⟩;have R2:RepG X.K G1 (upd H1 b (.ext (setφ X.prog X.w b zs))):=R1.laid hb;refine k _ _ (.obj p) _ qcdz ((S1.trans (.laid hb)).trans (.laidG hp)) (R2.newL hp hv) (q p mss _ (.mk' (R2.free hp)) (fun ns=>?_) ?_ hr ?_)
   ·rw[hpm.mem_iff];exact hmem ns
   ·exact hpm.nodup_iff.mpr hnd
   ·rw[hpm.length_eq,List.length_map];exact hlen
  |_=>exact q1.elim
def blsOf:List D->Option (List Bool)
 |[]=>some []
 |.bl b::r=>(blsOf r).map (b::·)
 |_::_=>none
theorem qkiz{H:Hp}:∀{ds:List D} {vs:List V} {bs:List Bool},Hvs K H ds vs->blsOf ds=some bs->vs=bs.map V.bl
 |[],vs,ns,h,e=>by
  cases e;exact h.inv0
 |d::ds,vs,ns,h,e=>by
  cases d with
  |bl i=>
   obtain⟨v,r,rfl,z1,z2⟩:=h.inv;unfold blsOf at e;cases hm:blsOf ds with
   |none=>rw[hm] at e;cases e
   |some ms=>
    rw[hm] at e;cases e;rw[qcxz z1,qkiz z2 hm];rfl
  |_=>cases e
theorem qkjz:∀{bs:List Bool} {us:List Value},Vals (bs.map V.bl) us->us=bs.map Value.bool
 |[],_,.nil=>rfl
 |b::bs,_,.cons r rr=>by
  rw[(show _=Value.bool b from r),qkjz rr];rfl
theorem range_all(bs:List Bool):(List.range bs.length).all (fun i=>bs.getD i false)=bs.all id:=by
 rw[Bool.eq_iff_iff];simp only[List.all_eq_true,List.mem_range,id_eq];constructor
 ·intro h b hb;obtain⟨i,hi,rfl⟩:=List.mem_iff_getElem.mp hb;have:=h i hi;simpa [List.getD,hi] using this
 ·intro h i hi;have:=h bs[i] (List.getElem_mem hi);simpa [List.getD,hi] using this
theorem qeqz(hc:X.calm=true){pins:List (Addr×Obj)}{s:Shared}{σ:L2.St}{H:Hp}{a:Addr}{xs:List V}{E:Value->Shared->Prop}(I:Inv X pins σ H s)(hl:SqL X.K H a xs){Q:Value->Shared->Prop}
  (q:∀(its:List Value) (I':Addr),Vals xs its->WalksS X.prog X.w X.A.in1 I' [I',a] [I'] (fun x y=>y=x) its.length (fun i v=>its[i]?=some v) (fun i s=>s.heap.IsListIter I' a i/\s.heap.IsList a its.toArray) ->
   (s.heap.push { cls:=.type "list_iterator",data:=.fields #[.ref a,.int 0 0]}).IsListIter I' a 0->(s.heap.push { cls:=.type "list_iterator",data:=.fields #[.ref a,.int 0 0]}).IsList a its.toArray ->
   (∀b∈[I',a],b<(s.heap.push { cls:=.type "list_iterator",data:=.fields #[.ref a,.int 0 0]}).objs.size) ->
   (∀s',Moved [I'] (fun x y=>y=x) { s with heap:=s.heap.push { cls:=.type "list_iterator",data:=.fields #[.ref a,.int 0 0]}} s'->Inv X pins σ H s')->Q (.ref I') { s with heap:=s.heap.push { cls:=.type "list_iterator",data:=.fields #[.ref a,.int 0 0]}}):
  wpAny (model X.prog X.w) X.A.in1 (pyIter (.ref a)) Q E s:=by
 obtain⟨its,rv,pl,_⟩:=I.list hl;have hla:a<s.heap.objs.size:=by
  obtain⟨o,h1,_⟩:=pl.isList;exact Heap.lt_size h1
 refine wpAny_pyIter_list pl.isList ?_;have hW:=(Walks.list (prog:=X.prog) (w:=X.w) (A:=X.A.in1) (by have:=I.ok.hd hc;simpa using this) s.heap.objs.size a (Nat.ne_of_lt hla) its.toArray).toS;refine q its s.heap.objs.size rv (by simpa using hW) ⟨_,Heap.get?_push_size _ rfl,rfl,rfl⟩ ?_ ?_ fun s' hm=>?_
 ·obtain⟨o,h1,h2⟩:=pl.isList;exact⟨o,Heap.get?_push_of_some _ h1,h2⟩
 ·intro b hb;rw[size_push'];rcases List.mem_cons.mp hb with e|e
  ·rw[e];exact Nat.lt_succ_self _
  ·have:b=a:=by simpa using e
   rw[this];exact Nat.lt_succ_of_lt hla
 ·have e:s'={ s with heap:=s'.heap,toks:=s'.toks }:=by
   cases s';cases s;have h1:=hm.gens;have h2:=hm.drawn;have h3:=hm.os;simp only at h1 h2 h3;subst h1 h2 h3;rfl
  rw[e];exact I.kept fun b u z=>hm.heap b u (fun y=>by
   have:b=s.heap.objs.size:=by simpa using y
   exact absurd (this▸Heap.lt_size z) (Nat.lt_irrefl _)) (Heap.get?_push_of_some _ z)
theorem qumz(hc:X.calm=true):CallR X (.builtin "all") (fun vs H Q=>∃(a:Addr) (bs:List Bool),vs=[.ref a]/\SqL X.K H a (bs.map V.bl)/\Q (.bl (bs.all id)) H):=by
 intro pins s σ H vs us Q I r h;obtain⟨a,bs,rfl,hl,q⟩:=h;obtain⟨u,rfl,ru⟩:=vals1 r;cases ru;refine call_all_walkS (qeqz hc I hl fun its I' rv W h1 h2 h3 back=>⟨I',_,_,_,_,_,_,fun i=>bs.getD i false,rfl,W,⟨h1,h2⟩,?_,fun s' hm=>?_⟩)
 ·intro i v s' Q' E' hv hq;have hx:=qkjz rv;subst hx;rw[List.getElem?_map] at hv;cases hb:bs[i]? with
  |none=>rw[hb] at hv;cases hv
  |some b=>
   rw[hb] at hv;cases hv;have:bs.getD i false=b:=by simp[List.getD,hb]
   dsimp only at hq;rw[this] at hq;exact wpAny_truthy_bool hq
 ·have:its.length=bs.length:=by rw[←rv.length,List.length_map]
  rw[this,range_all];exact⟨.bl (bs.all id),H,back s' hm,rfl,q⟩
theorem qkkz(ns:List Int):∀k,k≤ns.length->preSum (fun i=>ns.getD i 0) k=(ns.take k).sum
 |0,_=>by simp[preSum]
 |k+1,hk=>by
  rw[preSum,qkkz ns k (by omega),List.take_succ,List.sum_append];have:k<ns.length:=by omega
  simp[List.getD,this]
theorem qunz(hc:X.calm=true):CallR X (.builtin "sum") (fun vs H Q=>∃(a:Addr) (ns:List Int),vs=[.ref a]/\SqL X.K H a (ns.map V.int)/\Q (.int ns.sum) H):=by
 intro pins s σ H vs us Q I r h;obtain⟨a,ns,rfl,hl,q⟩:=h;obtain⟨u,rfl,ru⟩:=vals1 r;cases ru;refine call_sum_walkAnyS (qeqz hc I hl fun its I' rv W h1 h2 h3 back=>⟨I',_,_,_,_,_,_,fun i=>ns.getD i 0,rfl,W,⟨h1,h2⟩,h3,?_,fun s' t' hm=>?_⟩)
 ·intro i v hv;have hi:i<ns.length:=by
   have h4:its.length=ns.length:=by rw[←rv.length,List.length_map]
   have:=(List.getElem?_eq_some_iff.mp hv).1;omega
  obtain⟨u',e1,e2⟩:=rv.get (i:=i) (x:=.int ns[i]) (by rw[List.getElem?_map,List.getElem?_eq_getElem hi];rfl);rw[hv] at e1;cases e1;obtain⟨t,rfl⟩:=(show ∃t,v=Value.int ns[i] t from e2);exact⟨t,by simp[List.getD,hi]⟩
 ·have h4:its.length=ns.length:=by rw[←rv.length,List.length_map]
  rw[h4,qkkz ns ns.length (Nat.le_refl _),List.take_length];exact⟨.int ns.sum,H,back s' hm,⟨t',rfl⟩,q⟩
def qbwz:C3:=fun ds G Q=>match ds with
 |[.obj a]=>∃xs bs,G a=some (.lst xs)/\blsOf xs=some bs/\Q (.bl (bs.all id)) G
 |_=>False
def qerz:C3:=fun ds G Q=>match ds with
 |[.obj a]=>∃xs ns,G a=some (.lst xs)/\intsOf xs=some ns/\Q (.int ns.sum) G
 |_=>False
theorem quoz:LowC K qbwz (fun vs H Q=>∃(a:Addr) (bs:List Bool),vs=[.ref a]/\SqL K H a (bs.map V.bl)/\Q (.bl (bs.all id)) H):=fun ds vs G H Q3 Q h RG q k=>by
 rcases ds with _|⟨d,_|⟨d2,ds⟩⟩
 ·exact q.elim
 ·obtain⟨v,rfl,hv⟩:=hvs1 h;cases d with
  |obj a=>
   obtain⟨xs,bs,e1,e2,q⟩:=q;obtain⟨ys,e3,e4⟩:=RG a _ e1;rw[qyz hv];rw[qkiz e4 e2] at e3;exact⟨a,bs,rfl,.of e3,k _ H _ G qalz (.refl H G) RG q⟩
  |_=>exact q.elim
 ·cases d<;>exact q.elim
theorem qupz:LowC K qerz (fun vs H Q=>∃(a:Addr) (ns:List Int),vs=[.ref a]/\SqL K H a (ns.map V.int)/\Q (.int ns.sum) H):=fun ds vs G H Q3 Q h RG q k=>by
 rcases ds with _|⟨d,_|⟨d2,ds⟩⟩
 ·exact q.elim
 ·obtain⟨v,rfl,hv⟩:=hvs1 h;cases d with
  |obj a=>
   obtain⟨xs,bs,e1,e2,q⟩:=q;obtain⟨ys,e3,e4⟩:=RG a _ e1;rw[qyz hv];rw[qbkz e4 e2] at e3;exact⟨a,bs,rfl,.of e3,k _ H _ G q9z (.refl H G) RG q⟩
  |_=>exact q.elim
 ·cases d<;>exact q.elim
theorem quqz(hu:X.A.units+64<cLine)(hm:X.mg "all" = none)(ha:PA3 X (e::es) t)(hc:X.calm=true:=by rfl)(hg:Gl X "all":=by rfl)(he:notStar e=true:=by rfl)(hpl:es.all notStar=true:=by rfl):
  PE3 X (.Call (.Name "all" p) (e::es) [] pos) (eCB qbwz t):=e_cb quoz (qbhz (qumz hc) hg hm rfl ha (he:=qnz he) (hpl:=qaez hpl))
theorem qurz(hu:X.A.units+64<cLine)(hm:X.mg "sum" = none)(ha:PA3 X (e::es) t)(hc:X.calm=true:=by rfl)(hg:Gl X "sum":=by rfl)(he:notStar e=true:=by rfl)(hpl:es.all notStar=true:=by rfl):
  PE3 X (.Call (.Name "sum" p) (e::es) [] pos) (eCB qerz t):=e_cb qupz (qbhz (qunz hc) hg hm rfl ha (he:=qnz he) (hpl:=qaez hpl))
end
end L3
namespace L3
open PySem PySem.Spec PyProof.Rows L2
open Sem (wp)
def Ik(k:Bool)(h:Heap)(jt a:Addr)(i:Nat):Prop:=match k with
 |true=>h.IsListIter jt a i
 |false=>h.IsTupleIter jt a i
def Sk(k:Bool)(h:Heap)(a:Addr)(xs:Array Value):Prop:=match k with
 |true=>h.IsList a xs
 |false=>h.IsTuple a xs
theorem Ik.of{k:Bool}{h h':Heap}{jt a:Addr}{i:Nat}(x:Ik k h jt a i)(f:∀o,h.get? jt=some o->h'.get? jt=some o):Ik k h' jt a i:=by
 cases k<;>(obtain⟨o,e,r⟩:=x;exact⟨o,f o e,r⟩)
theorem Sk.of{k:Bool}{h h':Heap}{a:Addr}{xs:Array Value}(x:Sk k h a xs)(f:∀o,h.get? a=some o->h'.get? a=some o):Sk k h' a xs:=by
 cases k<;>(obtain⟨o,e,r⟩:=x;exact⟨o,f o e,r⟩)
theorem Ik.obj{k:Bool}{h:Heap}{jt a:Addr}{i:Nat}(x:Ik k h jt a i):∃o,h.get? jt=some o/\∀v,o.data≠.cell v:=by
 cases k<;>(obtain⟨o,e,c,d⟩:=x;exact⟨o,e,fun v z=>by rw[d] at z;cases z⟩)
section
variable {P:Program} {w:World} {A:Around} {E:Value->Shared->Prop} {s:Shared}
theorem nextK{k:Bool}{jt a:Addr}{i:Nat}{xs:Array Value}{u:Value}{Q:Value->Shared->Prop}(hi:Ik k s.heap jt a i)(ha:Sk k s.heap a xs)(hx:xs[i]?=some u)
  (q:∀h',Ik k h' jt a (i+1)->Heap.SameBut jt s.heap h'->Q u { s with heap:=h' }):wpAny (model P w) A (Builtin.SmallTypes.nextOf (.ref jt)) Q E s:=by
 cases k with
 |true=>exact wpAny_nextOf_list_item hi ha hx q
 |false=>
  have hi:s.heap.IsTupleIter jt a i:=hi;obtain⟨o,e1,c1,d1⟩:=id hi;obtain⟨oa,e2,c2,n2,d2⟩:=(show s.heap.IsTuple a xs from ha);unfold Builtin.SmallTypes.nextOf;refine wpAny_bind (wpAny_callSpecial?_slot (name:=Str.ofString "__next__") hi.typeIs F.slot_tuple_iterator_next (wpAny_call_entry F.slot_tuple_iterator_next hi.typeIs F.entry_tuple_iterator_next ?_ (F.args_tuple_iterator_next_1 _)));show wpAny _ _ (field (.ref jt) 0 >>= _) _ _ s;refine wpAny_bind (wpAny_field e1 d1 (x:=.ref a) rfl ?_);show wpAny _ _ (if (Value.ref a==Value.none)=true then _ else _) _ _ s;rw[if_neg (show ¬((Value.ref a==Value.none)=true) from Bool.false_ne_true)];show wpAny _ _ (field (.ref jt) 1 >>= _) _ _ s;refine wpAny_bind (wpAny_field e1 d1 (x:=.int i 0) rfl ?_);show wpAny _ _ (seqItems? (.ref a) >>= _) _ _ s;refine wpAny_bind (wpAny_seqItems e2 d2 ?_);simp only[hx,Int.toNat_natCast];refine wpAny_bind (wpAny_setField e1 d1 (by simp) (wpAny_pure ⟨u,rfl,wpAny_pure (q _ ?_ (Heap.SameBut.update ..))⟩));exact⟨_,Heap.get?_update_self _ e1 (Obj.isFreed_of_fields (Obj.data_mapFields d1 _)),(Obj.cls_mapFields ..).trans c1,by rw[Obj.data_mapFields d1];simp[rawInt]⟩
theorem qesz{k:Bool}{jt a:Addr}{i:Nat}{xs:Array Value}{Q:Value->Shared->Prop}(hh:A.handled=none)(hi:Ik k s.heap jt a i)(ha:Sk k s.heap a xs)(hx:xs[i]?=none)
  (q:∀h' e,Heap.ExtBut jt s.heap h'->(∃o,h'.get? e=some o/\o.cls=.type "StopIteration")->E (.ref e) { s with heap:=h' }):wpAny (model P w) A (Builtin.SmallTypes.nextOf (.ref jt)) Q E s:=by
 cases k with
 |true=>exact wpAny_nextOf_list_end hh hi ha hx q
 |false=>
  have hi:s.heap.IsTupleIter jt a i:=hi;obtain⟨o,e1,c1,d1⟩:=id hi;obtain⟨oa,e2,c2,n2,d2⟩:=(show s.heap.IsTuple a xs from ha);unfold Builtin.SmallTypes.nextOf;refine wpAny_bind (wpAny_callSpecial?_slot (name:=Str.ofString "__next__") hi.typeIs F.slot_tuple_iterator_next (wpAny_call_entry F.slot_tuple_iterator_next hi.typeIs F.entry_tuple_iterator_next ?_ (F.args_tuple_iterator_next_1 _)));show wpAny _ _ (field (.ref jt) 0 >>= _) _ _ s;refine wpAny_bind (wpAny_field e1 d1 (x:=.ref a) rfl ?_);show wpAny _ _ (if (Value.ref a==Value.none)=true then _ else _) _ _ s;rw[if_neg (show ¬((Value.ref a==Value.none)=true) from Bool.false_ne_true)];show wpAny _ _ (field (.ref jt) 1 >>= _) _ _ s;refine wpAny_bind (wpAny_field e1 d1 (x:=.int i 0) rfl ?_);show wpAny _ _ (seqItems? (.ref a) >>= _) _ _ s;refine wpAny_bind (wpAny_seqItems e2 d2 ?_);simp only[hx,Int.toNat_natCast];refine wpAny_bind (wpAny_rule (wpAny_bind (wpAny_setField e1 d1 (by simp) ?_)));show wpAny _ _ (newExc (.type "StopIteration") [] >>= _) _ _ ({ s with heap:=_ }:Shared);refine wpAny_bind ?_;simp only[newTuple,newExc];refine wpAny_bind (wpAny_newObj_type ?_ (by size_fits));refine wpAny_bind (m:=firstArgMember _ _) (wpAny_of_eq (a:=Value.none) (by first|(simp only[firstArgMember];rfl)|rfl) ?_)
  refine wpAny_newObj_type ?_ (by size_fits);simp only[raiseNew];refine wpAny_bind (wpAny_handled ?_)
  first|rw[hh]|rw[show A.in1.handled=none from hh]
  refine wpAny_bind (wpAny_pure (wpAny_throw ?_));exact q _ _ (((Heap.SameBut.update ..).extBut.push _).push _) ⟨_,Heap.get?_push_size _ rfl,rfl⟩
theorem zipK{k1 k2:Bool}{zz ti ot j1 j2 a1 a2:Addr}{m n:Nat}{xs ys:Array Value}{u v c d:Value}{Q:Value->Shared->Prop}(D:ZipApart zz ti ot j1 j2 a1 a2)
  (Z:IsZip s.heap zz ti ot .none) (Ti:IsPair s.heap ti (.ref j1) (.ref j2)) (To:IsPair s.heap ot c d) (g1:Ik k1 s.heap j1 a1 m) (g2:Ik k2 s.heap j2 a2 n) (s1:Sk k1 s.heap a1 xs) (s2:Sk k2 s.heap a2 ys) (hu:xs[m]?=some u) (hv:ys[n]?=some v)
  (q:∀h',IsZip h' zz ti ot (rawInt s.heap.objs.size)->IsPair h' ot u v->Ik k1 h' j1 a1 (m+1)->Ik k2 h' j2 a2 (n+1)->IsPair h' s.heap.objs.size u v ->
   (∀b o,b≠zz->b≠ot->b≠j1->b≠j2->s.heap.get? b=some o->h'.get? b=some o)->Q (.ref s.heap.objs.size) { s with heap:=h' }):
  wpAny (model P w) A (Builtin.«zip.__next__» ⟨[.ref zz],[]⟩) (fun fin s'=>∃r,fin=.done (.ret r)/\Q r s') E s:=by
 show wpAny _ _ (field (.ref zz) 2 >>= _) _ _ _;refine wpAny_bind (wpAny_field Z rfl (x:=.bool false) rfl ?_);show wpAny _ _ (field (.ref zz) 3 >>= _) _ _ _;refine wpAny_bind (wpAny_field Z rfl (x:=.ref ti) rfl ?_);refine wpAny_bind (wpAny_seqItems Ti rfl ?_);show wpAny _ _ (Builtin.SmallTypes.ownedTupleIsFree (.ref zz) >>= _) _ _ _;refine wpAny_bind ?_;unfold Builtin.SmallTypes.ownedTupleIsFree;refine wpAny_bind (wpAny_field Z rfl (x:=.none) rfl (wpAny_pure ?_));simp only[if_true];refine wpAny_bind (wpAny_rule ?_);refine wpAny_bind (wpAny_field Z rfl (x:=.ref ot) rfl ?_);refine wpAny_bind (wpAny_setField_rec Z (by simp) fun w1 Z1 b1=>?_)
 replace Z1:IsZip w1 zz ti ot .ellipsis:=Z1
 refine wpAny_bind ?_
 (simp only[List.zipIdx_nil,List.zipIdx_cons,List.forIn_nil,List.forIn_cons])
 have k1_:∀b o,b≠zz->s.heap.get? b=some o->w1.get? b=some o:=fun b o h e=>b1.extBut b o h e;refine wpAny_bind (wpAny_bind (wpAny_onRaise ?_));show wpAny _ _ (Builtin.SmallTypes.nextOf (.ref j1) >>= _) _ _ _;refine wpAny_bind (nextK (g1.of fun o e=>k1_ _ o D.i1z e) (s1.of fun o e=>k1_ _ o D.l1z e) hu fun w2 J1 b2=>wpAny_pure ?_);have k2_:∀b o,b≠zz->b≠j1->s.heap.get? b=some o->w2.get? b=some o:=fun b o h h2 e=>b2.extBut b o h2 (k1_ b o h e);have To2:IsPair w2 ot c d:=k2_ _ _ D.TOz D.TOi1 To;refine wpAny_bind (wpAny_seqItems To2 rfl ?_);refine wpAny_bind (wpAny_updateSeq_pair To2 fun w3 To3 b3=>?_)
 replace To3:IsPair w3 ot u d:=To3
 have k3_:∀b o,b≠zz->b≠j1->b≠ot->s.heap.get? b=some o->w3.get? b=some o:=fun b o h h2 h3 e=>b3.extBut b o h3 (k2_ b o h h2 e);refine wpAny_bind (wpAny_letGo (wpAny_pure ?_));refine wpAny_bind (wpAny_bind (wpAny_onRaise ?_));show wpAny _ _ (Builtin.SmallTypes.nextOf (.ref j2) >>= _) _ _ _;refine wpAny_bind (nextK (g2.of fun o e=>k3_ _ o D.i2z D.i12.symm D.TOi2.symm e) (s2.of fun o e=>k3_ _ o D.l2z D.l2i1 D.l2TO e) hv fun w4 J2 b4=>wpAny_pure ?_);have To4:IsPair w4 ot u d:=b4.extBut _ _ D.TOi2 To3;refine wpAny_bind (wpAny_seqItems To4 rfl ?_);refine wpAny_bind (wpAny_updateSeq_pair To4 fun w5 To5 b5=>?_)
 replace To5:IsPair w5 ot u v:=To5
 refine wpAny_bind (wpAny_letGo (wpAny_pure (wpAny_pure ?_)));refine wpAny_bind (wpAny_seqItems To5 rfl ?_);refine wpAny_bind (wpAny_newTuple ?_);have sz:w5.objs.size=s.heap.objs.size:=by rw[b5.1,b4.1,b3.1,b2.1,b1.1]
 have Z5:IsZip w5 zz ti ot .ellipsis:=b5.extBut _ _ D.TOz.symm (b4.extBut _ _ D.i2z.symm (b3.extBut _ _ D.TOz.symm (b2.extBut _ _ D.i1z.symm Z1)));have k5_:∀b o,b≠zz->b≠ot->b≠j1->b≠j2->s.heap.get? b=some o->w5.get? b=some o:=fun b o c1 c2 c3 c4 e=>b5.extBut _ _ c2 (b4.extBut _ _ c4 (k3_ b o c1 c3 c2 e));have L1:Ik k1 w5 j1 a1 (m+1):=J1.of fun o e=>b5.extBut _ _ D.TOi1.symm (b4.extBut _ _ D.i12 (b3.extBut _ _ D.TOi1.symm e));have L2:Ik k2 w5 j2 a2 (n+1):=J2.of fun o e=>b5.extBut _ _ D.TOi2.symm e;have lz:zz<w5.objs.size:=Heap.lt_size Z5;show wpAny _ _ (Builtin.SmallTypes.ownedTupleHandOut (.ref zz) (.ref w5.objs.size) >>= _) _ _ _;refine wpAny_bind ?_;unfold Builtin.SmallTypes.ownedTupleHandOut;have Z6:IsZip (w5.push { cls:=.type "tuple",data:=.seq #[u,v]}) zz ti ot .ellipsis:=Heap.get?_push_of_some _ Z5;refine wpAny_bind (wpAny_setField_rec Z6 (by simp) fun w7 Z7 b7=>?_)
 replace Z7:IsZip w7 zz ti ot (rawInt w5.objs.size):=Z7
 refine wpAny_setField_rec Z7 (by simp) fun w8 Z8 b8=>?_
 replace Z8:IsZip w8 zz ti ot (rawInt w5.objs.size):=Z8
 have up:∀b o,b≠zz->w5.get? b=some o->w8.get? b=some o:=fun b o c1 e=>b8.extBut _ _ c1 (b7.extBut _ _ c1 (Heap.get?_push_of_some _ e));have T8:IsPair w8 w5.objs.size u v:=b8.extBut _ _ (Nat.ne_of_gt lz) (b7.extBut _ _ (Nat.ne_of_gt lz) (Heap.get?_push_size _ rfl));rw[sz] at Z8 T8;refine wpAny_pure ⟨_,rfl,?_⟩;show Q (.ref w5.objs.size) _;rw[sz];exact q w8 Z8 (up _ _ D.TOz To5) (L1.of fun o e=>up _ o D.i1z e) (L2.of fun o e=>up _ o D.i2z e) T8 fun b o c1 c2 c3 c4 e=>up b o c1 (k5_ b o c1 c2 c3 c4 e)
theorem qusz{k1 k2:Bool}{zz ti ot j1 j2 a1 a2:Addr}{m n:Nat}{xs ys:Array Value}{c d:Value}{Q:Fin->Shared->Prop}(hh:A.handled=none)(D:ZipApart zz ti ot j1 j2 a1 a2)
  (Z:IsZip s.heap zz ti ot .none) (Ti:IsPair s.heap ti (.ref j1) (.ref j2)) (To:IsPair s.heap ot c d) (g1:Ik k1 s.heap j1 a1 m) (g2:Ik k2 s.heap j2 a2 n) (s1:Sk k1 s.heap a1 xs) (s2:Sk k2 s.heap a2 ys) (he:xs[m]?=none∨ys[n]?=none)
  (q:∀h' e,(∀b o,b≠zz->b≠ot->b≠j1->b≠j2->s.heap.get? b=some o->h'.get? b=some o)->(∃o,h'.get? e=some o/\o.cls=.type "StopIteration")->E (.ref e) { s with heap:=h' }):
  wpAny (model P w) A (Builtin.«zip.__next__» ⟨[.ref zz],[]⟩) Q E s:=by
 show wpAny _ _ (field (.ref zz) 2 >>= _) _ _ _;refine wpAny_bind (wpAny_field Z rfl (x:=.bool false) rfl ?_);show wpAny _ _ (field (.ref zz) 3 >>= _) _ _ _;refine wpAny_bind (wpAny_field Z rfl (x:=.ref ti) rfl ?_);refine wpAny_bind (wpAny_seqItems Ti rfl ?_);show wpAny _ _ (Builtin.SmallTypes.ownedTupleIsFree (.ref zz) >>= _) _ _ _;refine wpAny_bind ?_;unfold Builtin.SmallTypes.ownedTupleIsFree;refine wpAny_bind (wpAny_field Z rfl (x:=.none) rfl (wpAny_pure ?_));simp only[if_true];refine wpAny_bind (wpAny_rule ?_);refine wpAny_bind (wpAny_field Z rfl (x:=.ref ot) rfl ?_);refine wpAny_bind (wpAny_setField_rec Z (by simp) fun w1 Z1 b1=>?_)
 replace Z1:IsZip w1 zz ti ot .ellipsis:=Z1
 refine wpAny_bind ?_
 (simp only[List.zipIdx_nil,List.zipIdx_cons,List.forIn_nil,List.forIn_cons])
 have k1_:∀b o,b≠zz->s.heap.get? b=some o->w1.get? b=some o:=fun b o h e=>b1.extBut b o h e;refine wpAny_bind (wpAny_bind (wpAny_onRaise ?_));show wpAny _ _ (Builtin.SmallTypes.nextOf (.ref j1) >>= _) _ _ _;cases hx:xs[m]? with
 |none=>
  refine wpAny_bind (qesz hh (g1.of fun o e=>k1_ _ o D.i1z e) (s1.of fun o e=>k1_ _ o D.l1z e) hx fun w2 e b2 hs=>?_);obtain⟨oe,e1,e2⟩:=hs;have Z2:IsZip w2 zz ti ot .ellipsis:=b2 _ _ D.i1z.symm Z1;have ez:e≠zz:=fun x=>by
   subst x;rw[Z2] at e1;cases e1;simp at e2
  exact wpAny_setField_rec Z2 (by simp) fun w3 _ b3=>q w3 e (fun b o c1 _ c3 _ x=>b3.extBut _ _ c1 (b2 _ _ c3 (k1_ b o c1 x))) ⟨oe,b3.extBut _ _ ez e1,e2⟩
 |some u=>
  have hy:ys[n]?=none:=by
   rcases he with h|h
   ·rw[hx] at h;cases h
   ·exact h
  refine wpAny_bind (nextK (g1.of fun o e=>k1_ _ o D.i1z e) (s1.of fun o e=>k1_ _ o D.l1z e) hx fun w2 J1 b2=>wpAny_pure ?_);have k2_:∀b o,b≠zz->b≠j1->s.heap.get? b=some o->w2.get? b=some o:=fun b o h h2 e=>b2.extBut b o h2 (k1_ b o h e);have To2:IsPair w2 ot c d:=k2_ _ _ D.TOz D.TOi1 To;refine wpAny_bind (wpAny_seqItems To2 rfl ?_);refine wpAny_bind (wpAny_updateSeq_pair To2 fun w3 To3 b3=>?_);have k3_:∀b o,b≠zz->b≠j1->b≠ot->s.heap.get? b=some o->w3.get? b=some o:=fun b o h h2 h3 e=>b3.extBut b o h3 (k2_ b o h h2 e);refine wpAny_bind (wpAny_letGo (wpAny_pure ?_));refine wpAny_bind (wpAny_bind (wpAny_onRaise ?_));show wpAny _ _ (Builtin.SmallTypes.nextOf (.ref j2) >>= _) _ _ _;refine wpAny_bind (qesz hh (g2.of fun o e=>k3_ _ o D.i2z D.i12.symm D.TOi2.symm e) (s2.of fun o e=>k3_ _ o D.l2z D.l2i1 D.l2TO e) hy fun w4 e b4 hs=>?_);obtain⟨oe,e1,e2⟩:=hs;have Z4:IsZip w4 zz ti ot .ellipsis:=b4 _ _ D.i2z.symm (b3.extBut _ _ D.TOz.symm (b2.extBut _ _ D.i1z.symm Z1));have ez:e≠zz:=fun x=>by
   subst x;rw[Z4] at e1;cases e1;simp at e2
  exact wpAny_setField_rec Z4 (by simp) fun w5 _ b5=>q w5 e (fun b o c1 c2 c3 c4 x=>b5.extBut _ _ c1 (b4 _ _ c4 (k3_ b o c1 c3 c2 x))) ⟨oe,b5.extBut _ _ ez e1,e2⟩
end
end L3
namespace L3
open PySem PySem.Spec PyProof.Rows L2
open Sem (wp)
section
variable {X:Cx} {pins:List (Addr×Obj)} {σ:L2.St} {H:Hp} {s:Shared}
theorem turnedL{h':Heap}{t':Nat}{fp:List Addr}(I:L2.Inv X pins σ H s)(k:∀b o,b∉fp->s.heap.get? b=some o->h'.get? b=some o)(hf:∀b∈fp,FpOk X pins H b):L2.Inv X pins σ H { s with heap:=h',toks:=t' }:=by
 have nit:∀b u,H b=some u->b∉fp:=fun b u e z=>by rw[(hf b z).1] at e;cases e
 refine I.step (g':=s.gens) (d':=s.drawn) (ch:=fp) (fun b hb=>?_) (fun b o _ _ hc e _=>k b o hc e) (fun b o _ _ hc e _=>⟨o.slots,k b o hc e⟩) (fun _ _ _ _ n=>n) (fun b o hc e=>⟨o,k b o hc e⟩) (fun _ _ e=>e) (fun _ _ _ e=>e) (fun b ps e=>⟨#[],by rw[e];simp⟩) (fun m hm=>?_) (fun b u e=>?_) I.bare
 ·obtain⟨f0,f1,f2,f3,f4,f5⟩:=hf b hb;exact⟨f3,f1,f4,f5⟩
 ·obtain⟨o,es,ep,ho,r⟩:=hm;exact⟨o,es,ep,k _ o (fun z=>(hf _ z).2.1 rfl) ho,r⟩
 ·refine (I.hok b u e).stay (fun c v hc q=>k c v ?_ q) (fun _ q=>q) fun _ _ q=>q;rcases hc with z|z
  ·rw[z];exact nit b u e
  ·exact nit c _ z
def SqK(K:PySem.W.Frag)(k:Bool)(H:Hp)(a:Addr)(xs:List V):Prop:=match k with
 |true=>SqL K H a xs
 |false=>SqT K H a xs
theorem SqK.heap{k:Bool}{a:Addr}{xs:List V}(I:L2.Inv X pins σ H s)(h:SqK X.K k H a xs):∃its,Vals xs its/\Sk k s.heap a its.toArray:=by
 cases k with
 |true=>
  obtain⟨its,rv,p,hz⟩:=I.list (show SqL X.K H a xs from h);exact⟨its,rv,p.isList⟩
 |false=>
  obtain⟨its,rv,p,hz⟩:=I.tuple (show SqT X.K H a xs from h);exact⟨its,rv,p⟩
theorem SqK.inj{k:Bool}{a:Addr}{xs ys:List V}(I:L2.Inv X pins σ H s)(h:SqK X.K k H a xs)(h':SqK X.K k H a ys):xs=ys:=by
 cases k with
 |true=>exact I.list_inj (show SqL X.K H a xs from h) (show SqL X.K H a ys from h')
 |false=>exact I.tuple_inj (show SqT X.K H a xs from h) (show SqT X.K H a ys from h')
theorem SqK.apart{k:Bool}{a b:Addr}{xs:List V}(I:L2.Inv X pins σ H s)(h:SqK X.K k H a xs)(f:FpOk X pins H b):a≠b:=by
 intro z;subst z;have hb:(∃u,H a=some u)∨∃o,X.K.lookup a=some o:=by
  cases k <;>
  ·rcases h with (h|⟨o,h⟩)|⟨o,_,_,h,_⟩
   ·exact .inl ⟨_,h⟩
   ·exact .inl ⟨_,h⟩
   ·exact .inr ⟨_,h⟩
 rcases hb with⟨u,e⟩|⟨o,e⟩
 ·rw[f.1] at e;cases e
 ·have e2:=I.mod.kin a o e;rcases f.2.2.2.1 with q|q
  ·exact I.ok.noex a o e2 q
  ·exact absurd (Nat.lt_of_lt_of_le (Heap.lt_size (I.ok.bs a o e2).1) q) (Nat.lt_irrefl _)
end
def Itz(K:PySem.W.Frag)(k1 k2:Bool)(a1 a2:Addr):It:=
 ⟨fun i H=>∃xs ys x y,(SqK K k1 H a1 xs/\xs[i]?=some x)/\SqK K k2 H a2 ys/\ys[i]?=some y,
  fun i H x H'=>∃T u v,x=.ref T/\H T=none/\H'=upd H T (.tup [u,v])/\(∀xs,SqK K k1 H a1 xs->xs[i]?=some u)/\∀ys,SqK K k2 H a2 ys->ys[i]?=some v,
  fun i H=>∃xs ys,SqK K k1 H a1 xs/\SqK K k2 H a2 ys/\(xs.length≤i∨ys.length≤i)⟩
theorem zap{zz ti ot j1 j2 a1 a2:Addr}(h:[zz,ti,ot,j1,j2].Nodup)(h1:∀b∈[zz,ti,ot,j1,j2],a1≠b)(h2:∀b∈[zz,ti,ot,j1,j2],a2≠b):ZipApart zz ti ot j1 j2 a1 a2:=by
 simp only[List.nodup_cons,List.mem_cons,not_or,List.not_mem_nil,not_false_eq_true,List.nodup_nil,and_true] at h;obtain⟨⟨n1,n2,n3,n4⟩,⟨n5,n6,n7⟩,⟨n8,n9⟩,n10⟩:=h;exact⟨Ne.symm n1,Ne.symm n2,Ne.symm n3,Ne.symm n4,n5,n6,n7,n8,n9,n10,h1 _ (by simp),h1 _ (by simp),h1 _ (by simp),h1 _ (by simp),h2 _ (by simp),h2 _ (by simp),h2 _ (by simp),h2 _ (by simp)⟩
theorem qutz{P:Program}{w:World}{K:PySem.W.Frag}{es:List Expr}{n0:Nat}{ps:Pos}(k1 k2:Bool)(a1 a2 zz ti ot j1 j2:Addr)(hd:[zz,ti,ot,j1,j2].Nodup):
  Turn P w K (.Tuple es n0 ps) (Itz K k1 k2 a1 a2) [zz,ti,ot,j1,j2] zz (fun i h=>IsZip h zz ti ot .none/\IsPair h ti (.ref j1) (.ref j2)/\(∃c d,IsPair h ot c d)/\Ik k1 h j1 a1 i/\Ik k2 h j2 a2 i) where
 mem:=by simp
 obj:=fun i h st b hb=>by
  obtain⟨Z,Ti,⟨c,d,To⟩,g1,g2⟩:=st;simp only[List.mem_cons,List.not_mem_nil,or_false] at hb;rcases hb with rfl|rfl|rfl|rfl|rfl
  ·exact⟨_,Z,fun v z=>by cases (show Data.fields _=Data.cell v from z)⟩
  ·exact⟨_,Ti,fun v z=>by cases (show Data.seq _ _=Data.cell v from z)⟩
  ·exact⟨_,To,fun v z=>by cases (show Data.seq _ _=Data.cell v from z)⟩
  ·exact g1.obj
  ·exact g2.obj
 keep:=fun i h h' st k=>by
  obtain⟨Z,Ti,⟨c,d,To⟩,g1,g2⟩:=st;exact⟨k _ (by simp) _ Z,k _ (by simp) _ Ti,⟨c,d,k _ (by simp) _ To⟩,g1.of fun o e=>k _ (by simp) _ e,g2.of fun o e=>k _ (by simp) _ e⟩
 item:=by
  intro X hP hw hK hc i pins s σ H E I hf st hg;subst hP hw hK;obtain⟨Z,Ti,⟨c,d,To⟩,g1,g2⟩:=st;obtain⟨xs,ys,x,y,⟨q1,hx⟩,q2,hy⟩:=hg;obtain⟨its1,rv1,p1⟩:=q1.heap I;obtain⟨its2,rv2,p2⟩:=q2.heap I;obtain⟨u,hu,ru⟩:=rv1.get hx;obtain⟨v,hv,rv⟩:=rv2.get hy;have D:=zap hd (fun b hb=>q1.apart I (hf b hb)) (fun b hb=>q2.apart I (hf b hb));have hT:s.TypeIs (.ref zz) "zip":=⟨_,Z,rfl⟩;unfold pyNext;refine wpAny_bind (wpAny_attempt (wpAny_callSpecial?_slot (name:=Str.ofString "__next__") hT F.slot_zip_next (wpAny_call_entry F.slot_zip_next hT F.entry_zip_next (zipK D Z Ti To g1 g2 p1 p2 (u:=u) (v:=v) (by simpa using hu) (by simpa using hv) fun h' Z' To' g1' g2' T' kp=>?_) (F.args_zip_next_1 _))));refine wpAny_pure ⟨_,rfl,?_⟩;refine wpAny_letOwnedTupleGo_zip Z' fun h2 Z2 b2=>?_;have hn:H s.heap.objs.size=none:=I.hok.fresh (Nat.le_refl _);have I1:L2.Inv X pins σ (upd H s.heap.objs.size (.tup [x,y])) { s with heap:=s.heap.push { cls:=.type "tuple",data:=.seq #[u,v]}}:=I.laid (t':=s.toks) (fun b o e=>Heap.get?_push_of_some _ e) (Nat.le_refl _) ⟨by show 2≤sizeLine;decide,[u,v],.cons ru (.cons rv .nil),⟨_,Heap.get?_push_size _ rfl,rfl,⟨_,rfl⟩,rfl⟩⟩;have lt:∀b∈[zz,ti,ot,j1,j2],b<s.heap.objs.size:=fun b hb=>by
   simp only[List.mem_cons,List.not_mem_nil,or_false] at hb;rcases hb with rfl|rfl|rfl|rfl|rfl
   ·exact Heap.lt_size Z
   ·exact Heap.lt_size Ti
   ·exact Heap.lt_size To
   ·obtain⟨o,e,_⟩:=g1.obj;exact Heap.lt_size e
   ·obtain⟨o,e,_⟩:=g2.obj;exact Heap.lt_size e
  have hf':∀b∈[zz,ti,ot,j1,j2],FpOk X pins (upd H s.heap.objs.size (.tup [x,y])) b:=fun b hb=>⟨by rw[qmz (Nat.ne_of_lt (lt b hb))];exact (hf b hb).1,(hf b hb).2⟩;have I2:L2.Inv X pins σ (upd H s.heap.objs.size (.tup [x,y])) { s with heap:=h2 }:=turnedL (s:={ s with heap:=s.heap.push { cls:=.type "tuple",data:=.seq #[u,v]}}) (t':=s.toks) I1 (fun b o hb e=>by
   simp only[List.mem_cons,List.not_mem_nil,or_false,not_or] at hb;refine b2.extBut b o hb.1 ?_;rcases Heap.get?_push_cases e with⟨rfl,rfl⟩|e
   ·exact T'
   ·exact kp b o hb.1 hb.2.2.1 hb.2.2.2.1 hb.2.2.2.2 e) hf'
  refine⟨.ref s.heap.objs.size,_,I2,rfl,⟨_,x,y,rfl,hn,rfl,fun zs hz=>by rw[hz.inj I q1];exact hx,fun zs hz=>by rw[hz.inj I q2];exact hy⟩,⟨Z2,?_,⟨u,v,?_⟩,g1'.of fun o e=>b2.extBut _ _ D.i1z e,g2'.of fun o e=>b2.extBut _ _ D.i2z e⟩,fun b hb=>(hf' b hb).1⟩
  ·exact b2.extBut _ _ D.TIz (kp _ _ D.TIz D.TITO D.TIi1 D.TIi2 Ti)
  ·exact b2.extBut _ _ D.TOz To'
 done:=by
  intro X hP hw hK hc i pins s σ H E I hf st hg;subst hP hw hK;obtain⟨Z,Ti,⟨c,d,To⟩,g1,g2⟩:=st;obtain⟨xs,ys,q1,q2,hl⟩:=hg;obtain⟨its1,rv1,p1⟩:=q1.heap I;obtain⟨its2,rv2,p2⟩:=q2.heap I;have D:=zap hd (fun b hb=>q1.apart I (hf b hb)) (fun b hb=>q2.apart I (hf b hb));have hT:s.TypeIs (.ref zz) "zip":=⟨_,Z,rfl⟩;have l1:=rv1.length;have l2:=rv2.length;unfold pyNext;refine wpAny_bind (wpAny_attempt (wpAny_callSpecial?_slot (name:=Str.ofString "__next__") hT F.slot_zip_next (wpAny_call_entry F.slot_zip_next hT F.entry_zip_next (qusz (I.ok.hd hc) D Z Ti To g1 g2 p1 p2 (by
   rcases hl with h|h
   ·exact .inl (by simp;omega)
   ·exact .inr (by simp;omega)) fun h' e kp hs=>?_) (F.args_zip_next_1 _))))
  obtain⟨o,ho,hcl⟩:=hs;refine wpAny_bind (wpAny_isInstance (T:="StopIteration") (b:=true) ⟨o,ho,hcl⟩ isSubtype_stop ?_);refine wpAny_pure ⟨rfl,turnedL (t':=s.toks) I (fun b o hb e=>?_) hf⟩;simp only[List.mem_cons,List.not_mem_nil,or_false,not_or] at hb;exact kp b o hb.1 hb.2.2.1 hb.2.2.2.1 hb.2.2.2.2 e
 self:=fun _ _ _ _ _ st h=>wpAny_pyIter_zip st.1 h
def itO(k:Bool)(a:Addr):Obj:=match k with
 |true=>{ cls:=.type "list_iterator",data:=.fields #[.ref a,.int 0 0]}
 |false=>{ cls:=.type "tuple_iterator",data:=.fields #[.ref a,.int 0 0]}
def zw1(k1:Bool)(h:Heap)(a1:Addr):Heap:=h.push (itO k1 a1)
def zw2(k1 k2:Bool)(h:Heap)(a1 a2:Addr):Heap:=(zw1 k1 h a1).push (itO k2 a2)
def zw3(k1 k2:Bool)(h:Heap)(a1 a2:Addr):Heap:=(zw2 k1 k2 h a1 a2).push { cls:=.type "tuple",data:=.seq #[.ref h.objs.size,.ref (zw1 k1 h a1).objs.size]}
def zw4(k1 k2:Bool)(h:Heap)(a1 a2:Addr):Heap:=(zw3 k1 k2 h a1 a2).push { cls:=.type "tuple",data:=.seq #[.none,.none]}
def zw5(k1 k2:Bool)(h:Heap)(a1 a2:Addr):Heap:=(zw4 k1 k2 h a1 a2).push { cls:=.type "zip",data:=.fields #[.none,.bool false,.bool false,.ref (zw2 k1 k2 h a1 a2).objs.size,.ref (zw3 k1 k2 h a1 a2).objs.size]}
theorem itK{k:Bool}{h:Heap}{jt a:Addr}(e:h.get? jt=some (itO k a)):Ik k h jt a 0:=by
 cases k<;>exact⟨_,e,rfl,rfl⟩
theorem qklz{k:Bool}{a:Addr}:(itO k a).isFreed=false:=by cases k<;>rfl
theorem quuz(k1 k2:Bool)(a1 a2:Addr)(xs ys:Array Value):Meets (Builtin.«zip.__new__» ⟨[.type "zip",.ref a1,.ref a2],[]⟩) (fun _ R s=>Sk k1 s.heap a1 xs/\Sk k2 s.heap a2 ys ∧
   R (.ok (.ret (.ref (zw4 k1 k2 s.heap a1 a2).objs.size))) { s with heap:=zw5 k1 k2 s.heap a1 a2 }):=
 .of_wp fun prog w A R s h=>by
  obtain⟨hp,g,d,tk,os⟩:=s;obtain⟨h1,h2,h⟩:=h;have hsub:=sub_zip;cases k1<;>cases k2
  ·have q1:Heap.IsTuple (Shared.heap ⟨hp,g,d,tk,os⟩) a1 xs:=h1;have q2:Heap.IsTuple (Shared.heap ⟨hp.push { cls:=.type "tuple_iterator",data:=.fields #[.ref a1,.int 0 0]},g,d,tk,os⟩) a2 ys:=Heap.IsTuple.push h2 _;wp_walk using wpAny_pyIter_tuple q1,wpAny_pyIter_tuple q2;exact⟨_,rfl,h⟩
  ·have q1:Heap.IsTuple (Shared.heap ⟨hp,g,d,tk,os⟩) a1 xs:=h1;have q2:Heap.IsList (Shared.heap ⟨hp.push { cls:=.type "tuple_iterator",data:=.fields #[.ref a1,.int 0 0]},g,d,tk,os⟩) a2 ys:=Heap.IsList.push h2 _;wp_walk using wpAny_pyIter_tuple q1,wpAny_pyIter_list q2;exact⟨_,rfl,h⟩
  ·have q1:Heap.IsList (Shared.heap ⟨hp,g,d,tk,os⟩) a1 xs:=h1;have q2:Heap.IsTuple (Shared.heap ⟨hp.push { cls:=.type "list_iterator",data:=.fields #[.ref a1,.int 0 0]},g,d,tk,os⟩) a2 ys:=Heap.IsTuple.push h2 _;wp_walk using wpAny_pyIter_list q1,wpAny_pyIter_tuple q2;exact⟨_,rfl,h⟩
  ·have q1:Heap.IsList (Shared.heap ⟨hp,g,d,tk,os⟩) a1 xs:=h1;have q2:Heap.IsList (Shared.heap ⟨hp.push { cls:=.type "list_iterator",data:=.fields #[.ref a1,.int 0 0]},g,d,tk,os⟩) a2 ys:=Heap.IsList.push h2 _;wp_walk using wpAny_pyIter_list q1,wpAny_pyIter_list q2;exact⟨_,rfl,h⟩
theorem qkmz{k1 k2:Bool}{h:Heap}{a1 a2:Addr}:IsZip (zw5 k1 k2 h a1 a2) (h.objs.size+4) (h.objs.size+2) (h.objs.size+3) .none/\IsPair (zw5 k1 k2 h a1 a2) (h.objs.size+2) (.ref h.objs.size) (.ref (h.objs.size+1))/\IsPair (zw5 k1 k2 h a1 a2) (h.objs.size+3) .none .none ∧
  Ik k1 (zw5 k1 k2 h a1 a2) h.objs.size a1 0/\Ik k2 (zw5 k1 k2 h a1 a2) (h.objs.size+1) a2 0/\(zw4 k1 k2 h a1 a2).objs.size=h.objs.size+4/\∀c o,h.get? c=some o->(zw5 k1 k2 h a1 a2).get? c=some o:=by
 have e1:(zw1 k1 h a1).objs.size=h.objs.size+1:=Heap.size_push ..;have e2:(zw2 k1 k2 h a1 a2).objs.size=h.objs.size+2:=(Heap.size_push ..).trans (by rw[e1]);have e3:(zw3 k1 k2 h a1 a2).objs.size=h.objs.size+3:=(Heap.size_push ..).trans (by rw[e2]);have e4:(zw4 k1 k2 h a1 a2).objs.size=h.objs.size+4:=(Heap.size_push ..).trans (by rw[e3]);have u5:∀c o,(zw4 k1 k2 h a1 a2).get? c=some o->(zw5 k1 k2 h a1 a2).get? c=some o:=fun c o e=>Heap.get?_push_of_some _ e;have u4:∀c o,(zw3 k1 k2 h a1 a2).get? c=some o->(zw5 k1 k2 h a1 a2).get? c=some o:=fun c o e=>u5 c o (Heap.get?_push_of_some _ e);have u3:∀c o,(zw2 k1 k2 h a1 a2).get? c=some o->(zw5 k1 k2 h a1 a2).get? c=some o:=fun c o e=>u4 c o (Heap.get?_push_of_some _ e);have u2:∀c o,(zw1 k1 h a1).get? c=some o->(zw5 k1 k2 h a1 a2).get? c=some o:=fun c o e=>u3 c o (Heap.get?_push_of_some _ e);have u1:∀c o,h.get? c=some o->(zw5 k1 k2 h a1 a2).get? c=some o:=fun c o e=>u2 c o (Heap.get?_push_of_some _ e);have g5:(zw5 k1 k2 h a1 a2).get? (zw4 k1 k2 h a1 a2).objs.size=some _:=Heap.get?_push_size _ rfl;have g4:(zw5 k1 k2 h a1 a2).get? (zw3 k1 k2 h a1 a2).objs.size=some _:=u5 _ _ (Heap.get?_push_size _ rfl);have g3:(zw5 k1 k2 h a1 a2).get? (zw2 k1 k2 h a1 a2).objs.size=some _:=u4 _ _ (Heap.get?_push_size _ rfl);have g2:(zw5 k1 k2 h a1 a2).get? (zw1 k1 h a1).objs.size=some (itO k2 a2):=u3 _ _ (Heap.get?_push_size _ qklz);have g1:(zw5 k1 k2 h a1 a2).get? h.objs.size=some (itO k1 a1):=u2 _ _ (Heap.get?_push_size _ qklz);rw[e2,e3,e4] at g5;rw[e1,e2] at g3;rw[e3] at g4;rw[e1] at g2;exact⟨g5,g3,g4,itK g1,itK g2,e4,u1⟩
theorem quvz{P:Program}{w:World}{A:Around}{E:Value->Shared->Prop}{s:Shared}{k1 k2:Bool}{a1 a2:Addr}{xs ys:Array Value}{Q:Value->Shared->Prop}(h1:Sk k1 s.heap a1 xs)(h2:Sk k2 s.heap a2 ys)
  (q:Q (.ref (s.heap.objs.size+4)) { s with heap:=zw5 k1 k2 s.heap a1 a2 }):wpAny (model P w) A (call (.type "zip") [.ref a1,.ref a2]) Q E s:=by
 refine callType_new F.called_zip (by decide) (F.typeCall_zip_2 _ _) (F.newCall_zip_2 _ _) (fun obj=>F.args_object_init_3 obj _ _) F.entry_zip_new (quuz k1 k2 a1 a2 xs ys) ⟨h1,h2,?_⟩;obtain⟨z1,_,_,_,_,z2,_⟩:=qkmz (k1:=k1) (k2:=k2) (h:=s.heap) (a1:=a1) (a2:=a2);show _/\_;rw[z2];exact⟨⟨_,z1,rfl⟩,q⟩
section
variable {X:Cx} {es:List Expr} {n0:Nat} {ps p pos:Pos}
def jZip(K:PySem.W.Frag)(ta:TA):TI:=fun σ H R=>ta σ H fun vs H1=>∃k1 k2 a1 a2,vs=[.ref a1,.ref a2]/\(∃xs,SqK K k1 H1 a1 xs)/\(∃ys,SqK K k2 H1 a2 ys)/\R (Itz K k1 k2 a1 a2) H1
theorem quwz{a b:Expr}{ta:TA}(hg:Gl X "zip")(hm:X.mg "zip" = none)(ha:PA X [a,b] ta)(hs:starEach [a,b] X.env=[(false,eval a X.env),(false,eval b X.env)]:=by rfl)(hs2:starEach [b] X.env=[(false,eval b X.env)]:=by rfl):
  PI X (.Tuple es n0 ps) (.Call (.Name "zip" p) [a,b] [] pos) (jZip X.K ta):=by
 intro pins s σ H R I h;refine Call_ (qatz I hg hm boot_zip (PyProof.Rows.callWith_type1 (thn (ha pos pins s σ H _ I h) fun us s1 ⟨vs,H1,I1,r1,q1⟩=>?_) (by rw[hs,hs2]) (by rw[hs2];rfl)));obtain⟨k1,k2,a1,a2,e,⟨xs,q1⟩,⟨ys,q2⟩,q⟩:=q1;subst e;cases r1 with
 |cons r rr=>
  cases rr with
  |cons r' rr=>
   cases rr;cases r;cases r';obtain⟨its1,rv1,p1⟩:=q1.heap I1;obtain⟨its2,rv2,p2⟩:=q2.heap I1;refine quvz p1 p2 ?_;obtain⟨z1,z2,z3,z4,z5,z6,z7⟩:=qkmz (k1:=k1) (k2:=k2) (h:=s1.heap) (a1:=a1) (a2:=a2);refine wpAny_pyIter_zip (s:={ s1 with heap:=zw5 k1 k2 s1.heap a1 a2 }) z1 ?_
   refine⟨s1.heap.objs.size+4,[s1.heap.objs.size+4,s1.heap.objs.size+2,s1.heap.objs.size+3,s1.heap.objs.size,s1.heap.objs.size+1],_,_,H1,rfl,I1.kept (t':=s1.toks) z7,qutz k1 k2 a1 a2 _ _ _ _ _ (by simp),⟨z1,z2,⟨_,_,z3⟩,z4,z5⟩,fun b hb=>?_,q⟩;have hb:s1.heap.objs.size≤b:=by
    simp only[List.mem_cons,List.not_mem_nil,or_false] at hb;rcases hb with rfl|rfl|rfl|rfl|rfl
    ·exact Nat.le_add_right _ _
    ·exact Nat.le_add_right _ _
    ·exact Nat.le_add_right _ _
    ·exact Nat.le_refl _
    ·exact Nat.le_add_right _ _
   exact I1.fpOk hb (I1.hok.fresh hb)
def seqD(G:Gp):D->List D->Prop
 |.obj p,ds=>G p=some (.lst ds)
 |.tup es,ds=>ds=es
 |.scr es,ds=>ds=es
 |_,_=>False
def zipD(xs ys:List D):List D:=List.zipWith (fun x y=>.tup [x,y]) xs ys
def iZip(ta:TA3):TI3:=fun τ G R=>ta τ G fun ds G1=>match ds with
 |[x,y]=>∃xs ys,seqD G1 x xs/\seqD G1 y ys/\R ⟨zipD xs ys,fun G=>seqD G x xs/\seqD G y ys⟩ G1
 |_=>False
theorem qgiz{K:PySem.W.Frag}{H:Hp}{x:D}{v:V}(hv:Hv K H x v):∃k,∀H' G' xs,Ext H H'->RepG K G' H'->seqD G' x xs->∃a vs,v=.ref a/\SqK K k H' a vs/\Hvs K H' xs vs:=by
 cases x with
 |obj p=>
  unfold Hv at hv;subst hv;refine⟨true,fun H' G' xs E RG h=>?_⟩;obtain⟨vs,e2,e3⟩:=RG p _ h;exact⟨p,vs,rfl,SqL.of e2,e3⟩
 |tup es=>
  unfold Hv at hv;obtain⟨a,vs,rfl,e2,e3⟩:=hv;refine⟨false,fun H' G' xs E RG h=>?_⟩;cases (show xs=es from h);exact⟨a,vs,rfl,SqT.ext E e2,e3.ext E⟩
 |scr es=>
  unfold Hv at hv;obtain⟨a,vs,rfl,e2,e3⟩:=hv;refine⟨true,fun H' G' xs E RG h=>?_⟩;cases (show xs=es from h);exact⟨a,vs,rfl,(SqF.ext E e2).l,e3.ext E⟩
 |non=>exact⟨true,fun _ _ _ _ _ h=>h.elim⟩
 |bl _=>exact⟨true,fun _ _ _ _ _ h=>h.elim⟩
 |int _=>exact⟨true,fun _ _ _ _ _ h=>h.elim⟩
 |str _=>exact⟨true,fun _ _ _ _ _ h=>h.elim⟩
 |dc _=>exact⟨true,fun _ _ _ _ _ h=>h.elim⟩
theorem qknz{xs ys:List D}{i:Nat}{d:D}(h:(zipD xs ys)[i]?=some d):∃x y,xs[i]?=some x/\ys[i]?=some y/\d=.tup [x,y]:=by
 unfold zipD at h;rw[List.getElem?_zipWith] at h;cases hx:xs[i]? with
 |none=>rw[hx] at h;cases h
 |some x=>
  cases hy:ys[i]? with
  |none=>rw[hx,hy] at h;cases h
  |some y=>
   rw[hx,hy] at h;cases h;exact⟨x,y,rfl,rfl,rfl⟩
theorem quxz{a b:Expr}{ta:TA3}(hm:X.mg "zip" = none)(ha:PA3 X [a,b] ta)(hg:Gl X "zip":=by rfl)(hs:notStar a=true:=by rfl)(hs2:notStar b=true:=by rfl):
  PI3 X (.Tuple es n0 ps) (.Call (.Name "zip" p) [a,b] [] pos) (iZip ta):=
 qcwz (quwz hg hm ha (by rw[qnz hs,qnz hs2];rfl) (qnz hs2)) fun σ H R ⟨τ,G,R3,RS,RG,h,k⟩=>⟨τ,G,_,RS,RG,h,fun vs H1 ds G1 h1 S1 R1 q1=>by
  rcases ds with _|⟨d,_|⟨d2,_|⟨d3,ds⟩⟩⟩
  ·exact q1.elim
  ·exact q1.elim
  ·obtain⟨xs,ys,s1,s2,q⟩:=q1;obtain⟨v,r,rfl,z1,z2⟩:=h1.inv;obtain⟨v',r',rfl,z3,z4⟩:=z2.inv;cases z4.inv0;obtain⟨k1,f1⟩:=qgiz z1;obtain⟨k2,f2⟩:=qgiz z3;obtain⟨a1,vs1,rfl,y1,w1⟩:=f1 _ _ _ (Ext.refl _) R1 s1;obtain⟨a2,vs2,rfl,y2,w2⟩:=f2 _ _ _ (Ext.refl _) R1 s2;refine⟨k1,k2,a1,a2,rfl,⟨_,y1⟩,⟨_,y2⟩,k _ _ _ _ ⟨?_,?_⟩ S1 R1 q⟩
   ·intro i d H' G' E' RG' hg hi;obtain⟨x,y,e1,e2,rfl⟩:=qknz hi;obtain⟨b1,us1,c1,m1,n1⟩:=f1 _ _ _ E' RG' hg.1;obtain⟨b2,us2,c2,m2,n2⟩:=f2 _ _ _ E' RG' hg.2;cases c1;cases c2;obtain⟨u1,o1,o2⟩:=n1.get e1;obtain⟨u2,o3,o4⟩:=n2.get e2;refine⟨⟨_,_,_,_,⟨m1,o1⟩,m2,o3⟩,fun x' H'' hy=>?_⟩;obtain⟨T,u,v,rfl,hn,rfl,t1,t2⟩:=hy;have:=t1 _ m1;rw[o1] at this;cases this;have:=t2 _ m2;rw[o3] at this;cases this;refine⟨?_,.laid hn,RG'.laid hn⟩;unfold Hv;exact⟨T,_,rfl,.of quz,.cons (o2.ext (.laid hn)) (.cons (o4.ext (.laid hn)) .nil)⟩
   ·intro i H' G' E' RG' hg hi;obtain⟨b1,us1,c1,m1,n1⟩:=f1 _ _ _ E' RG' hg.1;obtain⟨b2,us2,c2,m2,n2⟩:=f2 _ _ _ E' RG' hg.2;cases c1;cases c2;refine⟨_,_,m1,m2,?_⟩;have hi:(zipD xs ys).length≤i:=hi;unfold zipD at hi;rw[List.length_zipWith] at hi;rw[←n1.length,←n2.length];omega
  ·exact q1.elim⟩
end
end L3
namespace L3
open PySem PySem.Spec PyProof.Rows L2
open Sem (wp)
theorem drawsK{P:Program}{w:World}{A:Around}{k:Bool}(hh:A.handled=none)(it a:Addr)(hne:a≠it)(xs:Array Value):
  Draws P w A it [it,a] xs.size (fun i v=>xs[i]?=some v) (fun i h=>Ik k h it a i/\Sk k h a xs) where
 live:=fun _ _ st=>let ⟨o,ho,_⟩:=st.1.obj;⟨o,ho⟩
 frame:=fun _ _ _ st hk=>⟨st.1.of fun o e=>hk it (by simp) o e,st.2.of fun o e=>hk a (by simp) o e⟩
 item:=fun i s Q E hi st hQ=>by
  refine nextK st.1 st.2 (u:=xs[i]) (by simp[hi]) fun h' hit' hs'=>?_;exact hQ _ h' s.toks (by simp[hi]) ⟨hit',st.2.of fun o e=>hs'.extBut a o hne e⟩ hs'
 done:=fun s Q E st hE=>qesz hh st.1 st.2 (by simp) hE
section
variable {P:Program} {w:World} {A:Around} {E:Value->Shared->Prop} {s:Shared}
theorem quyz{k:Bool}{e it a:Addr}{i:Int}{j:Nat}{xs:Array Value}{old:Value}{Q:Option Value->Shared->Prop}(hh:A.handled=none)(he:IsEnum s.heap e it i old)(hi:Ik k s.heap it a j)(ha:Sk k s.heap a xs)(hx:xs[j]?=none)
  (hQ:∀h',Heap.ExtBut it s.heap h'->Q none { s with heap:=h' }):wpAny (model P w) A (pyNext (.ref e)) Q E s:=by
 have hT:s.TypeIs (.ref e) "enumerate":=⟨_,he,rfl⟩;unfold pyNext;refine wpAny_bind (wpAny_attempt (wpAny_callSpecial?_slot (name:=Str.ofString "__next__") hT F.slot_enumerate_next
  (wpAny_call_entry F.slot_enumerate_next hT F.entry_enumerate_next ?_ (F.args_enumerate_next_1 _))))
 show wpAny _ _ (field (.ref e) 2 >>= _) _ _ _;refine wpAny_bind (wpAny_field he rfl (x:=.ref it) rfl ?_);refine wpAny_bind (qesz (by simpa using hh) hi ha hx fun h' x he' hx'=>?_);obtain⟨o,ho,hc⟩:=hx';refine wpAny_bind (wpAny_isInstance (T:="StopIteration") (b:=true) ⟨o,ho,hc⟩ isSubtype_stop ?_);exact wpAny_pure (hQ _ he')
open AutoSeq1 (wpAny_loadPart') in
theorem quzz(l:Addr)(items:Array Value)(n:Nat)(dct:Option Addr)(sl:Array (Option Value)):
  Meets (Builtin.«enumerate.__new__» ⟨[.type "enumerate",.ref l],[]⟩) (fun _ R s=>s.heap.get? l=some { cls:=.type "tuple",dict:=dct,data:=.seq items n,slots:=sl } ∧
   R (.ok (.ret (.ref (s.heap.push { cls:=.type "tuple_iterator",data:=.fields #[.ref l,.int 0 0]}).objs.size)))
    { s with heap:=(s.heap.push { cls:=.type "tuple_iterator",data:=.fields #[.ref l,.int 0 0]}).push { cls:=.type "enumerate",data:=.fields #[.none,.bool false,.ref s.heap.objs.size,rawInt 0,.none,.none]}}):=
 .of_wp fun prog w A R s h=>by
  obtain⟨hp,g,d,tk,os⟩:=s;obtain⟨hl,h⟩:=h;have hsub:=sub_enumerate;have hL:Heap.IsTuple (Shared.heap ⟨hp,g,d,tk,os⟩) l items:=⟨_,hl,rfl,n,rfl⟩;wp_walk using wpAny_loadPart' hl;refine wpAny_stack_any fun st=>wpAny_pure ?_;split
  ·rename_i c _ _ _ _ _;cases (c==Value.type "enumerate")
   ·wp_walk using wpAny_loadPart' hl,wpAny_pyIter_tuple hL;exact⟨_,rfl,h⟩
   ·wp_walk using wpAny_loadPart' hl,wpAny_pyIter_tuple hL;exact⟨_,rfl,h⟩
  ·wp_walk using wpAny_loadPart' hl,wpAny_pyIter_tuple hL;exact⟨_,rfl,h⟩
theorem qu0z{l:Addr}{items:Array Value}{Q:Value->Shared->Prop}(hL:s.heap.IsTuple l items)
  (h:∀h',IsEnum h' (s.heap.objs.size+1) s.heap.objs.size 0 .none->h'.IsTupleIter s.heap.objs.size l 0->h'.objs.size=s.heap.objs.size+2 ->
   (∀b o,s.heap.get? b=some o->h'.get? b=some o)->Q (.ref (s.heap.objs.size+1)) { s with heap:=h' }):
  wpAny (model P w) A (call (.type "enumerate") [.ref l]) Q E s:=by
 obtain⟨⟨c,dct,dt,sl⟩,hl,hc,n,hd⟩:=hL
 replace hc:c=.type "tuple":=hc
 replace hd:dt=.seq items n:=hd
 subst hc hd;refine callType_new F.called_enumerate (by decide) (F.typeCall_enumerate_1 _) (F.newCall_enumerate_1 _) (fun obj=>F.args_object_init_2 obj _) F.entry_enumerate_new
  (quzz l items n dct sl) ⟨hl,?_⟩
 have hz:(s.heap.push { cls:=.type "tuple_iterator",data:=.fields #[.ref l,.int 0 0]}).objs.size=s.heap.objs.size+1:=Heap.size_push ..;show _/\_;rw[hz];have he:IsEnum ((s.heap.push { cls:=.type "tuple_iterator",data:=.fields #[.ref l,.int 0 0]}).push
   { cls:=.type "enumerate",data:=.fields #[.none,.bool false,.ref s.heap.objs.size,rawInt 0,.none,.none]}) (s.heap.objs.size+1) s.heap.objs.size 0 .none:=by
  have:=Heap.get?_push_size (s.heap.push { cls:=.type "tuple_iterator",data:=.fields #[.ref l,.int 0 0]})
   (o:={ cls:=.type "enumerate",data:=.fields #[.none,.bool false,.ref s.heap.objs.size,rawInt 0,.none,.none]}) rfl
  rw[hz] at this;exact this
 refine⟨⟨_,he,rfl⟩,h _ he ⟨_,Heap.get?_push_of_some _ (Heap.get?_push_size _ rfl),rfl,rfl⟩ (by rw[Heap.size_push,hz]) fun b o x=>Heap.get?_push_of_some _ (Heap.get?_push_of_some _ x)⟩
theorem qu1z{k:Bool}{l:Addr}{items:Array Value}{Q:Value->Shared->Prop}(hL:Sk k s.heap l items)
  (h:∀h',IsEnum h' (s.heap.objs.size+1) s.heap.objs.size 0 .none->Ik k h' s.heap.objs.size l 0->h'.objs.size=s.heap.objs.size+2 ->
   (∀b o,s.heap.get? b=some o->h'.get? b=some o)->Q (.ref (s.heap.objs.size+1)) { s with heap:=h' }):
  wpAny (model P w) A (call (.type "enumerate") [.ref l]) Q E s:=by
 cases k with
 |true=>exact call_enumerate_list hL h
 |false=>exact qu0z hL h
end
def Itn(K:PySem.W.Frag)(k:Bool)(a:Addr):It:=
 ⟨fun i H=>∃xs x,SqK K k H a xs/\xs[i]?=some x,
  fun i H x H'=>∃T u,x=.ref T/\H T=none/\H'=upd H T (.tup [.int i,u])/\∀xs,SqK K k H a xs->xs[i]?=some u,
  fun i H=>∃xs,SqK K k H a xs/\xs.length≤i⟩
theorem qu2z{P:Program}{w:World}{K:PySem.W.Frag}{es:List Expr}{n0:Nat}{ps:Pos}(k:Bool)(a en jt:Addr)(hne:en≠jt):
  Turn P w K (.Tuple es n0 ps) (Itn K k a) [en,jt] en (fun i h=>(∃old,IsEnum h en jt i old)/\Ik k h jt a i) where
 mem:=by simp
 obj:=fun i h st b hb=>by
  obtain⟨⟨old,Z⟩,g⟩:=st;simp only[List.mem_cons,List.not_mem_nil,or_false] at hb;rcases hb with rfl|rfl
  ·exact⟨_,Z,fun v z=>by cases (show Data.fields _=Data.cell v from z)⟩
  ·exact g.obj
 keep:=fun i h h' st k=>⟨let ⟨old,Z⟩:=st.1;⟨old,k _ (by simp) _ Z⟩,st.2.of fun o e=>k _ (by simp) _ e⟩
 item:=by
  intro X hP hw hK hc i pins s σ H E I hf st hg;subst hP hw hK;obtain⟨⟨old,Z⟩,g⟩:=st;obtain⟨xs,x,q1,hx⟩:=hg;obtain⟨its,rv,p⟩:=SqK.heap I q1;obtain⟨u,hu,ru⟩:=rv.get hx;have hi:i<its.toArray.size:=by
   have:=(List.getElem?_eq_some_iff.mp hu).1;simpa using this
  have hja:a≠jt:=SqK.apart I q1 (hf jt (by simp));have hea:a≠en:=SqK.apart I q1 (hf en (by simp));refine wpAny_pyNext_enum_itemD (drawsK (k:=k) (by have:=I.ok.hd hc;simpa using this) jt a hja its.toArray) Z ⟨g,p⟩ hi hne (by simp[hne,hea.symm]) fun x2 h' tk hx2 Z' g' T' sz kp=>⟨_,rfl,?_⟩;have ex:x2=u:=by
   have:its.toArray[i]?=some u:=by simpa using hu
   rw[hx2] at this;exact Option.some.inj this
  subst ex;refine wpAny_letOwnedTupleGo_enum (s:={ s with heap:=h',toks:=tk+1 }) Z' fun h2 Z2 b2=>?_;have hn:H s.heap.objs.size=none:=I.hok.fresh (Nat.le_refl _);have I1:L2.Inv X pins σ (upd H s.heap.objs.size (.tup [.int i,x])) { s with heap:=s.heap.push { cls:=.type "tuple",data:=.seq #[.int i tk,x2]}}:=I.laid (t':=s.toks) (fun b o e=>Heap.get?_push_of_some _ e) (Nat.le_refl _) ⟨by show 2≤sizeLine;decide,[.int i tk,x2],.cons ⟨_,rfl⟩ (.cons ru .nil),⟨_,Heap.get?_push_size _ rfl,rfl,⟨_,rfl⟩,rfl⟩⟩;have lt:∀b∈[en,jt],b<s.heap.objs.size:=fun b hb=>by
   simp only[List.mem_cons,List.not_mem_nil,or_false] at hb;rcases hb with rfl|rfl
   ·exact Heap.lt_size Z
   ·obtain⟨o,e,_⟩:=g.obj;exact Heap.lt_size e
  have hf':∀b∈[en,jt],FpOk X pins (upd H s.heap.objs.size (.tup [.int i,x])) b:=fun b hb=>⟨by rw[qmz (Nat.ne_of_lt (lt b hb))];exact (hf b hb).1,(hf b hb).2⟩;have I2:L2.Inv X pins σ (upd H s.heap.objs.size (.tup [.int i,x])) { s with heap:=h2,toks:=tk+1 }:=turnedL (s:={ s with heap:=s.heap.push { cls:=.type "tuple",data:=.seq #[.int i tk,x2]}}) (t':=tk+1) I1 (fun b o hb e=>by
   simp only[List.mem_cons,List.not_mem_nil,or_false,not_or] at hb;refine b2.extBut b o hb.1 ?_;rcases Heap.get?_push_cases e with⟨rfl,rfl⟩|e
   ·exact T'
   ·exact kp b o hb.1 hb.2 e) hf'
  exact⟨.ref s.heap.objs.size,_,I2,rfl,⟨_,x,rfl,hn,rfl,fun zs hz=>by rw[SqK.inj I hz q1];exact hx⟩,⟨⟨_,Z2⟩,g'.1.of fun o e=>b2.extBut jt o hne.symm e⟩,fun b hb=>(hf' b hb).1⟩
 done:=by
  intro X hP hw hK hc i pins s σ H E I hf st hg;subst hP hw hK;obtain⟨⟨old,Z⟩,g⟩:=st;obtain⟨xs,q1,hl⟩:=hg;obtain⟨its,rv,p⟩:=SqK.heap I q1;have l1:=rv.length;exact quyz (I.ok.hd hc) Z g p (by simp;omega) fun h' kp=>⟨rfl,turnedL (t':=s.toks) I (fun b o hb e=>by
   simp only[List.mem_cons,List.not_mem_nil,or_false,not_or] at hb;exact kp b o hb.2 e) hf⟩
 self:=fun _ _ _ _ _ st h=>let ⟨⟨_,Z⟩,_⟩:=st;wpAny_pyIter_enum Z h
section
variable {X:Cx} {es:List Expr} {n0:Nat} {ps p pos:Pos}
def jEnum(K:PySem.W.Frag)(ta:TA):TI:=fun σ H R=>ta σ H fun vs H1=>∃k a,vs=[.ref a]/\(∃xs,SqK K k H1 a xs)/\R (Itn K k a) H1
theorem qu3z{a:Expr}{ta:TA}(hg:Gl X "enumerate")(hm:X.mg "enumerate" = none)(ha:PA X [a] ta)(hs:starEach [a] X.env=[(false,eval a X.env)]:=by rfl):PI X (.Tuple es n0 ps) (.Call (.Name "enumerate" p) [a] [] pos) (jEnum X.K ta):=by
 intro pins s σ H R I h;refine Call_ (qatz I hg hm boot_enumerate (PyProof.Rows.callWith_type1 (thn (ha pos pins s σ H _ I h) fun us s1 ⟨vs,H1,I1,r1,q1⟩=>?_) hs rfl));obtain⟨k,a1,e,⟨xs,q1⟩,q⟩:=q1;subst e;cases r1 with
 |cons r rr=>
  cases rr;cases r;obtain⟨its,rv,p⟩:=SqK.heap I1 q1;refine qu1z p fun h' z1 z2 z3 z4=>?_;refine wpAny_pyIter_enum (s:={ s1 with heap:=h' }) z1 ?_
  refine⟨s1.heap.objs.size+1,[s1.heap.objs.size+1,s1.heap.objs.size],_,_,H1,rfl,I1.kept (t':=s1.toks) z4,qu2z k a1 _ _ (by simp),⟨⟨_,z1⟩,z2⟩,fun b hb=>?_,q⟩;have hb:s1.heap.objs.size≤b:=by
   simp only[List.mem_cons,List.not_mem_nil,or_false] at hb;rcases hb with rfl|rfl
   ·exact Nat.le_add_right _ _
   ·exact Nat.le_refl _
  exact I1.fpOk hb (I1.hok.fresh hb)
def enumD(xs:List D):List D:=zipD (rngL 0 xs.length) xs
def iEnum(ta:TA3):TI3:=fun τ G R=>ta τ G fun ds G1=>match ds with
 |[x]=>∃xs,seqD G1 x xs/\R ⟨enumD xs,fun G=>seqD G x xs⟩ G1
 |_=>False
theorem qu4z{a:Expr}{ta:TA3}(hm:X.mg "enumerate" = none)(ha:PA3 X [a] ta)(hg:Gl X "enumerate":=by rfl)(hs:notStar a=true:=by rfl):
  PI3 X (.Tuple es n0 ps) (.Call (.Name "enumerate" p) [a] [] pos) (iEnum ta):=
 qcwz (qu3z hg hm ha (qnz hs)) fun σ H R ⟨τ,G,R3,RS,RG,h,k⟩=>⟨τ,G,_,RS,RG,h,fun vs H1 ds G1 h1 S1 R1 q1=>by
  rcases ds with _|⟨d,_|⟨d2,ds⟩⟩
  ·exact q1.elim
  ·obtain⟨xs,s1,q⟩:=q1;obtain⟨v,r,rfl,z1,z2⟩:=h1.inv;cases z2.inv0;obtain⟨kk,hsq⟩:=qgiz z1;obtain⟨a1,vs1,rfl,y1,w1⟩:=hsq _ _ _ (Ext.refl _) R1 s1;refine⟨kk,a1,rfl,⟨_,y1⟩,k _ _ _ _ ⟨?_,?_⟩ S1 R1 q⟩
   ·intro i d H' G' E' RG' hg hi;obtain⟨x,y,e1,e2,rfl⟩:=qknz hi;obtain⟨b1,us1,c1,m1,n1⟩:=hsq _ _ _ E' RG' hg;cases c1;obtain⟨u1,o1,o2⟩:=n1.get e2;obtain⟨_,rfl⟩:=qjez e1;refine⟨⟨_,_,m1,o1⟩,fun x' H'' hy=>?_⟩;obtain⟨T,u,rfl,hn,rfl,t1⟩:=hy;have:=t1 _ m1;rw[o1] at this;cases this;refine⟨?_,.laid hn,RG'.laid hn⟩;unfold Hv;exact⟨T,_,rfl,.of quz,.cons (by simp[Hv]) (.cons (o2.ext (.laid hn)) .nil)⟩
   ·intro i H' G' E' RG' hg hi;obtain⟨b1,us1,c1,m1,n1⟩:=hsq _ _ _ E' RG' hg;cases c1;refine⟨_,m1,?_⟩;have hi:(enumD xs).length≤i:=hi;unfold enumD zipD at hi;rw[List.length_zipWith,qbjz] at hi;rw[←n1.length];omega
  ·exact q1.elim⟩
end
end L3
namespace L3
open PySem PySem.Spec PyProof.Rows L2
open Classical in
noncomputable def eqF (h:Heap) (vs:List Dat.D) (u:Dat.D) (y:Value):Bool:=if q:∃d,d∈vs/\Dat.Hv h d y then (Classical.choose q).eqb u else false
theorem qgjz{h:Heap}{vs:List Dat.D}{u d:Dat.D}{y:Value}(hd:d∈vs)(hy:Dat.Hv h d y):eqF h vs u y=d.eqb u:=by
 unfold eqF;have q:∃d,d∈vs/\Dat.Hv h d y:=⟨d,hd,hy⟩;rw[dif_pos q,Dat.Hv.inj (Classical.choose_spec q).2 hy]
theorem qc3z{h:Heap}{vs0:List Dat.D}{u:Dat.D}:∀{vs:List Dat.D} {us:List Value},(∀d∈vs,d∈vs0)->Dat.Hvs h vs us->us.any (eqF h vs0 u)=vs.any fun v=>v.eqb u
 |[],us,_,p=>by
  unfold Dat.Hvs at p;subst p;rfl
 |d::ds,us,hm,p=>by
  unfold Dat.Hvs at p;obtain⟨y,r,rfl,p1,p2⟩:=p;rw[List.any_cons,List.any_cons,qgjz (hm d List.mem_cons_self) p1,qc3z (fun d hd=>hm d (List.mem_cons_of_mem _ hd)) p2]
theorem qgkz{h:Heap}{y:Value}:∀{vs:List Dat.D} {us:List Value},Dat.Hvs h vs us->y∈us->∃d,d∈vs/\Dat.Hv h d y
 |[],us,p,hy=>by
  unfold Dat.Hvs at p;subst p;cases hy
 |d::ds,us,p,hy=>by
  unfold Dat.Hvs at p;obtain⟨x,r,rfl,p1,p2⟩:=p;rcases List.mem_cons.mp hy with rfl|hy
  ·exact⟨d,List.mem_cons_self,p1⟩
  ·obtain⟨e,h1,h2⟩:=qgkz p2 hy;exact⟨e,List.mem_cons_of_mem _ h1,h2⟩
def rIn3(neg:Bool):R3:=fun x y G Q=>∃u vs,toDat G x=some u/\(toDat G y=some (.lst vs)∨toDat G y=some (.tup vs))/\Dat.deps vs≤50/\Q (.bl (if neg then !(vs.any fun v=>v.eqb u) else vs.any fun v=>v.eqb u)) G
section
variable {X:Cx}
theorem inR(hu:X.A.units+64<cLine):CmpR X (compareOp .In) (rIn3 false):=by
 intro pins s σ H G x y vx vy u v Q3 I RG hx hy rx ry ⟨p,vs,e1,e2,hd,h⟩;have dx:=qa2z I RG hx rx e1;have fin:EP X pins σ (fun w H'=>∃d G',Hv X.K H' d w/\Step H G H' G'/\RepG X.K G' H'/\Q3 d G') (.bool (vs.any fun v=>v.eqb p)) s:=⟨.bl _,H,I,rfl,.bl _,G,qalz,.refl H G,RG,h⟩;have he:∀(its:List Value),Dat.Hvs s.heap vs its->∀y,y∈its.toArray->SeqAt.EqAt X.A.in1 s y u (eqF s.heap vs p y):=fun its hv y hy=>by
  obtain⟨d,hd',hv'⟩:=qgkz hv (by simpa using hy);rw[qgjz hd' hv'];exact Dat.eqAt d p y u _ hv' dx (by
   have:=Dat.dep_mem hd';have h1:X.A.in1.units=X.A.units+1:=rfl;omega)
 rcases e2 with e2|e2
 ·have dy:=qa2z I RG hy ry e2;unfold Dat.Hv at dy;obtain⟨a,its,rfl,hl,hv⟩:=dy;refine SeqAt.in_listAt (eqF s.heap vs p) hl (he its hv) ?_;rw[List.any_toArray,qc3z (fun d hd=>hd) hv];exact fin
 ·have dy:=qa2z I RG hy ry e2;unfold Dat.Hv at dy;obtain⟨a,its,rfl,hl,hv⟩:=dy;refine SeqAt.in_tupleAt (eqF s.heap vs p) hl (he its hv) ?_;rw[List.any_toArray,qc3z (fun d hd=>hd) hv];exact fin
theorem ninR(hu:X.A.units+64<cLine):CmpR X (compareOp .NotIn) (rIn3 true):=by
 intro pins s σ H G x y vx vy u v Q3 I RG hx hy rx ry ⟨p,vs,e1,e2,hd,h⟩;have dx:=qa2z I RG hx rx e1;have fin:EP X pins σ (fun w H'=>∃d G',Hv X.K H' d w/\Step H G H' G'/\RepG X.K G' H'/\Q3 d G') (.bool (!(vs.any fun v=>v.eqb p))) s:=⟨.bl _,H,I,rfl,.bl _,G,qalz,.refl H G,RG,h⟩;have he:∀(its:List Value),Dat.Hvs s.heap vs its->∀y,y∈its.toArray->SeqAt.EqAt X.A.in1 s y u (eqF s.heap vs p y):=fun its hv y hy=>by
  obtain⟨d,hd',hv'⟩:=qgkz hv (by simpa using hy);rw[qgjz hd' hv'];exact Dat.eqAt d p y u _ hv' dx (by
   have:=Dat.dep_mem hd';have h1:X.A.in1.units=X.A.units+1:=rfl;omega)
 rcases e2 with e2|e2
 ·have dy:=qa2z I RG hy ry e2;unfold Dat.Hv at dy;obtain⟨a,its,rfl,hl,hv⟩:=dy;refine SeqAt.notIn_listAt (eqF s.heap vs p) hl (he its hv) ?_;rw[List.any_toArray,qc3z (fun d hd=>hd) hv];exact fin
 ·have dy:=qa2z I RG hy ry e2;unfold Dat.Hv at dy;obtain⟨a,its,rfl,hl,hv⟩:=dy;refine SeqAt.notIn_tupleAt (eqF s.heap vs p) hl (he its hv) ?_;rw[List.any_toArray,qc3z (fun d hd=>hd) hv];exact fin
theorem qkoz(hu:X.A.units+64<cLine):OpR X (compareOp .In) (cmpR2 X.K (rIn3 false)):=(inR hu).op
theorem qetz(hu:X.A.units+64<cLine):OpR X (compareOp .NotIn) (cmpR2 X.K (rIn3 true)):=(ninR hu).op
theorem l_in{K:PySem.W.Frag}:LowR K (rIn3 false) (cmpR2 K (rIn3 false)):=qejz
theorem qeuz{K:PySem.W.Frag}:LowR K (rIn3 true) (cmpR2 K (rIn3 true)):=qejz
end
section
variable {X:Cx} {a b:Expr} {ta:TA} {p p2 pos pos2:Pos}
theorem qkpz:∀(acc:List Value) (i:Int),(∀(k:Nat) v,acc[k]?=some v->∃t,v=.int (i+(k:Int)) t)->Vals ((List.range acc.length).map fun k:Nat=>V.int (i+(k:Int))) acc
 |[],_,_=>.nil
 |v::acc,i,h=>by
  rw[List.length_cons,List.range_succ_eq_map,List.map_cons,List.map_map];refine .cons ?_ ?_
  ·obtain⟨t,rfl⟩:=h 0 v rfl;exact⟨t,rfl⟩
  ·have:=qkpz acc (i+1) fun k w hk=>by
    obtain⟨t,e⟩:=h (k+1) w (by simpa using hk);exact⟨t,by rw[e,show i+((k+1:Nat):Int)=i+1+(k:Int) by omega]⟩
   rw[show ((fun k:Nat=>V.int (i+(k:Int))) ∘ Nat.succ)=fun k:Nat=>V.int (i+1+(k:Int)) from funext fun k=>by
    show V.int (i+((k+1:Nat):Int))=_;rw[show i+((k+1:Nat):Int)=i+1+(k:Int) by omega]]
   exact this
def rngP(i j:Int)(r:Addr):Heap->Prop:=fun h=>∃t u v,IsRange h r i j 1 t u v
end
end L3
namespace L3
open PySem PySem.Spec PyProof.Rows L2
section
variable {X:Cx} {K:PySem.W.Frag} {e:Expr} {es:List Expr} {t:TA3} {ta:TE3} {pos p p' pos':Pos}
theorem qu5z(hc:X.calm=true):CallR X (.builtin "min") (fun vs H Q=>∃(a:Addr) (ns:List Int),vs=[.ref a]/\SqL X.K H a (ns.map V.int)/\0<ns.length/\∀m,m∈ns->(∀n∈ns,m≤n)->Q (.int m) H):=by
 intro pins s σ H vs us Q I r h;obtain⟨a,ns,rfl,hl,h0,q⟩:=h;obtain⟨u,rfl,ru⟩:=vals1 r;cases ru;refine call_min_walkS (qeqz hc I hl fun its I' rv W h1 h2 h3 back=>?_);have h4:its.length=ns.length:=by rw[←rv.length,List.length_map]
 have hP:∀(i:Nat) (v:Value),its[i]?=some v->∃t,v=Value.int (ns.getD i 0) t:=by
  intro i v hv;have hi:i<ns.length:=by
   have:=(List.getElem?_eq_some_iff.mp hv).1;omega
  obtain⟨u',e1,e2⟩:=rv.get (i:=i) (x:=.int ns[i]) (by rw[List.getElem?_map,List.getElem?_eq_getElem hi];rfl);rw[hv] at e1;cases e1;obtain⟨t,rfl⟩:=(show ∃t,v=Value.int ns[i] t from e2);exact⟨t,by simp[List.getD,hi]⟩
 refine⟨I',_,_,_,_,_,_,_,rfl,W,⟨h1,h2⟩,h3,by omega,CmpOf.ints_lt (fun i=>ns.getD i 0) hP,fun v s' hv hm=>?_⟩;obtain⟨g1,g2⟩:=argBest_lt (fun i=>ns.getD i 0) (its.length-1);obtain⟨t,rfl⟩:=hP _ _ hv;refine⟨.int (ns.getD (argBest (fun i j=>decide (ns.getD i 0<ns.getD j 0)) (its.length-1)) 0),H,back s' hm,⟨t,rfl⟩,q _ ?_ ?_⟩
 ·have hlt:argBest (fun i j=>decide (ns.getD i 0<ns.getD j 0)) (its.length-1)<ns.length:=by omega
  rw[List.getD_eq_getElem?_getD,List.getElem?_eq_getElem hlt];exact List.getElem_mem hlt
 ·intro n hn;obtain⟨j,hj,e⟩:=List.getElem_of_mem hn;have:=g2 j (by omega);have e':ns.getD j 0=n:=by
   rw[List.getD_eq_getElem?_getD,List.getElem?_eq_getElem hj];exact e
  rw[←e'];exact this
def qevz:C3:=fun ds G Q=>match ds with
 |[.obj a]=>∃xs ns,G a=some (.lst xs)/\intsOf xs=some ns/\0<ns.length/\∀m,m∈ns->(∀n∈ns,m≤n)->Q (.int m) G
 |_=>False
theorem qu6z:LowC K qevz (fun vs H Q=>∃(a:Addr) (ns:List Int),vs=[.ref a]/\SqL K H a (ns.map V.int)/\0<ns.length/\∀m,m∈ns->(∀n∈ns,m≤n)->Q (.int m) H):=fun ds vs G H Q3 Q h RG q k=>by
 rcases ds with _|⟨d,_|⟨d2,ds⟩⟩
 ·exact q.elim
 ·obtain⟨v,rfl,hv⟩:=hvs1 h;cases d with
  |obj a=>
   obtain⟨xs,bs,e1,e2,h0,q⟩:=q;obtain⟨ys,e3,e4⟩:=RG a _ e1;rw[qyz hv];rw[qbkz e4 e2] at e3;exact⟨a,bs,rfl,.of e3,h0,fun m h1 h2=>k _ H _ G q9z (.refl H G) RG (q m h1 h2)⟩
  |_=>exact q.elim
 ·cases d<;>exact q.elim
theorem qu7z(hu:X.A.units+64<cLine)(hm:X.mg "min" = none)(ha:PA3 X (e::es) t)(hc:X.calm=true:=by rfl)(hg:Gl X "min":=by rfl)(he:notStar e=true:=by rfl)(hpl:es.all notStar=true:=by rfl):
  PE3 X (.Call (.Name "min" p) (e::es) [] pos) (eCB qevz t):=e_cb qu6z (qbhz (qu5z hc) hg hm rfl ha (he:=qnz he) (hpl:=qaez hpl))
end
end L3
namespace L2
open PySem PySem.Spec PyProof.Rows
def Itr3(lo c:Int)(n:Nat):It:=⟨fun i _=>i<n,fun i H x H'=>H'=H/\x=.int (lo+i*c),fun i _=>n≤i⟩
theorem qu8z{P:Program}{w:World}{K:PySem.W.Frag}{tg:Expr}(it:Addr)(lo c:Int)(n:Nat):Turn P w K tg (Itr3 lo c n) [it] it (fun i h=>IsRangeIter h it (lo+(i:Nat)*c) ((n:Int)-(i:Nat)) c) where
 mem:=by simp
 obj:=fun i h st b hb=>by
  have e:b=it:=by simpa using hb
  subst e;exact⟨_,st,fun v z=>by
   have z':Data.fields _=Data.cell v:=z;cases z'⟩
 keep:=fun i h h' st k=>k it (by simp) _ st
 item:=by
  intro X hP hw hK hc i pins s σ H E I hf st hg;subst hP hw hK;obtain⟨f0,f1,f2,f3,f4,f5⟩:=hf it (by simp);have W:=Walks.range (prog:=X.prog) (w:=X.w) (I.ok.hd hc) it lo c n;refine W.item i s _ _ hg st fun v h' tk hv st' kk=>?_;obtain⟨t,rfl⟩:=hv;have I1:Inv X pins σ H { s with heap:=h',toks:=tk }:=I.turned (fun b o hb e=>kk b o (by simpa using hb) e) f0 f1 f3 f4 f5;refine⟨_,rfl,qd8z (s:={ s with heap:=h',toks:=tk }) (n:="range_iterator") st' rfl rfl (by decide) ⟨.int (lo+i*c),H,I1,⟨t,rfl⟩,⟨rfl,rfl⟩,st',fun b hb=>(hf b hb).1⟩⟩
 done:=by
  intro X hP hw hK hc i pins s σ H E I hf st hg;subst hP hw hK;obtain⟨f0,f1,f2,f3,f4,f5⟩:=hf it (by simp);exact wpAny_pyNext_range_end (I.ok.hd hc) st (by have:n≤i:=hg;omega) fun h' eb=>⟨rfl,I.turned (t':=s.toks) (fun b o hb e=>eb b o hb e) f0 f1 f3 f4 f5⟩
 self:=fun _ _ _ _ _ st h=>wpAny_pyIter_rangeiter st h
def cntR(i j c:Int):Nat:=if i<j then ((j-i-1) / c+1).toNat else 0
theorem qu9z{i j c:Int}(hc:0<c):Builtin.Range.rangeSize i j c=(cntR i j c:Int):=by
 unfold Builtin.Range.rangeSize cntR;rw[if_pos hc];split
 ·rename_i h;have:0≤(j-i-1) / c:=Int.ediv_nonneg (by omega) (by omega);omega
 ·rfl
theorem qvaz{i j c:Int}(h1:-(2^61)≤i)(h2:i<2^61)(h3:-(2^61)≤j)(h4:j<2^61)(hc:0<c)(hc2:c<2^30):Builtin.Range.small i j c=true:=by
 have hs:Builtin.Range.rangeSize i j c≤2^62/\0≤Builtin.Range.rangeSize i j c:=by
  unfold Builtin.Range.rangeSize;rw[if_pos hc];split
  ·rename_i h;have e1:(j-i-1) / c≤j-i-1:=Int.ediv_le_self _ (by omega);have e2:0≤(j-i-1) / c:=Int.ediv_nonneg (by omega) (by omega);omega
  ·omega
 unfold Builtin.Range.small;generalize Builtin.Range.rangeSize i j c=z at hs;simp only[Builtin.Range.rangeFitsLong,Bool.and_eq_true,Bool.or_eq_true,decide_eq_true_eq,beq_iff_eq,hc,gt_iff_lt,if_true];have:∀p q:Int,True:=fun _ _=>trivial;refine ?_;omega
section
variable {X:Cx} {tg:Expr}
theorem qvbz{pins:List (Addr×Obj)}{σ:St}{H:Hp}{s:Shared}{R:It->Hp->Prop}{E:Value->Shared->Prop}{lo hi c:Int}{t u v:Tok}{tk:Nat}(I:Inv X pins σ H s)(hs:Builtin.Range.small lo hi c=true)(hc:0<c)
  (q:R (Itr3 lo c (cntR lo hi c)) H):wpAny (model X.prog X.w) X.A (pyIter (.ref s.heap.objs.size)) (PIE X pins σ tg R) E { s with heap:=s.heap.push { cls:=.type "range",data:=.fields #[.int lo t,.int hi u,.int c v]},toks:=tk }:=by
 refine wpAny_pyIter_range (IsRange.new ..) hs ?_;have I1:Inv X pins σ H { s with heap:=s.heap.push { cls:=.type "range",data:=.fields #[.int lo t,.int hi u,.int c v]},toks:=tk }:=I.kept fun b o e=>Heap.get?_push_of_some _ e;refine⟨(s.heap.push { cls:=.type "range",data:=.fields #[.int lo t,.int hi u,.int c v]}).objs.size,[(s.heap.push { cls:=.type "range",data:=.fields #[.int lo t,.int hi u,.int c v]}).objs.size],_,_,H,rfl,
  I1.kept (t':=tk) fun b o e=>Heap.get?_push_of_some _ e,qu8z _ lo c (cntR lo hi c),?_,fun b hb=>?_,q⟩
 ·have e1:lo+((0:Nat):Int)*c=lo:=by simp
  have e2:(((cntR lo hi c):Nat):Int)-((0:Nat):Int)=Builtin.Range.rangeSize lo hi c:=by rw[qu9z hc];simp
  show IsRangeIter _ _ (lo+((0:Nat):Int)*c) ((((cntR lo hi c):Nat):Int)-((0:Nat):Int)) c;rw[e1,e2];exact Heap.get?_push_size _ rfl
 ·have e:b=(s.heap.push { cls:=.type "range",data:=.fields #[.int lo t,.int hi u,.int c v]}).objs.size:=by simpa using hb
  subst e;exact I1.fpOk (Nat.le_refl _) (I1.hok.fresh (Nat.le_refl _))
def iRng3'(ta:TA):TI:=fun σ H R=>ta σ H fun vs H1=>∃i j c:Int,vs=[.int i,.int j,.int c]/\(-(2^61)≤i/\i<2^61/\-(2^61)≤j/\j<2^61/\0<c/\c<2^30)/\R (Itr3 i c (cntR i j c)) H1
theorem qvcz{a b d:Expr}{ta:TA}{p pos:Pos}(hg:Gl X "range")(hm:X.mg "range" = none)(ha:PA X [a,b,d] ta)(hs:starEach [a,b,d] X.env=[(false,eval a X.env),(false,eval b X.env),(false,eval d X.env)])(hs2:starEach [b,d] X.env=[(false,eval b X.env),(false,eval d X.env)]):
  PI X tg (.Call (.Name "range" p) [a,b,d] [] pos) (iRng3' ta):=by
 intro pins s σ H R I h;refine Call_ (qatz I hg hm boot_range (PyProof.Rows.callWith_type1 (thn (ha pos pins s σ H _ I h) fun us s1 ⟨vs,H1,I1,r1,q1⟩=>?_) (by rw[hs,hs2]) (by rw[hs2];rfl)));obtain⟨i,j,c,e,⟨q1,q2,q3,q4,q5,q6⟩,q⟩:=q1;subst e;cases r1 with
 |cons r rr=>
  cases rr with
  |cons r' rr=>
   cases rr with
   |cons r'' rr=>
    cases rr;obtain⟨t,rfl⟩:=r;obtain⟨t',rfl⟩:=r';obtain⟨t'',rfl⟩:=r'';exact call_range_3 (by omega) (qvbz I1 (qvaz q1 q2 q3 q4 q5 q6) q5 q) (.inl (PyProof.noPylong_small (by omega)))
end
section
variable {X:Cx}
theorem qvdz:PGet X (rIxL X.K):=by
 intro pins s σ H x y v u Q I rx ry h;obtain⟨p,xs,i,z,rfl,rfl,hq,he,q⟩:=h;cases rx;obtain⟨t,rfl⟩:=ry;obtain⟨its,r,pl,hz⟩:=I.list hq;obtain⟨j,h1,h2,h3,h4,h5⟩:=qebz he;obtain⟨w,ew,rw'⟩:=r.get h2;have hl:=r.length;have hn:=line63;have fin:EP X pins σ Q w s:=⟨z,H,I,rw',q⟩;by_cases h0:0≤i
 ·have hj:i.toNat=j:=by
   rw[seqIndex_of h0 h5] at h1;exact Option.some.inj h1
  exact wpAny_getItem_list pl.isList h0 (by omega) (by rw[hj];simpa using ew) fin
 ·have hj:(i+(its.toArray.size:Int)).toNat=j:=by
   rw[seqIndex_neg (by omega) h4] at h1;rw[List.size_toArray,←hl];exact Option.some.inj h1
  exact wpAny_getItem_list_neg pl.isList (by omega) (by rw[List.size_toArray]<;>omega) (by omega) (by rw[hj];simpa using ew) fin
end
end L2
namespace L3
open PySem PySem.Spec PyProof.Rows L2
section
variable {X:Cx} {tg:Expr} {p pos:Pos}
def rngC(lo c:Int)(n:Nat):List D:=(List.range n).map fun i:Nat=>.int (lo+(i:Int)*c)
theorem qvez{lo c:Int}{n i:Nat}{d:D}(h:(rngC lo c n)[i]?=some d):i<n/\d=.int (lo+(i:Int)*c):=by
 unfold rngC at h;rw[List.getElem?_map] at h;by_cases hi:i<n
 ·rw[List.getElem?_range hi] at h;simp at h;exact⟨hi,h.symm⟩
 ·rw[List.getElem?_eq_none_iff.mpr (by simpa using hi)] at h;cases h
theorem qvfz(lo c:Int)(n:Nat):(rngC lo c n).length=n:=by simp[rngC]
theorem qvgz{K:PySem.W.Frag}{H:Hp}(lo c:Int)(n:Nat):SrcOk K H (Itr3 lo c n) ⟨rngC lo c n,fun _=>True⟩:=⟨by
 intro i d H' G' _ RG _ hi;obtain⟨h1,h2⟩:=qvez hi;refine⟨h1,fun x H'' hy=>?_⟩;obtain⟨rfl,rfl⟩:=hy;exact⟨by rw[h2];simp[Hv],.refl _ _,RG⟩,by
 intro i H' G' _ RG _ hi;rw[qvfz] at hi;exact hi⟩
def iRng3(ta:TA3):TI3:=fun τ G R=>ta τ G fun ds G1=>match ds with
 |[.int i,.int j,.int c]=>(-(2^61)≤i/\i<2^61/\-(2^61)≤j/\j<2^61/\0<c/\c<2^30)/\R ⟨rngC i c (cntR i j c),fun _=>True⟩ G1
 |_=>False
theorem qvhz{a b d:Expr}{ta:TA3}(hm:X.mg "range" = none)(ha:PA3 X [a,b,d] ta)(hg:Gl X "range":=by rfl)(hs:notStar a=true:=by rfl)(hs2:notStar b=true:=by rfl)(hs3:notStar d=true:=by rfl):
  PI3 X tg (.Call (.Name "range" p) [a,b,d] [] pos) (iRng3 ta):=
 qcwz (qvcz hg hm ha (by rw[qnz hs,qnz hs2,qnz hs3];rfl) (by rw[qnz hs2,qnz hs3];rfl)) fun σ H R ⟨τ,G,R3,RS,RG,h,k⟩=>⟨τ,G,_,RS,RG,h,fun vs H1 ds G1 h1 S1 R1 q1=>by
  rcases ds with _|⟨d,_|⟨d2,_|⟨d3,_|⟨d4,ds⟩⟩⟩⟩
  ·exact q1.elim
  ·cases d<;>exact q1.elim
  ·cases d<;>(try exact q1.elim)<;>cases d2<;>exact q1.elim
  ·cases d with
   |int i=>
    cases d2 with
    |int j=>
     cases d3 with
     |int c=>
      obtain⟨v,r,rfl,z1,z2⟩:=h1.inv;obtain⟨v2,r2,rfl,z3,z4⟩:=z2.inv;obtain⟨v3,r3,rfl,z5,z6⟩:=z4.inv;cases z6.inv0;unfold Hv at z1 z3 z5;exact⟨i,j,c,by rw[z1,z3,z5],q1.1,k _ _ _ _ (qvgz i c _) S1 R1 q1.2⟩
     |_=>exact q1.elim
    |_=>cases d3<;>exact q1.elim
   |_=>cases d2<;>(try exact q1.elim)<;>cases d3<;>exact q1.elim
  ·cases d<;>(try exact q1.elim)<;>cases d2<;>(try exact q1.elim)<;>cases d3<;>exact q1.elim⟩
abbrev rIAdd3:R3:=rI3 fun i j=>.int (i+j)
theorem qviz{K:PySem.W.Frag}:LowR K rIAdd3 (ipI fun i j=>i+j):=low_ints fun _ _ _=>q9z
theorem qvjz{o i e:Expr}{to ti te:TE3}{tpos:Pos}(ho:PE3 X o to)(hi:PE3 X i ti)(he:PE3 X e te)
  (ha:∀ov iv new,augStore i ov iv new=(do holding [new,ov,iv] (setItem ov iv new);release [new,ov,iv] [];pure .next):=by intros;rfl):
  PS3 X (.AugAssign (.Subscript o i tpos) .Add e pos) (sAugS to ti te (· + ·)):=
 qavz (qpaz ho hi qvdz he qijz set_list ha) fun D σ H ⟨τ,G,D3,RS,RG,h,k⟩=>by
  refine⟨τ,G,_,RS,RG,h,fun v1 H1 d1 G1 h1 S1 R1 q1=>⟨τ,G1,_,RS.ext (S1.ext RG),R1,q1,fun v2 H2 d2 G2 h2 S2 R2 q2=>?_⟩⟩;cases d1 with
  |obj p=>
   cases d2 with
   |int j=>
    obtain⟨ds,x,e1,e2,q⟩:=q2;obtain⟨vs,z1,z2⟩:=R2 p _ e1;obtain⟨v,z3,z4⟩:=qczz z2 e2;have hv1:v1=.ref p:=qyz h1;have hv2:v2=.int j:=qtz h2;refine⟨p,vs,j,v,hv1,hv2,.of z1,z3,⟨τ,G2,_,(RS.ext (S1.ext RG)).ext (S2.ext R1),R2,q,fun v5 H5 d5 G5 h5 S5 R5 q5=>?_⟩⟩;cases d5 with
    |int y=>
     have hx:v=.int x:=qtz z4;have hy:v5=.int y:=qtz h5;refine⟨x,y,hx,hy,?_⟩;exact qjdz (((h1.ext (S2.ext R1)).ext (S5.ext R2))) ((h2.ext (S5.ext R2))) q9z R5 q5 fun H' G' y1 y2 y3=>k.nx _ _ G' H' ((((RS.ext (S1.ext RG)).ext (S2.ext R1)).ext (S5.ext R2)).ext (y1.ext R5)) (((S1.trans S2).trans S5).trans y1) y2 y3
    |_=>exact q5.elim
   |_=>exact q2.elim
  |_=>cases d2<;>exact q2.elim
end
end L3
namespace L3
open PySem PySem.Spec PyProof.Rows L2
structure QE(X:Cx)(e:Expr)(t:TE3):Prop where
 of:PE3 X e t
structure QT(X:Cx)(e:Expr)(t:TT3):Prop where
 of:PT3 X e t
structure QW(X:Cx)(e:Expr)(t:TT3):Prop where
 of:PW3 X e t
structure QA(X:Cx)(es:List Expr)(t:TA3):Prop where
 of:PA3 X es t
structure QS(X:Cx)(st:Stmt)(t:TS3):Prop where
 of:PS3 X st t
structure QSs(X:Cx)(st:List Stmt)(t:TS3):Prop where
 of:PSs3 X st t
structure QG(X:Cx)(tg:Expr)(t:TG3):Prop where
 of:PG3 X tg t
structure QGs(X:Cx)(tgs:List Expr)(t:TGs3):Prop where
 of:PGs3 X tgs t
structure QI(X:Cx)(tg iter:Expr)(t:TI3):Prop where
 of:PI3 X tg iter t
structure QO(X:Cx)(e:Option Expr)(t:TO3):Prop where
 of:PO3 X e t
structure QC(X:Cx)(ifs:List Expr)(t:TT3):Prop where
 of:PCt X ifs (lowT X.K t)
section
variable {X:Cx} {a b e c:Expr} {ta tb te:TE3} {tA tB:TT3} {pos:Pos} {es rest:List Expr}
theorem qaz{i:Nat}{x:Str}(h:PE X (.Name x pos) (tVar i)):QE X (.Name x pos) (eVar i):=⟨qq1z (h:=h)⟩
end
section
variable {X:Cx} {a b e c:Expr} {ta tb te:TE3} {tA tB:TT3} {pos:Pos} {es rest:List Expr}
theorem qdz{i:Int}{j}:QE X (.Constant (.int i) j pos) (eC (.int i)):=⟨qq2z ⟩
end
section
variable {X:Cx} {a b e c:Expr} {ta tb te:TE3} {tA tB:TT3} {pos:Pos} {es rest:List Expr}
theorem q1z{i:Bool}{j}:QE X (.Constant (.bool i) j pos) (eC (.bl i)):=⟨e_bl ⟩
end
section
variable {X:Cx} {a b e c:Expr} {ta tb te:TE3} {tA tB:TT3} {pos:Pos} {es rest:List Expr}
theorem qarz{j}:QE X (.Constant .none j pos) (eC .non):=⟨qq3z ⟩
end
section
variable {X:Cx} {a b e c:Expr} {ta tb te:TE3} {tA tB:TT3} {pos:Pos} {es rest:List Expr}
theorem qglz{x:Str}{i:Int}{u:Tok}(hm:X.mg x=some (.int i u))(hg:Gl X x:=by rfl)(hd:(x==("__debug__":Str))=false:=by decide):QE X (.Name x pos) (eC (.int i)):=⟨qq4z (hm:=hm) (hg:=hg) (hd:=hd)⟩
end
section
variable {X:Cx} {a b e c:Expr} {ta tb te:TE3} {tA tB:TT3} {pos:Pos} {es rest:List Expr}
theorem qiz{op:Operator}{r:R3}{r2:R2}(L:LowR X.K r r2)(ho:OpR X (binaryOp op) r2)(ha:QE X a ta)(hb:QE X b tb):QE X (.BinOp a op b pos) (eOp r ta tb):=⟨e_op (L:=L) (ho:=ho) (ha:=ha.of) (hb:=hb.of)⟩
end
section
variable {X:Cx} {a b e c:Expr} {ta tb te:TE3} {tA tB:TT3} {pos:Pos} {es rest:List Expr}
theorem qanz{op:CmpOp}{r:R3}{r2:R2}(L:LowR X.K r r2)(ho:OpR X (compareOp op) r2)(ha:QE X a ta)(hb:QE X b tb)(hm:behindInMarks op b=false):QE X (.Compare a [op] [b] pos) (eOp r ta tb):=⟨qq5z (L:=L) (ho:=ho) (ha:=ha.of) (hb:=hb.of) (hm:=hm)⟩
end
section
variable {X:Cx} {a b e c:Expr} {ta tb te:TE3} {tA tB:TT3} {pos:Pos} {es rest:List Expr}
theorem qpz{op:CmpOp}{r:R3}{r2:R2}(L:LowR X.K r r2)(ho:OpR X (compareOp op) r2)(ha:QE X a ta)(hb:QE X b tb)(hm:behindInMarks op b=false):QT X (.Compare a [op] [b] pos) (eTest (eOp r ta tb)):=⟨qq6z (L:=L) (ho:=ho) (ha:=ha.of) (hb:=hb.of) (hm:=hm)⟩
end
section
variable {X:Cx} {a b e c:Expr} {ta tb te:TE3} {tA tB:TT3} {pos:Pos} {es rest:List Expr}
theorem q5z(h:QE X a ta)(he:∀whole,isTrue a X.env whole=(do let v ←whole;standAt a.pos;holding [v] (truthy v)):=by intro _;rfl):QT X a (eTest ta):=⟨qq7z (h:=h.of) (he:=he)⟩
end
section
variable {X:Cx} {a b e c:Expr} {ta tb te:TE3} {tA tB:TT3} {pos:Pos} {es rest:List Expr}
theorem qc4z(ha:QT X a tA):QW X (.BoolOp .And [a] pos) tA:=⟨qraz (ha:=ha.of)⟩
end
section
variable {X:Cx} {a b e c:Expr} {ta tb te:TE3} {tA tB:TT3} {pos:Pos} {es rest:List Expr}
theorem qbmz(ha:QT X a tA):QW X (.BoolOp .Or [a] pos) tA:=⟨qrbz (ha:=ha.of)⟩
end
section
variable {X:Cx} {a b e c:Expr} {ta tb te:TE3} {tA tB:TT3} {pos:Pos} {es rest:List Expr}
theorem qc5z(ha:QT X a tA)(hb:QW X (.BoolOp .And (b::rest) pos) tB):QW X (.BoolOp .And (a::b::rest) pos) (eAnd tA tB):=⟨qrcz (ha:=ha.of) (hb:=hb.of)⟩
end
section
variable {X:Cx} {a b e c:Expr} {ta tb te:TE3} {tA tB:TT3} {pos:Pos} {es rest:List Expr}
theorem qa4z(ha:QT X a tA)(hb:QW X (.BoolOp .Or (b::rest) pos) tB):QW X (.BoolOp .Or (a::b::rest) pos) (eOr tA tB):=⟨qrdz (ha:=ha.of) (hb:=hb.of)⟩
end
section
variable {X:Cx} {a b e c:Expr} {ta tb te:TE3} {tA tB:TT3} {pos:Pos} {es rest:List Expr}
theorem qaoz(h:QW X a tA):QT X a tA:=⟨tt_w (h:=h.of)⟩
end
section
variable {X:Cx} {a b e c:Expr} {ta tb te:TE3} {tA tB:TT3} {pos:Pos} {es rest:List Expr}
theorem qahz(ha:QT X a tA):QT X (.UnaryOp .Not a pos) (eNot tA):=⟨qrez (ha:=ha.of)⟩
end
section
variable {X:Cx} {a b e c:Expr} {ta tb te:TE3} {tA tB:TT3} {pos:Pos} {es rest:List Expr}
theorem qc6z{op}(h:QE X a ta):QE X (.BoolOp op [a] pos) ta:=⟨qrfz (h:=h.of)⟩
end
section
variable {X:Cx} {a b e c:Expr} {ta tb te:TE3} {tA tB:TT3} {pos:Pos} {es rest:List Expr}
theorem qewz(ha:QE X a ta)(hb:QE X (.BoolOp .And (b::rest) pos) tb):QE X (.BoolOp .And (a::b::rest) pos) (eAndV ta tb):=⟨qrgz (ha:=ha.of) (hb:=hb.of)⟩
end
section
variable {X:Cx} {a b e c:Expr} {ta tb te:TE3} {tA tB:TT3} {pos:Pos} {es rest:List Expr}
theorem qvkz(ha:QE X a ta)(hb:QE X (.BoolOp .Or (b::rest) pos) tb):QE X (.BoolOp .Or (a::b::rest) pos) (eOrV ta tb):=⟨e_or (ha:=ha.of) (hb:=hb.of)⟩
end
section
variable {X:Cx} {a b e c:Expr} {ta tb te:TE3} {tA tB:TT3} {pos:Pos} {es rest:List Expr}
theorem qkqz(ha:QE X a ta):QE X (.UnaryOp .Not a pos) (eNotV ta):=⟨qrhz (ha:=ha.of)⟩
end
section
variable {X:Cx} {a b e c:Expr} {ta tb te:TE3} {tA tB:TT3} {pos:Pos} {es rest:List Expr}
theorem qcz  : QA X [] aNil:=⟨qriz ⟩
end
section
variable {X:Cx} {a b e c:Expr} {ta tb te:TE3} {tA tB:TT3} {pos:Pos} {es rest:List Expr}
theorem qbz{tr:TA3}(ha:QE X a ta)(hr:QA X es tr)(hs:notStar a=true:=by rfl):QA X (a::es) (aCons ta tr):=⟨qrjz (ha:=ha.of) (hr:=hr.of) (hs:=hs)⟩
end
section
variable {X:Cx} {a b e c:Expr} {ta tb te:TE3} {tA tB:TT3} {pos:Pos} {es rest:List Expr}
theorem qa5z{t:TA3}{x1}(h:QA X es t):QE X (.Tuple es x1 pos) (eTup t):=⟨qrkz (h:=h.of)⟩
end
section
variable {X:Cx} {a b e c:Expr} {ta tb te:TE3} {tA tB:TT3} {pos:Pos} {es rest:List Expr}
theorem qacz{t:TA3}(h:QA X es t):QE X (.List es pos) (eLst t):=⟨qrlz (h:=h.of)⟩
end
section
variable {X:Cx} {st:Stmt} {rest:List Stmt} {t u:TS3} {e c:Expr} {te:TE3} {tc:TT3} {pos:Pos}
theorem qrz  : QSs X [] sNext:=⟨qrsz ⟩
end
section
variable {X:Cx} {st:Stmt} {rest:List Stmt} {t u:TS3} {e c:Expr} {te:TE3} {tc:TT3} {pos:Pos}
theorem qfz(h1:QS X st t)(h2:QSs X rest u):QSs X (st::rest) (sSeq t u):=⟨qrtz (h1:=h1.of) (h2:=h2.of)⟩
end
section
variable {X:Cx} {st:Stmt} {rest:List Stmt} {t u:TS3} {e c:Expr} {te:TE3} {tc:TT3} {pos:Pos}
theorem qez(h1:QS X st t):QSs X [st] t:=⟨qruz (h1:=h1.of)⟩
end
section
variable {X:Cx} {st:Stmt} {rest:List Stmt} {t u:TS3} {e c:Expr} {te:TE3} {tc:TT3} {pos:Pos}
theorem qbxz(he:QE X e te)(hs:swapsWith e none pos.line X.env=pure false:=by rfl):QS X (.Expr e pos) (sDrop te):=⟨qrvz (he:=he.of) (hs:=hs)⟩
end
section
variable {X:Cx} {st:Stmt} {rest:List Stmt} {t u:TS3} {e c:Expr} {te:TE3} {tc:TT3} {pos:Pos}
theorem qhz(he:QE X e te):QS X (.Return (some e) pos) (sRet te):=⟨qrwz (he:=he.of)⟩
end
section
variable {X:Cx} {st:Stmt} {rest:List Stmt} {t u:TS3} {e c:Expr} {te:TE3} {tc:TT3} {pos:Pos}
theorem qsz{a b:List Stmt}(hc:QT X c tc)(ha:QSs X a t)(hb:QSs X b u):QS X (.If c a b pos) (sIf tc t u):=⟨s_if (hc:=hc.of) (ha:=ha.of) (hb:=hb.of)⟩
end
section
variable {X:Cx} {st:Stmt} {rest:List Stmt} {t u:TS3} {e c:Expr} {te:TE3} {tc:TT3} {pos:Pos}
theorem qkrz  : QS X st sNever:=⟨qrxz ⟩
end
section
variable {X:Cx} {pos:Pos} {e:Expr} {es:List Expr}
theorem qlz{i:Nat}{x:Str}(hN:X.N.Nodup)(hi:X.N[i]?=some x:=by rfl)(hx:Loc X.env.scope x:=by first|exact Or.inl rfl|exact Or.inr rfl)(hf:X.fn x=true∨X.env.scope.names.lookup x=some .local:=by first|exact .inl rfl|exact .inr rfl|assumption):QG X (.Name x pos) (hName i):=⟨qryz (hN:=hN) (hi:=hi) (hx:=hx) (hf:=hf)⟩
end
section
variable {X:Cx} {pos:Pos} {e:Expr} {es:List Expr}
theorem qbyz  : QGs X [] hNil:=⟨qrzz ⟩
end
section
variable {X:Cx} {pos:Pos} {e:Expr} {es:List Expr}
theorem qaiz{t:TG3}{u:TGs3}(h1:QG X e t)(h2:QGs X es u)(hs:(assignEach (e::es) X.env).map (·.2)=assign e X.env::(assignEach es X.env).map (·.2):=by rfl):QGs X (e::es) (hCons t u):=⟨qr0z (h1:=h1.of) (h2:=h2.of) (hs:=hs)⟩
end
section
variable {X:Cx} {pos:Pos} {e:Expr} {es:List Expr}
theorem qbzz{k:Nat}{t:TGs3}{n:Nat}(hc:X.calm=true)(h:QGs X es t)(hn:(assignEach es X.env).length=n:=by rfl)(hst:(assignEach es X.env).findIdx? (·.1)=none:=by rfl):QG X (.Tuple es k pos) (hTup n t):=⟨qr1z (hc:=hc) (h:=h.of) (hn:=hn) (hst:=hst)⟩
end
section
variable {X:Cx} {pos:Pos} {e:Expr} {es:List Expr}
theorem qc7z{tg:Expr}{te:TE3}{g:TG3}(he:QE X e te)(hg:QG X tg g)(hs:swapsWithSole [tg] e pos.line X.env=pure false:=by rfl)(hw:swappedStores [tg] e X.env=pure none:=by rfl)(h1:(assignEach [tg] X.env).map (·.2)=[assign tg X.env]:=by rfl):QS X (.Assign [tg] e pos) (sAsg te g):=⟨qr2z (he:=he.of) (hg:=hg.of) (hs:=hs) (hw:=hw) (h1:=h1)⟩
end
section
variable {X:Cx} {pos:Pos} {e:Expr} {es:List Expr}
theorem qkz{i:Nat}{x:Str}{te:TE3}{pos':Pos}(hN:X.N.Nodup)(he:QE X e te)(hi:X.N[i]?=some x:=by rfl)(hx:Loc X.env.scope x:=by first|exact Or.inl rfl|exact Or.inr rfl)(hs:swapsWith e (some (.Name x pos')) pos.line X.env=pure false:=by rfl)(hf:X.fn x=true∨X.env.scope.names.lookup x=some .local:=by first|exact .inl rfl|exact .inr rfl|assumption):QS X (.Assign [.Name x pos'] e pos) (sAsg te (hName i)):=⟨qr3z (hN:=hN) (he:=he.of) (hi:=hi) (hx:=hx) (hs:=hs) (hf:=hf)⟩
end
section
variable {X:Cx} {pos:Pos} {e:Expr} {es:List Expr}
theorem qvlz{i:Nat}{x:Str}{te:TE3}{op:Operator}{r:R3}{r2:TIp}{pos':Pos}(L:LowR X.K r r2)(hN:X.N.Nodup)(he:QE X e te)(ho:PIp X op r2)(hi:X.N[i]?=some x:=by rfl)(hx:Loc X.env.scope x:=by first|exact Or.inl rfl|exact Or.inr rfl)(hf:X.fn x=true∨X.env.scope.names.lookup x=some .local:=by first|exact .inl rfl|exact .inr rfl|assumption):QS X (.AugAssign (.Name x pos') op e pos) (sAug i te r):=⟨qr4z (L:=L) (hN:=hN) (he:=he.of) (ho:=ho) (hi:=hi) (hx:=hx) (hf:=hf)⟩
end
section
variable {X:Cx} {pos:Pos} {e:Expr} {es:List Expr}
theorem qexz{o i:Expr}{to ti:TE3}(ho:QE X o to)(hi:QE X i ti) (ha:∀v,assign (.Subscript o i pos) X.env v=(do
   let ov ←holding [v] (eval o X.env)
   let iv ←holding [v,ov] (eval i X.env)
   standAt pos
   holding [v,ov,iv] (setItem ov iv v)
   release [v,ov,iv] []):=by intro _;rfl):QG X (.Subscript o i pos) (hSub to ti):=⟨qr5z (ho:=ho.of) (hi:=hi.of) (ha:=ha)⟩
end
section
variable {X:Cx} {pos:Pos} {e:Expr} {es:List Expr}
theorem qksz{c:Expr}{body:List Stmt}{tc:TT3}{tb:TS3}(hp:PassesOwn (model X.prog X.w) X.A X.env X.xe)(hc:QT X c tc)(hb:QSs X body tb):QS X (.While c body [] pos) (sWhile tc tb):=⟨qr6z (hp:=hp) (hc:=hc.of) (hb:=hb.of)⟩
end
section
variable {X:Cx} {k:Nat} {f:Addr} {fd:FuncData} {ps:List Str} {sp:Sp3} {x:Str} {p pos:Pos} {e:Expr} {es:List Expr} {t:TA3}
theorem qgz(F:FnOk3 X.prog X.w X.K X.mg X.base k f fd ps sp)(hr:Room k X.A)(hm:X.mg x=some (.ref f))(hk:PySem.W.keepIn X.K (.ref f)=true)(hb:Binds X.K fd ps [])(ha:QA X (e::es) t)(hg:Gl X x:=by rfl)(hdb:(x==("__debug__":Str))=false:=by decide)(he:notStar e=true:=by rfl)(hpl:es.all notStar=true:=by rfl):QE X (.Call (.Name x p) (e::es) [] pos) (eCall sp t):=⟨qr8z (F:=F) (hr:=hr) (hm:=hm) (hk:=hk) (hb:=hb) (ha:=ha.of) (hg:=hg) (hdb:=hdb) (he:=he) (hpl:=hpl)⟩
end
section
variable {X:Cx} {tg iter:Expr} {pos p:Pos}
theorem q2z{l:Expr}{te:TE3}(hl:QE X l te):QI X tg l (iSeq te):=⟨qr9z (hl:=hl.of)⟩
end
section
variable {X:Cx} {tg iter:Expr} {pos p:Pos}
theorem qaxz{a:Expr}{ta:TA3}(hm:X.mg "range" = none)(ha:QA X [a] ta)(hg:Gl X "range":=by rfl)(hs:notStar a=true:=by rfl):QI X tg (.Call (.Name "range" p) [a] [] pos) (iRng1 ta):=⟨qsaz (hm:=hm) (ha:=ha.of) (hg:=hg) (hs:=hs)⟩
end
section
variable {X:Cx} {tg iter:Expr} {pos p:Pos}
theorem qvmz{a b:Expr}{ta:TA3}(hm:X.mg "range" = none)(ha:QA X [a,b] ta)(hg:Gl X "range":=by rfl)(hs:notStar a=true:=by rfl)(hs2:notStar b=true:=by rfl):QI X tg (.Call (.Name "range" p) [a,b] [] pos) (iRng2 ta):=⟨qsbz (hm:=hm) (ha:=ha.of) (hg:=hg) (hs:=hs) (hs2:=hs2)⟩
end
section
variable {X:Cx} {tg iter:Expr} {pos p:Pos}
theorem qzz{body:List Stmt}{ti:TI3}{g:TG3}{tb:TS3}(hp:PassesOwn (model X.prog X.w) X.A X.env X.xe)(hc:X.calm=true)(hi:QI X tg iter ti)(hg:QG X tg g)(hb:QSs X body tb)(hs:∀x,foldedSetIterable iter X.env x=pure x:=by intro _;rfl):QS X (.For tg iter body [] pos) (sFor ti g tb):=⟨qscz (hp:=hp) (hc:=hc) (hi:=hi.of) (hg:=hg.of) (hb:=hb.of) (hs:=hs)⟩
end
section
variable {X:Cx} {tg iter:Expr} {pos p:Pos}
theorem qasz  : QC X [] (tNoTest3):=⟨qsdz ⟩
end
section
variable {X:Cx} {tg iter:Expr} {pos p:Pos}
theorem qb0z{c:Expr}{t:TT3}(h:QT X c t):QC X [c] (t):=⟨qsez (h:=h.of)⟩
end
section
variable {X:Cx} {K:PySem.W.Frag}
theorem qoz{a b:Expr}{ta tb:TE3}{pos:Pos}(ha:QE X a ta)(hb:QE X b tb)(hs:PlainIx b:=by intro _ _;rfl):QE X (.Subscript a b pos) (eOp rIx3 ta tb):=⟨e_ix (ha:=ha.of) (hb:=hb.of) (hs:=hs)⟩
end
section
variable {X:Cx} {K:PySem.W.Frag}
theorem qgmz{es:List Expr}{b:Expr}{ta:TA3}{tb:TE3}{pos pos':Pos}(ha:QA X es ta)(hb:QE X b tb)(hs:PlainIx b:=by intro _ _;rfl):QE X (.Subscript (.List es pos') b pos) (eLstIx ta tb):=⟨qsnz (ha:=ha.of) (hb:=hb.of) (hs:=hs)⟩
end
section
variable {X:Cx} {a b e:Expr} {ta tb:TE3} {pos:Pos}
theorem qbdz  : QO X none oNone:=⟨qsoz ⟩
end
section
variable {X:Cx} {a b e:Expr} {ta tb:TE3} {pos:Pos}
theorem qayz(h:QE X e ta):QO X (some e) (oSome ta):=⟨qspz (h:=h.of)⟩
end
section
variable {X:Cx} {a b e:Expr} {ta tb:TE3} {pos:Pos}
theorem qa6z{lo hi:Option Expr}{tl th:TO3}{p2:Pos}(ha:QE X a ta)(hl:QO X lo tl)(hh:QO X hi th):QE X (.Subscript a (.Slice lo hi none p2) pos) (eSl ta tl th):=⟨e_sl (ha:=ha.of) (hl:=hl.of) (hh:=hh.of)⟩
end
section
variable {X:Cx} {K:PySem.W.Frag} {e:Expr} {es:List Expr} {t:TA3} {ta:TE3} {pos p:Pos}
theorem q3z(hu:X.A.units+64<cLine)(hm:X.mg "len" = none)(ha:QA X (e::es) t)(hg:Gl X "len":=by rfl)(he:notStar e=true:=by rfl)(hpl:es.all notStar=true:=by rfl):QE X (.Call (.Name "len" p) (e::es) [] pos) (eCB qvz t):=⟨qstz (hu:=hu) (hm:=hm) (ha:=ha.of) (hg:=hg) (he:=he) (hpl:=hpl)⟩
end
section
variable {X:Cx} {K:PySem.W.Frag} {e:Expr} {es:List Expr} {t:TA3} {ta:TE3} {pos p:Pos}
theorem qvnz(hu:X.A.units+64<cLine)(hm:X.mg "int" = none)(ha:QA X (e::es) t)(hg:Gl X "int":=by rfl)(he:notStar e=true:=by rfl)(hpl:es.all notStar=true:=by rfl):QE X (.Call (.Name "int" p) (e::es) [] pos) (eCB qekz t):=⟨qsvz (hu:=hu) (hm:=hm) (ha:=ha.of) (hg:=hg) (he:=he) (hpl:=hpl)⟩
end
section
variable {X:Cx} {K:PySem.W.Frag} {e:Expr} {es:List Expr} {t:TA3} {ta:TE3} {pos p:Pos}
theorem qvoz(hu:X.A.units+64<cLine)(hm:X.mg "max" = none)(ha:QA X (e::es) t)(hc:X.calm=true:=by rfl)(hg:Gl X "max":=by rfl)(he:notStar e=true:=by rfl)(hpl:es.all notStar=true:=by rfl):QE X (.Call (.Name "max" p) (e::es) [] pos) (eCB qf1z t):=⟨qsxz (hu:=hu) (hm:=hm) (ha:=ha.of) (hc:=hc) (hg:=hg) (he:=he) (hpl:=hpl)⟩
end
section
variable {X:Cx} {K:PySem.W.Frag} {e:Expr} {es:List Expr} {t:TA3} {ta:TE3} {pos p:Pos}
theorem qb1z(hu:X.A.units+64<cLine)(hm:X.mg "tuple" = none)(ha:QA X (e::es) t)(hg:Gl X "tuple":=by rfl)(he:notStar e=true:=by rfl)(hpl:es.all notStar=true:=by rfl):QE X (.Call (.Name "tuple" p) (e::es) [] pos) (eCB qa3z t):=⟨qszz (hu:=hu) (hm:=hm) (ha:=ha.of) (hg:=hg) (he:=he) (hpl:=hpl)⟩
end
section
variable {X:Cx} {a e:Expr} {es:List Expr} {ta:TE3} {t:TA3} {pos p p2:Pos}
theorem qeyz{T:String}{TS:Str}(k:Kit T)(hv:bootBuiltins TS=some (.type T))(ha:QE X a ta)(hm:X.mg "isinstance" = none)(hm2:X.mg TS=none)(hgT:Gl X TS)(hnT:TS≠"__name__")(hdT:(TS==("__debug__":Str))=false)(hg:Gl X "isinstance":=by rfl)(he:notStar a=true:=by rfl):QE X (.Call (.Name "isinstance" p) [a,.Name TS p2] [] pos) (eInst T ta):=⟨qudz (k:=k) (hv:=hv) (ha:=ha.of) (hm:=hm) (hm2:=hm2) (hgT:=hgT) (hnT:=hnT) (hdT:=hdT) (hg:=hg) (he:=he)⟩
end
section
variable {X:Cx} {K:PySem.W.Frag} {e:Expr} {es:List Expr} {t:TA3} {ta:TE3} {pos p p' pos':Pos}
theorem qktz(hu:X.A.units+64<cLine)(hm:X.mg "sorted" = none)(ha:QA X (e::es) t)(hc:X.calm=true:=by rfl)(hg:Gl X "sorted":=by rfl)(he:notStar e=true:=by rfl)(hpl:es.all notStar=true:=by rfl):QE X (.Call (.Name "sorted" p) (e::es) [] pos) (eCB qc2z t):=⟨qukz (hu:=hu) (hm:=hm) (ha:=ha.of) (hc:=hc) (hg:=hg) (he:=he) (hpl:=hpl)⟩
end
section
variable {X:Cx} {K:PySem.W.Frag} {e:Expr} {es:List Expr} {t:TA3} {ta:TE3} {pos p p' pos':Pos}
theorem qkuz(hu:X.A.units+64<cLine)(ha:QE X e ta)(hm:X.mg "sorted" = none)(hm2:X.mg "set" = none)(hc:X.calm=true:=by rfl)(hg:Gl X "sorted":=by rfl)(hg2:Gl X "set":=by rfl)(he2:notStar e=true:=by rfl):QE X (.Call (.Name "sorted" p) [.Call (.Name "set" p') [e] [] pos'] [] pos) (eSortSet ta):=⟨qulz (hu:=hu) (ha:=ha.of) (hm:=hm) (hm2:=hm2) (hc:=hc) (hg:=hg) (hg2:=hg2) (he2:=he2)⟩
end
section
variable {X:Cx} {K:PySem.W.Frag} {e:Expr} {es:List Expr} {t:TA3} {ta:TE3} {pos p p' pos':Pos}
theorem qezz(hu:X.A.units+64<cLine)(hm:X.mg "all" = none)(ha:QA X (e::es) t)(hc:X.calm=true:=by rfl)(hg:Gl X "all":=by rfl)(he:notStar e=true:=by rfl)(hpl:es.all notStar=true:=by rfl):QE X (.Call (.Name "all" p) (e::es) [] pos) (eCB qbwz t):=⟨quqz (hu:=hu) (hm:=hm) (ha:=ha.of) (hc:=hc) (hg:=hg) (he:=he) (hpl:=hpl)⟩
end
section
variable {X:Cx} {K:PySem.W.Frag} {e:Expr} {es:List Expr} {t:TA3} {ta:TE3} {pos p p' pos':Pos}
theorem qvpz(hu:X.A.units+64<cLine)(hm:X.mg "sum" = none)(ha:QA X (e::es) t)(hc:X.calm=true:=by rfl)(hg:Gl X "sum":=by rfl)(he:notStar e=true:=by rfl)(hpl:es.all notStar=true:=by rfl):QE X (.Call (.Name "sum" p) (e::es) [] pos) (eCB qerz t):=⟨qurz (hu:=hu) (hm:=hm) (ha:=ha.of) (hc:=hc) (hg:=hg) (he:=he) (hpl:=hpl)⟩
end
section
variable {X:Cx} {es:List Expr} {n0:Nat} {ps p pos:Pos}
theorem qgnz{a b:Expr}{ta:TA3}(hm:X.mg "zip" = none)(ha:QA X [a,b] ta)(hg:Gl X "zip":=by rfl)(hs:notStar a=true:=by rfl)(hs2:notStar b=true:=by rfl):QI X (.Tuple es n0 ps) (.Call (.Name "zip" p) [a,b] [] pos) (iZip ta):=⟨quxz (hm:=hm) (ha:=ha.of) (hg:=hg) (hs:=hs) (hs2:=hs2)⟩
end
section
variable {X:Cx} {es:List Expr} {n0:Nat} {ps p pos:Pos}
theorem qkvz{a:Expr}{ta:TA3}(hm:X.mg "enumerate" = none)(ha:QA X [a] ta)(hg:Gl X "enumerate":=by rfl)(hs:notStar a=true:=by rfl):QI X (.Tuple es n0 ps) (.Call (.Name "enumerate" p) [a] [] pos) (iEnum ta):=⟨qu4z (hm:=hm) (ha:=ha.of) (hg:=hg) (hs:=hs)⟩
end
section
variable {X:Cx} {K:PySem.W.Frag} {e:Expr} {es:List Expr} {t:TA3} {ta:TE3} {pos p p' pos':Pos}
theorem qvqz(hu:X.A.units+64<cLine)(hm:X.mg "min" = none)(ha:QA X (e::es) t)(hc:X.calm=true:=by rfl)(hg:Gl X "min":=by rfl)(he:notStar e=true:=by rfl)(hpl:es.all notStar=true:=by rfl):QE X (.Call (.Name "min" p) (e::es) [] pos) (eCB qevz t):=⟨qu7z (hu:=hu) (hm:=hm) (ha:=ha.of) (hc:=hc) (hg:=hg) (he:=he) (hpl:=hpl)⟩
end
section
variable {X:Cx} {tg:Expr} {p pos:Pos}
theorem qgoz{a b d:Expr}{ta:TA3}(hm:X.mg "range" = none)(ha:QA X [a,b,d] ta)(hg:Gl X "range":=by rfl)(hs:notStar a=true:=by rfl)(hs2:notStar b=true:=by rfl)(hs3:notStar d=true:=by rfl):QI X tg (.Call (.Name "range" p) [a,b,d] [] pos) (iRng3 ta):=⟨qvhz (hm:=hm) (ha:=ha.of) (hg:=hg) (hs:=hs) (hs2:=hs2) (hs3:=hs3)⟩
end
section
variable {X:Cx} {tg:Expr} {p pos:Pos}
theorem qkwz{o i e:Expr}{to ti te:TE3}{tpos:Pos}(ho:QE X o to)(hi:QE X i ti)(he:QE X e te)(ha:∀ov iv new,augStore i ov iv new=(do holding [new,ov,iv] (setItem ov iv new);release [new,ov,iv] [];pure .next):=by intros;rfl):QS X (.AugAssign (.Subscript o i tpos) .Add e pos) (sAugS to ti te (· + ·)):=⟨qvjz (ho:=ho.of) (hi:=hi.of) (he:=he.of) (ha:=ha)⟩
end
section
variable {X:Cx} {a b c e o:Expr} {es:List Expr} {ta tb tc te to:TE3} {t:TA3} {pos apos cpos p:Pos}
theorem qvrz{op op':CmpOp}{r r':R3}{r2 r2':R2}(L:LowR X.K r r2)(L':LowR X.K r' r2')(ho:OpR X (compareOp op) r2)(ho':OpR X (compareOp op') r2')(ha:QE X a ta)(hb:QE X b tb)(hc:QE X c tc)(hm:lastMarks [op,op'] [b,c]=false:=by with_unfolding_all rfl):
  QE X (.Compare a [op,op'] [b,c] pos) (eChain r r' ta tb tc):=⟨qq9z (op:=op) (op':=op') L L' (qprz ho ho' ha.of hb.of hc.of hm)⟩
theorem qgpz{name:Str}{id:String}{r:D->List D->Gp->V3->Prop}{r2:V->List V->Hp->VK->Prop}(L:LowM X.K r r2)(slot:Slot "list" name id)(hty:typeOf (.builtin id)=pure (.type "method_descriptor"))(hm:MtR X id r2)(ho:QE X o to)(ha:QA X (e::es) t)
  (hbase:attributeBase o name X.env (eval o X.env)=eval o X.env:=by rfl)
  (hfew:((backTo cpos (starEach (e::es) X.env)).all (fun x=>!x.1)&&(backToKw cpos (keywordEach [] X.env)).all (fun x=>x.1.isSome)
   && decide ((e::es).length+([]:List Keyword).length+(if ([]:List Keyword).isEmpty then 0 else 1)<30))=true:=by rfl)
  (hline:(apos.endLine==cpos.line)=true:=by rfl) (he:notStar e=true:=by rfl) (hpl:es.all notStar=true:=by rfl):
  QE X (.Call (.Attribute o name apos) (e::es) [] cpos) (eM r to t):=⟨qs1z L (qqpz PySem.F.plainAttrs_list slot hty hm ho.of ha.of hbase hfew hline (qnz he) (qaez hpl))⟩
end
section
variable {X:Cx} {tg iter elt:Expr} {ifs:List Expr} {scope:Scope} {own:List Str} {js:List Nat} {ti:TI3} {g:TG3} {tc:TT3} {te:TE3} {pos:Pos}
theorem q6z(hc:X.calm=true)(C:CmpOk X.N X.env.scope scope own js)(hi:QI X tg iter ti)
  (hb:∀s H fp,QG (X.cmp scope own js s H fp) tg g/\QC (X.cmp scope own js s H fp) ifs tc/\QE (X.cmp scope own js s H fp) elt te)
  (hs:∀x,foldedSetIterable iter X.env x=pure x:=by intro _;rfl):QE X (.ListComp elt [⟨tg,iter,ifs,0⟩] scope pos) (eComp own js ti g tc te):=
 ⟨qsfz hc C hi.of (fun s H fp=>⟨(hb s H fp).1.of,(hb s H fp).2.1.of,(hb s H fp).2.2.of⟩) hs⟩
theorem qvsz{i:Nat}{y:Str}{py spos:Pos}(hc:X.calm=true)(hN:X.N.Nodup)(C:CmpOk X.N X.env.scope scope own js)(hi:QI X tg iter ti)
  (hb:∀s H fp,QG (X.cmp scope own js s H fp) tg g/\QC (X.cmp scope own js s H fp) ifs tc/\QE (X.cmp scope own js s H fp) elt te) (hy:X.N[i]?=some y:=by rfl) (hyl:X.env.scope.names.lookup y=some .local:=by rfl)
  (hsw:swapsWith (.ListComp elt [⟨tg,iter,ifs,0⟩] scope pos) (some (.Name y py)) spos.line X.env=pure true:=by rfl)
  (hs:∀x,foldedSetIterable iter X.env x=pure x:=by intro _;rfl):QS X (.Assign [.Name y py] (.ListComp elt [⟨tg,iter,ifs,0⟩] scope pos) spos) (sAsg (eComp own js ti g tc te) (hName i)):=
 ⟨qsgz hc hN C hi.of (fun s H fp=>⟨(hb s H fp).1.of,(hb s H fp).2.1.of,(hb s H fp).2.2.of⟩) hy hyl hsw hs⟩
end
theorem qfn3{P:Program}{w:World}{K:PySem.W.Frag}{mg:Str->Option Value}{base:Heap}{x qual:Str}{st:Stmt}{f:Addr}{fd:FuncData}{N ps:List Str}{k:Nat}{sp:Sp3}(F:Fun K x qual st f fd)(S:FnScope N ps (defScope st))(hN:ps.length≤N.length)(len:∀ds G Q,sp ds G Q->ds.length=ps.length)(tb:TS3)
  (hbody:∀(cdv:Value) (A:Around) (outer:List Env) (s:Shared) (H:Hp) (E:XK),Room k (A.deeper (envOfC qual (defScope st) s.heap.objs.size f cdv)) ->
   QSs (cxOf CX0 P w K mg base N qual (defScope st) f cdv A outer s H E).nox (defBody st) tb)
  (hrd:∀ds G Q,sp ds G Q->tb (endsOf Q) (start3 N ds) G):FnOk3 P w K mg base (k+1) f fd ps sp:=fn3 F S hN len tb (fun cdv A outer s H E hr=>(hbody cdv A outer s H E hr).of) hrd
end L3
namespace My
open PySem L2 L3
def Known(G:Gp):D->Prop
 |.obj a=>∃o,G a=some o/\o.plain
 |_=>True
def wholeD:D->Bool
 |.int _=>true
 |_=>false
theorem qjz{Q:V3}{d:D}{G:Gp}(h:Q d G):(endsOf Q).rt d G:=⟨G,Sub.refl G,h⟩
theorem qa7z{Q:V3}{d:D}{G G':Gp}(s:Sub G G')(h:Q d G):(endsOf Q).rt d G':=⟨G,s,h⟩
theorem qqz{i:Int}(h1:-(10^80)<i)(h2:i<10^80):Big i:=by
 have:i.natAbs<10^80:=by omega
 exact Nat.lt_trans this (by decide)
theorem Sub.updN{G G':Gp}{a:Addr}{o:GO}(s:Sub G G')(h:G a=none):Sub G (upd3 G' a o):=fun b u e=>by
 rw[qadz (fun z=>by rw[z,h] at e;cases e)];exact s b u e
def qchz:Sp3:=fun ds G Q=>match ds with
 |[d]=>Known G d/\Q (.bl (wholeD d)) G
 |_=>False
def qkxz:TS3:=sRet (eAndV (eInst "int" (eVar 0)) (eNotV (eInst "bool" (eVar 0))))
theorem qvtz{nm:Str}:∀ds G Q,qchz ds G Q->qkxz (endsOf Q) (start3 [nm] ds) G:=by
 intro ds G Q h;rcases ds with _|⟨d,_|⟨d2,ds⟩⟩
 ·exact h.elim
 ·cases d with
  |int i=>exact⟨fun _=>qjz h.2,nofun⟩
  |bl b=>exact⟨fun _=>qjz h.2,nofun⟩
  |non=>exact⟨nofun,fun _=>qjz h.2⟩
  |str _=>exact⟨nofun,fun _=>qjz h.2⟩
  |tup _=>exact⟨nofun,fun _=>qjz h.2⟩
  |scr _=>exact⟨nofun,fun _=>qjz h.2⟩
  |dc _=>exact⟨nofun,fun _=>qjz h.2⟩
  |obj a=>
   obtain⟨o1,h1,hp⟩:∃o,G a=some o/\o.plain:=h.1;show match instD "int" G (.obj a) with
    |some b=>_
    |none=>_
   cases hG:G a with
   |none=>rw[h1] at hG;cases hG
   |some o=>
    cases o with
    |lst _=>simp only[instD,hG];exact⟨nofun,fun _=>qjz h.2⟩
    |pen=>simp only[instD,hG];exact⟨nofun,fun _=>qjz h.2⟩
    |dct=>simp only[instD,hG];exact⟨nofun,fun _=>qjz h.2⟩
    |gen R=>
     rw[h1] at hG;cases hG;exact hp.elim
 ·exact h.elim
abbrev qvuz:=@qvtz "thing"
def qc8z:Sp3:=fun ds G Q=>∃(ns:List Int) (k:Nat),ds=[.scr (ns.map .int),.int k]/\∀i:Int,Q (.int i) G
def qkyz:TS3:=sSeq (sIf (eTest (eOp rLtT3 (eVar 1) (eCB qvz (aCons (eVar 0) (aNil))))) (sRet (eOp rIx3 (eVar 0) (eVar 1))) (sNext)) (sRet (eC (.int 0)))
theorem qvvz:∀ds G Q,qc8z ds G Q->qkyz (endsOf Q) (start3 ["script","k"] ds) G:=by
 rintro ds G Q ⟨ns,k,rfl,q⟩;refine⟨fun h=>?_,fun h=>qjz (q 0)⟩;have h':(k:Int)<((ns.map D.int).length:Nat):=of_decide_eq_true h;rw[List.length_map] at h';have hk:k<ns.length:=by omega
 exact⟨.int ns[k],qbiz (by rw[List.getElem?_map,List.getElem?_eq_getElem hk];rfl),qjz (q _)⟩
def qciz:Sp3:=fun ds G Q=>∃n:Int,ds=[.int n]/\0≤n/\∀r:Int,0≤r->r<2147483629->Q (.int r) G
def qkzz:TS3:=sSeq (sAsg (eOp rMod3 (eOp rAdd3 (eVar 0) (eC (.int 7919))) (eC (.int 2147483647))) (hName 0)) (sRet (eOp rMod3 (eOp rAdd3 (eOp rAdd3 (eOp rMul3 (eVar 0) (eVar 0)) (eOp rMul3 (eC (.int 48271)) (eVar 0))) (eC (.int 12345))) (eC (.int 2147483629))))
theorem qvwz:∀ds G Q,qciz ds G Q->qkzz (endsOf Q) (start3 ["seed"] ds) G:=by
 rintro ds G Q ⟨n,rfl,hn,q⟩;have h1:=Int.emod_nonneg (n+7919) (show (2147483647:Int)≠0 by decide);have h2:=Int.emod_lt_of_pos (n+7919) (show (0:Int)<2147483647 by decide);have hb:Big ((n+7919)%2147483647):=qqz (by omega) (by omega);refine⟨(by decide:(0:Int)<2147483647),⟨hb,hb⟩,⟨qqz (by decide) (by decide),hb⟩,(by decide:(0:Int)<2147483629),qjz (q _ ?_ ?_)⟩
 ·exact Int.emod_nonneg _ (by decide)
 ·exact Int.emod_lt_of_pos _ (by decide)
def qe0z:Sp3:=fun ds G Q=>∃(p:Addr) (m i j k:Int),ds=[.obj p,.int m]/\G p=some (.lst [.int i,.int j,.int k])/\PenOk i j k/\0<m/\Big m ∧
 ∀r i' j' k':Int,PenOk i' j' k'->0≤r->r<m->Q (.int r) (upd3 G p (.lst [.int i',.int j',.int k']))
def qapz:Sp3:=fun ds G Q=>∃(p:Addr) (m:Int),ds=[.obj p,.int m]/\G p=some .pen/\(0<m/\Big m)/\∀r:Int,0≤r->r<m->Q (.int r) G
def qk0z:TS3:=sSeq (sIf (eTest (eOp (rEq3 false) (eOp rIx3 (eVar 0) (eC (.int 1))) (eC (.int 1)))) (sSeq (sAsg (eOp rMod3 (eOp rIx3 (eVar 0) (eC (.int 0))) (eVar 1)) (hName 2)) (sSeq (sAsg (eOp rDiv3 (eOp rIx3 (eVar 0) (eC (.int 0))) (eVar 1)) (hSub (eVar 0) (eC (.int 0)))) (sRet (eVar 2)))) (sNext)) (sSeq (sAsg (eCall qciz (aCons (eOp rAdd3 (eCall qciz (aCons (eOp rIx3 (eVar 0) (eC (.int 2))) (aNil))) (eC (.int 7))) (aNil))) (hSub (eVar 0) (eC (.int 2)))) (sRet (eOp rMod3 (eOp rDiv3 (eOp rIx3 (eVar 0) (eC (.int 2))) (eC (.int 64))) (eVar 1))))
theorem qvxz:∀ds G Q,qe0z ds G Q->qk0z (endsOf Q) (start3 ["pen","many","found"] ds) G:=by
 rintro ds G Q ⟨p,m,i,j,k,rfl,hp,ok,hm,hb,q⟩;obtain⟨o1,o2,o3⟩:=ok;refine⟨_,_,hp,rfl,_,_,rfl,rfl,Nat.zero_le _,fun _=>?_,fun _=>?_⟩
 ·refine⟨_,_,hp,rfl,hm,_,_,hp,rfl,⟨hm,hb⟩,_,0,hp,rfl,?_⟩;refine qjz (q (i%m) (i / m) j k ⟨?_,o2,o3⟩ ?_ ?_)
  ·exact Int.ediv_nonneg o1 (by omega)
  ·exact Int.emod_nonneg _ (by omega)
  ·exact Int.emod_lt_of_pos _ hm
 ·refine⟨_,_,hp,rfl,_,rfl,o2,fun r h1 h2=>⟨_,rfl,(by omega),fun r' h3 h4=>?_⟩⟩;refine⟨_,2,hp,rfl,_,_,q8z,rfl,⟨by decide,qqz (by decide) (by decide)⟩,hm,?_⟩;refine qjz (q _ i j r' ⟨o1,h3,by omega⟩ ?_ ?_)
  ·exact Int.emod_nonneg _ (by omega)
  ·exact Int.emod_lt_of_pos _ hm
theorem qvyz{K:PySem.W.Frag}:∀vs H Q E,lowSp K qapz vs H Q E->lowSp K qe0z vs H Q E:=by
 rintro vs H Q E ⟨ds,G,Q3,hd,RG,⟨p,m,rfl,hp,hm,q⟩,k⟩;obtain⟨i,j,l,e,ok⟩:=RG p _ hp;refine⟨_,upd3 G p (.lst [.int i,.int j,.int l]),fun d G'=>∃i' j' l',PenOk i' j' l'/\G'=upd3 G p (.lst [.int i',.int j',.int l'])/\Q3 d G,hd,?_,⟨p,m,i,j,l,rfl,q8z,ok,hm.1,hm.2,fun r i' j' k' ok' h1 h2=>⟨i',j',k',ok',qqyz,q r h1 h2⟩⟩,?_⟩
 ·intro a o ea;by_cases z:a=p
  ·subst z;rw[q8z] at ea;cases ea;exact⟨_,e,.cons (by simp[Hv]) (.cons (by simp[Hv]) (.cons (by simp[Hv]) .nil))⟩
  ·rw[qadz z] at ea;exact RG a o ea
 ·rintro v H' d G' hv S R ⟨i',j',l',ok',rfl,h3⟩;refine k v H' d G hv ⟨fun a o ea n=>S.fr a o ea ?_,S.trk,fun a n z=>absurd n z⟩ (fun a o ea=>?_) h3
  ·have:a≠p:=fun z=>by rw[z,hp] at n;cases n
   rw[qadz this];exact n
  ·by_cases z:a=p
   ·subst z;rw[hp] at ea;cases ea;obtain⟨ws,e1,e2⟩:=R a _ q8z;have:=qbkz e2 (ns:=[i',j',l']) rfl;subst this;exact⟨i',j',l',e1,ok'⟩
   ·exact R a o (by rw[qadz z];exact ea)
def qe1z:Sp3:=fun ds G Q=>∃c:Int,ds=[.int c]/\∀p i j k G',New G p (.lst [.int i,.int j,.int k]) G'->PenOk i j k->Q (.obj p) G'
def qgqz:Sp3:=fun ds G Q=>∃c:Int,ds=[.int c]/\∀p G',New G p .pen G'->Q (.obj p) G'
def qk1z:TS3:=sSeq (sAsg (eCB qf1z (aCons (eVar 0) (aCons (eOp rSub3 (eC (.int 0)) (eVar 0)) (aNil)))) (hName 1)) (sRet (eLst (aCons (eVar 1) (aCons (eCB qekz (aCons (eOp rGe3 (eVar 1) (eOp rPow3 (eC (.int 10)) (eC (.int 18)))) (aNil))) (aCons (eOp rMod3 (eVar 1) (eC (.int 1000003))) (aNil))))))
theorem qvzz:∀ds G Q,qe1z ds G Q->qk1z (endsOf Q) (start3 ["cell","left"] ds) G:=by
 rintro ds G Q ⟨c,rfl,q⟩;refine⟨⟨by decide,by decide,by decide⟩,(by decide:(0:Int)<1000003),fun p G' hp=>qjz (q p _ _ _ _ hp ⟨?_,?_,?_⟩)⟩
 ·split<;>omega
 ·exact Int.emod_nonneg _ (by decide)
 ·exact Int.lt_trans (Int.emod_lt_of_pos _ (by decide)) (by decide)
theorem qv0z{K:PySem.W.Frag}:∀vs H Q E,lowSp K qgqz vs H Q E->lowSp K qe1z vs H Q E:=by
 rintro vs H Q E ⟨ds,G,Q3,hd,RG,⟨c,rfl,q⟩,k⟩;refine⟨_,G,fun d G'=>∃p i j l,PenOk i j l/\New G p (.lst [.int i,.int j,.int l]) G'/\d=.obj p,hd,RG,⟨c,rfl,fun p i j l G' hp ok=>⟨p,i,j,l,ok,hp,rfl⟩⟩,?_⟩;rintro v H' d G' hv S R ⟨p,i,j,l,ok,hp,rfl⟩;refine k v H' _ (upd3 G' p .pen) hv ⟨S.fr,S.trk,fun a n z=>S.new a n ?_⟩ (fun a o ea=>?_) (q p _ ⟨hp.non,Sub.updN hp.sub hp.non,q8z⟩)
 ·by_cases y:a=p
  ·rw[y,hp.at_];simp
  ·rw[qadz y] at z;exact z
 ·by_cases z:a=p
  ·subst z;rw[q8z] at ea;cases ea;obtain⟨ws,e1,e2⟩:=R a _ hp.at_;have:=qbkz e2 (ns:=[i,j,l]) rfl;subst this;exact⟨i,j,l,e1,ok⟩
  ·rw[qadz z] at ea;exact R a o ea
abbrev Clk:=Int×Int
def cD(c:Clk):D:=.tup [.int c.1,.int c.2]
def csD(cs:List Clk):D:=.tup (cs.map cD)
def Valid(c:Clk):Prop:=0<c.1/\0≤c.2/\c.2<c.1
def rg(n:Int)(c:Clk):Bool:=n%c.1==c.2
def qc9z:Sp3:=fun ds G Q=>∃(c:Clk) (n:Int),ds=[cD c,.int n]/\0<c.1/\Q (.bl (rg n c)) G
def qk2z:TS3:=sRet (eOp (rEq3 false) (eOp rMod3 (eVar 1) (eOp rIx3 (eVar 0) (eC (.int 0)))) (eOp rIx3 (eVar 0) (eC (.int 1))))
theorem qv1z:∀ds G Q,qc9z ds G Q->qk2z (endsOf Q) (start3 ["clock","number"] ds) G:=by
 rintro ds G Q ⟨⟨s,r⟩,n,rfl,hs,q⟩;exact⟨_,rfl,hs,_,rfl,_,_,rfl,rfl,Nat.zero_le _,qjz q⟩
def qdaz:Sp3:=fun ds G Q=>∃(cs:List Clk) (n:Int),ds=[csD cs,.int n]/\(∀c∈cs,0<c.1)/\cs.length≤1000/\∀p G',New G p (.lst ((cs.filter (rg n)).map cD)) G'->Q (.obj p) G'
def qk3z:TS3:=sRet (eComp ["clock"] [1] (iSeq (eVar 0)) (hName 0) (eTest (eCall qc9z (aCons (eVar 0) (aCons (eVar 1) (aNil))))) (eVar 0))
theorem line1000{n:Nat}(h:n≤1000):n≤sizeLine:=Nat.le_trans h (by decide)
theorem q7z{α:Type}{guard:Gp->Prop}{g:TG3}{tc:TT3}{te:TE3}{Q:List D->Gp->Prop}(I:S3->Prop)(h:α->D)(pr:α->Bool)(f:α->D){G:Gp}(hg:guard G):∀(xs:List α) (acc:List D) (τ:S3),I τ ->
  (∀x∈xs,∀τ (K1:S3->Gp->Prop) (K2:S3->D->Gp->Prop),I τ->(pr x=true->∀τ2,I τ2->K2 τ2 (f x) G)->(pr x=false->∀τ2,I τ2->K1 τ2 G)->g (h x) τ G fun τ2 G2=>tc τ2 G2 fun b G3=>Br b (te τ2 G3 fun v G4=>K2 τ2 v G4) (K1 τ2 G3)) ->
  Q (acc++(xs.filter pr).map f) G->compGo guard g tc te Q (xs.map h) acc τ G
 |[],acc,τ,_,_,q=>⟨hg,by simpa using q⟩
 |d::ds,acc,τ,hI,hs,q=>by
  refine⟨hg,hs d List.mem_cons_self τ (fun τ2 G3=>compGo guard g tc te Q (ds.map h) acc τ2 G3) (fun τ2 v G4=>compGo guard g tc te Q (ds.map h) (acc++[v]) τ2 G4) hI (fun hp τ2 h2=>?_) fun hp τ2 h2=>?_⟩
  ·refine q7z I h pr f hg ds _ τ2 h2 (fun d' hd=>hs d' (List.mem_cons_of_mem _ hd)) ?_;rw[List.filter_cons_of_pos hp] at q;simpa using q
  ·refine q7z I h pr f hg ds _ τ2 h2 (fun d' hd=>hs d' (List.mem_cons_of_mem _ hd)) ?_;rw[List.filter_cons_of_neg (by rw[hp];simp)] at q;exact q
theorem qv2z:∀ds G Q,qdaz ds G Q->qk3z (endsOf Q) (start3 ["clocks","number"] ds) G:=by
 rintro ds G Q ⟨cs,n,rfl,hc,hz,q⟩;refine⟨by show (cs.map cD).length≤sizeLine;rw[List.length_map];exact line1000 hz,?_⟩;refine q7z (fun τ=>∃x,τ=[x,some (.int n)]) cD (rg n) cD (G:=G) trivial cs [] _ ⟨none,rfl⟩ ?_ ?_
 ·rintro c hm τ K1 K2 ⟨x,rfl⟩ h1 h2;exact⟨c,n,rfl,hc c hm,fun e=>h1 e _ ⟨_,rfl⟩,fun e=>h2 e _ ⟨_,rfl⟩⟩
 ·exact fun p G' hp=>qjz (q p G' hp)
end My
namespace My
open PySem L2 L3
def cX(c:Clk):Dat.D:=.tup [.int c.1,.int c.2]
theorem qe2z:∀cs:List Clk,toDats0 (cs.map cD)=some (cs.map cX)
 |[]=>rfl
 |c::cs=>by
  show (match toDat0 (cD c) with
   |some x=>match toDats0 (cs.map cD) with
    |some xs=>some (x::xs)
    |none=>none
   | none=>none)=_
  rw[qe2z cs];rfl
theorem q0z{G:Gp}{a:Addr}{ds:List D}{xs:List Dat.D}(h:G a=some (.lst ds))(e:toDats0 ds=some xs):toDat G (.obj a)=some (.lst xs):=by
 unfold toDat;simp only[h,e]
theorem qk4z:∀cs:List Clk,Dat.deps (cs.map cX)≤1
 |[]=>Nat.zero_le _
 |c::cs=>by
  show max (cX c).dep (Dat.deps (cs.map cX))≤1;have h1:(cX c).dep=1:=rfl;have:=qk4z cs;omega
theorem qk5z(cs:List Clk):(Dat.D.lst (cs.map cX)).dep≤50:=by
 show Dat.deps (cs.map cX)+1≤50;have:=qk4z cs;omega
theorem qe3z(xs:List Dat.D):(Dat.D.lst xs).eqb (.lst [])=xs.isEmpty:=by
 cases xs with
 |nil=>rfl
 |cons x xs=>rfl
theorem qv3z(a b:Clk):(cX a).eqb (cX b)=decide (a=b):=by
 obtain⟨s,r⟩:=a;obtain⟨s',r'⟩:=b;show ((s==s')&&((r==r')&&true))=decide ((s,r)=(s',r'));rw[Bool.eq_iff_iff];simp
theorem qk6z:∀as bs:List Clk,Dat.eqbs (as.map cX) (bs.map cX)=decide (as=bs)
 |[],[]=>rfl
 |[],b::bs=>rfl
 |a::as,[]=>rfl
 |a::as,b::bs=>by
  show ((cX a).eqb (cX b)&&Dat.eqbs (as.map cX) (bs.map cX))=_;rw[qv3z,qk6z as bs,Bool.eq_iff_iff];simp
theorem qe4z{α β:Type}(f:α->β)(xs:List α):(xs.map f).isEmpty=xs.isEmpty:=by cases xs<;>rfl
def rg2(n:Int)(c:Clk):Bool:=(n-c.2)%c.1==0
theorem qbnz{c:Clk}(h:Valid c)(n:Int):rg2 n c=rg n c:=by
 obtain⟨h1,h2,h3⟩:=h;unfold rg rg2;rw[Bool.eq_iff_iff];simp only[beq_iff_eq];constructor
 ·intro e;have h4:=Int.emod_emod_of_dvd n (Int.dvd_refl c.1);have:n%c.1=c.2%c.1:=Int.emod_eq_emod_iff_emod_sub_eq_zero.mpr e;rw[this];exact Int.emod_eq_of_lt h2 h3
 ·intro e;refine Int.emod_eq_emod_iff_emod_sub_eq_zero.mp ?_;rw[e];exact (Int.emod_eq_of_lt h2 h3).symm
end My
namespace My
open PySem L2 L3
def cutG{α:Type}(xs:List α)(lo hi:Option Int):List α:=(xs.drop (HT.sIx xs.length 0 lo)).take (HT.sIx xs.length xs.length hi-HT.sIx xs.length 0 lo)
theorem qa8z{α:Type}(f:α->D)(xs:List α)(lo hi:Option Int):cut3 (xs.map f) lo hi=(cutG xs lo hi).map f:=by
 unfold cut3 cutG;rw[List.length_map,List.map_take,List.map_drop]
theorem qv4z{α:Type}(xs:List α)(lo hi:Option Int):(cutG xs lo hi).length≤xs.length:=by
 unfold cutG;rw[List.length_take,List.length_drop];omega
theorem qcjz{α:Type}(xs:List α)(k:Nat):cutG xs none (some (k:Int))=xs.take k:=by
 unfold cutG;rw[HT.sIx_none,HT.sIx_nat];simp only[List.drop_zero,Nat.sub_zero];by_cases h:k≤xs.length
 ·rw[Nat.min_eq_left h]
 ·rw[Nat.min_eq_right (by omega),List.take_length,List.take_of_length_le (by omega)]
theorem qgrz{α:Type}(xs:List α)(k:Nat):cutG xs (some (k:Int)) none=xs.drop k:=by
 unfold cutG;rw[HT.sIx_none,HT.sIx_nat];by_cases h:k≤xs.length
 ·rw[Nat.min_eq_left h];exact List.take_of_length_le (by rw[List.length_drop];omega)
 ·rw[Nat.min_eq_right (by omega),List.drop_length,List.drop_eq_nil_of_le (by omega)];simp
def ClOk(M:Int)(cs:List Clk):Prop:=∀c∈cs,Valid c/\c.1≤M
theorem qk7z{s r k i:Int}(h:Valid (s,r))(h1:0≤i)(h2:i<k):Valid (s*k,r+s*i):=by
 obtain⟨a,b,c⟩:=h;simp only at a b c;have q:=Int.mul_le_mul_of_nonneg_left (show i≤k-1 by omega) (show 0≤s by omega);rw[Int.mul_sub,Int.mul_one] at q;have q2:=Int.mul_nonneg (show 0≤s by omega) h1;refine⟨?_,?_,?_⟩
 ·exact Int.mul_pos a (by omega)
 ·show 0≤r+s*i;omega
 ·show r+s*i<s*k;omega
theorem qgsz{α:Type}(f:α->D){xs:List α}{r:Int}(h1:0≤r)(h2:r<(xs.length:Nat)):∃x,xs[r.toNat]?=some x/\x∈xs/\atI (xs.map f) r=some (f x):=by
 have hk:r.toNat<xs.length:=by omega
 refine⟨xs[r.toNat],List.getElem?_eq_getElem hk,List.getElem_mem hk,?_⟩;have e:r=((r.toNat:Nat):Int):=by omega
 have q:atI (xs.map f) ((r.toNat:Nat):Int)=some (f xs[r.toNat]):=qbiz (by rw[List.getElem?_map];simp[hk]);rw[←e] at q;exact q
theorem qe5z{ns:List Int}{r:Int}(h1:0≤r)(h2:r<(ns.length:Nat)):∃n,n∈ns/\atI (ns.map D.int) r=some (.int n):=by
 obtain⟨x,_,h3,h4⟩:=qgsz D.int h1 h2;exact⟨x,h3,h4⟩
end My
namespace My
open PySem L2 L3
def toL(c:Clk):List Int:=[c.1,c.2]
theorem qe6z(cs:List Clk):(cs.map toL).map tupI=cs.map cD:=by
 rw[List.map_map];rfl
theorem qgtz{cs:List Clk}:∀{mss:List (List Int)},(∀ns∈mss,ns∈cs.map toL)->∃cs':List Clk,mss=cs'.map toL/\∀c∈cs',c∈cs
 |[],_=>⟨[],rfl,fun c hc=>nomatch hc⟩
 |ns::mss,h=>by
  obtain⟨cs',e,hc⟩:=qgtz (mss:=mss) fun n hn=>h n (List.mem_cons_of_mem _ hn);obtain⟨c,h1,rfl⟩:=List.mem_map.mp (h ns List.mem_cons_self);refine⟨c::cs',by simp[e],fun d hd=>?_⟩;rcases List.mem_cons.mp hd with rfl|hd
  ·exact h1
  ·exact hc d hd
def cLt(a b:Clk):Prop:=a.1<b.1∨(a.1=b.1/\a.2<b.2)
def Rise(cs:List Clk):Prop:=cs.Pairwise cLt
theorem qk8z{a b:Clk}(h:toL a=toL b):a=b:=by
 obtain⟨s,r⟩:=a;obtain⟨s',r'⟩:=b;simp[toL] at h;simp[h]
theorem qv5z{a b:Clk}(h:SortV.lx (toL b) (toL a)=false)(hne:a≠b):cLt a b:=by
 obtain⟨s,r⟩:=a;obtain⟨s',r'⟩:=b;unfold toL at h;simp only[SortV.lx] at h;by_cases e:s'=s
 ·rw[if_pos e] at h;by_cases e2:r'=r
  ·exact absurd (by rw[e,e2]) hne
  ·rw[if_neg e2] at h;have:=of_decide_eq_false h;exact .inr ⟨e.symm,by simp only;omega⟩
 ·rw[if_neg e] at h;have:=of_decide_eq_false h;exact .inl (by simp only;omega)
theorem qk9z{cs:List Clk}(h:RiseL (cs.map toL))(nd:(cs.map toL).Nodup):Rise cs:=by
 have h1:=List.pairwise_map.mp h;have h2:=List.pairwise_map.mp nd;exact (h1.and h2).imp fun {a b} q=>qv5z q.1 fun z=>q.2 (by rw[z])
theorem Rise.take{cs:List Clk}(h:Rise cs)(n:Nat):Rise (cs.take n):=List.Pairwise.sublist (List.take_sublist n cs) h
theorem qlaz{cs:List Clk}{mss:List (List Int)}(hmem:∀ns,ns∈mss↔ns∈cs.map toL)(nd:mss.Nodup)(hr:RiseL mss)(hl:mss.length≤(cs.map toL).length):
  ∃cs':List Clk,mss=cs'.map toL/\(∀c,c∈cs'↔c∈cs)/\Rise cs'/\cs'.length≤cs.length:=by
 obtain⟨cs',rfl,hc⟩:=qgtz fun ns hn=>(hmem ns).mp hn;refine⟨cs',rfl,fun c=>⟨fun h=>hc c h,fun h=>?_⟩,qk9z hr nd,by simpa using hl⟩;obtain⟨c',h1,h2⟩:=List.mem_map.mp ((hmem (toL c)).mpr (List.mem_map.mpr ⟨c,h,rfl⟩));rw[←qk8z h2];exact h1
theorem qguz{cs:List Clk}:∀ns∈cs.map toL,ns≠[]:=fun ns hn=>by
 obtain⟨c,_,rfl⟩:=List.mem_map.mp hn;simp[toL]
theorem qgvz{G:Gp}{a:Addr}{cs:List Clk}(e:G a=some (.lst (cs.map cD))):G a=some (.lst ((cs.map toL).map tupI)):=by rw[qe6z];exact e
theorem qv6z{r:Int}{n:Nat}(h1:0≤r)(h2:r<(n:Int)):seqIndex? r n=some r.toNat:=by
 unfold seqIndex?;simp only[if_neg (show ¬r<0 by omega)];rw[if_pos (by simp;omega)]
theorem qlbz{α β:Type}(f:α->β):∀(xs:List α) (i:Nat),(xs.map f).eraseIdx i=(xs.eraseIdx i).map f
 |[],_=>rfl
 |_::_,0=>rfl
 |x::xs,i+1=>by simp[qlbz f xs i]
end My
namespace My
open PySem L2 L3
theorem qdbz{guard:Gp->Prop}{g:TG3}{tc:TT3}{te:TE3}{Q:List D->Gp->Prop}(I:List D->List D->S3->Gp->Prop)(hg:∀ds acc τ G,I ds acc τ G->guard G)
  (step:∀d ds acc τ G (K1:S3->Gp->Prop) (K2:S3->D->Gp->Prop),I (d::ds) acc τ G->(∀τ' v G',I ds (acc++[v]) τ' G'->K2 τ' v G')->(∀τ' G',I ds acc τ' G'->K1 τ' G')->g d τ G fun τ2 G2=>tc τ2 G2 fun b G3=>Br b (te τ2 G3 fun v G4=>K2 τ2 v G4) (K1 τ2 G3))
  (hend:∀acc τ G,I [] acc τ G->Q acc G):∀ds acc τ G,I ds acc τ G->compGo guard g tc te Q ds acc τ G
 |[],acc,τ,G,h=>⟨hg _ _ _ _ h,hend _ _ _ h⟩
 |d::ds,acc,τ,G,h=>⟨hg _ _ _ _ h,step d ds acc τ G (fun τ2 G3=>compGo guard g tc te Q ds acc τ2 G3) (fun τ2 v G4=>compGo guard g tc te Q ds (acc++[v]) τ2 G4) h
   (fun τ' v G' q=>qdbz I hg step hend ds _ τ' G' q) fun τ' G' q=>qdbz I hg step hend ds _ τ' G' q⟩
theorem wrote{G G1:Gp}{q:Addr}{o o':GO}(n:New G q o G1):New G q o' (upd3 G1 q o'):=⟨n.non,Sub.updN n.sub n.non,q8z⟩
end My
namespace My
open PySem L2 L3
def rndF(cs:List Clk)(a:Nat):Nat:=cs.foldl (fun a c=>Nat.lcm a c.1.toNat) a
def rnd(cs:List Clk):Nat:=rndF cs 1
theorem qlcz{M:Nat}:∀{cs:List Clk} {a:Nat},(∀c∈cs,0<c.1/\c.1≤(M:Int))->0<a->0<rndF cs a/\rndF cs a≤a*M^cs.length
 |[],a,_,h=>⟨h,by simp[rndF]⟩
 |c::cs,a,hc,h=>by
  obtain⟨h1,h2⟩:=hc c List.mem_cons_self;have hp:0<Nat.lcm a c.1.toNat:=Nat.lcm_pos h (by omega);obtain⟨h3,h4⟩:=qlcz (cs:=cs) (a:=Nat.lcm a c.1.toNat) (fun d hd=>hc d (List.mem_cons_of_mem _ hd)) hp;refine⟨h3,Nat.le_trans h4 ?_⟩;rw[List.length_cons,Nat.pow_succ,Nat.mul_comm (M^cs.length) M,←Nat.mul_assoc];refine Nat.mul_le_mul_right _ ?_;have:Nat.lcm a c.1.toNat≤a*c.1.toNat:=Nat.le_of_dvd (Nat.mul_pos h (by omega)) (Nat.lcm_dvd (Nat.dvd_mul_right _ _) (Nat.dvd_mul_left _ _));exact Nat.le_trans this (Nat.mul_le_mul_left _ (by omega))
theorem rnd_le{cs:List Clk}(h:ClOk 1000 cs)(hl:cs.length≤12):0<rnd cs/\rnd cs≤1000^12:=by
 obtain⟨h1,h2⟩:=qlcz (M:=1000) (cs:=cs) (a:=1) (fun c hc=>⟨(h c hc).1.1,(h c hc).2⟩) (by decide);refine⟨h1,Nat.le_trans h2 ?_⟩;rw[Nat.one_mul];exact Nat.pow_le_pow_right (by decide) hl
theorem qldz{n:Nat}(h:n<10^80):Big (n:Int):=by
 show (n:Int).natAbs<2^4000;exact Nat.lt_trans (by simpa using h) (by decide)
end My
namespace My
open PySem L2 L3
def qb2z:Sp3:=fun ds G Q=>∃a b:Nat,ds=[.int a,.int b]/\Q (.int (Nat.gcd a b:Nat)) G
def qv7z:TS3:=sAsg (eVar 2) (hName 1)
def qv8z:TS3:=sSeq (sAsg (eVar 1) (hName 0)) qv7z
def qv9z:TS3:=sSeq (sAsg (eOp rMod3 (eVar 0) (eVar 1)) (hName 2)) qv8z
def qwaz:TS3:=sRet (eVar 0)
def qlez:TS3:=sSeq (sWhile (eTest (eOp (rEq3 true) (eVar 1) (eC (.int 0)))) (qv9z)) qwaz
theorem qwbz:∀ds G Q,qb2z ds G Q->qlez (endsOf Q) (start3 ["one","other","left"] ds) G:=by
 rintro ds G Q ⟨a,b,rfl,q⟩;refine⟨fun m τ G'=>G'=G/\∃(a':Nat) (x:Option D),τ=[some (.int a'),some (.int (m:Nat)),x]/\Nat.gcd a' m=Nat.gcd a b,⟨b,rfl,a,_,rfl,rfl⟩,?_⟩;rintro m τ G' ⟨rfl,a',x,rfl,hg⟩;refine⟨_,_,rfl,rfl,Nat.zero_le _,fun h=>?_,fun h=>?_⟩
 ·have h1:(!((m:Int)==0))=true:=h;have h':(0:Int)<(m:Int):=by simp at h1;omega
  refine⟨h',a'%m,by exact_mod_cast Nat.mod_lt a' (by omega),rfl,m,some (.int (a'%m:Nat)),?_,?_⟩
  ·show [some (D.int (m:Nat)),some (D.int ((a':Int)%(m:Int))),some (D.int ((a':Int)%(m:Int)))]=_;rw[←Int.natCast_emod]
  ·rw[←hg,Nat.gcd_comm a' m,Nat.gcd_rec m a',Nat.gcd_comm]
 ·have h1:(!((m:Int)==0))=false:=h;have:m=0:=by simp at h1;omega
  subst this;rw[Nat.gcd_zero_right] at hg;rw[←hg] at q;exact qjz q
def nD(n:Nat):D:=.int (n:Nat)
def lcmF(ns:List Nat)(a:Nat):Nat:=ns.foldl Nat.lcm a
def qdcz:Sp3:=fun ds G Q=>∃(p:Addr) (ns:List Nat),ds=[.obj p]/\G p=some (.lst (ns.map nD))/\(∀n∈ns,0<n/\n≤1000)/\ns.length≤20/\Q (.int (lcmF ns 1:Nat)) G
def qwcz:TS3:=sAsg (eOp rMul3 (eVar 1) (eOp rDiv3 (eVar 2) (eCall qb2z (aCons (eVar 1) (aCons (eVar 2) (aNil)))))) (hName 1)
def qwdz:TS3:=sRet (eVar 1)
def qwez:TS3:=sSeq (sFor (iSeq (eVar 0)) (hName 2) (qwcz)) qwdz
def qlfz:TS3:=sSeq (sAsg (eC (.int 1)) (hName 1)) qwez
theorem qwfz:∀ds G Q,qdcz ds G Q->qlfz (endsOf Q) (start3 ["numbers","least","number"] ds) G:=by
 rintro ds G Q ⟨p,ns,rfl,hp,ok,hl,q⟩;refine⟨_,hp,?_⟩;refine qwz (fun ds τ G'=>G'=G/\∃(zs:List Nat) (a:Nat) (x2:Option D),ds=zs.map nD/\τ=[some (.obj p),some (.int a),x2]/\(∀n∈zs,0<n/\n≤1000)/\0<a/\a*1000^zs.length≤1000^20/\lcmF zs a=lcmF ns 1) (fun _ _ _ h=>by rw[h.1];exact hp) ?_ ?_ _ _ _ ⟨rfl,ns,1,none,rfl,rfl,ok,by decide,?_,rfl⟩
 ·rintro d ds τ G' N ⟨rfl,zs,a,x2,e,rfl,okz,ha,hb,hr⟩ hN;cases zs with
  |nil=>cases e
  |cons n zs=>
   cases e;obtain⟨hs1,hs2⟩:=okz _ List.mem_cons_self;have hg:0<Nat.gcd a n:=Nat.gcd_pos_of_pos_left _ ha;have hga:Nat.gcd a n≤a:=Nat.le_of_dvd ha (Nat.gcd_dvd_left _ _);have ha20:a≤1000^20:=Nat.le_trans (Nat.le_mul_of_pos_right _ (Nat.pow_pos (by decide))) hb;have hbig:∀k:Nat,k≤1000^20->Big (k:Int):=fun k hk=>qldz (Nat.lt_of_le_of_lt hk (by decide));refine⟨a,n,rfl,⟨by omega,hbig _ (Nat.le_trans hga ha20)⟩,⟨hbig _ ha20,?_⟩,?_⟩
   ·show Big ((n:Int) / (Nat.gcd a n:Nat));rw[←Int.natCast_ediv];exact hbig _ (Nat.le_trans (Nat.div_le_self _ _) (Nat.le_trans hs2 (by decide)))
   have el:a*(n / Nat.gcd a n)=Nat.lcm a n:=by
    unfold Nat.lcm;rw[Nat.mul_div_assoc a (Nat.gcd_dvd_right a n)]
   refine hN _ _ ⟨rfl,zs,Nat.lcm a n,some (nD n),rfl,?_,fun c hc=>okz c (List.mem_cons_of_mem _ hc),Nat.lcm_pos ha (by omega),?_,hr⟩
   ·show [some (D.obj p),some (D.int ((a:Int)*((n:Int) / (Nat.gcd a n:Nat)))),_]=_;rw[←Int.natCast_ediv,←Int.natCast_mul,el]
   ·refine Nat.le_trans ?_ hb;rw[List.length_cons,Nat.pow_succ,Nat.mul_comm (1000^zs.length) 1000,←Nat.mul_assoc];refine Nat.mul_le_mul_right _ ?_;have:Nat.lcm a n≤a*n:=Nat.le_of_dvd (Nat.mul_pos ha (by omega)) (Nat.lcm_dvd (Nat.dvd_mul_right _ _) (Nat.dvd_mul_left _ _));exact Nat.le_trans this (Nat.mul_le_mul_left _ (by omega))
 ·rintro τ G' ⟨rfl,zs,a,x2,e,rfl,okz,ha,hb,hr⟩;have:zs=[]:=by cases zs with
   |nil=>rfl
   |cons z zs=>cases e
  subst this;have hr':a=lcmF ns 1:=hr;rw[←hr'] at q;exact qjz q
 ·rw[Nat.one_mul];exact Nat.pow_le_pow_right (by decide) hl
theorem qwgz(cs:List Clk)(a:Nat):lcmF (cs.map fun c=>c.1.toNat) a=rndF cs a:=by
 unfold lcmF rndF;rw[List.foldl_map]
def qa9z:Sp3:=fun ds G Q=>∃cs:List Clk,ds=[csD cs]/\ClOk 1000 cs/\cs.length≤20/\Q (.int (rnd cs:Nat)) G
def qlgz:TS3:=sRet (eCall qdcz (aCons (eComp ["clock"] [] (iSeq (eVar 0)) (hName 0) (tNoTest3) (eOp rIx3 (eVar 0) (eC (.int 0)))) (aNil)))
theorem filter_all{α:Type}(xs:List α):xs.filter (fun _=>true)=xs:=List.filter_eq_self.mpr fun _ _=>rfl
theorem qwhz:∀ds G Q,qa9z ds G Q->qlgz (endsOf Q) (start3 ["clocks"] ds) G:=by
 rintro ds G Q ⟨cs,rfl,ok,hl,q⟩;refine⟨by show (cs.map cD).length≤sizeLine;rw[List.length_map];exact line1000 (by omega),?_⟩;refine q7z (fun τ=>∃x,τ=[x]) cD (fun _=>true) (fun c=>nD c.1.toNat) (G:=G) trivial cs [] _ ⟨none,rfl⟩ ?_ ?_
 ·rintro⟨s,r⟩ hm τ K1 K2 ⟨x,rfl⟩ h1 h2;refine⟨fun _=>⟨_,rfl,?_⟩,nofun⟩;have hs:0<s:=(ok _ hm).1.1;have:=h1 rfl [some (cD (s,r))] ⟨_,rfl⟩;show K2 [some (cD (s,r))] (.int s) G;rw[show D.int s=nD (s,r).1.toNat by show D.int s=D.int ((s.toNat:Nat):Int);rw[Int.toNat_of_nonneg (by omega)]];exact this
 ·intro p G' n;rw[filter_all,List.nil_append,show cs.map (fun c:Clk=>nD c.1.toNat)=(cs.map fun c:Clk=>c.1.toNat).map nD by rw[List.map_map];rfl] at n;refine⟨p,_,rfl,n.at_,fun k hk=>?_,by rw[List.length_map];exact hl,?_⟩
  ·obtain⟨c,hc,rfl⟩:=List.mem_map.mp hk;obtain⟨⟨a,_⟩,b⟩:=ok c hc;omega
  ·rw[qwgz];exact qa7z n.sub q
def qddz:Sp3:=fun ds G Q=>∃t b:Nat,ds=[.int t,.int b]/\0<b/\b<10^80/\Q (.tup [nD (t / Nat.gcd t b),nD (b / Nat.gcd t b)]) G
def qwiz:TS3:=sRet (eTup (aCons (eOp rDiv3 (eVar 0) (eVar 2)) (aCons (eOp rDiv3 (eVar 1) (eVar 2)) (aNil))))
def qlhz:TS3:=sSeq (sAsg (eCall qb2z (aCons (eVar 0) (aCons (eVar 1) (aNil)))) (hName 2)) qwiz
theorem qwjz:∀ds G Q,qddz ds G Q->qlhz (endsOf Q) (start3 ["top","bottom","shared"] ds) G:=by
 rintro ds G Q ⟨t,b,rfl,hb,hz,q⟩;have hg:0<Nat.gcd t b:=Nat.gcd_pos_of_pos_right _ hb;have hgb:Nat.gcd t b≤b:=Nat.le_of_dvd hb (Nat.gcd_dvd_right _ _);have big:Big ((Nat.gcd t b:Nat):Int):=qldz (by omega);refine⟨t,b,rfl,⟨by omega,big⟩,⟨by omega,big⟩,?_⟩;show (endsOf Q).rt (.tup [.int ((t:Int) / (Nat.gcd t b:Nat)),.int ((b:Int) / (Nat.gcd t b:Nat))]) G;rw[←Int.natCast_ediv,←Int.natCast_ediv];exact qjz q
def topN(cs:List Clk)(R:Nat):Nat:=(cs.map fun c=>R / c.1.toNat).sum
def shT(cs:List Clk):Nat:=topN cs (rnd cs) / Nat.gcd (topN cs (rnd cs)) (rnd cs)
def shB(cs:List Clk):Nat:=rnd cs / Nat.gcd (topN cs (rnd cs)) (rnd cs)
theorem qgwz:∀ns:List Int,intsOf (ns.map D.int)=some ns
 |[]=>rfl
 |n::ns=>by
  show (intsOf (ns.map D.int)).map (n::·)=_;rw[qgwz ns];rfl
theorem qliz{R:Nat}:∀{cs:List Clk},(∀c∈cs,0<c.1)->(cs.map fun c=>(R:Int) / c.1).sum=((topN cs R:Nat):Int)
 |[],_=>rfl
 |c::cs,h=>by
  have h0:=h c List.mem_cons_self;have ih:=qliz (R:=R) (cs:=cs) fun c hc=>h c (List.mem_cons_of_mem _ hc);unfold topN at ih ⊢;rw[List.map_cons,List.sum_cons,ih,List.map_cons,List.sum_cons,Int.natCast_add,Int.natCast_ediv,Int.toNat_of_nonneg (by omega)]
def qdez:Sp3:=fun ds G Q=>∃cs:List Clk,ds=[csD cs]/\ClOk 1000 cs/\cs.length≤12/\Q (.tup [nD (shT cs),nD (shB cs)]) G
def qwkz:TS3:=sRet (eCall qddz (aCons (eCB qerz (aCons (eComp ["clock"] [1] (iSeq (eVar 0)) (hName 0) (tNoTest3) (eOp rDiv3 (eVar 1) (eOp rIx3 (eVar 0) (eC (.int 0))))) (aNil))) (aCons (eVar 1) (aNil))))
def qljz:TS3:=sSeq (sAsg (eCall qa9z (aCons (eVar 0) (aNil))) (hName 1)) qwkz
theorem qwlz:∀ds G Q,qdez ds G Q->qljz (endsOf Q) (start3 ["clocks","bottom"] ds) G:=by
 rintro ds G Q ⟨cs,rfl,ok,hl,q⟩;obtain⟨r1,r2⟩:=rnd_le ok hl;refine⟨cs,rfl,ok,by omega,by show (cs.map cD).length≤sizeLine;rw[List.length_map];exact line1000 (by omega),?_⟩;refine q7z (fun τ=>∃x,τ=[x,some (.int (rnd cs:Nat))]) cD (fun _=>true) (fun c=>.int ((rnd cs:Nat) / c.1)) (G:=G) trivial cs [] _ ⟨none,rfl⟩ ?_ ?_
 ·rintro⟨s,r⟩ hm τ K1 K2 ⟨x,rfl⟩ h1 h2;have hs:0<s:=(ok _ hm).1.1;have hs2:s≤1000:=(ok _ hm).2;exact⟨fun _=>⟨_,rfl,⟨hs,qqz (by omega) (by omega)⟩,h1 rfl _ ⟨_,rfl⟩⟩,nofun⟩
 ·intro p G' n;rw[filter_all,List.nil_append,show cs.map (fun c:Clk=>D.int ((rnd cs:Nat) / c.1))=(cs.map fun c:Clk=>((rnd cs:Nat):Int) / c.1).map D.int by rw[List.map_map];rfl] at n;refine⟨_,_,n.at_,qgwz _,topN cs (rnd cs),rnd cs,?_,r1,Nat.lt_of_le_of_lt r2 (by decide),qa7z n.sub q⟩;rw[qliz fun c hc=>(ok c hc).1.1]
end My
namespace My
open PySem L2 L3
def qdfz:Sp3:=fun ds G Q=>∃n b:Nat,ds=[.int n,.int b]/\0<b/\b<10^70/\Nat.gcd n b=1/\∀r:Int,0≤r->r<b->((b:Int)∣n*r-1)->Q (.int r) G
def qwmz:TS3:=sAsg (eVar 8) (hName 5)
def qwnz:TS3:=sSeq (sAsg (eVar 7) (hName 3)) qwmz
def qwoz:TS3:=sSeq (sAsg (eVar 5) (hName 4)) qwnz
def qwpz:TS3:=sSeq (sAsg (eVar 3) (hName 2)) qwoz
def qwqz:TS3:=sSeq (sAsg (eOp rSub3 (eVar 4) (eOp rMul3 (eVar 6) (eVar 5))) (hName 8)) qwpz
def qwrz:TS3:=sSeq (sAsg (eOp rSub3 (eVar 2) (eOp rMul3 (eVar 6) (eVar 3))) (hName 7)) qwqz
def qwsz:TS3:=sSeq (sAsg (eOp rDiv3 (eVar 2) (eVar 3)) (hName 6)) qwrz
def qwtz:TS3:=sRet (eOp rMod3 (eVar 4) (eVar 1))
def qwuz:TS3:=sSeq (sWhile (eTest (eOp (rEq3 true) (eVar 3) (eC (.int 0)))) (qwsz)) qwtz
def qwvz:TS3:=sSeq (sAsg (eC (.int 1)) (hName 5)) qwuz
def qwwz:TS3:=sSeq (sAsg (eC (.int 0)) (hName 4)) qwvz
def qwxz:TS3:=sSeq (sAsg (eOp rMod3 (eVar 0) (eVar 1)) (hName 3)) qwwz
def qlkz:TS3:=sSeq (sAsg (eVar 1) (hName 2)) qwxz
theorem qwyz{hf lf q:Int}{lo hi le b:Nat}(hq:0≤q)(he:(le:Int)=hi-q*lo)(h:hf.natAbs*lo+lf.natAbs*hi≤b):lf.natAbs*le+(hf-q*lf).natAbs*lo≤b:=by
 obtain⟨k,rfl⟩:∃k:Nat,q=(k:Int):=⟨q.toNat,by omega⟩;have h1:(hf-(k:Int)*lf).natAbs≤hf.natAbs+k*lf.natAbs:=by
  have:=Int.natAbs_sub_le hf ((k:Int)*lf);rw[Int.natAbs_mul,Int.natAbs_natCast] at this;exact this
 have h2:hi=le+k*lo:=by
  have:(hi:Int)=((le+k*lo:Nat):Int):=by
   rw[Int.natCast_add,Int.natCast_mul];omega
  exact_mod_cast this
 have h3:=Nat.mul_le_mul_right lo h1;rw[Nat.add_mul] at h3;have h4:lf.natAbs*hi=lf.natAbs*le+k*lf.natAbs*lo:=by
  rw[h2,Nat.mul_add,Nat.mul_comm k lf.natAbs,Nat.mul_assoc]
 omega
theorem qwzz:∀ds G Q,qdfz ds G Q->qlkz (endsOf Q) (start3 ["number","bound","high","low","high_factor","low_factor","turns","left","left_factor"] ds) G:=by
 rintro ds G Q ⟨n,b,rfl,hb,hz,hg,q⟩;have hb':(0:Int)<(b:Int):=by omega
 refine⟨hb',?_⟩;refine⟨fun m τ G'=>G'=G/\∃(hi:Nat) (hf lf:Int) (x6 x7 x8:Option D),τ=[some (.int n),some (.int b),some (.int hi),some (.int (m:Nat)),some (.int hf),some (.int lf),x6,x7,x8]/\m<hi/\hi≤b/\Nat.gcd hi m=1/\((b:Int)∣hi-hf*n)/\((b:Int)∣m-lf*n)/\hf.natAbs*m+lf.natAbs*hi≤b,⟨n%b,rfl,b,0,1,none,none,none,?_,Nat.mod_lt _ hb,Nat.le_refl _,?_,?_,?_,?_⟩,?_⟩
 ·show [some (D.int n),some (D.int b),some (D.int b),some (D.int ((n:Int)%(b:Int))),_,_,_,_,_]=_;rw[←Int.natCast_emod]
 ·rw[←hg,Nat.gcd_comm b,←Nat.gcd_rec,Nat.gcd_comm]
 ·rw[Int.zero_mul,Int.sub_zero];exact Int.dvd_refl _
 ·refine⟨-((n:Int) / b),?_⟩;have:=Int.mul_ediv_add_emod (n:Int) b;rw[Int.natCast_emod,Int.mul_neg];omega
 ·simp
 rintro m τ G' ⟨rfl,hi,hf,lf,x6,x7,x8,rfl,h0,h1,hgm,d1,d2,hbd⟩;refine⟨_,_,rfl,rfl,Nat.zero_le _,fun h=>?_,fun h=>?_⟩
 ·have h2:(!((m:Int)==0))=true:=h;have hm:0<m:=by simp at h2;omega
  have hlf:lf.natAbs≤b:=Nat.le_trans (Nat.le_mul_of_pos_right _ (by omega)) (Nat.le_trans (Nat.le_add_left _ _) hbd);have bigb:∀i:Int,i.natAbs≤b->Big i:=fun i hi'=>qqz (by omega) (by omega);have hq:((hi:Int) / (m:Int))=((hi / m:Nat):Int):=(Int.natCast_ediv _ _).symm;have hqb:Big ((hi:Int) / (m:Int)):=by
   rw[hq];exact bigb _ (by rw[Int.natAbs_natCast];exact Nat.le_trans (Nat.div_le_self _ _) h1)
  have hmb:Big (m:Int):=bigb _ (by rw[Int.natAbs_natCast];omega);have hle:((hi%m:Nat):Int)=hi-(hi:Int) / m*m:=by
   have:=Int.mul_ediv_add_emod (hi:Int) m;rw[Int.natCast_emod,Int.mul_comm ((hi:Int) / m)];omega
  refine⟨⟨by omega,hmb⟩,⟨hqb,hmb⟩,⟨hqb,bigb _ hlf⟩,hi%m,Nat.mod_lt _ hm,rfl,m,lf,hf-(hi:Int) / m*lf,some (.int ((hi:Int) / m)),some (.int ((hi%m:Nat):Int)),some (.int (hf-(hi:Int) / m*lf)),?_,Nat.mod_lt _ hm,by omega,?_,d2,?_,?_⟩
  ·show [some (D.int n),some (D.int b),some (D.int m),some (D.int ((hi:Int)-(hi:Int) / m*m)),some (D.int lf),some (D.int (hf-(hi:Int) / m*lf)),some (D.int ((hi:Int) / m)),some (D.int ((hi:Int)-(hi:Int) / m*m)),some (D.int (hf-(hi:Int) / m*lf))]=_;rw[←hle]
  ·rw[←hgm,Nat.gcd_comm hi m,Nat.gcd_rec m hi,Nat.gcd_comm]
  ·rw[hle];have:=Int.dvd_sub d1 (Int.dvd_trans d2 (Int.dvd_mul_left ((hi:Int) / m) _));rw[show (hi:Int)-(hi:Int) / m*m-(hf-(hi:Int) / m*lf)*n=hi-hf*n-(hi:Int) / m*(m-lf*n) by
    rw[Int.sub_mul,Int.mul_sub,Int.mul_assoc];omega]
   exact this
  ·exact qwyz (by rw[hq];exact Int.natCast_nonneg _) hle hbd
 ·have h2:(!((m:Int)==0))=false:=h;have:m=0:=by simp at h2;omega
  subst this;rw[Nat.gcd_zero_right] at hgm;subst hgm;refine⟨hb',qjz (q _ (Int.emod_nonneg _ (by omega)) (Int.emod_lt_of_pos _ hb') ?_)⟩;have e:=Int.mul_ediv_add_emod hf b;have h3:(n:Int)*(hf%b)-1 = -((1:Nat)-hf*n)-b*(n*(hf / b)):=by
   have:hf%b=hf-b*(hf / b):=by omega
   rw[this,Int.mul_sub,←Int.mul_assoc,←Int.mul_assoc,Int.mul_comm (n:Int) hf,Int.mul_comm (n:Int) b];omega
  rw[h3];exact Int.dvd_sub (Int.dvd_neg.mpr d1) (Int.dvd_mul_right _ _)
def Meets(a b:Clk)(x:Int):Prop:=0≤x/\x<(Nat.lcm a.1.toNat b.1.toNat:Nat)/\a.1∣x-a.2/\b.1∣x-b.2
theorem Meets.one{a b:Clk}{x y:Int}(ha:Valid a)(hb:Valid b)(hx:Meets a b x)(hy:Meets a b y):x=y:=by
 obtain⟨x1,x2,x3,x4⟩:=hx;obtain⟨y1,y2,y3,y4⟩:=hy;have d1:a.1∣x-y:=by
  have:=Int.dvd_sub x3 y3;rwa [show x-a.2-(y-a.2)=x-y by omega] at this
 have d2:b.1∣x-y:=by
  have:=Int.dvd_sub x4 y4;rwa [show x-b.2-(y-b.2)=x-y by omega] at this
 have e1:a.1.toNat∣(x-y).natAbs:=by
  have:=Int.natAbs_dvd_natAbs.mpr d1;rwa [show a.1.natAbs=a.1.toNat by have:=ha.1;omega] at this
 have e2:b.1.toNat∣(x-y).natAbs:=by
  have:=Int.natAbs_dvd_natAbs.mpr d2;rwa [show b.1.natAbs=b.1.toNat by have:=hb.1;omega] at this
 have e3:=Nat.lcm_dvd e1 e2;have:(x-y).natAbs=0:=Nat.eq_zero_of_dvd_of_lt e3 (by omega);omega
def meetO(a b:Clk):Option Clk:=((List.range (Nat.lcm a.1.toNat b.1.toNat)).find? fun x:Nat=>rg2 x a&&rg2 x b).map fun x:Nat=>(((Nat.lcm a.1.toNat b.1.toNat:Nat):Int),(x:Int))
theorem rg2_iff{c:Clk}{n:Int}:rg2 n c=true↔c.1∣n-c.2:=by
 unfold rg2;rw[beq_iff_eq];exact⟨Int.dvd_of_emod_eq_zero,Int.emod_eq_zero_of_dvd⟩
theorem qllz{a b:Clk}{x:Int}(ha:Valid a)(hb:Valid b)(h:Meets a b x):meetO a b=some (((Nat.lcm a.1.toNat b.1.toNat:Nat):Int),x):=by
 obtain⟨k,rfl⟩:∃k:Nat,x=(k:Int):=⟨x.toNat,by have:=h.1;omega⟩;unfold meetO;cases e:(List.range (Nat.lcm a.1.toNat b.1.toNat)).find? fun x:Nat=>rg2 x a&&rg2 x b with
 |none=>
  have:=List.find?_eq_none.mp e k (List.mem_range.mpr (by have:=h.2.1;omega));exact absurd (by rw[Bool.and_eq_true,rg2_iff,rg2_iff];exact h.2.2) this
 |some y=>
  have h1:=List.find?_some e;have h2:=List.mem_range.mp (List.mem_of_find?_eq_some e);rw[Bool.and_eq_true,rg2_iff,rg2_iff] at h1;have:((y:Nat):Int)=(k:Int):=Meets.one ha hb ⟨by omega,by omega,h1.1,h1.2⟩ h;show some ((((Nat.lcm a.1.toNat b.1.toNat:Nat):Int),((y:Nat):Int)):Clk)=_;rw[this]
theorem qw0z{a b:Clk}(h:∀x,¬Meets a b x):meetO a b=none:=by
 unfold meetO;rw[List.find?_eq_none.mpr]
 ·rfl
 ·intro x hx h1;rw[Bool.and_eq_true,rg2_iff,rg2_iff] at h1;exact h x ⟨by omega,by have:=List.mem_range.mp hx;omega,h1.1,h1.2⟩
def oD:Option Clk->D
 |none=>.non
 |some c=>cD c
def qdgz:Sp3:=fun ds G Q=>∃a b:Clk,ds=[cD a,cD b]/\Valid a/\Valid b/\a.1<10^60/\b.1<10^60/\Q (oD (meetO a b)) G
def qw1z:TS3:=sRet (eTup (aCons (eOp rMul3 (eOp rIx3 (eVar 0) (eC (.int 0))) (eVar 4)) (aCons (eOp rAdd3 (eOp rIx3 (eVar 0) (eC (.int 1))) (eOp rMul3 (eOp rIx3 (eVar 0) (eC (.int 0))) (eVar 5))) (aNil))))
def qw2z:TS3:=sSeq (sAsg (eOp rMod3 (eOp rMul3 (eOp rDiv3 (eVar 3) (eVar 2)) (eCall qdfz (aCons (eOp rDiv3 (eOp rIx3 (eVar 0) (eC (.int 0))) (eVar 2)) (aCons (eVar 4) (aNil))))) (eVar 4)) (hName 5)) qw1z
def qw3z:TS3:=sSeq (sAsg (eOp rDiv3 (eOp rIx3 (eVar 1) (eC (.int 0))) (eVar 2)) (hName 4)) qw2z
def qw4z:TS3:=sSeq (sIf (eTest (eOp (rEq3 true) (eOp rMod3 (eVar 3) (eVar 2)) (eC (.int 0)))) (sRet (eC .non)) (sNext)) qw3z
def qw5z:TS3:=sSeq (sAsg (eOp rSub3 (eOp rIx3 (eVar 1) (eC (.int 1))) (eOp rIx3 (eVar 0) (eC (.int 1)))) (hName 3)) qw4z
def qlmz:TS3:=sSeq (sAsg (eCall qb2z (aCons (eOp rIx3 (eVar 0) (eC (.int 0))) (aCons (eOp rIx3 (eVar 1) (eC (.int 0))) (aNil)))) (hName 2)) qw5z
theorem qw6z{g p q:Nat}{ap t inv r1 r2:Int}(hg:0<g)(hp:0<p)(hq:0<q)(hpq:Nat.gcd p q=1)(h1:0≤r1)(h2:r1<((g*p:Nat):Int))(e:r2-r1=g*ap)(hi:(q:Int)∣p*inv-1)(ht:t=ap*inv%q):
  Meets (((g*p:Nat):Int),r1) (((g*q:Nat):Int),r2) (r1+((g*p:Nat):Int)*t):=by
 have t1:0≤t:=by rw[ht];exact Int.emod_nonneg _ (by omega)
 have t2:t<q:=by rw[ht];exact Int.emod_lt_of_pos _ (by omega)
 have hl:Nat.lcm (g*p) (g*q)=g*p*q:=by
  rw[Nat.lcm_mul_left,Nat.lcm,hpq,Nat.div_one,Nat.mul_assoc]
 refine⟨?_,?_,?_,?_⟩
 ·exact Int.add_nonneg h1 (Int.mul_nonneg (Int.natCast_nonneg _) t1)
 ·show r1+((g*p:Nat):Int)*t<(Nat.lcm (((g*p:Nat):Int)).toNat (((g*q:Nat):Int)).toNat:Nat);rw[Int.toNat_natCast,Int.toNat_natCast,hl,Int.natCast_mul (g*p) q];have:((g*p:Nat):Int)*t≤((g*p:Nat):Int)*((q:Int)-1):=Int.mul_le_mul_of_nonneg_left (by omega) (Int.natCast_nonneg _);rw[Int.mul_sub,Int.mul_one] at this;omega
 ·show ((g*p:Nat):Int)∣r1+((g*p:Nat):Int)*t-r1;rw[show r1+((g*p:Nat):Int)*t-r1=((g*p:Nat):Int)*t by omega];exact Int.dvd_mul_right _ _
 ·show ((g*q:Nat):Int)∣r1+((g*p:Nat):Int)*t-r2;have d:(q:Int)∣p*t-ap:=by
   have e1:=Int.mul_ediv_add_emod (ap*inv) q;have e2:(p:Int)*t-ap=ap*(p*inv-1)-q*(p*(ap*inv / q)):=by
    have:t=ap*inv-q*(ap*inv / q):=by omega
    rw[this,Int.mul_sub,Int.mul_sub,Int.mul_one,←Int.mul_assoc (p:Int) q,Int.mul_comm (p:Int) q,Int.mul_assoc (q:Int),←Int.mul_assoc ap (p:Int),Int.mul_comm ap (p:Int),Int.mul_assoc (p:Int) ap];omega
   rw[e2];exact Int.dvd_sub (Int.dvd_trans hi (Int.dvd_mul_left _ _)) (Int.dvd_mul_right _ _)
  obtain⟨k,hk⟩:=d;refine⟨k,?_⟩;have:r1+((g*p:Nat):Int)*t-r2=g*(p*t-ap):=by
   rw[Int.mul_sub,←e,←Int.mul_assoc,Int.natCast_mul];omega
  rw[this,hk,Int.natCast_mul,Int.mul_assoc]
theorem qw7z:∀ds G Q,qdgz ds G Q->qlmz (endsOf Q) (start3 ["one","other","shared","apart","many","turns"] ds) G:=by
 rintro ds G Q ⟨⟨s1,r1⟩,⟨s2,r2⟩,rfl,va,vb,z1,z2,q⟩;have v1:0<s1:=va.1;have v2:0<s2:=vb.1;have z1':s1<10^60:=z1;have z2':s2<10^60:=z2;obtain⟨m1,rfl⟩:∃n:Nat,s1=(n:Int):=⟨s1.toNat,by omega⟩;obtain⟨m2,rfl⟩:∃n:Nat,s2=(n:Int):=⟨s2.toNat,by omega⟩;have hg:0<Nat.gcd m1 m2:=Nat.gcd_pos_of_pos_left _ (by omega);have hgl:Nat.gcd m1 m2≤m1:=Nat.le_of_dvd (by omega) (Nat.gcd_dvd_left _ _);have bg:Big ((Nat.gcd m1 m2:Nat):Int):=qqz (by omega) (by omega);refine⟨_,rfl,_,rfl,m1,m2,rfl,_,rfl,_,rfl,by show (0:Int)<(Nat.gcd m1 m2:Nat);omega,_,_,rfl,rfl,Nat.zero_le _,fun h=>?_,fun h=>?_⟩
 ·have h':(!((r2-r1)%((Nat.gcd m1 m2:Nat):Int)==0))=true:=h;have hne:(r2-r1)%((Nat.gcd m1 m2:Nat):Int)≠0:=by simpa using h'
  rw[qw0z] at q
  ·exact qjz q
  ·rintro x ⟨_,_,d1,d2⟩;have e1:((Nat.gcd m1 m2:Nat):Int)∣x-r1:=Int.dvd_trans (Int.natCast_dvd_natCast.mpr (Nat.gcd_dvd_left _ _)) d1;have e2:((Nat.gcd m1 m2:Nat):Int)∣x-r2:=Int.dvd_trans (Int.natCast_dvd_natCast.mpr (Nat.gcd_dvd_right _ _)) d2;have:=Int.dvd_sub e1 e2;rw[show x-r1-(x-r2)=r2-r1 by omega] at this;exact hne (Int.emod_eq_zero_of_dvd this)
 ·have h':(!((r2-r1)%((Nat.gcd m1 m2:Nat):Int)==0))=false:=h;have he:(r2-r1)%((Nat.gcd m1 m2:Nat):Int)=0:=by simpa using h'
  obtain⟨p,hp⟩:=Nat.gcd_dvd_left m1 m2;obtain⟨k,hk⟩:=Nat.gcd_dvd_right m1 m2;have hpk:Nat.gcd p k=1:=by
   have:=Nat.gcd_mul_left (Nat.gcd m1 m2) p k;rw[←hp,←hk] at this;exact Nat.eq_of_mul_eq_mul_left hg (by rw[←this,Nat.mul_one])
  have hp0:0<p:=by
   rcases Nat.eq_zero_or_pos p with z|z
   ·rw[z,Nat.mul_zero] at hp;omega
   ·exact z
  have hk0:0<k:=by
   rcases Nat.eq_zero_or_pos k with z|z
   ·rw[z,Nat.mul_zero] at hk;omega
   ·exact z
  have hkm:k≤m2:=by rw[hk];exact Nat.le_mul_of_pos_left _ hg
  have hpm:p≤m1:=by rw[hp];exact Nat.le_mul_of_pos_left _ hg
  have dk:((m2:Int) / ((Nat.gcd m1 m2:Nat):Int))=(k:Int):=by
   rw[←Int.natCast_ediv];congr 1;exact Nat.div_eq_of_eq_mul_right hg hk
  have dp:((m1:Int) / ((Nat.gcd m1 m2:Nat):Int))=(p:Int):=by
   rw[←Int.natCast_ediv];congr 1;exact Nat.div_eq_of_eq_mul_right hg hp
  have c0:(0:Int)<((Nat.gcd m1 m2:Nat):Int):=by omega
  have eap:r2-r1=((Nat.gcd m1 m2:Nat):Int)*((r2-r1) / ((Nat.gcd m1 m2:Nat):Int)):=by
   have:=Int.mul_ediv_add_emod (r2-r1) ((Nat.gcd m1 m2:Nat):Int);omega
  have a1:0≤r1:=va.2.1;have a2:r1<(m1:Int):=va.2.2;have b1:0≤r2:=vb.2.1;have b2:r2<(m2:Int):=vb.2.2;have bap:Big ((r2-r1) / ((Nat.gcd m1 m2:Nat):Int)):=by
   have h3:=Int.natAbs_ediv_le_natAbs (r2-r1) ((Nat.gcd m1 m2:Nat):Int);exact qqz (by omega) (by omega)
  refine⟨_,rfl,⟨c0,bg⟩,⟨c0,bg⟩,_,rfl,⟨c0,bg⟩,?_⟩;dsimp only;rw[dk,dp];refine⟨p,k,rfl,hk0,by omega,hpk,fun inv i1 i2 i3=>⟨⟨bap,qqz (by omega) (by omega)⟩,by show (0:Int)<(k:Int);omega,?_⟩⟩;have t1:=Int.emod_nonneg ((r2-r1) / ((Nat.gcd m1 m2:Nat):Int)*inv) (show (k:Int)≠0 by omega);have t2:=Int.emod_lt_of_pos ((r2-r1) / ((Nat.gcd m1 m2:Nat):Int)*inv) (show (0:Int)<(k:Int) by omega);refine⟨_,rfl,⟨qqz (by omega) (by omega),qqz (by omega) (by omega)⟩,_,rfl,_,rfl,⟨qqz (by omega) (by omega),qqz (by omega) (by omega)⟩,?_⟩;have M:=qw6z (g:=Nat.gcd m1 m2) (p:=p) (q:=k) (inv:=inv) (r1:=r1) (r2:=r2) hg hp0 hk0 hpk a1 (by rw[←hp];exact a2) eap i3 rfl;rw[←hp,←hk] at M;rw[qllz va vb M] at q;have el:Nat.lcm m1 m2=m1*k:=by
   unfold Nat.lcm;rw[Nat.mul_div_assoc _ (Nat.gcd_dvd_right _ _)];congr 1;exact Nat.div_eq_of_eq_mul_right hg hk
  have q':Q (.tup [.int ((Nat.lcm m1 m2:Nat):Int),.int (r1+(m1:Int)*((r2-r1) / ((Nat.gcd m1 m2:Nat):Int)*inv%k))]) G:=q;rw[el,Int.natCast_mul] at q';exact qjz q'
end My
namespace My
open PySem L2 L3
def pairO(cs:List Clk)(i j:Nat):Option (Nat×Nat×Int):=match cs[i]?,cs[j]? with
 |some a,some b=>(meetO a b).map fun m=>(i,j,m.2)
 |_,_=>none
def rowO(cs:List Clk)(i:Nat):Option (Nat×Nat×Int):=(List.range (cs.length-(i+1))).findSome? fun k=>pairO cs i (i+1+k)
def clashO(cs:List Clk):Option (Nat×Nat×Int):=(List.range cs.length).findSome? (rowO cs)
def kD:Option (Nat×Nat×Int)->D
 |none=>.non
 |some (i,j,x)=>.tup [nD i,nD j,.int x]
theorem rng0(n:Nat):rngL 0 n=(List.range n).map nD:=by
 unfold rngL;refine List.map_congr_left fun i _=>?_;show D.int (0+(i:Int))=D.int (i:Int);rw[Int.zero_add]
theorem rngS(i n:Nat):rngL ((i:Int)+1) n=(List.range n).map fun k=>nD (i+1+k):=by
 unfold rngL;refine List.map_congr_left fun k _=>?_;show D.int ((i:Int)+1+(k:Int))=D.int ((i+1+k:Nat):Int);rw[Int.natCast_add,Int.natCast_add];rfl
theorem qlnz{cs:List Clk}{i:Nat}{a:Clk}(h:cs[i]?=some a):atI (cs.map cD) (i:Int)=some (cD a):=qbiz (by rw[List.getElem?_map,h];rfl)
def qdhz:Sp3:=fun ds G Q=>∃cs:List Clk,ds=[csD cs]/\ClOk 1000 cs/\cs.length≤1000/\Q (kD (clashO cs)) G
def qw8z:TS3:=sIf (eTest (eOp (rIs3 true) (eVar 3) (eC .non))) (sRet (eTup (aCons (eVar 1) (aCons (eVar 2) (aCons (eOp rIx3 (eVar 3) (eC (.int 1))) (aNil)))))) (sNext)
def qw9z:TS3:=sSeq (sAsg (eCall qdgz (aCons (eOp rIx3 (eVar 0) (eVar 1)) (aCons (eOp rIx3 (eVar 0) (eVar 2)) (aNil)))) (hName 3)) qw8z
def qxaz:TS3:=sFor (iRng2 (aCons (eOp rAdd3 (eVar 1) (eC (.int 1))) (aCons (eCB qvz (aCons (eVar 0) (aNil))) (aNil)))) (hName 2) (qw9z)
def qxbz:TS3:=sRet (eC .non)
def qloz:TS3:=sSeq (sFor (iRng1 (aCons (eCB qvz (aCons (eVar 0) (aNil))) (aNil))) (hName 1) (qxaz)) qxbz
theorem qxcz:∀ds G Q,qdhz ds G Q->qloz (endsOf Q) (start3 ["clocks","place","other","met"] ds) G:=by
 rintro ds G Q ⟨cs,rfl,ok,hl,q⟩;refine⟨by rw[List.length_map];omega,?_⟩;rw[List.length_map,Int.toNat_natCast,rng0];refine qwz (fun ds τ G'=>G'=G/\∃(is:List Nat) (x1 x2 x3:Option D),ds=is.map nD/\(∀i∈is,i<cs.length)/\is.findSome? (rowO cs)=clashO cs/\τ=[some (csD cs),x1,x2,x3]) (fun _ _ _ _=>trivial) ?_ ?_ _ _ _ ⟨rfl,_,_,_,_,rfl,fun i hi=>List.mem_range.mp hi,rfl,rfl⟩
 ·rintro d ds τ G' N ⟨rfl,is,x1,x2,x3,e,hi,hr,rfl⟩ hN;cases is with
  |nil=>cases e
  |cons i is=>
   cases e;have hin:=hi i List.mem_cons_self;obtain⟨a,ha⟩:∃a,cs[i]?=some a:=⟨cs[i],List.getElem?_eq_getElem hin⟩;have va:=ok a (List.mem_of_getElem? ha);refine⟨by rw[List.length_map];omega,?_⟩;rw[List.length_map,show (((cs.length:Nat):Int)-((i:Int)+1)).toNat=cs.length-(i+1) by omega,rngS];refine qwz (fun ds τ G''=>G''=G'/\∃(ks:List Nat) (x2 x3:Option D),ds=ks.map (fun k=>nD (i+1+k))/\(∀k∈ks,i+1+k<cs.length)/\ks.findSome? (fun k=>pairO cs i (i+1+k))=rowO cs i/\τ=[some (csD cs),some (nD i),x2,x3]) (fun _ _ _ _=>trivial) ?_ ?_ _ _ _ ⟨rfl,_,_,_,rfl,fun k hk=>by have:=List.mem_range.mp hk;omega,rfl,rfl⟩
   ·rintro d ds τ G'' N' ⟨rfl,ks,x2,x3,e,hk,hr',rfl⟩ hN';cases ks with
    |nil=>cases e
    |cons k ks=>
     cases e;have hkn:=hk k List.mem_cons_self;obtain⟨b,hb⟩:∃b,cs[i+1+k]?=some b:=⟨cs[i+1+k],List.getElem?_eq_getElem hkn⟩;have vb:=ok b (List.mem_of_getElem? hb);have ep:pairO cs i (i+1+k)=(meetO a b).map fun m=>(i,i+1+k,m.2):=by
      unfold pairO;rw[ha,hb]
     refine⟨_,qlnz ha,_,qlnz hb,a,b,rfl,va.1,vb.1,by have:=va.2;omega,by have:=vb.2;omega,?_⟩;cases em:meetO a b with
     |none=>
      refine⟨nofun,fun _=>hN' _ _ ⟨rfl,ks,_,_,rfl,fun k' h'=>hk k' (List.mem_cons_of_mem _ h'),?_,rfl⟩⟩;rw[←hr',List.findSome?_cons,ep,em];rfl
     |some m=>
      refine⟨fun _=>⟨_,rfl,?_⟩,nofun⟩;have e1:rowO cs i=some (i,i+1+k,m.2):=by
       rw[←hr',List.findSome?_cons,ep,em];rfl
      have e2:clashO cs=some (i,i+1+k,m.2):=by
       rw[←hr,List.findSome?_cons,e1]
      rw[e2] at q;exact qjz q
   ·rintro τ G'' ⟨rfl,ks,x2,x3,e,hk,hr',rfl⟩;have:ks=[]:=by cases ks with
     |nil=>rfl
     |cons z zs=>cases e
    subst this;have e1:rowO cs i=none:=hr'.symm;refine hN _ _ ⟨rfl,is,_,_,_,rfl,fun i' h'=>hi i' (List.mem_cons_of_mem _ h'),?_,rfl⟩;rw[←hr,List.findSome?_cons,e1]
 ·rintro τ G' ⟨rfl,is,x1,x2,x3,e,hi,hr,rfl⟩;have:is=[]:=by cases is with
   |nil=>rfl
   |cons z zs=>cases e
  subst this;have e1:clashO cs=none:=hr.symm;rw[e1] at q;exact qjz q
end My
namespace My
open PySem L2 L3
def Known2(G:Gp):D->Prop
 |.tup ds=>∀d∈ds,Known G d
 |.obj a=>∃o,G a=some o/\o.plain
 |_=>True
theorem Known.sub{G G':Gp}{d:D}(s:Sub G G')(h:Known G d):Known G' d:=by
 cases d with
 |obj a=>
  obtain⟨o,e,hp⟩:=h;exact⟨o,s a o e,hp⟩
 |_=>trivial
theorem qxdz{G:Gp}{d:D}(h:Known2 G d)(hn:∀ds,d≠.tup ds):instD "tuple" G d=some false:=by
 cases d with
 |obj a=>
  obtain⟨o,hG,hp⟩:∃o,G a=some o/\o.plain:=h;cases o with
  |gen R=>exact hp.elim
  |_=>simp[instD,hG]
 |tup ds=>exact absurd rfl (hn ds)
 |_=>rfl
end My
namespace My
open PySem L2 L3
theorem qlpz(as bs:List Clk):(Dat.D.lst (as.map cX)).eqb (.lst (bs.map cX))=decide (as=bs):=qk6z as bs
theorem qdiz{α:Type}(f:α->Bool):∀xs:List α,blsOf (xs.map fun x=>D.bl (f x))=some (xs.map f)
 |[]=>rfl
 |x::xs=>by
  show Option.map _ (blsOf (xs.map fun x=>D.bl (f x)))=_;rw[qdiz f xs];rfl
theorem all_map{α:Type}(f:α->Bool)(xs:List α):(xs.map f).all id=xs.all f:=by
 induction xs with
 |nil=>rfl
 |cons x xs ih=>simp
end My
namespace My
open PySem L2 L3
theorem qdjz{α β:Type}(f:α->D)(g:β->D):∀(as:List α) (bs:List β),zipD (as.map f) (bs.map g)=(as.zip bs).map fun p=>D.tup [f p.1,g p.2]
 |[],_=>rfl
 |a::as,[]=>rfl
 |a::as,b::bs=>by
  show D.tup [f a,g b]::zipD (as.map f) (bs.map g)=D.tup [f a,g b]::(as.zip bs).map _;rw[qdjz f g as bs]
theorem qlqz{β:Type}(g:β->D)(bs:List β):enumD (bs.map g)=((List.range bs.length).zip bs).map fun p=>D.tup [nD p.1,g p.2]:=by
 unfold enumD;rw[List.length_map,rng0];exact qdjz nD g _ _
end My
namespace My
open PySem L2 L3
def parts(c:Clk)(k:Nat):List Clk:=(List.range k).map fun t:Nat=>(c.1*(k:Int),c.2+c.1*(t:Int))
end My
namespace My
open PySem L2 L3
theorem qe7z{cs:List Clk}{d:Nat}:∀{a:Nat},a∣d->(∀c∈cs,c.1.toNat∣d)->rndF cs a∣d:=by
 induction cs with
 |nil=>exact fun h _=>h
 |cons c cs ih=>
  intro a h hc;exact ih (a:=Nat.lcm a c.1.toNat) (Nat.lcm_dvd h (hc c List.mem_cons_self)) fun c' h'=>hc c' (List.mem_cons_of_mem _ h')
theorem qxez{cs:List Clk}:∀{a:Nat},a∣rndF cs a:=by
 induction cs with
 |nil=>exact Nat.dvd_refl _
 |cons c cs ih=>intro a;exact Nat.dvd_trans (Nat.dvd_lcm_left a c.1.toNat) (ih (a:=Nat.lcm a c.1.toNat))
theorem qxfz{cs:List Clk}{c:Clk}:∀{a:Nat},c∈cs->c.1.toNat∣rndF cs a:=by
 induction cs with
 |nil=>exact fun h=>nomatch h
 |cons d cs ih=>
  intro a h;rcases List.mem_cons.mp h with rfl|h
  ·exact Nat.dvd_trans (Nat.dvd_lcm_right a c.1.toNat) (qxez (cs:=cs) (a:=Nat.lcm a c.1.toNat))
  ·exact ih (a:=Nat.lcm a d.1.toNat) h
end My
namespace My
open PySem L2 L3
def ClSm(cs:List Clk):Prop:=∀c∈cs,Valid c/\(c.1≤24/\c.1∣720)
theorem more720{s k:Int}(h0:0<s)(h:s∣720)(hk:k=2∨k=3)(hl:s*k<25):s*k∣720:=by
 obtain⟨n,rfl⟩:∃n:Nat,s=(n:Int):=⟨s.toNat,by omega⟩;have hn:n∣720:=Int.natCast_dvd_natCast.mp h;have h2:∀n:Nat,n<13->n∣720->(n*2<25->n*2∣720)/\(n*3<25->n*3∣720):=by decide
 rcases hk with rfl|rfl
 ·exact Int.natCast_dvd_natCast.mpr ((h2 n (by omega) hn).1 (by omega))
 ·exact Int.natCast_dvd_natCast.mpr ((h2 n (by omega) hn).2 (by omega))
theorem list720{n:Int}(h:n∈([2,3,4,5,6,8,9,12,18,24]:List Int)):n∣720:=by
 simp only[List.mem_cons,List.not_mem_nil,or_false] at h;rcases h with rfl|rfl|rfl|rfl|rfl|rfl|rfl|rfl|rfl|rfl<;>decide
end My
namespace My
open PySem L2 L3
def qb3z:Sp3:=fun ds G Q=>∃a b:Int,ds=[.int a,.int b]/\a≤b/\Q .non G
def qlrz:TS3:=sIf (eTest (eOp rGt3 (eVar 0) (eVar 1))) (sNever) (sNext)
theorem qxgz:∀ds G Q,qb3z ds G Q->qlrz (endsOf Q) (start3 ["many","most"] ds) G:=by
 rintro ds G Q ⟨a,b,rfl,h,q⟩;refine⟨fun h'=>?_,fun _=>⟨G,Sub.refl _,q⟩⟩;have:a > b:=of_decide_eq_true h';omega
def nums(c:Clk)(n:Nat):List Nat:=(List.range (cntR c.2 n c.1)).map fun i=>c.2.toNat+i*c.1.toNat
theorem qgxz{c:Clk}(h:Valid c)(n:Nat):rngC c.2 c.1 (cntR c.2 n c.1)=(nums c n).map nD:=by
 unfold rngC nums;rw[List.map_map];refine List.map_congr_left fun i _=>?_;show D.int _=D.int ((c.2.toNat+i*c.1.toNat:Nat):Int);congr 1;have:=h.1;have:=h.2.1;rw[Int.natCast_add,Int.natCast_mul,Int.toNat_of_nonneg (by omega),Int.toNat_of_nonneg (by omega)]
theorem qbez{c:Clk}(h:Valid c){n x:Nat}:x∈nums c n↔x<n/\rg x c=true:=by
 obtain⟨h1,h2,h3⟩:=h;unfold nums;rw[List.mem_map];obtain⟨s,hs⟩:∃s:Nat,c.1=(s:Int):=⟨c.1.toNat,by omega⟩;obtain⟨r,hr⟩:∃r:Nat,c.2=(r:Int):=⟨c.2.toNat,by omega⟩;have hrg:rg x c=true↔x%s=r:=by
  show ((x:Int)%c.1==c.2)=true↔_;rw[beq_iff_eq,hs,hr];constructor
  ·intro e;exact_mod_cast e
  ·intro e;exact_mod_cast e
 rw[hrg];have s0:0<s:=by omega
 have rs:r<s:=by omega
 have hc:∀i,i<cntR c.2 n c.1↔r+i*s<n:=fun i=>by
  unfold cntR;rw[hs,hr];split
  ·rename_i hlt;have hrn:r<n:=by omega
   rw[show ((n:Int)-(r:Int)-1) / (s:Int)+1=(((n-r-1) / s+1:Nat):Int) by
    rw[Int.natCast_add,Int.natCast_ediv,show ((n-r-1:Nat):Int)=(n:Int)-(r:Int)-1 by omega];rfl,Int.toNat_natCast,Nat.lt_succ_iff,Nat.le_div_iff_mul_le s0]
   omega
  ·rename_i hlt;have:¬r<n:=by omega
   constructor
   ·intro z;exact absurd z (Nat.not_lt_zero _)
   ·intro z;omega
 rw[hs,hr,Int.toNat_natCast,Int.toNat_natCast];constructor
 ·rintro⟨i,hi,rfl⟩;have hi:=List.mem_range.mp hi;rw[←hs,←hr] at hi;refine⟨(hc i).mp hi,?_⟩;rw[Nat.add_mul_mod_self_right,Nat.mod_eq_of_lt rs]
 ·rintro⟨hx,e⟩;have hd:s*(x / s)+x%s=x:=Nat.div_add_mod x s;refine⟨x / s,?_,?_⟩
  ·rw[List.mem_range,←hs,←hr,hc,Nat.mul_comm];omega
  ·rw[Nat.mul_comm];omega
theorem qgyz{c:Clk}(h:Valid c)(n:Nat):(nums c n).Nodup:=by
 unfold nums;unfold List.Nodup;rw[List.pairwise_map];refine List.Pairwise.imp ?_ (List.nodup_range (n:=cntR c.2 n c.1));intro a b hab e;have:=h.1;have h0:0<c.1.toNat:=by omega
 exact hab (Nat.eq_of_mul_eq_mul_right h0 (by omega))
def cntN(cs:List Clk)(x:Nat):Nat:=(cs.filter (rg x)).length
def tabD(f:Nat->Nat)(n:Nat):List D:=(List.range n).map fun x=>nD (f x)
theorem qckz(f:Nat->Nat)(n:Nat):(tabD f n).length=n:=by simp[tabD]
theorem qgzz{f:Nat->Nat}{n x:Nat}(h:x<n):atI (tabD f n) (x:Int)=some (nD (f x)):=qbiz (by
 unfold tabD;rw[List.getElem?_map,List.getElem?_range h];rfl)
theorem qlsz{f:Nat->Nat}{n x v:Nat}(h:x<n):(tabD f n).set x (nD v)=tabD (fun y=>if y=x then v else f y) n:=by
 unfold tabD;apply List.ext_getElem?;intro i;rw[List.getElem?_set];by_cases hi:i<n
 ·by_cases hx:x=i
  ·subst hx;simp[h]
  ·have:¬i=x:=fun z=>hx z.symm;simp[hi,hx,this]
 ·have:¬x=i:=fun z=>hi (by omega);simp[hi,this]
theorem qe8z{f g:Nat->Nat}{n:Nat}(h:∀x,x<n->f x=g x):tabD f n=tabD g n:=by
 unfold tabD;refine List.map_congr_left fun x hx=>?_;rw[h x (List.mem_range.mp hx)]
theorem qe9z{n x:Nat}(h:x<n):ixN n (x:Int)=some x:=by
 unfold ixN;simp[h]
def qb4z:Sp3:=fun ds G Q=>∃(cs:List Clk) (n:Nat),ds=[csD cs,.int n]/\ClOk 1000 cs/\cs.length≤1000/\n≤10000/\∀p G',New G p (.lst (tabD (cntN cs) n)) G'->Q (.obj p) G'
def qxhz:TS3:=sAugS (eVar 2) (eVar 5) (eC (.int 1)) (· + ·)
def qxiz:TS3:=sFor (iRng3 (aCons (eVar 4) (aCons (eVar 1) (aCons (eVar 3) (aNil))))) (hName 5) (qxhz)
def qxjz:TS3:=sRet (eVar 2)
def qxkz:TS3:=sSeq (sFor (iSeq (eVar 0)) (hTup 2 (hCons (hName 3) (hCons (hName 4) (hNil)))) (qxiz)) qxjz
def qxlz:TS3:=sSeq (sAsg (eOp rMul3 (eLst (aCons (eC (.int 0)) (aNil))) (eVar 1)) (hName 2)) qxkz
def qltz:TS3:=sSeq (sDrop (eCall qb3z (aCons (eVar 1) (aCons (eC (.int 10000)) (aNil))))) qxlz
theorem zeros(n:Nat):(List.replicate n [D.int 0]).flatten=tabD (fun _=>0) n:=by
 unfold tabD
 induction n with
 |zero=>rfl
 |succ n ih=>
  rw[List.replicate_succ',List.flatten_append,ih,List.range_succ,List.map_append];rfl
theorem qluz(c:Clk)(cs:List Clk)(x:Nat):cntN (c::cs) x=(if rg x c=true then 1 else 0)+cntN cs x:=by
 unfold cntN;rw[List.filter_cons];split
 ·rw[List.length_cons];omega
 ·omega
theorem qxmz:∀ds G Q,qb4z ds G Q->qltz (endsOf Q) (start3 ["clocks","many","counts","step","rest","number"] ds) G:=by
 rintro ds G Q ⟨cs,n,rfl,ok,hl,hn,q⟩;refine⟨n,10000,rfl,by omega,?_⟩;intro p0 G0 n0;refine⟨_,n0.at_,⟨by omega,by omega⟩,?_,fun p G1 n1=>?_⟩
 ·rw[Int.toNat_natCast];exact Nat.le_trans (show 1*n≤10000 by omega) (by decide)
 rw[Int.toNat_natCast,zeros] at n1;have m1:New G p (.lst (tabD (fun _=>0) n)) G1:=⟨n0.sub.of_none n1.non,n0.sub.trans n1.sub,n1.at_⟩;refine qwz (fun ds τ G'=>∃(zs:List Clk) (f:Nat->Nat) (x3 x4 x5:Option D),ds=zs.map cD/\τ=[some (csD cs),some (.int n),some (.obj p),x3,x4,x5]/\New G p (.lst (tabD f n)) G'/\(∀z∈zs,z∈cs)/\∀x,f x+cntN zs x=cntN cs x) (fun _ _ _ _=>trivial) ?_ ?_ _ _ _ ⟨cs,fun _=>0,none,none,none,rfl,rfl,m1,fun _ h=>h,fun x=>Nat.zero_add _⟩
 ·rintro d ds τ G' N ⟨zs,f,x3,x4,x5,e,rfl,m2,hm,hf⟩ hN;cases zs with
  |nil=>cases e
  |cons c zs=>
   cases e;obtain⟨hv,h1000⟩:=ok c (hm c List.mem_cons_self);have v1:=hv.1;have v2:=hv.2.1;have v3:=hv.2.2;refine⟨rfl,⟨by omega,by omega,by omega,by omega,v1,by omega⟩,?_⟩;show forGo _ _ _ _ (rngC c.2 c.1 (cntR c.2 n c.1)) _ _;rw[qgxz hv];refine qwz (fun ds τ G'=>∃(ms:List Nat) (g:Nat->Nat) (x5:Option D),ds=ms.map nD/\τ=[some (csD cs),some (.int n),some (.obj p),some (.int c.1),some (.int c.2),x5]/\New G p (.lst (tabD g n)) G'/\ms.Nodup/\(∀x∈ms,x<n/\rg x c=true)/\∀x,x<n->g x=f x+(if rg x c=true/\x∉ms then 1 else 0)) (fun _ _ _ _=>trivial) ?_ ?_ _ _ _ ⟨nums c n,f,x5,rfl,rfl,m2,qgyz hv n,fun x hx=>(qbez hv).mp hx,fun x hx=>?_⟩
   ·rintro d ds τ G2 N2 ⟨ms,g,x5,e,rfl,m3,nd,hr,hg⟩ hN2;cases ms with
    |nil=>cases e
    |cons x ms=>
     cases e;have nd':=List.nodup_cons.mp nd;obtain⟨hx,hrx⟩:=hr x List.mem_cons_self;refine⟨_,_,m3.at_,qgzz hx,?_⟩;refine⟨_,x,m3.at_,?_,?_⟩
     ·rw[qckz];exact qe9z hx
     ·refine hN2 _ _ ⟨ms,fun y=>if y=x then g x+1 else g y,_,rfl,rfl,⟨m3.non,Sub.updN m3.sub m3.non,?_⟩,nd'.2,fun y hy=>hr y (List.mem_cons_of_mem _ hy),fun y hy=>?_⟩
      ·rw[q8z,←qlsz hx];rfl
      ·have:=hg y hy;by_cases hyx:y=x
       ·subst hyx;rw[if_neg (fun z=>z.2 List.mem_cons_self)] at this;rw[if_pos (⟨hrx,nd'.1⟩:rg y c=true/\y∉ms)];show (if y=y then g y+1 else g y)=f y+1;rw[if_pos rfl,this]
       ·show (if y=x then g x+1 else g y)=_;rw[if_neg hyx,this];have:y∉x::ms↔y∉ms:=by simp[hyx]
        simp only[this]
   ·rintro τ G2 ⟨ms,g,x5,e,rfl,m3,nd,hr,hg⟩;have e0:ms=[]:=by cases ms with
     |nil=>rfl
     |cons z zs=>cases e
    subst e0;refine hN _ _ ⟨zs,fun x=>f x+(if rg x c=true then 1 else 0),_,_,_,rfl,rfl,?_,fun z hz=>hm z (List.mem_cons_of_mem _ hz),fun x=>?_⟩
    ·rw[qe8z (g:=g) fun x hx=>?_]
     ·exact m3
     ·rw[hg x hx];simp
    ·have:=hf x;rw[qluz] at this;show f x+(if rg x c=true then 1 else 0)+cntN zs x=cntN cs x;omega
   ·rw[if_neg]
    ·rfl
    ·rintro⟨z1,z2⟩;exact z2 ((qbez hv).mpr ⟨hx,z1⟩)
 ·rintro τ G' ⟨zs,f,x3,x4,x5,e,rfl,m2,hm,hf⟩;have e0:zs=[]:=by cases zs with
   |nil=>rfl
   |cons z zs=>cases e
  subst e0;refine qjz (q p G' ?_);rw[qe8z (g:=f) fun x _=>by have:=hf x;have e:cntN [] x=0:=rfl;omega];exact m2
def oN:Option Nat->D
 |none=>.non
 |some x=>nD x
def qclz:Sp3:=fun ds G Q=>∃(c:Clk) (p:Addr) (f:Nat->Nat) (n m:Nat),ds=[cD c,.obj p,.int m]/\G p=some (.lst (tabD f n))/\Valid c/\c.1≤1000000/\n≤10000/\Q (oN ((nums c n).find? fun x=>f x==m)) G
def qxnz:TS3:=sIf (eTest (eOp (rEq3 false) (eOp rIx3 (eVar 1) (eVar 3)) (eVar 2))) (sRet (eVar 3)) (sNext)
def qxoz:TS3:=sRet (eC .non)
def qlvz:TS3:=sSeq (sFor (iRng3 (aCons (eOp rIx3 (eVar 0) (eC (.int 1))) (aCons (eCB qvz (aCons (eVar 1) (aNil))) (aCons (eOp rIx3 (eVar 0) (eC (.int 0))) (aNil))))) (hName 3) (qxnz)) qxoz
theorem qxpz:∀ds G Q,qclz ds G Q->qlvz (endsOf Q) (start3 ["clock","counts","many","number"] ds) G:=by
 rintro ds G Q ⟨c,p,f,n,m,rfl,hp,hv,hb,hn,q⟩;have v1:=hv.1;have v2:=hv.2.1;have v3:=hv.2.2;refine⟨_,rfl,_,hp,_,rfl,⟨by omega,by omega,by rw[qckz];omega,by rw[qckz];omega,v1,by omega⟩,?_⟩;show forGo _ _ _ _ (rngC c.2 c.1 (cntR c.2 (((tabD f n).length:Nat):Int) c.1)) _ _;rw[qckz,qgxz hv];refine qwz (fun ds τ G'=>G'=G/\∃(ms:List Nat) (x3:Option D),ds=ms.map nD/\τ=[some (cD c),some (.obj p),some (.int m),x3]/\(∀x∈ms,x<n)/\ms.find? (fun x=>f x==m)=(nums c n).find? fun x=>f x==m) (fun _ _ _ _=>trivial) ?_ ?_ _ _ _ ⟨rfl,nums c n,none,rfl,rfl,fun x hx=>((qbez hv).mp hx).1,rfl⟩
 ·rintro d ds τ G' N ⟨eg,ms,x3,e,rfl,hm,hf⟩ hN;cases ms with
  |nil=>cases e
  |cons x ms=>
   cases e;rw[List.find?_cons] at hf;refine⟨_,_,by rw[eg];exact hp,qgzz (hm x List.mem_cons_self),_,_,rfl,rfl,Nat.zero_le _,fun h=>?_,fun h=>?_⟩
   ·have h':(((f x:Nat):Int)==(m:Int))=true:=h;have e2:f x=m:=by
     rw[beq_iff_eq] at h';exact_mod_cast h'
    rw[show (f x==m)=true by rw[e2,beq_self_eq_true]] at hf;rw[←hf] at q;rw[eg];exact qjz q
   ·have h':(((f x:Nat):Int)==(m:Int))=false:=h;have e2:(f x==m)=false:=by
     cases e3:f x==m with
     |false=>rfl
     |true=>
      rw[beq_iff_eq] at e3;rw[e3,beq_self_eq_true] at h';cases h'
    rw[e2] at hf;exact hN _ _ ⟨eg,ms,_,rfl,rfl,fun y hy=>hm y (List.mem_cons_of_mem _ hy),hf⟩
 ·rintro τ G' ⟨eg,ms,x3,e,rfl,hm,hf⟩;cases ms with
  |cons x ms=>cases e
  |nil=>
   have hf:none=(nums c n).find? fun x=>f x==m:=hf;rw[←hf] at q;rw[eg];exact qjz q
end My
namespace My
open PySem L2 L3
def fwO(cs:List Clk)(c:Clk):Option Nat:=(nums c (rnd (cs++[c]))).find? fun x=>cntN cs x==0
def qcmz:Sp3:=fun ds G Q=>∃(cs:List Clk) (c:Clk),ds=[csD cs,cD c]/\ClOk 1000 (cs++[c])/\cs.length≤12/\rnd (cs++[c])≤10000/\Q (oN (fwO cs c)) G
def qlwz:TS3:=sRet (eCall qclz (aCons (eVar 1) (aCons (eCall qb4z (aCons (eVar 0) (aCons (eCall qa9z (aCons (eOp rAdd3 (eVar 0) (eTup (aCons (eVar 1) (aNil)))) (aNil))) (aNil)))) (aCons (eC (.int 0)) (aNil)))))
theorem qxqz:∀ds G Q,qcmz ds G Q->qlwz (endsOf Q) (start3 ["clocks","clock"] ds) G:=by
 rintro ds G Q ⟨cs,c,rfl,ok,hl,hn,q⟩;have hc:=ok c (by simp);have h1:=hc.2;refine⟨?_,cs++[c],?_,ok,by simp;omega,cs,rnd (cs++[c]),rfl,fun z hz=>ok z (List.mem_append_left _ hz),by omega,hn,fun p G1 n1=>?_⟩
 ·show (cs.map cD).length+1≤sizeLine;rw[List.length_map];exact line1000 (by omega)
 ·show [D.tup (cs.map cD++[cD c])]=[csD (cs++[c])];unfold csD;rw[List.map_append];rfl
 ·exact⟨c,p,cntN cs,rnd (cs++[c]),0,rfl,n1.at_,hc.1,by omega,hn,qa7z n1.sub q⟩
def fmO(cs:List Clk):Option Nat:=(List.range (rnd cs)).find? fun x=>cntN cs x==0
theorem qlxz(cs:List Clk):rnd (cs++[(1,0)])=rnd cs:=by
 unfold rnd rndF;rw[List.foldl_append];show Nat.lcm _ 1=_;rw[Nat.lcm_one_right]
theorem qxrz(n:Nat):nums (1,0) n=List.range n:=by
 have e:cntR 0 (n:Int) 1=n:=by
  unfold cntR;split
  ·rw[Int.ediv_one];omega
  ·omega
 unfold nums;show (List.range (cntR 0 (n:Int) 1)).map (fun i=>0+i*1)=_;rw[e];refine (List.map_congr_left fun i _=>?_).trans (List.map_id _);show 0+i*1=i;omega
theorem qxsz(cs:List Clk):fwO cs (1,0)=fmO cs:=by
 unfold fwO fmO;rw[qlxz,qxrz]
theorem qxtz{cs:List Clk}(ok:ClOk 1000 cs):ClOk 1000 (cs++[(1,0)]):=fun z hz=>by
 rcases List.mem_append.mp hz with h|h
 ·exact ok z h
 ·have:z=(1,0):=by simpa using h
  subst this;exact⟨⟨by decide,by decide,by decide⟩,by decide⟩
def RndS(cs:List Clk):Prop:=ClOk 1000 cs/\cs.length≤12/\rnd cs≤10000
def qdkz:Sp3:=fun ds G Q=>∃cs:List Clk,ds=[csD cs]/\RndS cs/\Q (oN (fmO cs)) G
def qlyz:TS3:=sRet (eCall qcmz (aCons (eVar 0) (aCons (eTup (aCons (eC (.int 1)) (aCons (eC (.int 0)) (aNil)))) (aNil))))
theorem qxuz:∀ds G Q,qdkz ds G Q->qlyz (endsOf Q) (start3 ["clocks"] ds) G:=by
 rintro ds G Q ⟨cs,rfl,⟨ok,hl,hn⟩,q⟩;refine⟨cs,(1,0),rfl,qxtz ok,hl,by rw[qlxz];exact hn,?_⟩;rw[qxsz];exact qjz q
def qb5z:Sp3:=fun ds G Q=>∃cs:List Clk,ds=[csD cs]/\RndS cs/\Q (.bl (fmO cs).isNone) G
def qlzz:TS3:=sRet (eOp (rIs3 false) (eCall qdkz (aCons (eVar 0) (aNil))) (eC .non))
theorem qxvz:∀ds G Q,qb5z ds G Q->qlzz (endsOf Q) (start3 ["clocks"] ds) G:=by
 rintro ds G Q ⟨cs,rfl,hs,q⟩;refine⟨cs,rfl,hs,?_⟩;have:isNon (oN (fmO cs))=(fmO cs).isNone:=by cases fmO cs<;>rfl
 show (endsOf Q).rt (.bl (isNon (oN (fmO cs)))) G;rw[this];exact qjz q
def missL(cs:List Clk):List Nat:=(List.range (rnd cs)).filter fun x=>cntN cs x==0
def qxwz:Sp3:=fun ds G Q=>∃cs:List Clk,ds=[csD cs]/\RndS cs/\∀p G',New G p (.lst ((missL cs).map nD)) G'->Q (.obj p) G'
def qxxz:TS3:=sRet (eComp ["number","many"] [] (iEnum (aCons (eVar 1) (aNil))) (hTup 2 (hCons (hName 0) (hCons (hName 1) (hNil)))) (eTest (eOp (rEq3 false) (eVar 1) (eC (.int 0)))) (eVar 0))
def qxyz:TS3:=sSeq (sAsg (eCall qb4z (aCons (eVar 0) (aCons (eCall qa9z (aCons (eVar 0) (aNil))) (aNil)))) (hName 1)) qxxz
theorem ql0z(f:Nat->Nat)(n:Nat):enumD (tabD f n)=(List.range n).map fun x=>D.tup [nD x,nD (f x)]:=by
 unfold enumD;rw[qckz,rng0];unfold tabD;have:=qdjz nD (fun x=>nD (f x)) (List.range n) (List.range n);rw[this];have h:∀xs:List Nat,(xs.zip xs).map (fun p=>D.tup [nD p.1,nD (f p.2)])=xs.map fun x=>D.tup [nD x,nD (f x)]:=fun xs=>by
  induction xs with
  |nil=>rfl
  |cons x xs ih=>
   rw[List.zip_cons_cons,List.map_cons,ih];rfl
 exact h _
theorem qfaz(a b:Nat):((a:Int)==(b:Int))=(a==b):=by
 rw[Bool.eq_iff_iff,beq_iff_eq,beq_iff_eq];exact⟨fun h=>by exact_mod_cast h,fun h=>by rw[h]⟩
theorem q5ez:∀ds G Q,qxwz ds G Q->qxyz (endsOf Q) (start3 ["clocks","counts"] ds) G:=by
 rintro ds G Q ⟨cs,rfl,⟨ok,hl,hn⟩,q⟩;refine⟨cs,rfl,ok,by omega,cs,rnd cs,rfl,ok,by omega,hn,fun p G1 n1=>?_⟩;refine⟨_,n1.at_,?_,?_⟩
 ·show (enumD (tabD (cntN cs) (rnd cs))).length≤sizeLine;rw[ql0z,List.length_map,List.length_range];exact Nat.le_trans hn (by decide)
 show compGo _ _ _ _ _ (enumD (tabD (cntN cs) (rnd cs))) _ _ _;rw[ql0z];refine q7z (guard:=fun G=>G p=some (.lst (tabD (cntN cs) (rnd cs)))) (fun τ=>∃x y,τ=[x,y]) (fun x=>D.tup [nD x,nD (cntN cs x)]) (fun x=>cntN cs x==0) nD (G:=G1) n1.at_ (List.range (rnd cs)) [] _ ⟨none,none,rfl⟩ ?_ ?_
 ·rintro x hm τ K1 K2 ⟨y,z,rfl⟩ h1 h2;refine⟨rfl,_,_,rfl,rfl,Nat.zero_le _,fun h=>?_,fun h=>?_⟩
  ·have h':(((cntN cs x:Nat):Int)==((0:Nat):Int))=true:=h;rw[qfaz] at h';exact h1 h' _ ⟨_,_,rfl⟩
  ·have h':(((cntN cs x:Nat):Int)==((0:Nat):Int))=false:=h;rw[qfaz] at h';exact h2 h' _ ⟨_,_,rfl⟩
 ·intro p2 G2 n2;rw[List.nil_append] at n2;exact qjz (q p2 G2 ⟨n1.sub.of_none n2.non,n1.sub.trans n2.sub,n2.at_⟩)
def exB(cs:List Clk):Bool:=(decide (shT cs=1)&&decide (shB cs=1))&&(clashO cs).isNone
def qdlz:Sp3:=fun ds G Q=>∃cs:List Clk,ds=[csD cs]/\ClOk 1000 cs/\cs.length≤12/\Q (.bl (exB cs)) G
def ql1z:TS3:=sRet (eAndV (eOp (rEq3 false) (eCall qdez (aCons (eVar 0) (aNil))) (eTup (aCons (eC (.int 1)) (aCons (eC (.int 1)) (aNil))))) (eOp (rIs3 false) (eCall qdhz (aCons (eVar 0) (aNil))) (eC .non)))
theorem qxzz:∀ds G Q,qdlz ds G Q->ql1z (endsOf Q) (start3 ["clocks"] ds) G:=by
 rintro ds G Q ⟨cs,rfl,ok,hl,q⟩;have e1:(Dat.D.tup [.int (shT cs:Nat),.int (shB cs:Nat)]).eqb (.tup [.int 1,.int 1])=(decide (shT cs=1)&&decide (shB cs=1)):=by
  show ((((shT cs:Nat):Int)==((1:Nat):Int))&&((((shB cs:Nat):Int)==((1:Nat):Int))&&true))=_;rw[qfaz,qfaz,Bool.and_true];rfl
 refine⟨cs,rfl,ok,hl,_,_,rfl,rfl,Nat.le_of_ble_eq_true rfl,fun h=>?_,fun h=>?_⟩
 ·have h':(Dat.D.tup [.int (shT cs:Nat),.int (shB cs:Nat)]).eqb (.tup [.int 1,.int 1])=true:=h;rw[e1] at h';refine⟨cs,rfl,ok,by omega,?_⟩;have:isNon (kD (clashO cs))=(clashO cs).isNone:=by cases clashO cs<;>rfl
  show (endsOf Q).rt (.bl (isNon (kD (clashO cs)))) G;unfold exB at q;rw[h',Bool.true_and] at q;rw[this];exact qjz q
 ·have h':(Dat.D.tup [.int (shT cs:Nat),.int (shB cs:Nat)]).eqb (.tup [.int 1,.int 1])=false:=h;rw[e1] at h';unfold exB at q;rw[h',Bool.false_and] at q;exact qjz q
end My
namespace My
open PySem L2 L3
def placeB(n:Nat):D->Bool
 |.int i=>decide (0≤i)&&decide (i<n)
 |_=>false
def qcnz:Sp3:=fun ds G Q=>∃(cs:List Clk) (d:D),ds=[csD cs,d]/\Known G d/\Q (.bl (placeB cs.length d)) G
def ql2z:TS3:=sRet (eAndV (eCall qchz (aCons (eVar 1) (aNil))) (eChain rLe3 rLtT3 (eC (.int 0)) (eVar 1) (eCB qvz (aCons (eVar 0) (aNil)))))
theorem qx0z:∀ds G Q,qcnz ds G Q->ql2z (endsOf Q) (start3 ["things","thing"] ds) G:=by
 rintro ds G Q ⟨cs,d,rfl,hk,q⟩;refine⟨hk,?_⟩;cases d with
 |int i=>
  refine⟨fun _=>⟨fun h=>?_,fun h=>?_⟩,nofun⟩
  ·have h':decide ((0:Int)≤i)=true:=h;have e:placeB cs.length (.int i)=decide (i<(cs.length:Nat)):=by
    show (decide (0≤i)&&decide (i<(cs.length:Nat)))=_;rw[h',Bool.true_and]
   rw[e] at q;show (endsOf Q).rt (.bl (decide (i<((cs.map cD).length:Nat)))) G;rw[List.length_map];exact qjz q
  ·have h':decide ((0:Int)≤i)=false:=h;have e:placeB cs.length (.int i)=false:=by
    show (decide (0≤i)&&decide (i<(cs.length:Nat)))=_;rw[h',Bool.false_and]
   rw[e] at q;exact qjz q
 |_=>exact⟨nofun,fun _=>qjz q⟩
end My
namespace My
open PySem L2 L3
def Cov(cs:List Clk):Prop:=∀x:Nat,∃z∈cs,rg x z=true
theorem qbfz{cs:List Clk}{z:Clk}(h:z∈cs):z.1.toNat∣rnd cs:=qxfz h
theorem qx1z{z:Clk}(hz:0<z.1){N:Nat}(hd:z.1.toNat∣N)(x t:Int):rg (x+t*N) z=rg x z:=by
 have:z.1∣t*(N:Int):=by
  have h:=Int.natCast_dvd_natCast.mpr hd;rw[Int.toNat_of_nonneg (by omega)] at h;exact Int.dvd_mul_of_dvd_right h
 unfold rg;rw[Int.add_emod,Int.emod_eq_zero_of_dvd this,Int.add_zero,Int.emod_emod]
theorem qdmz{z:Clk}(hz:0<z.1){N:Nat}(hd:z.1.toNat∣N)(x:Nat):rg ((x%N:Nat):Int) z=rg x z:=by
 have e:(x:Int)=((x%N:Nat):Int)+((x / N:Nat):Int)*N:=by
  have:=Nat.mod_add_div x N;rw[Nat.mul_comm] at this;exact_mod_cast this.symm
 rw[e,qx1z hz hd]
theorem cnt_pos{cs:List Clk}{x:Nat}:cntN cs x≠0↔∃z∈cs,rg x z=true:=by
 unfold cntN;rw[Ne,List.length_eq_zero_iff,List.filter_eq_nil_iff];constructor
 ·intro h;refine Classical.byContradiction fun hn=>h fun z hz hr=>hn ⟨z,hz,hr⟩
 ·rintro⟨z,hz,hr⟩ h;exact h z hz hr
theorem qb6z{cs:List Clk}(h:∀z∈cs,0<z.1):0<rnd cs:=by
 have:∀(cs:List Clk) (a:Nat),(∀z∈cs,0<z.1)->0<a->0<rndF cs a:=by
  intro cs
  induction cs with
  |nil=>intro a _ h;exact h
  |cons z zs ih=>
   intro a hz ha;refine ih _ (fun y hy=>hz y (List.mem_cons_of_mem _ hy)) (Nat.lcm_pos ha ?_);have:=hz z List.mem_cons_self;omega
 exact this cs 1 h (by decide)
theorem qx2z{cs:List Clk}(h:∀z∈cs,0<z.1):fmO cs=none↔Cov cs:=by
 unfold fmO;rw[List.find?_eq_none];constructor
 ·intro hn x;have hx:x%rnd cs<rnd cs:=Nat.mod_lt _ (qb6z h);have h1:=hn (x%rnd cs) (List.mem_range.mpr hx);obtain⟨z,hz,hr⟩:=cnt_pos.mp (show cntN cs (x%rnd cs)≠0 by simpa using h1);exact⟨z,hz,by rw[qdmz (h z hz) (qbfz hz)] at hr;exact hr⟩
 ·intro hc x _ hx;have:=cnt_pos.mpr (hc x);rw[beq_iff_eq] at hx;exact this hx
theorem q5fz{c p:Clk}{k:Nat}(h:Valid c)(hp:p∈parts c k):Valid p/\p.1=c.1*(k:Int):=by
 obtain⟨t,ht,rfl⟩:=List.mem_map.mp hp;have ht:=List.mem_range.mp ht;exact⟨qk7z h (by omega) (by omega),rfl⟩
def rest1(cs:List Clk)(i:Nat):List Clk:=cs.take i++cs.drop (i+1)
def qdnz:Sp3:=fun ds G Q=>∃(cs:List Clk) (i:Nat),ds=[csD cs,.int i]/\i<cs.length/\Q .non G
def ql3z:TS3:=sIf (eNot (eTest (eCall qcnz (aCons (eVar 0) (aCons (eVar 1) (aNil)))))) (sNever) (sNext)
theorem qx3z{n i:Nat}(h:i<n):placeB n (.int i)=true:=by
 show (decide ((0:Int)≤(i:Int))&&decide ((i:Int)<(n:Nat)))=true;rw[decide_eq_true (by omega),decide_eq_true (by omega)];rfl
theorem qx4z:∀ds G Q,qdnz ds G Q->ql3z (endsOf Q) (start3 ["things","thing"] ds) G:=by
 rintro ds G Q ⟨cs,i,rfl,hi,q⟩;refine⟨cs,.int i,rfl,trivial,fun h=>?_,fun h=>⟨G,Sub.refl _,q⟩⟩;rw[qx3z hi] at h;cases h
end My
namespace My
open PySem L2 L3
theorem qdoz:∀ns:List Int,toDats0 (ns.map D.int)=some (ns.map Dat.D.int):=by
 intro ns
 induction ns with
 |nil=>rfl
 |cons n ns ih=>
  show toDats0 (D.int n::ns.map D.int)=_;rw[toDats0,ih];rfl
def tX(ns:List Int):Dat.D:=.tup (ns.map Dat.D.int)
theorem qcoz{G:Gp}(ns:List Int):toDat G (tupI ns)=some (tX ns):=by
 show toDat0 (.tup (ns.map D.int))=_;rw[toDat0,qdoz];rfl
theorem qdpz(nss:List (List Int)):toDats0 (nss.map tupI)=some (nss.map tX):=by
 induction nss with
 |nil=>rfl
 |cons ns nss ih=>
  show toDats0 (tupI ns::nss.map tupI)=_;have h:toDat0 (tupI ns)=some (tX ns):=qcoz (G:=fun _=>none) ns;rw[toDats0,h,ih];rfl
theorem qx5z(ms ns:List Int):Dat.eqbs (ms.map Dat.D.int) (ns.map Dat.D.int)=decide (ms=ns):=by
 induction ms generalizing ns with
 |nil=>cases ns<;>rfl
 |cons m ms ih=>
  cases ns with
  |nil=>rfl
  |cons n ns=>
   show ((m==n)&&Dat.eqbs (ms.map Dat.D.int) (ns.map Dat.D.int))=_;rw[ih,Bool.eq_iff_iff];simp
theorem qfbz(ms ns:List Int):(tX ms).eqb (tX ns)=decide (ms=ns):=qx5z ms ns
theorem qboz(ns:List Int):Dat.deps (ns.map Dat.D.int)=0:=by
 induction ns with
 |nil=>rfl
 |cons n ns ih=>
  show max 0 (Dat.deps (ns.map Dat.D.int))=0;omega
theorem ql4z(nss:List (List Int)):Dat.deps (nss.map tX)≤1:=by
 induction nss with
 |nil=>exact Nat.zero_le _
 |cons ns nss ih=>
  show max (Dat.deps (ns.map Dat.D.int)+1) (Dat.deps (nss.map tX))≤1;rw[qboz];omega
theorem qx6z(nss:List (List Int))(ns:List Int):(nss.map tX).any (fun v=>v.eqb (tX ns))=decide (ns∈nss):=by
 rw[List.any_map,Bool.eq_iff_iff,List.any_eq_true,decide_eq_true_iff];constructor
 ·rintro⟨x,hx,h⟩;have h':(tX x).eqb (tX ns)=true:=h;rw[qfbz,decide_eq_true_iff] at h';rw[←h'];exact hx
 ·intro h;exact⟨ns,h,by show (tX ns).eqb (tX ns)=true;rw[qfbz,decide_eq_true rfl]⟩
theorem qfcz(ns:List Int)(n:Int):(ns.map Dat.D.int).any (fun v=>v.eqb (.int n))=decide (n∈ns):=by
 rw[List.any_map,Bool.eq_iff_iff,List.any_eq_true,decide_eq_true_iff];constructor
 ·rintro⟨x,hx,h⟩;have h':(x==n)=true:=h;rw[←eq_of_beq h'];exact hx
 ·intro h;exact⟨n,h,by show (n==n)=true;exact beq_self_eq_true n⟩
def qdqz:Sp3:=fun ds G Q=>∃(cs:List Clk) (ps:List Int),ds=[csD cs,tupI ps]/\(∀x∈ps,0≤x/\x<(cs.length:Nat))/\ps.Pairwise (· < ·)/\ps.length≤1000/\Q (.bl true) G
def qx7z:TS3:=sRet (eCB qbwz (aCons (eComp ["ahead","place"] [] (iZip (aCons (eVar 1) (aCons (eSl (eVar 1) (oSome (eC (.int 1))) (oNone)) (aNil)))) (hTup 2 (hCons (hName 0) (hCons (hName 1) (hNil)))) (tNoTest3) (eOp rLtT3 (eVar 0) (eVar 1))) (aNil)))
def ql5z:TS3:=sSeq (sIf (eOr (eNot (eTest (eInst "tuple" (eVar 1)))) (eNot (eTest (eCB qbwz (aCons (eComp ["place"] [0] (iSeq (eVar 1)) (hName 0) (tNoTest3) (eCall qcnz (aCons (eVar 1) (aCons (eVar 0) (aNil))))) (aNil)))))) (sRet (eC (.bl false))) (sNext)) qx7z
theorem qx8z{ps:List Int}(h:ps.Pairwise (· < ·)):((ps.zip (ps.drop 1)).all fun p=>decide (p.1<p.2))=true:=by
 rw[List.all_eq_true];intro p hp;obtain⟨i,hi,e⟩:=List.getElem_of_mem hp;rw[List.length_zip,List.length_drop] at hi;rw[List.getElem_zip,List.getElem_drop] at e;rw[←e];exact decide_eq_true (List.pairwise_iff_getElem.mp h i (1+i) (by omega) (by omega) (by omega))
theorem qx9z:∀ds G Q,qdqz ds G Q->ql5z (endsOf Q) (start3 ["things","thing"] ds) G:=by
 rintro ds G Q ⟨cs,ps,rfl,hb,hr,hl,q⟩;refine⟨nofun,fun _=>⟨?_,?_⟩⟩
 ·show (ps.map D.int).length≤sizeLine;rw[List.length_map];exact line1000 hl
 refine q7z (fun τ=>∃x,τ=[x,some (csD cs)]) D.int (fun _=>true) (fun x=>D.bl (placeB cs.length (.int x))) (G:=G) trivial ps [] _ ⟨none,rfl⟩ ?_ ?_
 ·rintro x hx τ K1 K2 ⟨y,rfl⟩ h1 h2;exact⟨fun _=>⟨cs,.int x,rfl,trivial,h1 rfl _ ⟨_,rfl⟩⟩,nofun⟩
 intro p1 G1 n1;rw[filter_all,List.nil_append] at n1;refine⟨_,_,n1.at_,qdiz _ _,?_⟩;rw[all_map];have ha:(ps.all fun x=>placeB cs.length (.int x))=true:=List.all_eq_true.mpr fun x hx=>by
  show (decide (0≤x)&&decide (x<(cs.length:Nat)))=true;rw[decide_eq_true (hb x hx).1,decide_eq_true (hb x hx).2];rfl
 rw[ha];refine⟨nofun,fun _=>?_⟩;have hcut:cut3 (ps.map D.int) (some 1) none=(ps.drop 1).map D.int:=by
  rw[qa8z,show (some (1:Int))=some ((1:Nat):Int) from rfl,qgrz]
 refine⟨_,_,rfl,rfl,?_⟩;rw[hcut];rw[qdjz D.int D.int];refine⟨?_,?_⟩
 ·show ((ps.zip (ps.drop 1)).map _).length≤sizeLine;rw[List.length_map,List.length_zip];exact line1000 (by omega)
 refine q7z (fun τ=>∃x y,τ=[x,y]) (fun p:Int×Int=>D.tup [D.int p.1,D.int p.2]) (fun _=>true) (fun p=>.bl (decide (p.1<p.2))) (G:=G1) ⟨rfl,rfl⟩ (ps.zip (ps.drop 1)) [] _ ⟨none,none,rfl⟩ ?_ ?_
 ·rintro⟨a,b⟩ hm τ K1 K2 ⟨x,y,rfl⟩ h1 h2;exact⟨rfl,fun _=>h1 rfl _ ⟨_,_,rfl⟩,nofun⟩
 ·intro p2 G2 n2;rw[filter_all,List.nil_append] at n2;refine⟨_,_,n2.at_,qdiz _ _,?_⟩;rw[all_map,qx8z hr];exact qa7z (n1.sub.trans n2.sub) q
end My
namespace L3
open PySem PySem.Spec PyProof.Rows L2
section
variable {X:Cx} {K:PySem.W.Frag}
abbrev rAnd3:R3:=rIC3 (fun _ _=>True) fun i j=>.int (Builtin.bitAnd i j)
theorem qg0z:LowR K rAnd3 (rI (fun _ _=>True) fun i j=>.int (Builtin.bitAnd i j)):=qehz fun _ _ _=>q9z
theorem qg1z:OpR X (binaryOp .BitAnd) (rI (fun _ _=>True) fun i j=>.int (Builtin.bitAnd i j)):=opI fun _ _ _ _ _ _ _ _ q=>and_int q
end
end L3
namespace My
open PySem L2 L3
theorem qfdz{as bs:List Int}(ha:as.Pairwise (· < ·))(hb:bs.Pairwise (· < ·))(h:∀z,z∈as↔z∈bs):as=bs:=by
 induction as generalizing bs with
 |nil=>cases bs with
  |nil=>rfl
  |cons b bs=>exact absurd ((h b).mpr List.mem_cons_self) (by simp)
 |cons a as ih=>cases bs with
  |nil=>exact absurd ((h a).mp List.mem_cons_self) (by simp)
  |cons b bs=>
   have ha':=List.pairwise_cons.mp ha;have hb':=List.pairwise_cons.mp hb;have e:a=b:=by
    rcases List.mem_cons.mp ((h a).mp List.mem_cons_self) with e|e
    ·exact e
    ·rcases List.mem_cons.mp ((h b).mpr List.mem_cons_self) with e2|e2
     ·exact e2.symm
     ·have h1:=hb'.1 a e;have h2:=ha'.1 b e2;omega
   subst e;rw[ih ha'.2 hb'.2 fun z=>?_];constructor
   ·intro hz;rcases List.mem_cons.mp ((h z).mp (List.mem_cons_of_mem _ hz)) with e|e
    ·have:=ha'.1 z hz;omega
    ·exact e
   ·intro hz;rcases List.mem_cons.mp ((h z).mpr (List.mem_cons_of_mem _ hz)) with e|e
    ·have:=hb'.1 z hz;omega
    ·exact e
theorem qyaz(n:Nat):∀p:Nat->Bool,∃m,m<2^n/\∀i,i<n->m.testBit i=p i:=by
 induction n with
 |zero=>exact fun p=>⟨0,by decide,fun i hi=>absurd hi (by omega)⟩
 |succ n ih=>
  intro p;obtain⟨m,h1,h2⟩:=ih fun i=>p (i+1);have hb:(p 0).toNat≤1:=by cases p 0<;>decide
  refine⟨m*2+(p 0).toNat,by rw[Nat.pow_succ];omega,fun i hi=>?_⟩;cases i with
  |zero=>
   rw[Nat.testBit_zero,show (m*2+(p 0).toNat)%2=(p 0).toNat by omega];cases p 0<;>rfl
  |succ i=>
   rw[Nat.testBit_succ,show (m*2+(p 0).toNat) / 2=m by omega];exact h2 i (by omega)
end My
namespace My
open PySem L2 L3
theorem ql6z{α:Type}{p:α->Bool}:∀{l:List α},2≤(l.filter p).length->∃(i j:Nat) (a b:α),i<j/\l[i]?=some a/\l[j]?=some b/\p a=true/\p b=true
 |[],h=>absurd h (by simp)
 |x::l,h=>by
  by_cases hx:p x=true
  ·rw[List.filter_cons_of_pos hx,List.length_cons] at h;have:l.filter p≠[]:=fun z=>by
    rw[z] at h;exact absurd h (by simp)
   obtain⟨y,hy⟩:=List.exists_mem_of_ne_nil _ this;obtain⟨h1,h2⟩:=List.mem_filter.mp hy;obtain⟨j,hj,e⟩:=List.getElem_of_mem h1;exact⟨0,j+1,x,y,by omega,rfl,by rw[List.getElem?_cons_succ,List.getElem?_eq_getElem hj,e],hx,h2⟩
  ·rw[List.filter_cons_of_neg hx] at h;obtain⟨i,j,a,b,h1,h2,h3,h4,h5⟩:=ql6z h;exact⟨i+1,j+1,a,b,by omega,h2,h3,h4,h5⟩
theorem qybz{a b:Clk}(ha:Valid a)(hb:Valid b){x:Nat}(h1:rg x a=true)(h2:rg x b=true):meetO a b≠none:=by
 have hL:0<Nat.lcm a.1.toNat b.1.toNat:=Nat.lcm_pos (by have:=ha.1;omega) (by have:=hb.1;omega);have e1:=qdmz ha.1 (Nat.dvd_lcm_left a.1.toNat b.1.toNat) x;have e2:=qdmz hb.1 (Nat.dvd_lcm_right a.1.toNat b.1.toNat) x;rw[h1,←qbnz ha,rg2_iff] at e1;rw[h2,←qbnz hb,rg2_iff] at e2;have M:Meets a b ((x%Nat.lcm a.1.toNat b.1.toNat:Nat):Int):=⟨by omega,by
  have:=Nat.mod_lt x hL;exact_mod_cast this,e1,e2⟩
 rw[qllz ha hb M];simp
theorem qycz{cs:List Clk}(hv:∀c∈cs,Valid c)(h:clashO cs=none)(x:Nat):cntN cs x≤1:=by
 refine Classical.byContradiction fun hn=>?_;obtain⟨i,j,a,b,hij,ha,hb,ra,rb⟩:=ql6z (l:=cs) (p:=rg x) (show 2≤(cs.filter (rg x)).length by unfold cntN at hn;omega);have hi:i<cs.length:=(List.getElem?_eq_some_iff.mp ha).1;have hj:j<cs.length:=(List.getElem?_eq_some_iff.mp hb).1;unfold clashO at h;rw[List.findSome?_eq_none_iff] at h;have h1:=h i (List.mem_range.mpr hi);unfold rowO at h1;rw[List.findSome?_eq_none_iff] at h1;have h2:=h1 (j-(i+1)) (List.mem_range.mpr (by omega));rw[show i+1+(j-(i+1))=j by omega] at h2;unfold pairO at h2;rw[ha,hb] at h2;have h2:(meetO a b).map (fun m=>(i,j,m.2))=none:=h2;rw[Option.map_eq_none_iff] at h2;exact qybz (hv a (List.mem_of_getElem? ha)) (hv b (List.mem_of_getElem? hb)) ra rb h2
theorem qydz{c:Clk}(h:Valid c){N:Nat}(hd:c.1.toNat∣N)(h0:0<N):(nums c N).length=N / c.1.toNat:=by
 obtain⟨h1,h2,h3⟩:=h;obtain⟨s,hs⟩:∃s:Nat,c.1=(s:Int):=⟨c.1.toNat,by omega⟩;obtain⟨r,hr⟩:∃r:Nat,c.2=(r:Int):=⟨c.2.toNat,by omega⟩;unfold nums;rw[List.length_map,List.length_range];rw[hs,Int.toNat_natCast] at hd ⊢;have s0:0<s:=by omega
 have hle:s≤N:=Nat.le_of_dvd h0 hd;unfold cntR;rw[hr,if_pos (by omega)];obtain⟨q,rfl⟩:=hd;rw[Nat.mul_div_cancel_left q s0];have hq:1≤q:=by
  cases q with
  |zero=>simp at h0
  |succ q=>omega
 have e:(((s*q:Nat):Int)-(r:Int)-1) / (s:Int)=(q:Int)-1:=by
  have:((s*q:Nat):Int)-(r:Int)-1=((s:Int)-r-1)+(s:Int)*((q:Int)-1):=by
   rw[Int.natCast_mul,Int.mul_sub,Int.mul_one];omega
  rw[this,Int.add_mul_ediv_left _ _ (by omega),Int.ediv_eq_zero_of_lt (by omega) (by omega)];omega
 rw[e];omega
theorem qyez{c:Clk}(h:Valid c){N:Nat}(hd:c.1.toNat∣N)(h0:0<N):((List.range N).filter fun x:Nat=>rg x c).length=N / c.1.toNat:=by
 rw[←qydz h hd h0];refine List.Perm.length_eq ((List.perm_ext_iff_of_nodup (List.nodup_range.filter _) (qgyz h N)).mpr fun x=>?_);rw[qbez h,List.mem_filter,List.mem_range]
theorem ql7z{p:Nat->Bool}:∀xs:List Nat,(xs.map fun x=>if p x=true then 1 else 0).sum=(xs.filter p).length
 |[]=>rfl
 |x::xs=>by
  rw[List.map_cons,List.sum_cons,ql7z xs,List.filter_cons];split
  ·rw[List.length_cons];omega
  ·omega
theorem ql8z{f g:Nat->Nat}:∀xs:List Nat,(xs.map fun x=>f x+g x).sum=(xs.map f).sum+(xs.map g).sum
 |[]=>rfl
 |x::xs=>by
  rw[List.map_cons,List.sum_cons,ql8z xs,List.map_cons,List.sum_cons,List.map_cons,List.sum_cons];omega
theorem ql9z{N:Nat}(h0:0<N):∀{cs:List Clk},(∀c∈cs,Valid c/\c.1.toNat∣N)->((List.range N).map (cntN cs)).sum=topN cs N
 |[],_=>by
  have:∀xs:List Nat,(xs.map (cntN [])).sum=0:=fun xs=>by
   induction xs with
   |nil=>rfl
   |cons x xs ih=>rw[List.map_cons,List.sum_cons,ih];rfl
  rw[this];rfl
 |c::cs,h=>by
  have hc:=h c List.mem_cons_self;have e:(List.range N).map (cntN (c::cs))=(List.range N).map fun x:Nat=>(if rg x c=true then 1 else 0)+cntN cs x:=List.map_congr_left fun x _=>qluz c cs x;rw[e,ql8z,ql7z (p:=fun x:Nat=>rg x c),qyez hc.1 hc.2 h0,ql9z h0 fun d hd=>h d (List.mem_cons_of_mem _ hd)];unfold topN;rw[List.map_cons,List.sum_cons]
theorem qmaz:∀{l:List Nat},(∀v∈l,v≤1)->l.length≤l.sum->∀v∈l,v=1
 |[],_,_,v,hv=>nomatch hv
 |x::l,h,hs,v,hv=>by
  have hx:=h x List.mem_cons_self;rw[List.length_cons,List.sum_cons] at hs;have hle:l.sum≤l.length:=by
   have:∀l:List Nat,(∀v∈l,v≤1)->l.sum≤l.length:=fun l=>by
    induction l with
    |nil=>intro _;exact Nat.le_refl _
    |cons y l ih=>
     intro hy;have h1:=hy y List.mem_cons_self;have h2:=ih fun v hv=>hy v (List.mem_cons_of_mem _ hv);rw[List.sum_cons,List.length_cons];omega
   exact this l fun v hv=>h v (List.mem_cons_of_mem _ hv)
  rcases List.mem_cons.mp hv with rfl|hv
  ·omega
  ·exact qmaz (fun v hv=>h v (List.mem_cons_of_mem _ hv)) (by omega) v hv
theorem qyfz{cs:List Clk}(h0:0<rnd cs)(h1:shT cs=1)(h2:shB cs=1):topN cs (rnd cs)=rnd cs:=by
 unfold shT at h1;unfold shB at h2;have g1:=Nat.gcd_dvd_left (topN cs (rnd cs)) (rnd cs);have g2:=Nat.gcd_dvd_right (topN cs (rnd cs)) (rnd cs);have e1:=Nat.div_mul_cancel g1;have e2:=Nat.div_mul_cancel g2;rw[h1,Nat.one_mul] at e1;rw[h2,Nat.one_mul] at e2;omega
theorem qygz{cs:List Clk}(ok:ClOk 1000 cs)(h:exB cs=true):∀x,x<rnd cs->cntN cs x=1:=by
 unfold exB at h;rw[Bool.and_eq_true,Bool.and_eq_true,decide_eq_true_iff,decide_eq_true_iff] at h;obtain⟨⟨h1,h2⟩,h3⟩:=h;have hpos:=qb6z fun z hz=>(ok z hz).1.1;have hcl:clashO cs=none:=by
  cases e:clashO cs with
  |none=>rfl
  |some v=>rw[e] at h3;cases h3
 have hs:=ql9z hpos (cs:=cs) fun c hc=>⟨(ok c hc).1,qbfz hc⟩;rw[qyfz hpos h1 h2] at hs;intro x hx;refine qmaz (l:=(List.range (rnd cs)).map (cntN cs)) (fun v hv=>?_) ?_ _ (List.mem_map.mpr ⟨x,List.mem_range.mpr hx,rfl⟩)
 ·obtain⟨y,_,rfl⟩:=List.mem_map.mp hv;exact qycz (fun c hc=>(ok c hc).1) hcl y
 ·rw[hs,List.length_map,List.length_range];exact Nat.le_refl _
theorem qmbz{cs:List Clk}{i:Nat}{c:Clk}(hi:cs[i]?=some c)(z:Clk):z∈cs↔z∈rest1 cs i∨z=c:=by
 have hl:i<cs.length:=(List.getElem?_eq_some_iff.mp hi).1;have e:cs[i]=c:=(List.getElem?_eq_some_iff.mp hi).2;have hd:cs=cs.take i++c::cs.drop (i+1):=by
  rw[←e,←List.drop_eq_getElem_cons hl,List.take_append_drop]
 unfold rest1;rw[List.mem_append];constructor
 ·intro h;rw[hd,List.mem_append,List.mem_cons] at h;rcases h with h|h|h
  ·exact .inl (.inl h)
  ·exact .inr h
  ·exact .inl (.inr h)
 ·rintro ((h|h)|rfl)
  ·exact List.mem_of_mem_take h
  ·exact List.mem_of_mem_drop h
  ·exact List.mem_of_getElem? hi
end My
namespace L3
open PySem PySem.Spec PyProof.Rows L2
theorem len1{us:List Value}(h:us.length=1):∃a,us=[a]:=List.length_eq_one_iff.mp h
theorem len2{us:List Value}(h:us.length=2):∃a b,us=[a,b]:=by
 rcases us with _|⟨a,us⟩
 ·cases h
 ·obtain⟨b,rfl⟩:=len1 (us:=us) (Nat.succ.inj h);exact⟨a,b,rfl⟩
theorem len3{us:List Value}(h:us.length=3):∃a b c,us=[a,b,c]:=by
 rcases us with _|⟨a,us⟩
 ·cases h
 ·obtain⟨b,c,rfl⟩:=len2 (us:=us) (Nat.succ.inj h);exact⟨a,b,c,rfl⟩
end L3
namespace My
open PySem L2 L3
theorem qyhz{a b:Clk}(h:cLt a b)(h2:cLt b a):False:=by
 rcases h with h|⟨h,h'⟩<;>rcases h2 with g|⟨g,g'⟩<;>omega
end My
namespace My
open PySem L2 L3
def strc(C c:Clk):Clk:=(C.1*c.1,C.2+C.1*c.2)
theorem qyiz{C c:Clk}(hC:0<C.1)(n:Int):rg2 (C.2+C.1*n) (strc C c)=rg2 n c:=by
 rw[Bool.eq_iff_iff,rg2_iff,rg2_iff];show C.1*c.1∣C.2+C.1*n-(C.2+C.1*c.2)↔_;rw[show C.2+C.1*n-(C.2+C.1*c.2)=C.1*(n-c.2) by rw[Int.mul_sub];omega];exact Int.mul_dvd_mul_iff_left (by omega)
theorem qyjz{cs:List Clk}(h:Rise cs):cs.Nodup:=h.imp fun {a b} q e=>by
 subst e;exact qyhz q q
end My
namespace My
open PySem L2 L3
theorem near{t:Int}{a b:Int}(h:t∣a-b)(h1:a-b<t)(h2:b-a<t):a=b:=by
 have:(a-b).natAbs=0:=Nat.eq_zero_of_dvd_of_lt (Int.natAbs_dvd_natAbs.mpr h) (by omega);omega
end My
namespace My
open PySem L2 L3
def CovZ(cs:List Clk):Prop:=∀n:Int,cs.any (rg2 n)=true
theorem qmcz{c:Clk}{N:Nat}(hd:c.1.toNat∣N)(hc:0<c.1)(n t:Int):rg2 (n+(N:Int)*t) c=rg2 n c:=by
 have d:c.1∣(N:Int)*t:=by
  have:=Int.natCast_dvd_natCast.mpr hd;rw[Int.toNat_of_nonneg (by omega)] at this;exact Int.dvd_trans this (Int.dvd_mul_right _ _)
 rw[Bool.eq_iff_iff,rg2_iff,rg2_iff,show n+(N:Int)*t-c.2=(n-c.2)+(N:Int)*t by omega];exact⟨fun h=>by
  have:=Int.dvd_sub h d;rwa [Int.add_sub_cancel] at this,fun h=>Int.dvd_add h d⟩
theorem covz{cs:List Clk}(hv:∀c∈cs,Valid c):(fmO cs).isNone=true↔CovZ cs:=by
 have hp:∀c∈cs,0<c.1:=fun c h=>(hv c h).1;rw[Option.isNone_iff_eq_none,qx2z hp];constructor
 ·intro h n;have hN:=qb6z hp;have hx:((n%(rnd cs:Nat)).toNat:Int)=n%(rnd cs:Nat):=Int.toNat_of_nonneg (Int.emod_nonneg _ (by omega));obtain⟨z,hz,hr⟩:=h (n%(rnd cs:Nat)).toNat;refine List.any_eq_true.mpr ⟨z,hz,?_⟩;rw[←qbnz (hv z hz),hx] at hr;have e:=Int.mul_ediv_add_emod n (rnd cs:Nat);rw[show n=n%(rnd cs:Nat)+(rnd cs:Nat)*(n / (rnd cs:Nat)) by omega,qmcz (qbfz hz) (hp z hz)];exact hr
 ·intro h x;obtain⟨z,hz,hr⟩:=List.any_eq_true.mp (h (x:Int));exact⟨z,hz,by rw[←qbnz (hv z hz)];exact hr⟩
def Once(cs:List Clk):Prop:=∀n:Int,(cs.filter (rg2 n)).length=1
theorem qykz{c:Clk}:rg2 c.2 c=true:=by
 rw[rg2_iff,Int.sub_self];exact Int.dvd_zero _
theorem Once.nodup{cs:List Clk}(h:Once cs):cs.Nodup:=by
 rw[List.nodup_iff_count];intro c;have h1:=h c.2;have:cs.count c≤(cs.filter (rg2 c.2)).length:=by
  rw[←List.countP_eq_length_filter];unfold List.count;refine List.countP_mono_left fun x _ hx=>?_;rw[eq_of_beq hx];exact qykz
 omega
theorem qylz{c:Clk}{os:List Clk}(hc:0<c.1)(h:Once os)(n:Int):((os.map (strc c)).filter (rg2 n)).length=if rg2 n c=true then 1 else 0:=by
 by_cases q:rg2 n c=true
 ·rw[if_pos q];obtain⟨m,hm⟩:=rg2_iff.mp q;rw[List.filter_map,List.length_map,←h m];refine congrArg List.length (List.filter_congr fun y _=>?_);show rg2 n (strc c y)=rg2 m y;rw[show n=c.2+c.1*m by omega];exact qyiz hc m
 ·rw[if_neg q,List.length_eq_zero_iff,List.filter_eq_nil_iff];intro z hz e;obtain⟨y,_,rfl⟩:=List.mem_map.mp hz;refine q (rg2_iff.mpr ?_);have d:=rg2_iff.mp e;have d1:c.1∣n-(c.2+c.1*y.2):=Int.dvd_trans (Int.dvd_mul_right c.1 y.1) d;have:=Int.dvd_add d1 (Int.dvd_mul_right c.1 y.2);rwa [show n-(c.2+c.1*y.2)+c.1*y.2=n-c.2 by omega] at this
theorem qmdz{cs:List Clk}{i:Nat}{c:Clk}(hi:cs[i]?=some c):cs=cs.take i++c::cs.drop (i+1):=by
 obtain⟨hl,e⟩:=List.getElem?_eq_some_iff.mp hi;rw[←e,List.getElem_cons_drop,List.take_append_drop]
theorem qymz{cs os:List Clk}{i:Nat}{c:Clk}(hc:0<c.1)(hi:cs[i]?=some c)(ho:Once os)(n:Int):((rest1 cs i++os.map (strc c)).filter (rg2 n)).length=(cs.filter (rg2 n)).length:=by
 have e:(cs.filter (rg2 n)).length=((cs.take i).filter (rg2 n)).length+((if rg2 n c=true then 1 else 0)+((cs.drop (i+1)).filter (rg2 n)).length):=by
  conv=>lhs;rw[qmdz hi]
  rw[List.filter_append,List.length_append];by_cases q:rg2 n c=true
  ·rw[List.filter_cons_of_pos q,List.length_cons,if_pos q];omega
  ·rw[List.filter_cons_of_neg q,if_neg q];omega
 rw[e,List.filter_append,List.length_append,qylz hc ho];unfold rest1;rw[List.filter_append,List.length_append];omega
theorem qynz{cs:List Clk}(ok:ClOk 1000 cs)(h:exB cs=true):Once cs:=fun n=>by
 have hv:∀c∈cs,Valid c:=fun c hc=>(ok c hc).1;have hN:=qb6z fun z hz=>(hv z hz).1;have hx:((n%(rnd cs:Nat)).toNat:Int)=n%(rnd cs:Nat):=Int.toNat_of_nonneg (Int.emod_nonneg _ (by omega));have hlt:(n%(rnd cs:Nat)).toNat<rnd cs:=by
  have:=Int.emod_lt_of_pos n (show (0:Int)<(rnd cs:Nat) by omega);omega
 have h1:=qygz ok h _ hlt;unfold cntN at h1;rw[hx] at h1;rw[←h1];refine congrArg List.length (List.filter_congr fun c hc=>?_);rw[←qbnz (hv c hc)];have e:=Int.mul_ediv_add_emod n (rnd cs:Nat);conv=>lhs;rw[show n=n%(rnd cs:Nat)+(rnd cs:Nat)*(n / (rnd cs:Nat)) by omega]
 exact qmcz (qbfz hc) (hv c hc).1 _ _
theorem qmez{α:Type}{p:α->Bool}{l:List α}{i j:Nat}{a b:α}(hij:i<j)(ha:l[i]?=some a)(hb:l[j]?=some b)(pa:p a=true)(pb:p b=true):2≤(l.filter p).length:=by
 rw[←List.take_append_drop j l,List.filter_append,List.length_append];have h1:0<((l.take j).filter p).length:=List.length_pos_of_mem (List.mem_filter.mpr ⟨List.mem_of_getElem? (i:=i) (by rw[List.getElem?_take,if_pos hij];exact ha),pa⟩);have h2:0<((l.drop j).filter p).length:=List.length_pos_of_mem (List.mem_filter.mpr ⟨List.mem_of_getElem? (i:=0) (by rw[List.getElem?_drop];exact hb),pb⟩);omega
end My
namespace My
open PySem L2 L3
def P59(cs:List Clk):Prop:=ClSm cs/\Once cs/\∀c∈cs,c.1≤((2^(cs.length-1):Nat):Int)
theorem start59:P59 [(1,0)]:=by
 refine⟨fun c hc=>?_,fun n=>?_,fun c hc=>?_⟩
 ·rw[List.mem_singleton.mp hc];exact⟨⟨by decide,by decide,by decide⟩,by decide,by decide⟩
 ·have:rg2 n (1,0)=true:=rg2_iff.mpr (Int.one_dvd _);rw[List.filter_cons_of_pos this];rfl
 ·rw[List.mem_singleton.mp hc];decide
theorem qyoz{k:Nat}(hk:0<k):Once ((List.range k).map fun i:Nat=>((k:Int),(i:Int))):=fun n=>by
 rw[List.filter_map,List.length_map];have h0:0≤n%(k:Int):=Int.emod_nonneg _ (by omega);have h1:n%(k:Int)<k:=Int.emod_lt_of_pos _ (by omega);have hp:((List.range k).filter (rg2 n ∘ fun i:Nat=>((k:Int),(i:Int)))).Perm [(n%(k:Int)).toNat]:=(List.perm_ext_iff_of_nodup (List.nodup_range.filter _) (by simp)).mpr fun i=>by
  rw[List.mem_filter,List.mem_range,List.mem_singleton];show (i<k/\rg2 n ((k:Int),(i:Int))=true)↔_;rw[rg2_iff];show (i<k/\(k:Int)∣n-(i:Int))↔_;have e:=Int.mul_ediv_add_emod n (k:Int);constructor
  ·rintro⟨h2,h3⟩;have d:(k:Int)∣n%(k:Int)-(i:Int):=by
    have:=Int.dvd_sub h3 (Int.dvd_mul_right (k:Int) (n / (k:Int)));rwa [show n-(i:Int)-(k:Int)*(n / (k:Int))=n%(k:Int)-(i:Int) by omega] at this
   have:=near d (by omega) (by omega);omega
  ·intro h2;refine⟨by omega,⟨n / (k:Int),?_⟩⟩;omega
 rw[hp.length_eq];rfl
theorem split59{cs:List Clk}{j k:Nat}{s r:Int}(hv:Valid (s,r))(ok:P59 cs)(hj:cs[((j:Nat):Int).toNat]?=some (s,r))(hk:(k:Int)=2∨(k:Int)=3)(h6:s*(k:Int)<25):
  P59 (cs.take j++((List.range ((k:Nat):Int).toNat).map fun i:Nat=>(s*(k:Int),r+s*(0+(i:Int))))++cs.drop (j+1)):=by
 rw[Int.toNat_natCast] at hj ⊢;have hs:0<s:=hv.1;have hjl:j<cs.length:=(List.getElem?_eq_some_iff.mp hj).1;have hm:=List.mem_of_getElem? hj;have em:((List.range k).map fun i:Nat=>(s*(k:Int),r+s*(0+(i:Int))))=((List.range k).map fun i:Nat=>((k:Int),(i:Int))).map (strc (s,r)):=by
  rw[List.map_map];refine List.map_congr_left fun i _=>?_;show (s*(k:Int),r+s*(0+(i:Int)))=(s*(k:Int),r+s*(i:Int));rw[Int.zero_add]
 have hlen:(cs.take j++((List.range k).map fun i:Nat=>(s*(k:Int),r+s*(0+(i:Int))))++cs.drop (j+1)).length=cs.length-1+k:=by
  rw[List.length_append,List.length_append,List.length_take,List.length_drop,List.length_map,List.length_range];omega
 have cases3:∀c∈cs.take j++((List.range k).map fun i:Nat=>(s*(k:Int),r+s*(0+(i:Int))))++cs.drop (j+1),c∈cs∨∃i:Nat,i<k/\c=(s*(k:Int),r+s*(0+(i:Int))):=fun c hc=>by
  rcases List.mem_append.mp hc with hc|hc
  ·rcases List.mem_append.mp hc with hc|hc
   ·exact .inl (List.mem_of_mem_take hc)
   ·obtain⟨i,hi,rfl⟩:=List.mem_map.mp hc;exact .inr ⟨i,List.mem_range.mp hi,rfl⟩
  ·exact .inl (List.mem_of_mem_drop hc)
 refine⟨fun c hc=>?_,fun n=>?_,fun c hc=>?_⟩
 ·rcases cases3 c hc with h|⟨i,hi,rfl⟩
  ·exact ok.1 c h
  ·exact⟨qk7z hv (by omega) (by omega),by show s*(k:Int)≤24;omega,more720 hs (ok.1 _ hm).2.2 hk h6⟩
 ·have e:=qymz hs hj (qyoz (k:=k) (by omega)) n;rw[ok.2.1 n] at e;unfold rest1 at e;rw[em,List.filter_append,List.filter_append,List.length_append,List.length_append];rw[List.filter_append,List.filter_append,List.length_append,List.length_append] at e;omega
 ·rw[hlen];have hp:∀a b:Nat,a≤b->((2^a:Nat):Int)≤((2^b:Nat):Int):=fun a b h=>Int.ofNat_le.mpr (Nat.pow_le_pow_right (by decide) h);rcases cases3 c hc with h|⟨i,hi,rfl⟩
  ·exact Int.le_trans (ok.2.2 c h) (hp _ _ (by omega))
  ·have h1:s≤((2^(cs.length-1):Nat):Int):=ok.2.2 _ hm;show s*(k:Int)≤_;have h2:s*(k:Int)≤((2^(cs.length-1):Nat):Int)*(k:Int):=Int.mul_le_mul_of_nonneg_right h1 (by omega);have h3:(k:Int)≤((2^(k-1):Nat):Int):=by
    rcases hk with h|h
    ·rw[show k=2 by omega];decide
    ·rw[show k=3 by omega];decide
   have h4:((2^(cs.length-1):Nat):Int)*(k:Int)≤((2^(cs.length-1):Nat):Int)*((2^(k-1):Nat):Int):=Int.mul_le_mul_of_nonneg_left h3 (Int.natCast_nonneg _);rw[←Int.natCast_mul (2^(cs.length-1)) (2^(k-1)),←Nat.pow_add] at h4;exact Int.le_trans h2 (Int.le_trans h4 (hp _ _ (by omega)))
def qb7z:Sp3:=fun ds G Q=>∃(p:Addr) (t:Int),ds=[.obj p,.int t]/\G p=some .pen/\(0≤t/\t≤1000)/\∀q cs G',P59 cs->1≤cs.length->cs.length≤12->New G q (.lst (cs.map cD)) G'->Q (.obj q) G'
def qypz:TS3:=sIf (eAnd (eTest (eOp rLtT3 (eOp rAdd3 (eCB qvz (aCons (eVar 2) (aNil))) (eVar 5)) (eC (.int 13)))) (eTest (eOp rLtT3 (eOp rMul3 (eVar 6) (eVar 5)) (eC (.int 25))))) (sAsg (eOp rAdd3 (eOp rAdd3 (eSl (eVar 2) (oNone) (oSome (eVar 4))) (eComp ["part"] [6,5,7] (iRng1 (aCons (eVar 5) (aNil))) (hName 0) (tNoTest3) (eTup (aCons (eOp rMul3 (eVar 1) (eVar 2)) (aCons (eOp rAdd3 (eVar 3) (eOp rMul3 (eVar 1) (eVar 0))) (aNil)))))) (eSl (eVar 2) (oSome (eOp rAdd3 (eVar 4) (eC (.int 1)))) (oNone))) (hName 2)) (sNext)
def qyqz:TS3:=sSeq (sAsg (eOp rIx3 (eVar 2) (eVar 4)) (hTup 2 (hCons (hName 6) (hCons (hName 7) (hNil))))) qypz
def qyrz:TS3:=sSeq (sAsg (eLstIx (aCons (eC (.int 2)) (aCons (eC (.int 2)) (aCons (eC (.int 3)) (aNil)))) (eCall qapz (aCons (eVar 0) (aCons (eC (.int 3)) (aNil))))) (hName 5)) qyqz
def qysz:TS3:=sSeq (sAsg (eCall qapz (aCons (eVar 0) (aCons (eCB qvz (aCons (eVar 2) (aNil))) (aNil)))) (hName 4)) qyrz
def qytz:TS3:=sRet (eVar 2)
def qyuz:TS3:=sSeq (sFor (iRng1 (aCons (eVar 1) (aNil))) (hName 3) (qysz)) qytz
def qmfz:TS3:=sSeq (sAsg (eLst (aCons (eTup (aCons (eC (.int 1)) (aCons (eC (.int 0)) (aNil)))) (aNil))) (hName 2)) qyuz
theorem qyvz:∀ds G Q,qb7z ds G Q->qmfz (endsOf Q) (start3 ["pen","times","found","turn","spot","k","step","rest"] ds) G:=by
 rintro ds G Q ⟨p,t,rfl,hp,ht,q⟩;intro q0 G0 hq0;refine⟨⟨by omega,by omega⟩,?_⟩;refine qwz (fun _ τ G'=>∃q cs x3 x4 x5 x6 x7,τ=[some (.obj p),some (.int t),some (.obj q),x3,x4,x5,x6,x7]/\New G q (.lst (cs.map cD)) G'/\P59 cs/\1≤cs.length/\cs.length≤12) (fun _ _ _ _=>trivial) ?_ ?_ _ _ _ ?_
 ·rintro d ds τ G1 N ⟨q1,cs,x3,x4,x5,x6,x7,rfl,n1,ok,l1,l2⟩ hN;have e1:=n1.at_;have hp1:=n1.sub p _ hp;refine⟨_,e1,p,_,rfl,hp1,⟨?_,?_⟩,fun spot h1 h2=>?_⟩
  ·rw[List.length_map];omega
  ·exact qqz (by rw[List.length_map];omega) (by rw[List.length_map];omega)
  rw[List.length_map] at h2;refine⟨p,3,rfl,hp1,⟨by decide,qqz (by decide) (by decide)⟩,fun r h3 h4=>?_⟩;obtain⟨k,hk,ek⟩:=qe5z (ns:=[2,2,3]) h3 h4;refine⟨.int k,ek,?_⟩;obtain⟨c,ec1,hc,ec⟩:=qgsz cD h1 h2;obtain⟨s,r'⟩:=c;refine⟨_,cD (s,r'),e1,ec,rfl,?_⟩;have hv:=(ok.1 _ hc).1;have hs24:=(ok.1 _ hc).2.1;have hs720:=(ok.1 _ hc).2.2;have hk':k=2∨k=3:=by simp at hk;omega
  have again:N [some (.obj p),some (.int t),some (.obj q1),some d,some (.int spot),some (.int k),some (.int s),some (.int r')] G1:=
   hN _ _ ⟨q1,cs,_,_,_,_,_,rfl,n1,ok,l1,l2⟩
  refine⟨_,e1,fun h5=>⟨⟨qqz ?_ ?_,qqz ?_ ?_⟩,fun h6=>?_,fun h6=>again⟩,fun h5=>⟨nofun,fun _=>again⟩⟩
  ·have:=hv.1;simp only at this;omega
  ·simp only at hs24;omega
  ·omega
  ·omega
  have h5':((cs.map cD).length:Int)+k<13:=of_decide_eq_true h5;have h6':s*k<25:=of_decide_eq_true h6;rw[List.length_map] at h5';refine⟨_,e1,fun p1 G2 a1=>⟨⟨by omega,by omega⟩,?_,?_⟩⟩
  ·show (rngL 0 k.toNat).length≤sizeLine;rw[qbjz];exact line1000 (by omega)
  refine q7z (fun τ=>∃x,τ=[x,some (.int s),some (.int k),some (.int r')]) (fun i:Nat=>D.int (0+(i:Int))) (fun _=>true) (fun i:Nat=>cD (s*k,r'+s*(0+(i:Int)))) trivial (List.range k.toNat) [] _ ⟨none,rfl⟩ ?_ ?_
  ·rintro i hi τ K1 K2 ⟨x,rfl⟩ g1 g2;have hi':(i:Int)<k:=by have:=List.mem_range.mp hi;omega
   have b1:Big s:=qqz (by have:=hv.1;simp only at this;omega) (by simp only at hs24;omega);refine⟨fun _=>⟨⟨b1,qqz (by omega) (by omega)⟩,⟨b1,qqz (by omega) (by omega)⟩,?_⟩,nofun⟩;exact g1 rfl _ ⟨_,rfl⟩
  ·intro p2 G3 a2;obtain⟨j,rfl⟩:∃j:Nat,spot=(j:Int):=⟨spot.toNat,by omega⟩;have hj:j<cs.length:=by omega
   have el:(cut3 (cs.map cD) none (some (j:Int))++([]++((List.range k.toNat).filter fun _=>true).map fun i:Nat=>cD (s*k,r'+s*(0+(i:Int))))++cut3 (cs.map cD) (some ((j:Int)+1)) none) =
     (cs.take j++((List.range k.toNat).map fun i:Nat=>(s*k,r'+s*(0+(i:Int))))++cs.drop (j+1)).map cD:=by
    rw[qa8z,qa8z,qcjz,show ((j:Int)+1)=((j+1:Nat):Int) by omega,qgrz,List.filter_eq_self.mpr (fun _ _=>rfl)];simp[List.map_append,List.map_map]
   have hlen:(cs.take j++((List.range k.toNat).map fun i:Nat=>(s*k,r'+s*(0+(i:Int))))++cs.drop (j+1)).length=cs.length-1+k.toNat:=by
    rw[List.length_append,List.length_append,List.length_take,List.length_drop,List.length_map,List.length_range];omega
   have hle:(cut3 (cs.map cD) none (some (j:Int))++([]++((List.range k.toNat).filter fun _=>true).map fun i:Nat=>cD (s*k,r'+s*(0+(i:Int))))++cut3 (cs.map cD) (some ((j:Int)+1)) none).length≤12:=by
    rw[el,List.length_map,hlen];omega
   refine⟨_,_,a2.sub _ _ a1.at_,a2.at_,?_,fun p3 G4 a3=>?_⟩
   ·rw[List.length_append,List.length_append] at hle;exact line1000 (by omega)
   refine⟨_,a3.sub _ _ (a2.sub _ _ (a1.sub _ _ e1)),fun p4 G5 a4=>?_⟩;refine⟨_,_,a4.sub _ _ a3.at_,a4.at_,?_,fun p5 G6 a5=>?_⟩
   ·rw[←List.length_append];exact line1000 (by omega)
   ·rw[el] at a5;have s4:=((n1.sub.trans a1.sub).trans a2.sub).trans (a3.sub.trans a4.sub);refine hN _ _ ⟨p5,_,_,_,_,_,_,rfl,⟨s4.of_none a5.non,s4.trans a5.sub,a5.at_⟩,?_,by omega,by omega⟩;obtain⟨kk,rfl⟩:∃kk:Nat,k=(kk:Int):=⟨k.toNat,by omega⟩;exact split59 hv ok ec1 hk' h6'
 ·rintro τ G1 ⟨q1,cs,x3,x4,x5,x6,x7,rfl,n1,ok,l1,l2⟩;exact qjz (q q1 cs _ ok l1 l2 n1)
 ·exact⟨q0,[(1,0)],_,_,_,_,_,rfl,hq0,start59,by decide,by decide⟩
def qdrz:Sp3:=fun ds G Q=>∃p:Addr,ds=[.obj p]/\G p=some .pen/\∀cs,ClSm cs->cs.length≤12->Rise cs->Q (csD cs) G
def qywz:TS3:=sIf (eAnd (eTest (eOp (rEq3 false) (eVar 1) (eC (.int 1)))) (eTest (eOp (rEq3 true) (eVar 2) (eLst (aNil))))) (sDrop (eM qjoz (eVar 2) (aCons (eCall qapz (aCons (eVar 0) (aCons (eCB qvz (aCons (eVar 2) (aNil))) (aNil)))) (aNil)))) (sNext)
def qyxz:TS3:=sDrop (eM qf2z (eVar 2) (aCons (eTup (aCons (eVar 5) (aCons (eCall qapz (aCons (eVar 0) (aCons (eVar 5) (aNil)))) (aNil)))) (aNil)))
def qyyz:TS3:=sSeq (sAsg (eOp rIx3 (eVar 3) (eCall qapz (aCons (eVar 0) (aCons (eC (.int 10)) (aNil))))) (hName 5)) qyxz
def qyzz:TS3:=sRet (eCB qa3z (aCons (eSl (eSortSet (eVar 2)) (oNone) (oSome (eC (.int 12)))) (aNil)))
def qy0z:TS3:=sSeq (sFor (iRng1 (aCons (eLstIx (aCons (eC (.int 0)) (aCons (eC (.int 1)) (aCons (eC (.int 2)) (aCons (eC (.int 3)) (aCons (eC (.int 5)) (aCons (eC (.int 9)) (aNil))))))) (eVar 1)) (aNil))) (hName 4) (qyyz)) qyzz
def qmgz:TS3:=sSeq (sAsg (eLst (aCons (eC (.int 2)) (aCons (eC (.int 3)) (aCons (eC (.int 4)) (aCons (eC (.int 5)) (aCons (eC (.int 6)) (aCons (eC (.int 8)) (aCons (eC (.int 9)) (aCons (eC (.int 12)) (aCons (eC (.int 18)) (aCons (eC (.int 24)) (aNil)))))))))))) (hName 3)) qy0z
def qy1z:TS3:=sSeq (sIf (eTest (eOp rLtT3 (eVar 1) (eC (.int 4)))) (sSeq (sAsg (eCall qb7z (aCons (eVar 0) (aCons (eCall qapz (aCons (eVar 0) (aCons (eC (.int 6)) (aNil)))) (aNil)))) (hName 2)) qywz) (sNext)) qmgz
def qy2z:TS3:=sSeq (sAsg (eLst (aNil)) (hName 2)) qy1z
def qmhz:TS3:=sSeq (sAsg (eCall qapz (aCons (eVar 0) (aCons (eC (.int 6)) (aNil)))) (hName 1)) qy2z
theorem qfez{G:Gp}{Q:V3}{p:Addr}(hp:G p=some .pen)(q:∀cs,ClSm cs->cs.length≤12->Rise cs->Q (csD cs) G){G1:Gp}{q1:Addr}{cs:List Clk}{way:Int}{x3 x4 x5:Option D}(hw:0≤way/\way<6)
  (n1:New G q1 (.lst (cs.map cD)) G1) (ok:ClSm cs) (hl:cs.length≤12):qmgz (endsOf Q) [some (.obj p),some (.int way),some (.obj q1),x3,x4,x5] G1:=by
 intro st G0 hst;obtain⟨n,hn,en⟩:=qe5z (ns:=[0,1,2,3,5,9]) hw.1 hw.2;refine⟨.int n,en,?_⟩;have hn':0≤n/\n≤9:=by simp at hn;omega
 refine⟨⟨by omega,by omega⟩,?_⟩;refine qwz (fun ds τ G'=>∃cs x4 x5,τ=[some (.obj p),some (.int way),some (.obj q1),some (.obj st),x4,x5]/\New G q1 (.lst (cs.map cD)) G'/\G' st=some (.lst (([2,3,4,5,6,8,9,12,18,24]:List Int).map D.int))/\ClSm cs/\cs.length+ds.length≤21) (fun _ _ _ _=>trivial) ?_ ?_ _ _ _ ?_
 ·rintro d ds τ G2 N ⟨cs,x4,x5,rfl,n2,e3,ok,hl⟩ hN;have hp2:=n2.sub p _ hp;have e2:=n2.at_;refine⟨p,10,rfl,hp2,⟨by decide,qqz (by decide) (by decide)⟩,fun r h1 h2=>?_⟩;obtain⟨stp,hm,es⟩:=qe5z (ns:=[2,3,4,5,6,8,9,12,18,24]) h1 h2;have hs:2≤stp/\stp≤24:=by simp at hm;omega
  refine⟨_,.int stp,e3,es,⟨q1,_,rfl,e2⟩,p,stp,rfl,hp2,⟨by omega,qqz (by omega) (by omega)⟩,fun r2 h3 h4=>?_⟩;refine⟨_,e2,by rw[List.length_map];exact Nat.lt_of_le_of_lt (show cs.length≤21 by omega) (by decide),?_⟩;have hne:st≠q1:=fun z=>by
   rw[z,e2] at e3;cases cs with
   |nil=>simp at e3
   |cons c cs=>simp[cD] at e3
  refine hN _ _ ⟨cs++[(stp,r2)],_,_,rfl,⟨n2.non,Sub.updN n2.sub n2.non,?_⟩,?_,fun c hc=>?_,?_⟩
  ·rw[q8z,List.map_append];rfl
  ·rw[qadz hne];exact e3
  ·rcases List.mem_append.mp hc with hc|hc
   ·exact ok c hc
   ·have:c=(stp,r2):=by simpa using hc
    subst this;exact⟨⟨by show 0<stp;omega,h3,h4⟩,hs.2,list720 hm⟩
  ·rw[List.length_append,List.length_singleton];simp only[List.length_cons] at hl;omega
 ·rintro τ G2 ⟨cs,x4,x5,rfl,n2,e3,ok,hl⟩;refine⟨_,qgvz n2.at_,by rw[List.length_map];omega,qguz,fun p1 mss G3 hp1 hmem nd hr hlen=>?_⟩;obtain⟨cs',rfl,hmem,hr,hlen⟩:=qlaz hmem nd hr hlen;rw[qe6z] at hp1;refine⟨_,hp1.at_,fun p2 G4 hp2=>⟨_,hp2.at_,?_⟩⟩;rw[qa8z,show (some (12:Int))=some ((12:Nat):Int) from rfl,qcjz];refine qa7z ((n2.sub.trans hp1.sub).trans hp2.sub) (q _ (fun c hc=>ok c ((hmem c).mp (List.mem_of_mem_take hc))) ?_ (hr.take 12));rw[List.length_take];omega
 ·refine⟨cs,_,_,rfl,⟨n1.non,n1.sub.trans hst.sub,hst.sub _ _ n1.at_⟩,hst.at_,ok,?_⟩;show cs.length+(rngL 0 n.toNat).length≤21;rw[qbjz];omega
theorem qy3z:∀ds G Q,qdrz ds G Q->qmhz (endsOf Q) (start3 ["pen","way","found","steps","turn","step"] ds) G:=by
 rintro ds G Q ⟨p,rfl,hp,q⟩;refine⟨p,6,rfl,hp,⟨by decide,qqz (by decide) (by decide)⟩,fun way h1 h2 q0 G0 n0=>⟨fun hw=>?_,fun hw=>?_⟩⟩
 ·have hp0:=n0.sub p _ hp;refine⟨p,6,rfl,hp0,⟨by decide,qqz (by decide) (by decide)⟩,fun t h3 h4=>⟨p,t,rfl,hp0,⟨by omega,by omega⟩,fun q1 cs G1 ok3 l1 l2 n1=>?_⟩⟩;have ok:=ok3.1;have m1:New G q1 (.lst (cs.map cD)) G1:=⟨n0.sub.of_none n1.non,n0.sub.trans n1.sub,n1.at_⟩;refine⟨_,_,rfl,rfl,Nat.zero_le _,fun hw1=>?_,fun hw1=>⟨nofun,fun _=>?_⟩⟩
  ·intro q2 G2 n2;have e2:=n2.sub _ _ m1.at_;have m2:New G q1 (.lst (cs.map cD)) G2:=⟨m1.non,m1.sub.trans n2.sub,e2⟩;refine⟨_,_,q0z e2 (qe2z cs),q0z n2.at_ rfl,qk5z cs,fun hne=>?_,fun hne=>?_⟩
   ·refine⟨⟨q1,_,rfl,e2⟩,_,e2,p,_,rfl,m2.sub p _ hp,⟨by rw[List.length_map];omega,qqz (by rw[List.length_map];omega) (by rw[List.length_map];omega)⟩,fun r h5 h6=>?_⟩;rw[List.length_map] at h6;obtain⟨c,ec,hc,_⟩:=qgsz cD h5 h6;refine⟨_,r.toNat,cD c,e2,⟨by omega,by omega⟩,?_,by rw[List.getElem?_map,ec];rfl,?_⟩
    ·rw[List.length_map];exact qv6z h5 h6
    ·refine qfez (cs:=cs.eraseIdx r.toNat) hp q ⟨h1,h2⟩ ⟨m2.non,Sub.updN m2.sub m2.non,?_⟩ (fun c hc=>ok c (List.mem_of_mem_eraseIdx hc)) ?_
     ·rw[q8z,qlbz]
     ·exact Nat.le_trans (qfuz cs _) l2
   ·exact qfez hp q ⟨h1,h2⟩ m2 ok l2
  ·exact qfez hp q ⟨h1,h2⟩ m1 ok l2
 ·exact qfez (cs:=[]) hp q ⟨h1,h2⟩ n0 (fun c hc=>nomatch hc) (by decide)
end My
namespace My
open PySem L2 L3
def needOk(f:Int->List Clk)(p:Clk×D):Bool:=match p.2 with
 |.int n=>decide (f n=[p.1])
 |_=>false
def needsD(f:Int->List Clk)(cs:List Clk):D->Bool
 |.tup ds=>decide (ds.length=cs.length)&&(cs.zip ds).all (needOk f)
 |_=>false
def atA(cs:List Clk)(n:Int):List Clk:=cs.filter (rg n)
def zD(p:Clk×D):D:=.tup [cD p.1,p.2]
theorem qy4z(cs:List Clk)(ds:List D):zipD (cs.map cD) ds=(cs.zip ds).map zD:=by
 unfold zipD
 induction cs generalizing ds with
 |nil=>rfl
 |cons c cs ih=>
  cases ds with
  |nil=>rfl
  |cons d ds=>
   show D.tup [cD c,d]::List.zipWith _ (cs.map cD) ds=zD (c,d)::(cs.zip ds).map zD;rw[ih];rfl
def qdsz:Sp3:=fun ds G Q=>∃(cs:List Clk) (d:D),ds=[csD cs,d]/\Known2 G d/\(∀c∈cs,0<c.1)/\cs.length≤1000/\Q (.bl (needsD (atA cs) cs d)) G
def qy5z:TS3:=sIf (eOr (eNot (eTest (eCall qchz (aCons (eVar 3) (aNil))))) (eTest (eOp (rEq3 true) (eCall qdaz (aCons (eVar 0) (aCons (eVar 3) (aNil)))) (eLst (aCons (eVar 2) (aNil)))))) (sRet (eC (.bl false))) (sNext)
def qy6z:TS3:=sRet (eC (.bl true))
def qy7z:TS3:=sSeq (sFor (iZip (aCons (eVar 0) (aCons (eVar 1) (aNil)))) (hTup 2 (hCons (hName 2) (hCons (hName 3) (hNil)))) (qy5z)) qy6z
def qg2z:TS3:=sSeq (sIf (eOr (eNot (eTest (eInst "tuple" (eVar 1)))) (eTest (eOp (rEq3 true) (eCB qvz (aCons (eVar 1) (aNil))) (eCB qvz (aCons (eVar 0) (aNil)))))) (sRet (eC (.bl false))) (sNext)) qy7z
theorem qy8z:∀ds G Q,qdsz ds G Q->qg2z (endsOf Q) (start3 ["clocks","thing","clock","number"] ds) G:=by
 rintro ds G Q ⟨cs,d,rfl,hk,hc,hz,q⟩;have not_tup:(∀ds,d≠.tup ds)->qg2z (endsOf Q) (start3 ["clocks","thing","clock","number"] [csD cs,d]) G:=by
  intro hn;have e:needsD (atA cs) cs d=false:=by
   cases d with
   |tup ds=>exact absurd rfl (hn ds)
   |_=>rfl
  rw[e] at q;show match instD "tuple" G d with
   |some b=>_
   |none=>False
  rw[qxdz hk hn];exact⟨fun _=>⟨fun _=>qjz q,nofun⟩,nofun⟩
 cases d with
 |tup ds=>
  refine⟨nofun,fun _=>⟨_,_,rfl,rfl,Nat.zero_le _,fun h=>?_,fun h=>?_⟩⟩
  ·have h':(!(((ds.length:Nat):Int)==(((cs.map cD).length:Nat):Int)))=true:=h;rw[List.length_map] at h';have hne:ds.length≠cs.length:=fun z=>by
    rw[z] at h';simp at h'
   have e:needsD (atA cs) cs (.tup ds)=false:=by
    show (decide (ds.length=cs.length)&&_)=false;rw[decide_eq_false hne];rfl
   rw[e] at q;exact qjz q
  ·have h':(!(((ds.length:Nat):Int)==(((cs.map cD).length:Nat):Int)))=false:=h;rw[List.length_map] at h';have he:ds.length=cs.length:=by
    simp at h';omega
   have e:needsD (atA cs) cs (.tup ds)=(cs.zip ds).all (needOk (atA cs)):=by
    show (decide (ds.length=cs.length)&&_)=_;rw[decide_eq_true he];rfl
   rw[e] at q;refine⟨_,_,rfl,rfl,?_⟩;rw[qy4z];refine qwz (fun ds' τ G'=>∃(zs:List (Clk×D)) (x2 x3:Option D),ds'=zs.map zD/\τ=[some (csD cs),some (.tup ds),x2,x3]/\(∀p∈zs,Known G p.2)/\Sub G G'/\zs.all (needOk (atA cs))=(cs.zip ds).all (needOk (atA cs))) (fun _ _ _ _=>⟨rfl,rfl⟩) ?_ ?_ _ _ _ ⟨cs.zip ds,none,none,rfl,rfl,fun p hp=>hk p.2 (List.of_mem_zip hp).2,Sub.refl _,rfl⟩
   ·rintro d' ds' τ G' N ⟨zs,x2,x3,e1,rfl,kz,sg,ha⟩ hN;cases zs with
    |nil=>cases e1
    |cons z zs=>
     cases e1;obtain⟨c,n⟩:=z;have kn:Known G' n:=(kz (c,n) List.mem_cons_self).sub sg;refine⟨rfl,kn,?_⟩;cases n with
     |int n=>
      refine⟨nofun,fun _=>⟨cs,n,rfl,hc,hz,fun p1 G1 n1 p2 G2 n2=>⟨_,_,q0z (n2.sub _ _ n1.at_) (qe2z _),q0z n2.at_ (qe2z [c]),qk5z _,fun h=>?_,fun h=>?_⟩⟩⟩
      ·have h':(!(Dat.D.lst ((cs.filter (rg n)).map cX)).eqb (.lst ([c].map cX)))=true:=h;rw[qlpz] at h';have hne:¬(cs.filter (rg n)=[c]):=by simpa using h'
       have ef:(cs.zip ds).all (needOk (atA cs))=false:=by
        rw[←ha,List.all_cons];have:needOk (atA cs) (c,.int n)=false:=decide_eq_false hne;rw[this];rfl
       rw[ef] at q;exact qa7z (sg.trans (n1.sub.trans n2.sub)) q
      ·have h':(!(Dat.D.lst ((cs.filter (rg n)).map cX)).eqb (.lst ([c].map cX)))=false:=h;rw[qlpz] at h';have heq:cs.filter (rg n)=[c]:=by simpa using h'
       refine hN _ _ ⟨zs,some (cD c),some (.int n),rfl,rfl,fun p hp=>kz p (List.mem_cons_of_mem _ hp),sg.trans (n1.sub.trans n2.sub),?_⟩;rw[←ha,List.all_cons];have:needOk (atA cs) (c,.int n)=true:=decide_eq_true heq;rw[this];rfl
     |_=>
      refine⟨fun _=>⟨fun _=>?_,nofun⟩,nofun⟩;have ef:(cs.zip ds).all (needOk (atA cs))=false:=by
       rw[←ha,List.all_cons];rfl
      rw[ef] at q;exact qa7z sg q
   ·rintro τ G' ⟨zs,x2,x3,e1,rfl,kz,sg,ha⟩;cases zs with
    |cons z zs=>cases e1
    |nil=>
     rw[←ha] at q;exact qa7z sg q
 |_=>exact not_tup nofun
end My
namespace L3
open PySem PySem.Spec PyProof.Rows L2
section
variable {prog:Program} {w:World} {A:Around} {R:Result->Shared->Prop} {I:Addr} {fp wr:List Addr} {Gs:Array GenState->Array GenState->Prop} {n:Nat} {P:Nat->Value->Prop} {St:Nat->Shared->Prop}
abbrev btK(kf:Nat->Int):Nat->Nat->Bool:=fun i j=>decide (kf i<kf j)
theorem qy9z(W:WalksS prog w A.in1 I fp wr Gs n P St)(kw:List (Str×Value))(kf:Nat->Int)(S:Addr)(hSf:S∉fp)(s0:Shared)
  (hkey:∀(i:Nat) (v:Value) (s':Shared),P i v->Moved (S::wr) Gs s0 s'->∀(Q:Value->Shared->Prop) (E:Value->Shared->Prop),Q (.int (kf i) (s'.toks+1)) { s' with toks:=s'.toks+1+1 }->wpAny (model prog w) A.in1 (call (.builtin "len") [v]) Q E s'):
  ∀(k j:Nat) (s:Shared) (vb:Value) (tb:Tok) (c:Nat),n-(j+1)=k->j+1≤n->St (j+1) s->P (argBest (btK kf) j) vb ->
  s.heap.get? S=some { cls:=.type "list",dict:=none,data:=.seq #[vb,.int (kf (argBest (btK kf) j)) tb] c,slots:=#[]}->Moved (S::wr) Gs s0 s ->
  (∀v s',P (argBest (btK kf) (n-1)) v->Moved (S::wr) Gs s s'->R (.ok (.ret v)) s')->codeAny (model prog w) A (.builtin "min.loop" ⟨[.ref I,.builtin "len",.ref S],kw⟩) R s:=by
 have hSw:S∉wr:=fun h=>hSf (W.sub _ h);have hsub:∀b∈wr,b∈S::wr:=fun b hb=>List.mem_cons_of_mem _ hb;have hname:(toString "min" ++ toString ".loop":String)="min.loop":=by decide
 have notS:∀{b:Addr},b∉S::wr->S≠b:=fun hb h=>hb (by rw[h];exact List.mem_cons_self);intro k
 induction k with
 |zero=>
  intro j s vb tb c hk hj hst hPb hS hM hR;have hin:j+1=n:=by omega
  refine codeAny_builtin F.entry_min_loop ?_;rw[Around.under_plainId F.plain_min_loop _];show wpAny _ A.in1 (seqItems? (.ref S) >>= _) _ _ s;refine wpAny_bind (wpAny_seqItems hS rfl ?_);show wpAny _ A.in1 (tryCatch (pyNext (.ref I)) _ >>= _) _ _ s;refine wpAny_bind (wpAny_tryCatch (W.done s _ _ (hin▸hst) fun s' hm=>?_));have hS':=hm.heap S _ hSw hS;show wpAny _ A.in1 (updateSeq S (fun _=>#[]) >>= _) _ _ _;refine wpAny_bind ?_;refine wpAny_updateSeq hS' rfl (wpAny_bind (wpAny_letGo (wpAny_pure ?_)));exact hR vb _ (by rw[←hin];exact hPb) ((hm.mono hsub).then_heap (tk:=s'.toks) (Nat.le_refl _) fun b o hb e=>(Heap.get?_update_other _ _ (notS hb)).trans e)
 |succ k ih=>
  intro j s vb tb c hk hj hst hPb hS hM hR;have hlt:j+1<n:=by omega
  refine codeAny_builtin F.entry_min_loop ?_;rw[Around.under_plainId F.plain_min_loop _];show wpAny _ A.in1 (seqItems? (.ref S) >>= _) _ _ s;refine wpAny_bind (wpAny_seqItems hS rfl ?_);show wpAny _ A.in1 (tryCatch (pyNext (.ref I)) _ >>= _) _ _ s;refine wpAny_bind (wpAny_tryCatch (W.item (j+1) s _ _ hlt hst fun v s' hP hst' hm=>?_));have hS':=hm.heap S _ hSw hS;have hM':Moved (S::wr) Gs s0 s':=Moved.trans W.gtrans hM (hm.mono hsub);show wpAny _ A.in1 (tryCatch (holding [v] (call (.builtin "len") [v])) _ >>= _) _ _ _;refine wpAny_bind (wpAny_tryCatch (wpAny_holding (hkey (j+1) v s' hP hM' _ _ ?_)));show wpAny _ A.in1 (tryCatch (holding [v,.int (kf (j+1)) (s'.toks+1)] (richCompare .Lt (.int (kf (j+1)) (s'.toks+1)) (.int (kf (argBest (btK kf) j)) tb) >>= _)) _ >>= _) _ _ _;refine wpAny_bind (wpAny_tryCatch (wpAny_holding (wpAny_bind (CmpOf.ints_lt (prog:=prog) (w:=w) (A:=A.in1) (P:=fun i v=>∃t,v=.int (kf i) t) kf (fun i v h=>h) (j+1) (argBest (btK kf) j) _ _ _ _ _ ⟨_,rfl⟩ ⟨tb,rfl⟩ ?_))));refine wpAny_bind (wpAny_holding (wpAny_truthy_bool ?_));refine wpAny_bind (wpAny_letGo (wpAny_pure ?_));have hM2:Moved (S::wr) Gs s { s' with toks:=s'.toks+1+1 }:=(hm.mono hsub).then_heap (tk:=s'.toks+1+1) (by omega) fun b o hb e=>e;cases hb:btK kf (j+1) (argBest (btK kf) j) with
  |true=>
   have hb':kf (j+1)<kf (argBest (btK kf) j):=of_decide_eq_true hb;simp only[hb',decide_true,if_true];refine wpAny_bind ?_;refine wpAny_updateSeq (s:={ s' with toks:=s'.toks+1+1 }) hS' rfl (wpAny_bind (wpAny_letGo ?_));rw[hname];have hM3:Moved (S::wr) Gs s { s' with heap:=s'.heap.update S (Obj.mapSeq fun _=>#[v,.int (kf (j+1)) (s'.toks+1)]),toks:=s'.toks+1+1 }:=(hm.mono hsub).then_heap (tk:=s'.toks+1+1) (by omega) fun b o hb e=>(Heap.get?_update_other _ _ (notS hb)).trans e;have e1:argBest (btK kf) (j+1)=j+1:=by simp only[argBest,hb,if_true]
   refine wpAny_pure ⟨plainId_quiet F.plain_min_loop _,ih (j+1) _ v (s'.toks+1) _ (by omega) hlt (W.frame _ s' _ (s'.toks+1+1) hst' (by omega) fun b hbf o e=>?_) (by rw[e1];exact hP) (by rw[e1];exact Heap.get?_update_self _ hS' rfl) (Moved.trans W.gtrans hM hM3)
    fun v' s'' hP' hm''=>?_⟩
   ·exact (Heap.get?_update_other _ _ (fun h:S=b=>hSf (by rw[h];exact hbf))).trans e
   ·exact hR v' s'' hP' (Moved.trans W.gtrans hM3 hm'')
  |false=>
   have hb':¬kf (j+1)<kf (argBest (btK kf) j):=of_decide_eq_false hb;have e1:argBest (btK kf) (j+1)=argBest (btK kf) j:=by simp only[argBest,hb,Bool.false_eq_true,if_false]
   simp only[hb',decide_false,Bool.false_eq_true,if_false];refine wpAny_bind (wpAny_letGo ?_);rw[hname];refine wpAny_pure ⟨plainId_quiet F.plain_min_loop _,ih (j+1) _ vb tb c (by omega) hlt (W.frame _ s' _ (s'.toks+1+1) hst' (by omega) fun b hbf o e=>e) (by rw[e1];exact hPb) (by rw[e1];exact hS') (Moved.trans W.gtrans hM hM2) fun v' s'' hP' hm''=>?_⟩;exact hR v' s'' hP' (Moved.trans W.gtrans hM2 hm'')
theorem qzaz(W:WalksS prog w A.in1 I fp wr Gs n P St)(d:Value)(kf:Nat->Int)(S:Addr)(hSf:S∉fp){s:Shared}{c:Nat}(hst:St 0 s)
  (hS:s.heap.get? S=some { cls:=.type "list",dict:=none,data:=.seq #[] c,slots:=#[]})
  (hkey:∀(i:Nat) (v:Value) (s':Shared),P i v->Moved (S::wr) Gs s s'->∀(Q:Value->Shared->Prop) (E:Value->Shared->Prop),Q (.int (kf i) (s'.toks+1)) { s' with toks:=s'.toks+1+1 }->wpAny (model prog w) A.in1 (call (.builtin "len") [v]) Q E s')
  (h0:n=0->∀s',Moved (S::wr) Gs s s'->R (.ok (.ret d)) s')
  (hR:0<n->∀v s',P (argBest (btK kf) (n-1)) v->Moved (S::wr) Gs s s'->R (.ok (.ret v)) s'):codeAny (model prog w) A (.builtin "min.loop" ⟨[.ref I,.builtin "len",.ref S],[("default",d)]⟩) R s:=by
 have hSw:S∉wr:=fun h=>hSf (W.sub _ h);have hsub:∀b∈wr,b∈S::wr:=fun b hb=>List.mem_cons_of_mem _ hb;have hname:(toString "min" ++ toString ".loop":String)="min.loop":=by decide
 have notS:∀{b:Addr},b∉S::wr->S≠b:=fun hb h=>hb (by rw[h];exact List.mem_cons_self);refine codeAny_builtin F.entry_min_loop ?_;rw[Around.under_plainId F.plain_min_loop _];show wpAny _ A.in1 (seqItems? (.ref S) >>= _) _ _ s;refine wpAny_bind (wpAny_seqItems hS rfl ?_);show wpAny _ A.in1 (tryCatch (pyNext (.ref I)) _ >>= _) _ _ s;rcases Nat.eq_zero_or_pos n with e0|hn
 ·subst e0;refine wpAny_bind (wpAny_tryCatch (W.done s _ _ hst fun s' hm=>?_));refine wpAny_bind (wpAny_rule (wpAny_pure ?_));exact h0 rfl _ (hm.mono hsub)
 refine wpAny_bind (wpAny_tryCatch (W.item 0 s _ _ hn hst fun v s' hP hst' hm=>?_));have hS':=hm.heap S _ hSw hS;show wpAny _ A.in1 (tryCatch (holding [v] (call (.builtin "len") [v])) _ >>= _) _ _ _;refine wpAny_bind (wpAny_tryCatch (wpAny_holding (hkey 0 v s' hP (hm.mono hsub) _ _ ?_)));show wpAny _ A.in1 (updateSeq S (fun _=>#[v,.int (kf 0) (s'.toks+1)]) >>= _) _ _ _;refine wpAny_bind ?_;refine wpAny_updateSeq (s:={ s' with toks:=s'.toks+1+1 }) hS' rfl ?_;rw[hname];have hM3:Moved (S::wr) Gs s { s' with heap:=s'.heap.update S (Obj.mapSeq fun _=>#[v,.int (kf 0) (s'.toks+1)]),toks:=s'.toks+1+1 }:=(hm.mono hsub).then_heap (tk:=s'.toks+1+1) (by omega) fun b o hb e=>(Heap.get?_update_other _ _ (notS hb)).trans e;refine wpAny_pure ⟨plainId_quiet F.plain_min_loop _,qy9z W _ kf S hSf s hkey _ 0 _ v (s'.toks+1) _ rfl hn (W.frame _ s' _ (s'.toks+1+1) hst' (by omega) fun b hbf o e=>?_) hP (Heap.get?_update_self _ hS' rfl) hM3 fun v' s'' hP' hm''=>?_⟩
 ·exact (Heap.get?_update_other _ _ (fun h:S=b=>hSf (by rw[h];exact hbf))).trans e
 ·exact hR hn v' s'' hP' (Moved.trans W.gtrans hM3 hm'')
theorem qzbz(a k v:Value):argsOk "min" ⟨[a],[("key",k),("default",v)]⟩:=by unfold argsOk;kernel_rfl
theorem qzcz{E:Value->Shared->Prop}{s:Shared}{x d:Value}{Q:Value->Shared->Prop}
  (h:wpAny (model prog w) A.in1 (pyIter x) (fun it s₂=>∃I fp wr Gs n P St kf,it=.ref I/\WalksS prog w A.in1 I fp wr Gs n P St/\St 0 s₂/\(∀b∈fp,b<s₂.heap.objs.size) ∧
   (∀(i:Nat) (v:Value) (s':Shared),P i v->(∀b o,b∉wr->s₂.heap.get? b=some o->s'.heap.get? b=some o)->∀(Q:Value->Shared->Prop) (E:Value->Shared->Prop),Q (.int (kf i) (s'.toks+1)) { s' with toks:=s'.toks+1+1 }->wpAny (model prog w) A.in1 (call (.builtin "len") [v]) Q E s') ∧
   (n=0->∀s',Moved wr Gs s₂ s'->Q d s')/\(0<n->∀v s',P (argBest (btK kf) (n-1)) v->Moved wr Gs s₂ s'->Q v s')) E s):
  wpAny (model prog w) A (call (.builtin "min") [x] [("key",.builtin "len"),("default",d)]) Q E s:=by
 have hname:(toString "min" ++ toString ".loop":String)="min.loop":=by decide
 refine kmk_tree F.kind_min F.plain_min F.entry_min (qzbz _ _ _) ?_;show wpAny _ A.in1 (Builtin.Builtins.bindParams "min" ["key","default"] 0 ⟨[],[("key",.builtin "len"),("default",d)]⟩ >>= _) _ _ s;refine wpAny_bind (wpAny_of_eq (show Builtin.Builtins.bindParams "min" ["key","default"] 0 ⟨[],[("key",.builtin "len"),("default",d)]⟩=pure [some (.builtin "len"),some d] from rfl) ?_);refine wpAny_bind (wpAny_pure ?_);refine wpAny_bind (wpAny_mono h (fun it s₂ h₂=>?_) fun _ _ e=>e);obtain⟨I,fp,wr,Gs,n,P,St,kf,rfl,W,hst,hfp,hkey,q0,q1⟩:=h₂;refine wpAny_bind (wpAny_newObj_type ?_);have hSf:s₂.heap.objs.size∉fp:=fun hm=>Nat.lt_irrefl _ (hfp _ hm);rw[hname];refine wpAny_pure ⟨plainId_quiet F.plain_min_loop _,qzaz W _ kf s₂.heap.objs.size hSf (W.frame 0 s₂ _ s₂.toks hst (Nat.le_refl _) fun b _ o e=>Heap.get?_push_of_some _ e) (Heap.get?_push_size _ rfl) (fun i v s' hP hM Q E hq=>?_) (fun e0 s' hm=>?_) fun hn v s' hP hm=>?_⟩
 ·refine hkey i v s' hP (fun b o hb e=>?_) Q E hq;refine hM.heap b o (fun hm=>?_) (Heap.get?_push_of_some _ e);rcases List.mem_cons.mp hm with z|z
  ·exact absurd (Heap.lt_size e) (by rw[z];exact Nat.lt_irrefl _)
  ·exact hb z
 ·exact q0 e0 s' (Moved.drop_new (tk:=s₂.toks) hm (Nat.le_refl _))
 ·exact q1 hn v s' hP (Moved.drop_new (tk:=s₂.toks) hm (Nat.le_refl _))
end
section
variable {X:Cx} {e:Expr} {te:TE3} {p p2 pos kp kp2 cp:Pos} {j:Option Str}
def minQ(Q:V3):V3:=fun x G1=>match x with
 |.obj a=>∃dss:List (List D),G1 a=some (.lst (dss.map .tup))/\(dss=[]->Q .non G1)/\∀ds,ds∈dss->(∀es∈dss,ds.length≤es.length)->Q (.tup ds) G1
 |_=>False
def eMinK(te:TE3):TE3:=fun τ G Q=>te τ G (minQ Q)
theorem qmiz{K:PySem.W.Frag}{H:Hp}:∀{ds:List D} {vs:List V} {i:Nat} {d:D},Hvs K H ds vs->ds[i]?=some d->∃v,vs[i]?=some v/\Hv K H d v
 |[],vs,i,d,_,e=>by cases e
 |x::ds,vs,i,d,h,e=>by
  obtain⟨v,r,rfl,h1,h2⟩:=h.inv;cases i with
  |zero=>
   cases e;exact⟨v,rfl,h1⟩
  |succ i=>exact qmiz (i:=i) h2 e
theorem qzdz{kj}(hc:X.calm=true)(he:PE3 X e te)(hm:X.mg "min" = none)(hl:X.mg "len" = none)(hg:Gl X "min":=by rfl)(hgl:Gl X "len":=by rfl)(hs:notStar e=true:=by rfl):
  PE3 X (.Call (.Name "min" p) [e] [⟨some "key",.Name "len" p2,kp⟩,⟨some "default",.Constant .none kj cp,kp2⟩] pos) (eMinK te):=by
 intro pins s σ H Q I ⟨τ,G,Q3,RS,RG,h,k⟩;refine wpAny_Call_Name_kw (qatz I hg hm rfl ?_ (by decide) (by decide));refine callWith_kw (thn ((qbqz he qccz (qnz hs)) pos pins s σ H (fun vs H1=>∃v d G1,vs=[v]/\Hv X.K H1 d v/\Step H G H1 G1/\RepG X.K G1 H1/\minQ Q3 d G1) I ⟨τ,G,_,RS,RG,h,fun v H1 d G1 a b c q=>⟨v,d,G1,rfl,a,b,c,q⟩⟩) fun us s1 ⟨vs,H1,I1,r1,v,d,G1,ev,hd,S1,R1,q⟩=>?_) (by rw[qnz hs];rfl) (by rw[qnz hs];rfl);subst ev;obtain⟨u,rfl,ru⟩:=vals1 r1;refine kws_cons (qatz I1 hgl hl rfl ?_ (by decide) (by decide));refine kws_cons (thn (qihz pins s1 σ H1 (fun v H'=>v=.non/\H'=H1) I1 ⟨rfl,rfl⟩) fun du s2 ⟨dv,H2,I2,rd,e1,e2⟩=>kws_nil ?_);subst e1 e2;cases (show du=Value.none from rd);cases d with
 |obj a=>
  obtain⟨dss,g1,q0,q1⟩:=q;obtain⟨ys,e3,e4⟩:=R1 a _ g1;have hv:=qyz hd;subst hv;cases ru;refine qzcz (qeqz hc I2 (.of e3) fun its I' rv W h1 h2 h3 back=>?_);have h4:its.length=dss.length:=by rw[←rv.length,←e4.length,List.length_map]
  have hP:∀(i:Nat) (v:Value),its[i]?=some v->∃ds x,dss[i]?=some ds/\Hv X.K H2 (.tup ds) x/\RelV x v:=by
   intro i v hv;have hi:i<dss.length:=by
    have:=(List.getElem?_eq_some_iff.mp hv).1;omega
   obtain⟨x,z1,z2⟩:=qmiz (i:=i) (d:=.tup dss[i]) e4 (by rw[List.getElem?_map,List.getElem?_eq_getElem hi];rfl);obtain⟨u',z3,z4⟩:=rv.get z1;rw[hv] at z3;cases z3;exact⟨_,x,List.getElem?_eq_getElem hi,z2,z4⟩
  refine⟨I',_,_,_,_,_,_,fun i=>(((dss.getD i []).length:Nat):Int),rfl,W,⟨h1,h2⟩,h3,fun i v s' hv hk Q E hq=>?_,fun e0 s' hm=>?_,fun hn v s' hv hm=>?_⟩
  ·obtain⟨ds,x,z1,z2,z3⟩:=hP i v hv;obtain⟨b,xs,rfl,z4,z5⟩:=qakz z2;cases z3;obtain⟨its2,rv2,⟨ob,y1,y2,n2,y3⟩,hz⟩:=I2.tuple z4;have y4:s'.heap.get? b=some ob:=hk b ob (fun hb=>by
    have eb:b=I':=List.mem_singleton.mp hb;obtain⟨oi,a1,a2,_⟩:=h1;rw[←eb,Heap.get?_push_of_some _ y1] at a1;cases a1;rw[y2] at a2;injection a2 with z
    exact absurd z (by decide)) (Heap.get?_push_of_some _ y1)
   have hlen:its2.toArray.size=(dss.getD i []).length:=by
    rw[List.size_toArray,←rv2.length,←z5.length,List.getD_eq_getElem?_getD,z1];rfl
   refine len_tuple (items:=its2.toArray) ⟨ob,y4,y2,n2,y3⟩ ?_ ?_
   ·have:=line63;have h5:xs.length≤sizeLine:=hz;rw[List.size_toArray,←rv2.length];omega
   ·rw[hlen];exact hq
  ·have:dss=[]:=List.length_eq_zero_iff.mp (by omega);exact⟨.non,H2,back s' hm,rfl,k _ H2 .non G1 (by simp[Hv]) S1 R1 (q0 this)⟩
  ·obtain⟨g2,g3⟩:=argBest_lt (fun i=>(((dss.getD i []).length:Nat):Int)) (its.length-1);obtain⟨ds,x,z1,z2,z3⟩:=hP _ _ hv;refine⟨x,H2,back s' hm,z3,k _ H2 (.tup ds) G1 z2 S1 R1 (q1 ds (List.mem_of_getElem? z1) fun es hes=>?_)⟩;obtain⟨j,hj,ej⟩:=List.getElem_of_mem hes;have h5:=g3 j (by omega);have e5:dss.getD j []=es:=by
    rw[List.getD_eq_getElem?_getD,List.getElem?_eq_getElem hj];exact ej
   have e6:dss.getD (argBest (btK fun i=>(((dss.getD i []).length:Nat):Int)) (its.length-1)) []=ds:=by
    rw[List.getD_eq_getElem?_getD,z1];rfl
   have h6:(((dss.getD (argBest (btK fun i=>(((dss.getD i []).length:Nat):Int)) (its.length-1)) []).length:Nat):Int)≤(((dss.getD j []).length:Nat):Int):=h5;rw[e5,e6] at h6;omega
 |_=>exact q.elim
theorem qzez{kj}(hc:X.calm=true)(he:QE X e te)(hm:X.mg "min" = none)(hl:X.mg "len" = none)(hg:Gl X "min":=by rfl)(hgl:Gl X "len":=by rfl)(hs:notStar e=true:=by rfl):
  QE X (.Call (.Name "min" p) [e] [⟨some "key",.Name "len" p2,kp⟩,⟨some "default",.Constant .none kj cp,kp2⟩] pos) (eMinK te):=⟨qzdz hc he.of hm hl hg hgl hs⟩
end
end L3
namespace L3
open PySem PySem.Spec PyProof.Rows L2
section
variable {X:Cx} {a:Expr} {ta:TA} {p p2 pos pos2:Pos}
def jRng1(ta:TA):TE:=fun σ H Q=>ta σ H fun vs H1=>∃j:Int,vs=[.int j]/\∀r,H1 r=none->Q (.ref r) (upd H1 r (.ext (rngP 0 j r)))
theorem qzfz(hg:Gl X "range")(hm:X.mg "range" = none)(ha:PA X [a] ta)(hs:starEach [a] X.env=[(false,eval a X.env)]):PE X (.Call (.Name "range" p) [a] [] pos) (jRng1 ta):=by
 intro pins s σ H Q I h;refine Call_ (qatz I hg hm boot_range (PyProof.Rows.callWith_type1 (thn (ha pos pins s σ H _ I h) fun us s1 ⟨vs,H1,I1,r1,q1⟩=>?_) (by rw[hs];rfl) rfl));obtain⟨j,rfl,q⟩:=q1;cases r1 with
 |cons r rr=>
  cases rr;obtain⟨t,rfl⟩:=r;refine call_range_1 ?_;refine⟨.ref s1.heap.objs.size,upd H1 s1.heap.objs.size (.ext (rngP 0 j s1.heap.objs.size)),I1.laid (fun b u e=>Heap.get?_push_of_some _ e) (Nat.le_refl _) ⟨⟨_,_,_,IsRange.new ..⟩,⟨_,Heap.get?_push_size _ rfl⟩,fun h1 h2 ⟨t,u,v,e⟩ k=>⟨t,u,v,k _ e⟩⟩,rfl,q _ (I1.hok.fresh (Nat.le_refl _))⟩
end
end L3
namespace PySem
open Sem (wp)
open AutoSeq1 (wpAny_loadPart')
section
variable {prog:Program} {w:World} {A:Around} {E:Value->Shared->Prop} {s:Shared}
theorem qzgz{Q:List Value->Shared->Prop}{r:Addr}{a b c:Int}{t u v:Tok}{n:Nat}(hh:A.handled=none)(hr:IsRange s.heap r a b c t u v)(hsmall:Builtin.Range.small a b c=true)
  (hn:Builtin.Range.rangeSize a b c=n) (hlen:n≤2^24)
  (h:∀(h':Heap) (tk:Nat) (acc:Array Value),(∀b o,s.heap.get? b=some o->h'.get? b=some o)->s.heap.objs.size≤h'.objs.size->ItemsOf (fun i v=>∃t,v=.int (a+i*c) t) acc n->Q acc.toList { s with heap:=h',toks:=tk }):wpAny (model prog w) A (collect (.ref r)) Q E s:=by
 unfold collect;refine wpAny_bind (wpAny_runValue (codeAny_builtin F.entry_proto_collect ?_));rw[Around.under_plainId F.plain_proto_collect _];show wpAny _ A.in1 (newList [] >>= fun q=>again (.builtin "list.__iadd__" ⟨[q,.ref r],[]⟩)) _ _ s;refine wpAny_bind (wpAny_newObj_type ?_);refine wpAny_pure ⟨plainId_quiet F.plain_list_iadd _,codeAny_builtin F.entry_list_iadd ?_⟩;rw[Around.under_plainId F.plain_list_iadd _];show wpAny _ A.in1 (Builtin.List.listExtendWith (.ref s.heap.objs.size) (.ref r) (.ref s.heap.objs.size)) _ _ _;refine wpAny_extend_range (prog:=prog) (w:=w) (R:=fun r s'=>match r with
  | Except.ok (Flow.ret v)=>wpAny (model prog w) A (match v with
   |Value.ref a=>do
    let o ←load a
    match o.data with
    |Data.seq xs epoch=>pure xs.toList
    |x=>unsupported "internal:collect"
   | x=>unsupported "internal:collect") Q E s'
  |Except.ok a=>False
  | Except.error e=>E e s') (s:={ s with heap:=s.heap.push { cls:=.type "list",data:=.seq ([]:List Value).toArray }}) (by simpa using hh) (Heap.get?_push_of_some _ hr) hsmall hn hlen s.heap.objs.size (.ref s.heap.objs.size) 0 (Heap.get?_push_size _ rfl) fun h' tk acc' c' hk hS' hacc=>?_
 show wpAny _ A (load s.heap.objs.size >>= _) _ _ _;refine wpAny_bind (wpAny_load hS' ?_);refine wpAny_pure ?_;exact h h' tk acc' (fun b o e=>hk b o (Nat.ne_of_lt (Heap.lt_size e)) (Heap.get?_push_of_some _ e)) (Nat.le_of_lt (Heap.lt_size hS')) hacc
theorem qzhz{Q₁:Value->Shared->Prop}{r:Addr}{a b c:Int}{t u v:Tok}{n:Nat}(hh:A.handled=none)(hr:IsRange s.heap r a b c t u v)(hsmall:Builtin.Range.small a b c=true)
  (hn:Builtin.Range.rangeSize a b c=n) (hlen:n≤2^24)
  (h:∀(h':Heap) (tk:Nat) (acc:Array Value),(∀b o,s.heap.get? b=some o->h'.get? b=some o)->s.heap.objs.size≤h'.objs.size->ItemsOf (fun i v=>∃t,v=.int (a+i*c) t) acc n->Q₁ (.ref h'.objs.size) { s with heap:=h'.push { cls:=.type "tuple",data:=.seq acc },toks:=tk }):
  codeAny (model prog w) A (.call (.builtin "tuple.__new__") ⟨[.type "tuple",.ref r],[]⟩) (wants Q₁ E) s:=by
 refine codeAny_of_tree ?_;show wpAny _ A.in1 (do checkBuiltinCall "tuple.__new__" ⟨[.type "tuple",.ref r],[]⟩;again (.builtin "tuple.__new__" ⟨[.type "tuple",.ref r],[]⟩)) _ _ s
 refine wpAny_bind (wpAny_of_eq (F.newCall_tuple_1 _) (wpAny_pure ⟨plainId_quiet F.plain_tuple_new _,codeAny_builtin F.entry_tuple_new ?_⟩));rw[Around.under_plainId F.plain_tuple_new _];have hsub:=sub_tuple_self;have hinit:=init_tuple_lookup;have hmh:=madeHere_tuple;have hTI:s.TypeIs (.ref r) "range":=⟨_,hr,rfl⟩;have hh1:A.in1.handled=none:=by simpa using hh
 wp_walk using wpAny_typeOf hTI,qzgz (a:=a) (b:=b) (c:=c) hh1 hr hsmall hn hlen;intro h' tk acc hk hle hacc;show wpAny _ _ (Builtin.Tuple.tupleExact acc.toList.toArray >>= fun v=>ret v) _ _ _;unfold Builtin.Tuple.tupleExact;refine wpAny_bind (wpAny_newObj_type ?_ (by show acc.toList.toArray.size≤sizeLine;simp only[Array.toArray_toList];rw[hacc.1];rw[sizeLine_eq];omega));refine wpAny_pure ?_;have e:acc.toList.toArray=acc:=by simp
 rw[e];exact h h' tk acc hk hle hacc
theorem qziz{Q:Value->Shared->Prop}{r:Addr}{a b c:Int}{t u v:Tok}{n:Nat}(hh:A.handled=none)(hr:IsRange s.heap r a b c t u v)(hsmall:Builtin.Range.small a b c=true)
  (hn:Builtin.Range.rangeSize a b c=n) (hlen:n≤2^24)
  (hQ:∀(h':Heap) (tk:Nat) (acc:Array Value),(∀b o,s.heap.get? b=some o->h'.get? b=some o)->s.heap.objs.size≤h'.objs.size->ItemsOf (fun i v=>∃t,v=.int (a+i*c) t) acc n->Q (.ref h'.objs.size) { s with heap:=h'.push { cls:=.type "tuple",data:=.seq acc },toks:=tk }):
  wpAny (model prog w) A (call (.type "tuple") [.ref r]) Q E s:=by
 refine callType_codes (Q₁:=fun obj s₁=>s₁.TypeIs obj "tuple"/\Q obj s₁) F.called_tuple (F.typeCall_tuple_1 _) F.entry_object_init
  (qzhz (by simpa using hh) hr hsmall hn hlen fun h' tk acc hk hle hacc=>⟨⟨_,Heap.get?_push_size _ rfl,rfl⟩,hQ h' tk acc hk hle hacc⟩) fun obj s₁ h₁=>?_
 exact⟨h₁.1,F.args_object_init_2 obj _,object_init_meets F.called_tuple.init.lookup F.called_tuple.made (by decide) prog w A.in1 _ s₁ ⟨h₁.1,rfl,h₁.2⟩⟩
end
end PySem
namespace L3
open PySem PySem.Spec PyProof.Rows L2
section
variable {X:Cx}
def rTR:List V->Hp->VK->Prop:=fun xs H Q=>∃(r:Addr) (i j:Int),xs=[.ref r]/\H r=some (.ext (rngP i j r))/\(-(2^62)≤i/\i<2^62/\-(2^62)≤j/\j<2^62)/\(j-i).toNat≤1000 ∧
 ∀l,H l=none->Q (.ref l) (upd H l (.tup ((List.range (j-i).toNat).map fun k:Nat=>V.int (i+(k:Int)))))
theorem qzjz(hc:X.calm=true):CallR X (.type "tuple") rTR:=by
 intro pins s σ H xs us Q I r h;obtain⟨ra,i,j,rfl,e,⟨h1,h2,h3,h4⟩,hn,q⟩:=h;obtain⟨u,rfl,rx⟩:=vals1 r;cases rx;obtain⟨⟨t,u,v,hr⟩,_⟩:=I.hok ra _ e;have en:Builtin.Range.rangeSize i j 1=((j-i).toNat:Nat):=by
  rw[rangeSize_one];split<;>omega
 refine qziz (I.ok.hd hc) hr (small_one h1 h2 h3 h4) en (Nat.le_trans hn (by decide)) fun h' tk acc' kp hle it=>?_;have hv:Vals ((List.range (j-i).toNat).map fun k:Nat=>V.int (i+(k:Int))) acc'.toList:=by
  have:=qkpz acc'.toList i fun k v hk=>by
   obtain⟨t,e⟩:=it.2 k v (by simpa using hk);exact⟨t,by rw[e,Int.mul_one]⟩
  rw[show acc'.toList.length=(j-i).toNat by rw[Array.length_toList];exact it.1] at this;exact this
 refine⟨.ref h'.objs.size,_,I.laid (fun b o e=>Heap.get?_push_of_some _ (kp b o e)) hle (show ObjOk X.prog X.w _ _ _ (.tup ((List.range (j-i).toNat).map fun k:Nat=>V.int (i+(k:Int)))) from⟨?_,acc'.toList,hv,?_⟩),rfl,q _ (I.hok.fresh hle)⟩
 ·rw[List.length_map,List.length_range];exact Nat.le_trans hn (by decide)
 ·exact⟨_,Heap.get?_push_size _ rfl,rfl,⟨0,by simp⟩,rfl⟩
end
section
variable {X:Cx} {a:Expr} {ta:TA3} {p p2 pos pos2:Pos}
def eTR1(ta:TA3):TE3:=fun τ G Q=>ta τ G fun ds G1=>match ds with
 |[.int j]=>(0≤j/\j≤1000)/\Q (.tup (rngL 0 j.toNat)) G1
 |_=>False
theorem qzkz(hc:X.calm=true)(hm:X.mg "range" = none)(hml:X.mg "tuple" = none)(ha:PA3 X [a] ta)(hg:Gl X "range":=by rfl)(hgl:Gl X "tuple":=by rfl)(hs:notStar a=true:=by rfl):
  PE3 X (.Call (.Name "tuple" p) [.Call (.Name "range" p2) [a] [] pos2] [] pos) (eTR1 ta):=
 qxz (qeaz (qzjz hc) hgl hml boot_tuple (qbqz (qzfz hg hm ha (qnz hs)) qccz)) fun σ H Q ⟨τ,G,Q3,RS,RG,h,k⟩=>⟨τ,G,_,RS,RG,h,fun vs H1 ds G1 h1 S1 R1 q1=>by
  rcases ds with _|⟨d,_|⟨d2,ds⟩⟩
  ·exact q1.elim
  ·cases d with
   |int j=>
    obtain⟨v,r,rfl,z1,z2⟩:=h1.inv;cases z2.inv0;rw[qtz z1];obtain⟨q1,q⟩:=q1;refine⟨j,rfl,fun r hr=>⟨r,0,j,rfl,quz,⟨by decide,by decide,by omega,by omega⟩,by omega,fun l hl=>?_⟩⟩;have RG2:=R1.laid (o:=.ext (rngP 0 j r)) hr;rw[Int.sub_zero];refine k _ _ (.tup (rngL 0 j.toNat)) G1 ?_ ((S1.trans (.laid hr)).trans (.laid hl)) (RG2.laid hl) q;unfold rngL;rw[show ((List.range j.toNat).map fun k:Nat=>D.int (0+(k:Int)))=((List.range j.toNat).map fun k:Nat=>0+(k:Int)).map D.int by rw[List.map_map];rfl];rw[show ((List.range j.toNat).map fun k:Nat=>V.int (0+(k:Int)))=((List.range j.toNat).map fun k:Nat=>0+(k:Int)).map V.int by rw[List.map_map];rfl];unfold Hv;exact⟨l,_,rfl,.of quz,Hvs.ints _⟩
   |_=>exact q1.elim
  ·cases d<;>exact q1.elim⟩
theorem qzlz(hc:X.calm=true)(hm:X.mg "range" = none)(hml:X.mg "tuple" = none)(ha:QA X [a] ta)(hg:Gl X "range":=by rfl)(hgl:Gl X "tuple":=by rfl)(hs:notStar a=true:=by rfl):
  QE X (.Call (.Name "tuple" p) [.Call (.Name "range" p2) [a] [] pos2] [] pos) (eTR1 ta):=⟨qzkz hc hm hml ha.of hg hgl hs⟩
end
end L3
namespace My
open PySem L2 L3
theorem qcpz(m i:Nat):(Builtin.bitAnd (m:Int) ((2^i:Nat):Int)==0) = !m.testBit i:=by
 have e:Builtin.bitAnd (m:Int) ((2^i:Nat):Int)=((m &&& 2^i:Nat):Int):=by
  unfold Builtin.bitAnd;rw[decide_eq_true (Int.natCast_nonneg m),decide_eq_true (Int.natCast_nonneg _)];rfl
 rw[e];cases hb:m.testBit i with
 |true=>
  have h1:(m &&& 2^i).testBit i=true:=by rw[Nat.testBit_and,hb,Nat.testBit_two_pow_self];rfl
  have h2:(m &&& 2^i)≠0:=fun z=>by
   rw[z,Nat.zero_testBit] at h1;cases h1
  show ((((m &&& 2^i:Nat)):Int)==0)=false;rw[beq_eq_false_iff_ne];omega
 |false=>
  have h2:(m &&& 2^i)=0:=Nat.eq_of_testBit_eq fun k=>by
   rw[Nat.testBit_and,Nat.testBit_two_pow,Nat.zero_testBit];by_cases e:i=k
   ·subst e;rw[hb];rfl
   ·rw[decide_eq_false e,Bool.and_false]
  rw[h2];rfl
theorem qmjz(m j:Nat):m=2^(j+1)*(m / 2^(j+1))+m%2^(j+1):=(Nat.div_add_mod _ _).symm
theorem qffz{b j:Nat}(h:b<2^(j+1)):b.testBit j=decide (2^j≤b):=by
 rw[Nat.testBit_eq_decide_div_mod_eq];have hp:=Nat.two_pow_pos j;rw[Nat.pow_succ] at h;by_cases hb:2^j≤b
 ·have:b / 2^j=1:=Nat.div_eq_of_lt_le (by omega) (by omega);rw[this,decide_eq_true hb];rfl
 ·rw[Nat.div_eq_of_lt (by omega),decide_eq_false hb];rfl
theorem qzmz{b j i:Nat}(h:b<2^j)(hi:i<j):(b+2^j).testBit i=b.testBit i:=by
 rw[Nat.add_comm];exact Nat.testBit_two_pow_add_gt hi b
theorem qcqz{m j:Nat}(h:m.testBit j=false)(i:Nat):(m+2^j).testBit i=(decide (i=j)||m.testBit i):=by
 have hs:=qmjz m j;have hb:m%2^(j+1)<2^(j+1):=Nat.mod_lt _ (Nat.two_pow_pos _);generalize m / 2^(j+1)=q at hs;generalize m%2^(j+1)=b at hs hb;have hbj:b.testBit j=false:=by
  rw[hs,Nat.testBit_two_pow_mul_add _ hb,if_pos (Nat.lt_succ_self j)] at h;exact h
 rw[qffz hb] at hbj;have hlt:¬2^j≤b:=of_decide_eq_false hbj;have hp:2^(j+1)=2^j*2:=Nat.pow_succ ..;have hb2:b+2^j<2^(j+1):=by omega
 have e1:m+2^j=2^(j+1)*q+(b+2^j):=by omega
 rw[e1,Nat.testBit_two_pow_mul_add _ hb2,hs,Nat.testBit_two_pow_mul_add _ hb];by_cases hi:i<j+1
 ·rw[if_pos hi,if_pos hi];by_cases e:i=j
  ·subst e;rw[qffz hb2,decide_eq_true (by omega),decide_eq_true rfl];rfl
  ·rw[qzmz (by omega) (by omega),decide_eq_false e];rfl
 ·rw[if_neg hi,if_neg hi,decide_eq_false (by omega)];rfl
theorem qmkz{m j:Nat}(h:m.testBit j=true):2^j≤m:=Nat.ge_two_pow_of_testBit h
theorem qg3z{m j:Nat}(h:m.testBit j=true):(m-2^j).testBit j=false:=by
 have hs:=qmjz m j;have hb:m%2^(j+1)<2^(j+1):=Nat.mod_lt _ (Nat.two_pow_pos _);generalize m / 2^(j+1)=q at hs;generalize m%2^(j+1)=b at hs hb;have hbj:b.testBit j=true:=by
  rw[hs,Nat.testBit_two_pow_mul_add _ hb,if_pos (Nat.lt_succ_self j)] at h;exact h
 rw[qffz hb] at hbj;have hle:2^j≤b:=of_decide_eq_true hbj;have hp:2^(j+1)=2^j*2:=Nat.pow_succ ..;have hb2:b-2^j<2^(j+1):=by omega
 have e1:m-2^j=2^(j+1)*q+(b-2^j):=by omega
 rw[e1,Nat.testBit_two_pow_mul_add _ hb2,if_pos (Nat.lt_succ_self j),qffz hb2];exact decide_eq_false (by omega)
theorem qmlz{m j:Nat}(h:m.testBit j=true)(i:Nat):m.testBit i=(decide (i=j)||(m-2^j).testBit i):=by
 have:=qcqz (qg3z h) i;rw[Nat.sub_add_cancel (qmkz h)] at this;exact this
theorem qg4z{m j n:Nat}(h:m.testBit j=false)(hm:m<2^n)(hj:j<n):m+2^j<2^n:=by
 refine Nat.lt_pow_two_of_testBit _ fun i hi=>?_;rw[qcqz h,decide_eq_false (by omega),Bool.false_or];exact Nat.testBit_lt_two_pow (Nat.lt_of_lt_of_le hm (Nat.pow_le_pow_right (by decide) hi))
def upF(j:Nat)(f:Nat->Bool)(m:Nat):Bool:=f m||(m.testBit j&&f (m-2^j))
def upA(f:Nat->Bool):Nat->Nat->Bool
 |0=>f
 |j+1=>upF j (upA f j)
theorem qznz(f:Nat->Bool)(j:Nat):∀m,upA f j m=true↔∃r,f r=true/\(∀i,r.testBit i=true->m.testBit i=true)/\∀i,j≤i->r.testBit i=m.testBit i:=by
 induction j with
 |zero=>
  intro m;constructor
  ·intro h;exact⟨m,h,fun _ h=>h,fun _ _=>rfl⟩
  ·rintro⟨r,h,_,h2⟩;have:r=m:=Nat.eq_of_testBit_eq fun i=>h2 i (Nat.zero_le _);rw[←this];exact h
 |succ j ih=>
  intro m;show (upA f j m||(m.testBit j&&upA f j (m-2^j)))=true↔_;rw[Bool.or_eq_true,Bool.and_eq_true,ih m,ih (m-2^j)];constructor
  ·rintro (⟨r,h1,h2,h3⟩|⟨hb,r,h1,h2,h3⟩)
   ·exact⟨r,h1,h2,fun i hi=>h3 i (by omega)⟩
   ·have key:=qmlz hb;refine⟨r,h1,fun i hi=>?_,fun i hi=>?_⟩
    ·rw[key,h2 i hi,Bool.or_true]
    ·rw[h3 i (by omega),key i,decide_eq_false (by omega),Bool.false_or]
  ·rintro⟨r,h1,h2,h3⟩;by_cases e:r.testBit j=m.testBit j
   ·refine .inl ⟨r,h1,h2,fun i hi=>?_⟩;by_cases ei:i=j
    ·subst ei;exact e
    ·exact h3 i (by omega)
   ·have hrj:r.testBit j=false:=by
     cases hr:r.testBit j with
     |false=>rfl
     |true=>rw[hr,h2 j hr] at e;exact absurd rfl e
    have hmj:m.testBit j=true:=by
     cases hm:m.testBit j with
     |true=>rfl
     |false=>rw[hrj,hm] at e;exact absurd rfl e
    have key:=qmlz hmj;refine .inr ⟨hmj,r,h1,fun i hi=>?_,fun i hi=>?_⟩
    ·have:=h2 i hi;rw[key i] at this;by_cases ei:i=j
     ·subst ei;rw[hrj] at hi;cases hi
     ·rw[decide_eq_false ei,Bool.false_or] at this;exact this
    ·by_cases ei:i=j
     ·subst ei;rw[hrj,qg3z hmj]
     ·rw[h3 i (by omega),key i,decide_eq_false ei,Bool.false_or]
end My
namespace My
open PySem L2 L3
def qcrz:Sp3:=fun ds G Q=>∃n:Nat,ds=[.int n]/\n≤60/\Q (.int ((2^n:Nat):Int)) G
def qzoz:TS3:=sAug 1 (eVar 1) rIAdd3
def qzpz:TS3:=sRet (eVar 1)
def qzqz:TS3:=sSeq (sFor (iRng1 (aCons (eVar 0) (aNil))) (hName 2) (qzoz)) qzpz
def qmmz:TS3:=sSeq (sAsg (eC (.int 1)) (hName 1)) qzqz
theorem qzrz:∀ds G Q,qcrz ds G Q->qmmz (endsOf Q) (start3 ["times","number","turn"] ds) G:=by
 rintro ds G Q ⟨n,rfl,hn,q⟩;refine⟨⟨by omega,by omega⟩,?_⟩;show forGo _ _ _ _ (rngL 0 ((n:Int)).toNat) _ _;rw[Int.toNat_natCast,rng0];refine qwz (fun ds τ G'=>G'=G/\∃(k:Nat) (x2:Option D),ds.length+k=n/\τ=[some (.int n),some (.int ((2^k:Nat):Int)),x2]) (fun _ _ _ _=>trivial) ?_ ?_ _ _ _ ⟨rfl,0,none,by simp,rfl⟩
 ·rintro d ds τ G' N ⟨rfl,k,x2,hk,rfl⟩ hN;refine hN _ _ ⟨rfl,k+1,some d,by simp at hk;omega,?_⟩;show [some (D.int n),some (D.int (((2^k:Nat):Int)+((2^k:Nat):Int))),_]=_;rw[show ((2^k:Nat):Int)+((2^k:Nat):Int)=((2^(k+1):Nat):Int) by rw[Nat.pow_succ];omega]
 ·rintro τ G' ⟨rfl,k,x2,hk,rfl⟩;have:k=n:=by simpa using hk
  rw[this];exact qjz q
def bitD(i:Nat):D:=.int ((2^i:Nat):Int)
def bitsD(n:Nat):List D:=(List.range n).map bitD
def rmkF(x:Nat):List Clk->Nat->Nat
 |[],_=>0
 |c::cs,i=>(if rg x c=true then 2^i else 0)+rmkF x cs (i+1)
def rmk(cs:List Clk)(x:Nat):Nat:=rmkF x cs 0
def ringI(cs:List Clk)(x i:Nat):Bool:=match cs[i]? with
 |some c=>rg x c
 |none=>false
theorem qmnz(x:Nat):∀(cs:List Clk) (i k:Nat),(rmkF x cs i).testBit k=(decide (i≤k)&&ringI cs x (k-i))
 |[],i,k=>by
  show (0:Nat).testBit k=_;rw[Nat.zero_testBit];show false=(decide (i≤k)&&false);rw[Bool.and_false]
 |c::cs,i,k=>by
  have ih:=qmnz x cs (i+1);have h0:(rmkF x cs (i+1)).testBit i=false:=by rw[ih,decide_eq_false (by omega),Bool.false_and]
  have hr:∀j,ringI (c::cs) x (j+1)=ringI cs x j:=fun j=>rfl;show ((if rg x c=true then 2^i else 0)+rmkF x cs (i+1)).testBit k=_;by_cases hk:k=i
  ·subst hk;rw[decide_eq_true (Nat.le_refl k),Nat.sub_self,Bool.true_and];show _=rg x c;by_cases hg:rg x c=true
   ·rw[if_pos hg,Nat.add_comm,qcqz h0,decide_eq_true rfl,hg];rfl
   ·rw[if_neg hg,Nat.zero_add,h0];cases h:rg x c with
    |false=>rfl
    |true=>exact absurd h hg
  ·have e:((if rg x c=true then 2^i else 0)+rmkF x cs (i+1)).testBit k=(rmkF x cs (i+1)).testBit k:=by
    split
    ·rw[Nat.add_comm,qcqz h0,decide_eq_false hk,Bool.false_or]
    ·rw[Nat.zero_add]
   rw[e,ih];by_cases hik:i<k
   ·obtain⟨j,rfl⟩:∃j,k=i+1+j:=⟨k-(i+1),by omega⟩;rw[decide_eq_true (by omega),decide_eq_true (by omega),show i+1+j-(i+1)=j by omega,show i+1+j-i=j+1 by omega,hr]
   ·rw[decide_eq_false (by omega),decide_eq_false (by omega)];rfl
theorem qg5z(cs:List Clk)(x k:Nat):(rmk cs x).testBit k=ringI cs x k:=by
 show (rmkF x cs 0).testBit k=_;rw[qmnz,decide_eq_true (Nat.zero_le _)];rfl
theorem qmoz(cs:List Clk)(x:Nat):rmk cs x<2^cs.length:=Nat.lt_pow_two_of_testBit _ fun i hi=>by
 rw[qg5z];unfold ringI;rw[List.getElem?_eq_none hi]
def qdtz:Sp3:=fun ds G Q=>∃(cs:List Clk) (p:Addr),ds=[csD cs,.obj p]/\G p=some (.lst (bitsD cs.length))/\RndS cs/\∀q G',New G q (.lst (tabD (rmk cs) (rnd cs))) G'->Q (.obj q) G'
def qzsz:TS3:=sAugS (eVar 3) (eVar 6) (eVar 5) (· + ·)
def qztz:TS3:=sFor (iRng3 (aCons (eOp rIx3 (eVar 4) (eC (.int 1))) (aCons (eVar 2) (aCons (eOp rIx3 (eVar 4) (eC (.int 0))) (aNil))))) (hName 6) (qzsz)
def qzuz:TS3:=sRet (eVar 3)
def qzvz:TS3:=sSeq (sFor (iZip (aCons (eVar 0) (aCons (eVar 1) (aNil)))) (hTup 2 (hCons (hName 4) (hCons (hName 5) (hNil)))) (qztz)) qzuz
def qzwz:TS3:=sSeq (sAsg (eOp rMul3 (eLst (aCons (eC (.int 0)) (aNil))) (eVar 2)) (hName 3)) qzvz
def qzxz:TS3:=sSeq (sDrop (eCall qb3z (aCons (eVar 2) (aCons (eC (.int 10000)) (aNil))))) qzwz
def qmpz:TS3:=sSeq (sAsg (eCall qa9z (aCons (eVar 0) (aNil))) (hName 2)) qzxz
theorem qzyz:∀ds G Q,qdtz ds G Q->qmpz (endsOf Q) (start3 ["clocks","bits","many","marks","clock","bit","number"] ds) G:=by
 rintro ds G Q ⟨cs,pb,rfl,hpb,⟨ok,hl,hn⟩,q⟩;refine⟨cs,rfl,ok,by omega,?_⟩;generalize hN:rnd cs=n at hn q;refine⟨n,10000,rfl,by omega,?_⟩;intro p0 G0 n0;refine⟨_,n0.at_,⟨by omega,by omega⟩,?_,fun p G1 n1=>?_⟩
 ·rw[Int.toNat_natCast];exact Nat.le_trans (show 1*n≤10000 by omega) (by decide)
 rw[Int.toNat_natCast,zeros] at n1;have m1:New G p (.lst (tabD (fun _=>0) n)) G1:=⟨n0.sub.of_none n1.non,n0.sub.trans n1.sub,n1.at_⟩;refine⟨cs.map cD,bitsD cs.length,rfl,m1.sub _ _ hpb,?_⟩;unfold bitsD;rw[qdjz cD bitD,List.range_eq_range'];refine qwz (fun ds τ G'=>∃(zs:List Clk) (i:Nat) (f:Nat->Nat) (x4 x5 x6:Option D),ds=(zs.zip (List.range' i zs.length)).map (fun p=>D.tup [cD p.1,bitD p.2])/\τ=[some (csD cs),some (.obj pb),some (.int n),some (.obj p),x4,x5,x6]/\New G p (.lst (tabD f n)) G'/\(∀z∈zs,z∈cs)/\∀x,f x+rmkF x zs i=rmk cs x) (fun _ _ _ h=>by
  obtain⟨_,_,_,_,_,_,_,_,m,_⟩:=h;exact⟨rfl,by rw[←List.range_eq_range'];exact m.sub _ _ hpb⟩) ?_ ?_ _ _ _ ⟨cs,0,fun _=>0,none,none,none,rfl,rfl,m1,fun _ h=>h,fun x=>Nat.zero_add _⟩
 ·rintro d ds τ G' N ⟨zs,i,f,x4,x5,x6,e,rfl,m2,hm,hf⟩ hN';cases zs with
  |nil=>cases e
  |cons c zs=>
   rw[List.length_cons,List.range'_succ,List.zip_cons_cons,List.map_cons] at e;cases e;obtain⟨hv,h1000⟩:=ok c (hm c List.mem_cons_self);have v1:=hv.1;have v2:=hv.2.1;have v3:=hv.2.2;refine⟨rfl,.int c.2,rfl,.int c.1,rfl,⟨by omega,by omega,by omega,by omega,v1,by omega⟩,?_⟩;show forGo _ _ _ _ (rngC c.2 c.1 (cntR c.2 n c.1)) _ _;rw[qgxz hv];refine qwz (fun ds τ G'=>∃(ms:List Nat) (g:Nat->Nat) (x6:Option D),ds=ms.map nD/\τ=[some (csD cs),some (.obj pb),some (.int n),some (.obj p),some (cD c),some (bitD i),x6]/\New G p (.lst (tabD g n)) G'/\ms.Nodup/\(∀x∈ms,x<n/\rg x c=true)/\∀x,x<n->g x=f x+(if rg x c=true/\x∉ms then 2^i else 0)) (fun _ _ _ _=>trivial) ?_ ?_ _ _ _ ⟨nums c n,f,x6,rfl,rfl,m2,qgyz hv n,fun x hx=>(qbez hv).mp hx,fun x hx=>?_⟩
   ·rintro d ds τ G2 N2 ⟨ms,g,x6,e,rfl,m3,nd,hr,hg⟩ hN2;cases ms with
    |nil=>cases e
    |cons x ms=>
     cases e;have nd':=List.nodup_cons.mp nd;obtain⟨hx,hrx⟩:=hr x List.mem_cons_self;refine⟨_,_,m3.at_,qgzz hx,?_⟩;refine⟨_,x,m3.at_,?_,?_⟩
     ·rw[qckz];exact qe9z hx
     ·refine hN2 _ _ ⟨ms,fun y=>if y=x then g x+2^i else g y,_,rfl,rfl,⟨m3.non,Sub.updN m3.sub m3.non,?_⟩,nd'.2,fun y hy=>hr y (List.mem_cons_of_mem _ hy),fun y hy=>?_⟩
      ·rw[q8z,←qlsz hx];rfl
      ·have:=hg y hy;by_cases hyx:y=x
       ·subst hyx;rw[if_neg (fun z=>z.2 List.mem_cons_self)] at this;rw[if_pos (⟨hrx,nd'.1⟩:rg y c=true/\y∉ms)];show (if y=y then g y+2^i else g y)=f y+2^i;rw[if_pos rfl,this];rfl
       ·show (if y=x then g x+2^i else g y)=_;rw[if_neg hyx,this];have:y∉x::ms↔y∉ms:=by simp[hyx]
        simp only[this]
   ·rintro τ G2 ⟨ms,g,x6,e,rfl,m3,nd,hr,hg⟩;have e0:ms=[]:=by cases ms with
     |nil=>rfl
     |cons z zs=>cases e
    subst e0;refine hN' _ _ ⟨zs,i+1,fun x=>f x+(if rg x c=true then 2^i else 0),_,_,_,rfl,rfl,?_,fun z hz=>hm z (List.mem_cons_of_mem _ hz),fun x=>?_⟩
    ·rw[qe8z (g:=g) fun x hx=>?_]
     ·exact m3
     ·rw[hg x hx];simp
    ·have:=hf x;show f x+(if rg x c=true then 2^i else 0)+rmkF x zs (i+1)=rmk cs x;rw[←this,Nat.add_assoc];rfl
   ·rw[if_neg]
    ·rfl
    ·rintro⟨z1,z2⟩;exact z2 ((qbez hv).mpr ⟨hx,z1⟩)
 ·rintro τ G' ⟨zs,i,f,x4,x5,x6,e,rfl,m2,hm,hf⟩;have e0:zs=[]:=by cases zs with
   |nil=>rfl
   |cons z zs=>
    rw[List.length_cons,List.range'_succ,List.zip_cons_cons,List.map_cons] at e;cases e
  subst e0;refine qjz (q p G' ?_);rw[qe8z (g:=f) fun x _=>by have:=hf x;have e:rmkF x [] i=0:=rfl;omega];exact m2
def tabB(f:Nat->Bool)(n:Nat):List D:=(List.range n).map fun x=>D.bl (f x)
theorem qbpz(f:Nat->Bool)(n:Nat):(tabB f n).length=n:=by simp[tabB]
theorem qg6z{f:Nat->Bool}{n x:Nat}(h:x<n):atI (tabB f n) (x:Int)=some (.bl (f x)):=qbiz (by
 unfold tabB;rw[List.getElem?_map,List.getElem?_range h];rfl)
theorem qmqz{f:Nat->Bool}{n x:Nat}{v:Bool}(h:x<n):(tabB f n).set x (.bl v)=tabB (fun y=>if y=x then v else f y) n:=by
 refine List.ext_getElem? fun i=>?_;unfold tabB;rw[List.getElem?_set];by_cases hi:i<n
 ·by_cases hx:x=i
  ·subst hx;simp[h]
  ·have:¬i=x:=fun z=>hx z.symm;simp[hi,hx,this]
 ·have:¬x=i:=fun z=>hi (by omega);simp[hi,this]
theorem qmrz{f g:Nat->Bool}{n:Nat}(h:∀x,x<n->f x=g x):tabB f n=tabB g n:=by
 unfold tabB;refine List.map_congr_left fun x hx=>?_;rw[h x (List.mem_range.mp hx)]
theorem falses(n:Nat):(List.replicate n [D.bl false]).flatten=tabB (fun _=>false) n:=by
 unfold tabB
 induction n with
 |zero=>rfl
 |succ n ih=>
  rw[List.replicate_succ',List.flatten_append,ih,List.range_succ,List.map_append];rfl
def mkB(cs:List Clk)(m:Nat):Bool:=(List.range (rnd cs)).any fun x=>rmk cs x==m
def wantF(cs:List Clk):Nat->Bool:=upA (mkB cs) cs.length
def qduz:Sp3:=fun ds G Q=>∃(cs:List Clk) (p:Addr),ds=[csD cs,.obj p]/\G p=some (.lst (bitsD cs.length))/\RndS cs/\∀q G',New G q (.lst (tabB (wantF cs) (2^cs.length))) G'->Q (.obj q) G'
def qzzz:TS3:=sAsg (eC (.bl true)) (hSub (eVar 2) (eVar 3))
def qz0z:TS3:=sIf (eAnd (eTest (eOp (rEq3 true) (eOp rAnd3 (eVar 3) (eVar 4)) (eC (.int 0)))) (eTest (eOp rIx3 (eVar 2) (eOp rSub3 (eVar 3) (eVar 4))))) (sAsg (eC (.bl true)) (hSub (eVar 2) (eVar 3))) (sNext)
def qz1z:TS3:=sFor (iRng1 (aCons (eCB qvz (aCons (eVar 2) (aNil))) (aNil))) (hName 3) (qz0z)
def qz2z:TS3:=sRet (eVar 2)
def qz3z:TS3:=sSeq (sFor (iSeq (eVar 1)) (hName 4) (qz1z)) qz2z
def qz4z:TS3:=sSeq (sFor (iSeq (eCall qdtz (aCons (eVar 0) (aCons (eVar 1) (aNil))))) (hName 3) (qzzz)) qz3z
def qmsz:TS3:=sSeq (sAsg (eOp rMul3 (eLst (aCons (eC (.bl false)) (aNil))) (eCall qcrz (aCons (eCB qvz (aCons (eVar 0) (aNil))) (aNil)))) (hName 2)) qz4z
theorem pow12{n:Nat}(h:n≤12):2^n≤4096:=Nat.le_trans (Nat.pow_le_pow_right (by decide) h) (by decide)
theorem qz5z:∀ds G Q,qduz ds G Q->qmsz (endsOf Q) (start3 ["clocks","bits","wanted","mark","bit"] ds) G:=by
 rintro ds G Q ⟨cs,pb,rfl,hpb,hs,q⟩;have hlm:(cs.map cD).length=cs.length:=List.length_map ..;have hl:=hs.2.1;have hp:=pow12 hl;intro p0 G0 n0;refine⟨cs.length,by show [D.int (((cs.map cD).length:Nat):Int)]=_;rw[hlm],by omega,?_⟩;have hp2:((2^cs.length:Nat):Int).toNat=2^cs.length:=Int.toNat_natCast _;generalize hM:2^cs.length=M at hp hp2 q;refine⟨_,n0.at_,⟨by omega,by omega⟩,?_,fun p G1 n1=>?_⟩
 ·rw[hp2];exact Nat.le_trans (show 1*M≤4096 by omega) (by decide)
 rw[hp2,falses] at n1;have m1:New G p (.lst (tabB (fun _=>false) M)) G1:=⟨n0.sub.of_none n1.non,n0.sub.trans n1.sub,n1.at_⟩;refine⟨cs,pb,rfl,m1.sub _ _ hpb,hs,fun pm G2 n2=>⟨_,n2.at_,?_⟩⟩;have hnm:pm≠p:=fun z=>by
  have:=n2.non;rw[z,m1.at_] at this;cases this
 have m2:New G p (.lst (tabB (fun _=>false) M)) G2:=⟨m1.non,m1.sub.trans n2.sub,n2.sub _ _ m1.at_⟩;refine qwz (fun ds τ G'=>∃(xs:List Nat) (f:Nat->Bool) (x3:Option D),ds=xs.map (fun x=>nD (rmk cs x))/\τ=[some (csD cs),some (.obj pb),some (.obj p),x3,none]/\New G p (.lst (tabB f M)) G'/\G' pm=some (.lst (tabD (rmk cs) (rnd cs)))/\(∀m,(f m||xs.any fun x=>rmk cs x==m)=mkB cs m)) (fun _ _ _ h=>by
  obtain⟨_,_,_,_,_,_,h,_⟩:=h;exact h) ?_ ?_ _ _ _ ⟨List.range (rnd cs),fun _=>false,none,rfl,rfl,m2,n2.at_,fun m=>rfl⟩
 ·rintro d ds τ G3 N ⟨xs,f,x3,e,rfl,m3,hpm,hf⟩ hN;cases xs with
  |nil=>cases e
  |cons x xs=>
   cases e;have hx:rmk cs x<M:=by rw[←hM];exact qmoz cs x
   refine⟨_,rmk cs x,m3.at_,by rw[qbpz];exact qe9z hx,?_⟩;refine hN _ _ ⟨xs,fun y=>if y=rmk cs x then true else f y,_,rfl,rfl,⟨m3.non,Sub.updN m3.sub m3.non,by rw[q8z,←qmqz hx]⟩,by rw[qadz hnm];exact hpm,fun m=>?_⟩;rw[←hf m,List.any_cons];by_cases e:m=rmk cs x
   ·subst e;show ((if rmk cs x=rmk cs x then true else f (rmk cs x))||_)=_;simp
   ·show ((if m=rmk cs x then true else f m)||_)=_;rw[if_neg e,show (rmk cs x==m)=false by rw[beq_eq_false_iff_ne];exact fun z=>e z.symm,Bool.false_or]
 ·rintro τ G3 ⟨xs,f,x3,e,rfl,m3,hpm,hf⟩;have e0:xs=[]:=by cases xs with
   |nil=>rfl
   |cons z zs=>cases e
  subst e0;have hf':∀m,f m=mkB cs m:=fun m=>by
   rw[←hf m];show f m=(f m||false);rw[Bool.or_false]
  rw[qmrz fun m _=>hf' m] at m3;refine⟨_,m3.sub _ _ hpb,?_⟩;refine qwz (fun ds τ G'=>∃(j k:Nat) (x3 x4:Option D),j+k=cs.length/\ds=(List.range' j k).map bitD/\τ=[some (csD cs),some (.obj pb),some (.obj p),x3,x4]/\New G p (.lst (tabB (upA (mkB cs) j) M)) G') (fun _ _ _ h=>by
   obtain⟨_,_,_,_,_,_,_,m⟩:=h;exact m.sub _ _ hpb) ?_ ?_ _ _ _ ⟨0,cs.length,x3,none,by omega,by unfold bitsD;rw[List.range_eq_range'],rfl,m3⟩
  ·rintro d ds τ G4 N ⟨j,k,x3,x4,hjk,e,rfl,m4⟩ hN;cases k with
   |zero=>cases e
   |succ k=>
    rw[List.range'_succ,List.map_cons] at e;cases e;have hj:j<cs.length:=by omega
    generalize hF:upA (mkB cs) j=F at m4;refine⟨_,m4.at_,⟨by rw[qbpz];omega,by rw[qbpz];omega⟩,?_⟩;show forGo _ _ _ _ (rngL 0 ((((tabB F M).length:Nat):Int)).toNat) _ _;rw[qbpz,Int.toNat_natCast,rng0,List.range_eq_range'];refine qwz (fun ds τ G'=>∃(a b:Nat) (g:Nat->Bool) (x3:Option D),a+b=M/\ds=(List.range' a b).map nD/\τ=[some (csD cs),some (.obj pb),some (.obj p),x3,some (bitD j)]/\New G p (.lst (tabB g M)) G'/\∀y,g y=if y<a then upF j F y else F y) (fun _ _ _ _=>trivial) ?_ ?_ _ _ _ ⟨0,M,F,x3,by omega,rfl,rfl,m4,fun y=>by rw[if_neg (by omega)]⟩
    ·rintro d ds τ G5 N2 ⟨a,b,g,x3,hab,e,rfl,m5,hg⟩ hN2;cases b with
     |zero=>cases e
     |succ b=>
      rw[List.range'_succ,List.map_cons] at e;cases e;have ha:a<M:=by omega
      have keep:F a=upF j F a->N2 [some (csD cs),some (.obj pb),some (.obj p),some (nD a),some (bitD j)] G5:=fun hk=>by
       refine hN2 _ _ ⟨a+1,b,g,_,by omega,rfl,rfl,m5,fun y=>?_⟩;rw[hg y];by_cases h1:y<a
       ·rw[if_pos h1,if_pos (by omega)]
       ·by_cases h2:y=a
        ·subst h2;rw[if_neg h1,if_pos (by omega)];exact hk
        ·rw[if_neg h1,if_neg (by omega)]
      refine⟨trivial,_,_,rfl,rfl,Nat.zero_le _,fun h=>?_,fun h=>⟨nofun,fun _=>keep ?_⟩⟩
      ·have h':(!(Builtin.bitAnd (a:Int) ((2^j:Nat):Int)==0))=true:=h;rw[qcpz,Bool.not_not] at h';have hle:=qmkz h';have hpos:=Nat.two_pow_pos j;have hy:a-2^j<M:=Nat.lt_of_le_of_lt (Nat.sub_le _ _) ha;have hya:a-2^j<a:=Nat.sub_lt (Nat.lt_of_lt_of_le hpos hle) hpos;have gy:g (a-2^j)=F (a-2^j):=by
        rw[hg,if_pos hya];unfold upF;rw[qg3z h',Bool.false_and,Bool.or_false]
       have eix:((a:Int)-((2^j:Nat):Int))=((a-2^j:Nat):Int):=(Int.ofNat_sub hle).symm;refine⟨_,.bl (g (a-2^j)),m5.at_,?_,fun hw=>?_,fun hw=>keep ?_⟩
       ·show atI (tabB g M) ((a:Int)-((2^j:Nat):Int))=_;rw[eix];exact qg6z hy
       ·have hw':g (a-2^j)=true:=hw;refine⟨_,a,m5.at_,by rw[qbpz];exact qe9z ha,?_⟩;refine hN2 _ _ ⟨a+1,b,fun y=>if y=a then true else g y,_,by omega,rfl,rfl,⟨m5.non,Sub.updN m5.sub m5.non,by rw[q8z,←qmqz ha]⟩,fun y=>?_⟩;show (if y=a then true else g y)=_;by_cases h2:y=a
        ·subst h2;rw[if_pos rfl,if_pos (by omega)];unfold upF;rw[h',←gy,hw',Bool.true_and,Bool.or_true]
        ·rw[if_neg h2,hg y];by_cases h1:y<a
         ·rw[if_pos h1,if_pos (by omega)]
         ·rw[if_neg h1,if_neg (by omega)]
       ·have hw':g (a-2^j)=false:=hw;unfold upF;rw[←gy,hw',Bool.and_false,Bool.or_false]
      ·have h':(!(Builtin.bitAnd (a:Int) ((2^j:Nat):Int)==0))=false:=h;rw[qcpz,Bool.not_not] at h';unfold upF;rw[h',Bool.false_and,Bool.or_false]
    ·rintro τ G5 ⟨a,b,g,x3,hab,e,rfl,m5,hg⟩;have e0:b=0:=by cases b with
      |zero=>rfl
      |succ b=>rw[List.range'_succ,List.map_cons] at e;cases e
     subst e0;refine hN _ _ ⟨j+1,k,_,_,by omega,rfl,rfl,?_⟩;rw[qmrz (g:=g) fun y hy=>?_]
     ·exact m5
     ·rw[hg y,if_pos (by omega)];show upF j (upA (mkB cs) j) y=_;rw[hF]
  ·rintro τ G4 ⟨j,k,x3,x4,hjk,e,rfl,m4⟩;have e0:k=0:=by cases k with
    |zero=>rfl
    |succ b=>rw[List.range'_succ,List.map_cons] at e;cases e
   subst e0;refine qjz (q p G4 ?_);have ej:j=cs.length:=by omega
   subst ej;exact m4
end My
namespace My
open PySem L2 L3
def spB(f:Nat->Bool)(n m:Nat):Bool:=!f m&&(List.range n).all fun j=>m.testBit j||f (m+2^j)
def qdvz:Sp3:=fun ds G Q=>∃(q p:Addr) (f:Nat->Bool) (n m:Nat),ds=[.obj q,.obj p,.int m]/\G q=some (.lst (tabB f (2^n)))/\G p=some (.lst (bitsD n))/\m<2^n/\n≤12/\∀G',Sub G G'->Q (.bl (spB f n m)) G'
def qz6z:TS3:=sRet (eCB qbwz (aCons (eComp ["bit"] [2,0] (iSeq (eVar 1)) (hName 0) (eTest (eOp (rEq3 false) (eOp rAnd3 (eVar 1) (eVar 0)) (eC (.int 0)))) (eOp rIx3 (eVar 2) (eOp rAdd3 (eVar 1) (eVar 0)))) (aNil)))
def qmtz:TS3:=sSeq (sIf (eTest (eOp rIx3 (eVar 0) (eVar 2))) (sRet (eC (.bl false))) (sNext)) qz6z
theorem qz7z{α:Type}(p f:α->Bool)(xs:List α):(xs.filter p).all f=xs.all fun x=>!p x||f x:=by
 induction xs with
 |nil=>rfl
 |cons x xs ih=>
  rw[List.filter_cons,List.all_cons,←ih];cases p x with
  |true=>rfl
  |false=>rfl
theorem qz8z:∀ds G Q,qdvz ds G Q->qmtz (endsOf Q) (start3 ["wanted","bits","mark"] ds) G:=by
 rintro ds G Q ⟨qa,pb,f,n,m,rfl,hq,hp,hm,hn,q⟩;refine⟨_,.bl (f m),hq,qg6z hm,fun h=>?_,fun h=>?_⟩
 ·have h':f m=true:=h;have:=q G (Sub.refl _);unfold spB at this;rw[h'] at this;exact qjz this
 ·have h':f m=false:=h;refine⟨_,hp,?_,?_⟩
  ·show (bitsD n).length≤sizeLine;unfold bitsD;rw[List.length_map,List.length_range];exact line1000 (by omega)
  refine q7z (guard:=fun G=>G pb=some (.lst (bitsD n))) (fun τ=>∃x,τ=[x,some (.int m),some (.obj qa)]) bitD (fun j=>!m.testBit j) (fun j=>D.bl (f (m+2^j))) (G:=G) hp (List.range n) [] _ ⟨none,rfl⟩ ?_ ?_
  ·rintro j hj τ K1 K2 ⟨x,rfl⟩ g1 g2;have hj':=List.mem_range.mp hj;refine⟨trivial,_,_,rfl,rfl,Nat.zero_le _,fun h=>?_,fun h=>?_⟩
   ·have h':(Builtin.bitAnd (m:Int) ((2^j:Nat):Int)==0)=true:=h;rw[qcpz] at h';have hb:m.testBit j=false:=by simpa using h'
    exact⟨_,.bl (f (m+2^j)),hq,qg6z (qg4z hb hm hj'),g1 h' _ ⟨_,rfl⟩⟩
   ·have h':(Builtin.bitAnd (m:Int) ((2^j:Nat):Int)==0)=false:=h;rw[qcpz] at h';exact g2 h' _ ⟨_,rfl⟩
  intro p1 G1 n1;rw[List.nil_append] at n1;refine⟨_,_,n1.at_,qdiz _ _,?_⟩;rw[all_map,qz7z];have:=q G1 n1.sub;unfold spB at this;rw[h'] at this;simp only[Bool.not_false,Bool.true_and] at this;simp only[Bool.not_not];exact qjz this
def kepI(n m:Nat):List Int:=((List.range n).filter fun i=>!m.testBit i).map fun i:Nat=>(i:Int)
def qdwz:Sp3:=fun ds G Q=>∃(p:Addr) (n m:Nat),ds=[.obj p,.int m]/\G p=some (.lst (bitsD n))/\n≤12/\∀G',Sub G G'->Q (tupI (kepI n m)) G'
def qmuz:TS3:=sRet (eCB qa3z (aCons (eComp ["place","bit"] [1] (iEnum (aCons (eVar 0) (aNil))) (hTup 2 (hCons (hName 0) (hCons (hName 1) (hNil)))) (eTest (eOp (rEq3 false) (eOp rAnd3 (eVar 2) (eVar 1)) (eC (.int 0)))) (eVar 0)) (aNil)))
theorem qg7z{α:Type}:∀xs:List α,xs.zip xs=xs.map fun x=>(x,x)
 |[]=>rfl
 |x::xs=>by
  show (x,x)::xs.zip xs=(x,x)::xs.map fun x=>(x,x);rw[qg7z xs]
theorem qz9z(n:Nat):enumD (bitsD n)=(List.range n).map fun i=>D.tup [nD i,bitD i]:=by
 unfold bitsD;rw[qlqz bitD,List.length_range,qg7z,List.map_map];rfl
theorem q0az:∀ds G Q,qdwz ds G Q->qmuz (endsOf Q) (start3 ["bits","mark"] ds) G:=by
 rintro ds G Q ⟨pb,n,m,rfl,hp,hn,q⟩;refine⟨_,hp,?_⟩;rw[qz9z];refine⟨?_,?_⟩
 ·show ((List.range n).map _).length≤sizeLine;rw[List.length_map,List.length_range];exact line1000 (by omega)
 refine q7z (guard:=fun G=>seqD G (.obj pb) (bitsD n)) (fun τ=>∃x y,τ=[x,y,some (.int m)]) (fun i=>D.tup [nD i,bitD i]) (fun i=>!m.testBit i) nD (G:=G) hp (List.range n) [] _ ⟨none,none,rfl⟩ ?_ ?_
 ·rintro i hi τ K1 K2 ⟨x,y,rfl⟩ g1 g2;refine⟨rfl,trivial,_,_,rfl,rfl,Nat.zero_le _,fun h=>g1 ?_ _ ⟨_,_,rfl⟩,fun h=>g2 ?_ _ ⟨_,_,rfl⟩⟩
  ·have h':(Builtin.bitAnd (m:Int) ((2^i:Nat):Int)==0)=true:=h;rw[qcpz] at h';exact h'
  ·have h':(Builtin.bitAnd (m:Int) ((2^i:Nat):Int)==0)=false:=h;rw[qcpz] at h';exact h'
 intro p1 G1 n1;rw[List.nil_append] at n1;refine⟨_,n1.at_,?_⟩;have e:D.tup (((List.range n).filter fun i=>!m.testBit i).map nD)=tupI (kepI n m):=by
  unfold tupI kepI;rw[List.map_map];rfl
 rw[e];exact qjz (q G1 n1.sub)
def lcL(cs:List Clk):List (List Int):=((List.range (2^cs.length)).filter (spB (wantF cs) cs.length)).map (kepI cs.length)
def qcsz:Sp3:=fun ds G Q=>∃cs:List Clk,ds=[csD cs]/\RndS cs/\(lcL cs).length<64/\(∀ns∈lcL cs,ns≠[])/\∀(p:Addr) (js:List (List Int)) (G':Gp),js.Perm (lcL cs)->RiseL js->New G p (.lst (js.map tupI)) G'->Q (.obj p) G'
def q0bz:TS3:=sRet (eCB qc2z (aCons (eComp ["mark"] [1] (iSeq (eVar 3)) (hName 0) (tNoTest3) (eCall qdwz (aCons (eVar 1) (aCons (eVar 0) (aNil))))) (aNil)))
def q0cz:TS3:=sSeq (sAsg (eComp ["mark"] [2,1] (iRng1 (aCons (eCB qvz (aCons (eVar 2) (aNil))) (aNil))) (hName 0) (eTest (eCall qdvz (aCons (eVar 1) (aCons (eVar 2) (aCons (eVar 0) (aNil)))))) (eVar 0)) (hName 3)) q0bz
def q0dz:TS3:=sSeq (sAsg (eCall qduz (aCons (eVar 0) (aCons (eVar 1) (aNil)))) (hName 2)) q0cz
def qmvz:TS3:=sSeq (sAsg (eComp ["place"] [] (iRng1 (aCons (eCB qvz (aCons (eVar 0) (aNil))) (aNil))) (hName 0) (tNoTest3) (eCall qcrz (aCons (eVar 0) (aNil)))) (hName 1)) q0dz
theorem q0ez:∀ds G Q,qcsz ds G Q->qmvz (endsOf Q) (start3 ["clocks","bits","wanted","spared"] ds) G:=by
 rintro ds G Q ⟨cs,rfl,hs,h64,hne,q⟩;have hlm:(cs.map cD).length=cs.length:=List.length_map ..;have hl:=hs.2.1;have hp12:=pow12 hl;refine⟨⟨by rw[hlm];omega,by rw[hlm];omega⟩,?_,?_⟩
 ·show (rngL 0 ((((cs.map cD).length:Nat):Int)).toNat).length≤sizeLine;rw[qbjz,hlm];exact line1000 (by omega)
 show compGo _ _ _ _ _ (rngL 0 ((((cs.map cD).length:Nat):Int)).toNat) _ _ _;rw[hlm,Int.toNat_natCast,rng0];refine q7z (fun τ=>∃x,τ=[x]) nD (fun _=>true) bitD (G:=G) trivial (List.range cs.length) [] _ ⟨none,rfl⟩ ?_ ?_
 ·rintro i hi τ K1 K2 ⟨x,rfl⟩ g1 g2;have:=List.mem_range.mp hi;exact⟨fun _=>⟨i,rfl,by omega,g1 rfl _ ⟨_,rfl⟩⟩,nofun⟩
 intro pb G1 n1;rw[filter_all,List.nil_append] at n1;have e1:G1 pb=some (.lst (bitsD cs.length)):=n1.at_;refine⟨cs,pb,rfl,e1,hs,fun pw G2 n2=>?_⟩;have e2:=n2.sub _ _ e1;have ew:=n2.at_;refine⟨_,ew,⟨Int.le_trans (by decide) (Int.natCast_nonneg _),by rw[qbpz];exact Int.lt_of_le_of_lt (Int.ofNat_le.mpr hp12) (by decide)⟩,?_,?_⟩
 ·show (rngL 0 ((((tabB (wantF cs) (2^cs.length)).length:Nat):Int)).toNat).length≤sizeLine;rw[qbjz,qbpz,Int.toNat_natCast];exact Nat.le_trans hp12 (by decide)
 show compGo _ _ _ _ _ (rngL 0 ((((tabB (wantF cs) (2^cs.length)).length:Nat):Int)).toNat) _ _ _;rw[qbpz,Int.toNat_natCast,rng0];refine qdbz (fun ds acc τ G'=>Sub G2 G'/\(∃x,τ=[x,some (.obj pw),some (.obj pb)])/\∃ms as:List Nat,ds=ms.map nD/\(∀m∈ms,m<2^cs.length)/\acc=as.map nD/\as++ms.filter (spB (wantF cs) cs.length)=(List.range (2^cs.length)).filter (spB (wantF cs) cs.length)) (fun _ _ _ _ _=>trivial) ?_ ?_ _ _ _ _ ⟨Sub.refl _,⟨none,rfl⟩,_,[],rfl,fun m hm=>List.mem_range.mp hm,rfl,rfl⟩
 ·rintro d ds acc τ G3 K1 K2 ⟨s3,⟨x,rfl⟩,ms,as,e,hms,rfl,ha⟩ g1 g2;cases ms with
  |nil=>cases e
  |cons m ms=>
   cases e;refine⟨pw,pb,wantF cs,cs.length,m,rfl,s3 _ _ ew,s3 _ _ e2,hms m List.mem_cons_self,hl,fun G4 s4=>⟨fun h=>?_,fun h=>?_⟩⟩
   ·have h':spB (wantF cs) cs.length m=true:=h;rw[List.filter_cons,if_pos h'] at ha;exact g1 _ _ _ ⟨s3.trans s4,⟨_,rfl⟩,ms,as++[m],rfl,fun y hy=>hms y (List.mem_cons_of_mem _ hy),by rw[List.map_append];rfl,by rw[←ha,List.append_assoc];rfl⟩
   ·have h':spB (wantF cs) cs.length m=false:=h;rw[List.filter_cons,if_neg (by rw[h'];decide)] at ha;exact g2 _ _ ⟨s3.trans s4,⟨_,rfl⟩,ms,as,rfl,fun y hy=>hms y (List.mem_cons_of_mem _ hy),rfl,ha⟩
 ·rintro acc τ G3 ⟨s3,⟨x,rfl⟩,ms,as,e,hms,rfl,ha⟩ p4 G4 n4;have e0:ms=[]:=by cases ms with
   |nil=>rfl
   |cons z zs=>cases e
  subst e0;rw[List.filter_nil,List.append_nil] at ha;have hal:as.length<64:=by
   unfold lcL at h64;rw[List.length_map] at h64;rw[ha];exact h64
  have e4:=n4.sub _ _ (s3 _ _ e2);refine⟨_,n4.at_,?_,?_⟩
  ·show (as.map nD).length≤sizeLine;rw[List.length_map];exact line1000 (by omega)
  refine qdbz (fun ds acc τ G'=>Sub G4 G'/\(∃x,τ=[x,some (.obj pb)])/\∃ms bs:List Nat,ds=ms.map nD/\acc=(bs.map (kepI cs.length)).map tupI/\bs++ms=as) (fun _ _ _ _ h=>h.1 _ _ n4.at_) ?_ ?_ _ _ _ _ ⟨Sub.refl _,⟨none,rfl⟩,as,[],rfl,rfl,rfl⟩
  ·rintro d ds acc τ G5 K1 K2 ⟨s5,⟨x,rfl⟩,ms,bs,e,rfl,hb⟩ g1 g2;cases ms with
   |nil=>cases e
   |cons m ms=>
    cases e;refine⟨fun _=>⟨pb,cs.length,m,rfl,s5 _ _ e4,hl,fun G6 s6=>g1 _ _ _ ⟨s5.trans s6,⟨_,rfl⟩,ms,bs++[m],rfl,?_,by rw[←hb,List.append_assoc];rfl⟩⟩,nofun⟩;rw[List.map_append,List.map_append];rfl
  ·rintro acc τ G5 ⟨s5,⟨x,rfl⟩,ms,bs,e,rfl,hb⟩ p6 G6 n6;have e0:ms=[]:=by cases ms with
    |nil=>rfl
    |cons z zs=>cases e
   subst e0;rw[List.append_nil] at hb;subst hb;have el:bs.map (kepI cs.length)=lcL cs:=by
    unfold lcL;rw[ha]
   rw[el] at n6;have s6:=n1.sub.trans (n2.sub.trans (s3.trans (n4.sub.trans (s5.trans n6.sub))));exact⟨lcL cs,n6.at_,h64,hne,fun p7 mss G7 n7 hp hr=>qjz (q p7 mss G7 hp hr ⟨s6.of_none n7.non,s6.trans n7.sub,n7.at_⟩)⟩
def qdxz:Sp3:=fun ds G Q=>∃cs:List Clk,ds=[csD cs]/\RndS cs/\(lcL cs).length<64/\(∀ns∈lcL cs,ns≠[])/\∀G',Sub G G'->(lcL cs=[]->Q .non G')/\∀ps,ps∈lcL cs->(∀qs∈lcL cs,ps.length≤qs.length)->Q (tupI ps) G'
def qmwz:TS3:=sRet (eMinK (eCall qcsz (aCons (eVar 0) (aNil))))
theorem q0fz:∀ds G Q,qdxz ds G Q->qmwz (endsOf Q) (start3 ["clocks"] ds) G:=by
 rintro ds G Q ⟨cs,rfl,hs,h64,hne,q⟩;refine⟨cs,rfl,hs,h64,hne,fun p js G1 hp hr n1=>?_⟩;obtain⟨q0,q1⟩:=q G1 n1.sub;refine⟨js.map fun ns=>ns.map D.int,by rw[n1.at_,List.map_map];rfl,fun e=>?_,fun ds hd hm=>?_⟩
 ·have:js=[]:=by simpa using e
  rw[this] at hp;exact qjz (q0 (List.nil_perm.mp hp))
 ·obtain⟨ps,hps,rfl⟩:=List.mem_map.mp hd;refine qjz (q1 ps (hp.mem_iff.mp hps) fun qs hqs=>?_);have:=hm _ (List.mem_map.mpr ⟨qs,hp.mem_iff.mpr hqs,rfl⟩);rw[List.length_map,List.length_map] at this;exact this
def lonO(cs:List Clk)(c:Clk):Option Nat:=(nums c (rnd cs)).find? fun x=>cntN cs x==1
def qb8z:Sp3:=fun ds G Q=>∃cs:List Clk,ds=[csD cs]/\RndS cs/\∀p G',New G p (.lst (cs.map fun c=>oN (lonO cs c))) G'->Q (.obj p) G'
def q0gz:TS3:=sRet (eComp ["clock"] [1] (iSeq (eVar 0)) (hName 0) (tNoTest3) (eCall qclz (aCons (eVar 0) (aCons (eVar 1) (aCons (eC (.int 1)) (aNil))))))
def qmxz:TS3:=sSeq (sAsg (eCall qb4z (aCons (eVar 0) (aCons (eCall qa9z (aCons (eVar 0) (aNil))) (aNil)))) (hName 1)) q0gz
theorem q0hz:∀ds G Q,qb8z ds G Q->qmxz (endsOf Q) (start3 ["clocks","counts"] ds) G:=by
 rintro ds G Q ⟨cs,rfl,⟨ok,hl,hn⟩,q⟩;refine⟨cs,rfl,ok,by omega,cs,rnd cs,rfl,ok,by omega,hn,fun p1 G1 n1=>⟨?_,?_⟩⟩
 ·show (cs.map cD).length≤sizeLine;rw[List.length_map];exact line1000 (by omega)
 refine q7z (fun τ=>∃x,τ=[x,some (.obj p1)]) cD (fun _=>true) (fun c=>oN (lonO cs c)) (G:=G1) trivial cs [] _ ⟨none,rfl⟩ ?_ ?_
 ·rintro c hc τ K1 K2 ⟨x,rfl⟩ g1 g2;exact⟨fun _=>⟨c,p1,cntN cs,rnd cs,1,rfl,n1.at_,(ok c hc).1,by have:=(ok c hc).2;omega,hn,g1 rfl _ ⟨_,rfl⟩⟩,nofun⟩
 ·intro p2 G2 n2;rw[filter_all,List.nil_append] at n2;exact qjz (q p2 G2 ⟨n1.sub.of_none n2.non,n1.sub.trans n2.sub,n2.at_⟩)
def lonA(cs:List Clk)(i:Nat):Option Nat:=match cs[i]? with
 |some c=>lonO cs c
 |none=>none
def idlL(cs:List Clk):List Nat:=(List.range cs.length).filter fun i=>(lonA cs i).isNone
theorem qmyz(cs:List Clk):(cs.map fun c=>oN (lonO cs c))=(List.range cs.length).map fun i=>oN (lonA cs i):=by
 refine List.ext_getElem? fun i=>?_;rw[List.getElem?_map,List.getElem?_map];by_cases h:i<cs.length
 ·rw[List.getElem?_range h,List.getElem?_eq_getElem h];show some (oN (lonO cs cs[i]))=some (oN (lonA cs i));unfold lonA;rw[List.getElem?_eq_getElem h]
 ·rw[List.getElem?_eq_none (by omega),List.getElem?_eq_none (by rw[List.length_range];omega)];rfl
def qb9z:Sp3:=fun ds G Q=>∃cs:List Clk,ds=[csD cs]/\RndS cs/\∀p G',New G p (.lst ((idlL cs).map nD)) G'->Q (.obj p) G'
def qmzz:TS3:=sRet (eComp ["place","number"] [] (iEnum (aCons (eCall qb8z (aCons (eVar 0) (aNil))) (aNil))) (hTup 2 (hCons (hName 0) (hCons (hName 1) (hNil)))) (eTest (eOp (rIs3 false) (eVar 1) (eC .non))) (eVar 0))
theorem q0iz:∀ds G Q,qb9z ds G Q->qmzz (endsOf Q) (start3 ["clocks"] ds) G:=by
 rintro ds G Q ⟨cs,rfl,hs,q⟩;have hl:=hs.2.1;refine⟨cs,rfl,hs,fun p1 G1 n1=>?_⟩;rw[qmyz] at n1;refine⟨_,n1.at_,?_⟩;rw[qlqz (fun i=>oN (lonA cs i)),List.length_range,qg7z,List.map_map];refine⟨?_,?_⟩
 ·show ((List.range cs.length).map _).length≤sizeLine;rw[List.length_map,List.length_range];exact line1000 (by omega)
 refine q7z (guard:=fun G=>seqD G (.obj p1) ((List.range cs.length).map fun i=>oN (lonA cs i))) (fun τ=>∃x y,τ=[x,y]) ((fun p:Nat×Nat=>D.tup [nD p.1,oN (lonA cs p.2)]) ∘ fun x=>(x,x)) (fun i=>(lonA cs i).isNone) nD (G:=G1) n1.at_ (List.range cs.length) [] _ ⟨none,none,rfl⟩ ?_ ?_
 ·rintro i hi τ K1 K2 ⟨x,y,rfl⟩ g1 g2;cases e:lonA cs i with
  |none=>
   show hTup 2 _ (D.tup [nD i,oN (lonA cs i)]) _ _ _;rw[e];rw[e] at g1;exact⟨rfl,fun _=>g1 rfl _ ⟨_,_,rfl⟩,nofun⟩
  |some v=>
   show hTup 2 _ (D.tup [nD i,oN (lonA cs i)]) _ _ _;rw[e];rw[e] at g2;exact⟨rfl,nofun,fun _=>g2 rfl _ ⟨_,_,rfl⟩⟩
 ·intro p2 G2 n2;rw[List.nil_append] at n2;exact qjz (q p2 G2 ⟨n1.sub.of_none n2.non,n1.sub.trans n2.sub,n2.at_⟩)
def qdyz:Sp3:=fun ds G Q=>∃(cs:List Clk) (i:Nat),ds=[csD cs,.int i]/\RndS cs/\i<cs.length/\∀G',Sub G G'->Q (oN (lonA cs i)) G'
def q0jz:TS3:=sRet (eOp rIx3 (eCall qb8z (aCons (eVar 0) (aNil))) (eVar 1))
def qm0z:TS3:=sSeq (sDrop (eCall qdnz (aCons (eVar 0) (aCons (eVar 1) (aNil))))) q0jz
theorem q0kz:∀ds G Q,qdyz ds G Q->qm0z (endsOf Q) (start3 ["clocks","place"] ds) G:=by
 rintro ds G Q ⟨cs,i,rfl,hs,hi,q⟩;refine⟨cs,i,rfl,hi,cs,rfl,hs,fun p1 G1 n1=>?_⟩;rw[qmyz] at n1;exact⟨_,_,n1.at_,qbiz (by rw[List.getElem?_map,List.getElem?_range hi];rfl),qjz (q G1 n1.sub)⟩
def lonN(cs:List Clk)(c:Clk):Nat:=(lonO cs c).getD 0
def qdzz:Sp3:=fun ds G Q=>∃cs:List Clk,ds=[csD cs]/\RndS cs/\(∀c∈cs,lonO cs c≠none)/\∀G',Sub G G'->Q (tupI (cs.map fun c=>((lonN cs c:Nat):Int))) G'
def q0lz:TS3:=sRet (eCB qa3z (aCons (eVar 1) (aNil)))
def q0mz:TS3:=sSeq (sIf (eTest (eOp (rIn3 false) (eC .non) (eVar 1))) (sRet (eC .non)) (sNext)) q0lz
def qm1z:TS3:=sSeq (sAsg (eCall qb8z (aCons (eVar 0) (aNil))) (hName 1)) q0mz
theorem q0nz:∀ds G Q,qdzz ds G Q->qm1z (endsOf Q) (start3 ["clocks","numbers"] ds) G:=by
 rintro ds G Q ⟨cs,rfl,hs,hno,q⟩;refine⟨cs,rfl,hs,fun p1 G1 n1=>?_⟩;have e:(cs.map fun c=>oN (lonO cs c))=(cs.map fun c=>((lonN cs c:Nat):Int)).map D.int:=by
  rw[List.map_map];refine List.map_congr_left fun c hc=>?_;show oN (lonO cs c)=D.int ((lonN cs c:Nat):Int);unfold lonN;cases h:lonO cs c with
  |none=>exact absurd h (hno c hc)
  |some v=>rfl
 rw[e] at n1;refine⟨.non,(cs.map fun c=>((lonN cs c:Nat):Int)).map Dat.D.int,rfl,.inl (q0z n1.at_ (qdoz _)),by rw[qboz];decide,?_⟩;have hf:(((cs.map fun c=>((lonN cs c:Nat):Int)).map Dat.D.int).any fun v=>v.eqb .non)=false:=by
  rw[List.any_map];refine List.any_eq_false.mpr fun x hx=>?_;exact fun h=>by cases h
 show Br (((cs.map fun c=>((lonN cs c:Nat):Int)).map Dat.D.int).any fun v=>v.eqb .non) _ _;rw[hf];exact⟨nofun,fun _=>⟨_,n1.at_,qjz (q G1 n1.sub)⟩⟩
end My
namespace My
open PySem L2 L3
theorem qbgz{cs:List Clk}{x i:Nat}(h:ringI cs x i=true):i<cs.length:=by
 unfold ringI at h;refine Classical.byContradiction fun hn=>?_;rw[List.getElem?_eq_none (by omega)] at h;cases h
theorem qbaz{cs:List Clk}{x i:Nat}{c:Clk}(h:cs[i]?=some c):ringI cs x i=rg x c:=by
 unfold ringI;rw[h]
theorem qfgz{cs:List Clk}{m:Nat}(hm:m<2^cs.length):wantF cs m=true↔∃x,x<rnd cs/\∀i,ringI cs x i=true->m.testBit i=true:=by
 unfold wantF;rw[qznz];constructor
 ·rintro⟨r,h1,h2,_⟩;obtain⟨x,hx,e⟩:=List.any_eq_true.mp h1;have e:rmk cs x=r:=eq_of_beq e;refine⟨x,List.mem_range.mp hx,fun i hi=>h2 i ?_⟩;rw[←e,qg5z];exact hi
 ·rintro⟨x,hx,h⟩;refine⟨rmk cs x,List.any_eq_true.mpr ⟨x,List.mem_range.mpr hx,beq_self_eq_true _⟩,fun i hi=>h i (by rw[←qg5z];exact hi),fun i hi=>?_⟩;have hp:2^cs.length≤2^i:=Nat.pow_le_pow_right (by decide) hi;rw[Nat.testBit_lt_two_pow (Nat.lt_of_lt_of_le hm hp),Nat.testBit_lt_two_pow (Nat.lt_of_lt_of_le (qmoz cs x) hp)]
structure LC(cs:List Clk)(ps:List Int):Prop where
 b:∀x∈ps,0≤x/\x<(cs.length:Int)
 r:ps.Pairwise (· < ·)
 cov:∀x,x<rnd cs->∃i:Nat,((i:Nat):Int)∈ps/\ringI cs x i=true
 need:∀j:Nat,((j:Nat):Int)∈ps->∃x,x<rnd cs/\∀i:Nat,((i:Nat):Int)∈ps->ringI cs x i=true->i=j
theorem kep_mem{n m i:Nat}:((i:Nat):Int)∈kepI n m↔i<n/\m.testBit i=false:=by
 unfold kepI;rw[List.mem_map];constructor
 ·rintro⟨k,hk,e⟩;have e:k=i:=by omega
  subst e;obtain⟨h1,h2⟩:=List.mem_filter.mp hk;exact⟨List.mem_range.mp h1,by simpa using h2⟩
 ·rintro⟨h1,h2⟩;exact⟨i,List.mem_filter.mpr ⟨List.mem_range.mpr h1,by rw[h2];rfl⟩,rfl⟩
theorem qm2z{n m:Nat}:∀x∈kepI n m,0≤x/\x<(n:Int):=fun x hx=>by
 obtain⟨k,hk,rfl⟩:=List.mem_map.mp hx;have:=List.mem_range.mp (List.mem_filter.mp hk).1;omega
theorem qm3z(n m:Nat):(kepI n m).Pairwise (· < ·):=by
 unfold kepI;rw[List.pairwise_map];exact (List.pairwise_lt_range.filter _).imp fun {a b} h=>by omega
theorem qm4z{cs:List Clk}{m:Nat}(hm:m<2^cs.length):spB (wantF cs) cs.length m=true↔(∀x,x<rnd cs->∃i,ringI cs x i=true/\m.testBit i=false)/\∀j,j<cs.length->m.testBit j=false->∃x,x<rnd cs/\∀i,ringI cs x i=true->i=j∨m.testBit i=true:=by
 unfold spB;rw[Bool.and_eq_true,List.all_eq_true];constructor
 ·rintro⟨h1,h2⟩;constructor
  ·intro x hx;refine Classical.byContradiction fun hn=>?_;have:wantF cs m=true:=(qfgz hm).mpr ⟨x,hx,fun i hi=>by
    cases hb:m.testBit i with
    |true=>rfl
    |false=>exact absurd ⟨i,hi,hb⟩ hn⟩
   rw[this] at h1;cases h1
  ·intro j hj hb;have h3:=h2 j (List.mem_range.mpr hj);rw[hb,Bool.false_or] at h3;obtain⟨x,hx,h4⟩:=(qfgz (qg4z hb hm hj)).mp h3;refine⟨x,hx,fun i hi=>?_⟩;have h5:=h4 i hi;rw[qcqz hb,Bool.or_eq_true,decide_eq_true_iff] at h5;exact h5
 ·rintro⟨h1,h2⟩;refine⟨?_,fun j hj=>?_⟩
  ·cases hw:wantF cs m with
   |false=>rfl
   |true=>
    obtain⟨x,hx,h3⟩:=(qfgz hm).mp hw;obtain⟨i,hi,hb⟩:=h1 x hx;rw[h3 i hi] at hb;cases hb
  ·cases hb:m.testBit j with
   |true=>rfl
   |false=>
    rw[Bool.false_or];have hj:=List.mem_range.mp hj;obtain⟨x,hx,h3⟩:=h2 j hj hb;refine (qfgz (qg4z hb hm hj)).mpr ⟨x,hx,fun i hi=>?_⟩;rw[qcqz hb,Bool.or_eq_true,decide_eq_true_iff];exact h3 i hi
theorem lc_mem{cs:List Clk}{ps:List Int}:ps∈lcL cs↔LC cs ps:=by
 unfold lcL;rw[List.mem_map];constructor
 ·rintro⟨m,hm,rfl⟩;obtain⟨h1,h2⟩:=List.mem_filter.mp hm;have hlt:=List.mem_range.mp h1;obtain⟨h3,h4⟩:=(qm4z hlt).mp h2;refine⟨qm2z,qm3z _ _,fun x hx=>?_,fun j hj=>?_⟩
  ·obtain⟨i,hi,hb⟩:=h3 x hx;exact⟨i,kep_mem.mpr ⟨qbgz hi,hb⟩,hi⟩
  ·obtain⟨hj1,hj2⟩:=kep_mem.mp hj;obtain⟨x,hx,h5⟩:=h4 j hj1 hj2;refine⟨x,hx,fun i hi hr=>?_⟩;rcases h5 i hr with e|e
   ·exact e
   ·rw[(kep_mem.mp hi).2] at e;cases e
 ·intro h;obtain⟨m,hm,hb⟩:=qyaz cs.length fun i=>!decide (((i:Nat):Int)∈ps);have mem:∀i:Nat,((i:Nat):Int)∈kepI cs.length m↔((i:Nat):Int)∈ps:=fun i=>by
   rw[kep_mem];constructor
   ·rintro⟨h1,h2⟩;rw[hb i h1] at h2;simpa using h2
   ·intro hi;have:=h.b _ hi;have hl:i<cs.length:=by omega
    refine⟨hl,?_⟩;rw[hb i hl,decide_eq_true hi];rfl
  have nb:∀i,i<cs.length->(m.testBit i=false↔((i:Nat):Int)∈ps):=fun i hi=>by
   rw[←mem i,kep_mem];exact⟨fun h=>⟨hi,h⟩,fun h=>h.2⟩
  refine⟨m,List.mem_filter.mpr ⟨List.mem_range.mpr hm,(qm4z hm).mpr ⟨fun x hx=>?_,fun j hj hbj=>?_⟩⟩,qfdz (qm3z _ _) h.r fun z=>?_⟩
  ·obtain⟨i,hi,hr⟩:=h.cov x hx;exact⟨i,hr,(nb i (qbgz hr)).mpr hi⟩
  ·obtain⟨x,hx,h5⟩:=h.need j ((nb j hj).mp hbj);refine⟨x,hx,fun i hi=>?_⟩;cases hbi:m.testBit i with
   |true=>exact .inr rfl
   |false=>exact .inl (h5 i ((nb i (qbgz hi)).mp hbi) hi)
  ·constructor
   ·intro hz;have:=qm2z z hz;have e:z=((z.toNat:Nat):Int):=by omega
    rw[e] at hz ⊢;exact (mem _).mp hz
   ·intro hz;have:=h.b z hz;have e:z=((z.toNat:Nat):Int):=by omega
    rw[e] at hz ⊢;exact (mem _).mpr hz
theorem qm5z(cs:List Clk):(lcL cs).Nodup:=by
 unfold lcL;show List.Pairwise _ _;rw[List.pairwise_map];refine List.Pairwise.imp_of_mem (fun {a b} ha hb h e=>h ?_) (List.nodup_range.filter _);have ha':=List.mem_range.mp (List.mem_filter.mp ha).1;have hb':=List.mem_range.mp (List.mem_filter.mp hb).1;refine Nat.eq_of_testBit_eq fun i=>?_;by_cases hi:i<cs.length
 ·have key:((i:Nat):Int)∈kepI cs.length a↔((i:Nat):Int)∈kepI cs.length b:=by rw[e]
  rw[kep_mem,kep_mem] at key;cases h1:a.testBit i with
  |false=>exact (key.mp ⟨hi,h1⟩).2.symm
  |true=>
   cases h2:b.testBit i with
   |true=>rfl
   |false=>
    have:=(key.mpr ⟨hi,h2⟩).2;rw[h1] at this;cases this
 ·have hp:2^cs.length≤2^i:=Nat.pow_le_pow_right (by decide) (by omega);rw[Nat.testBit_lt_two_pow (Nat.lt_of_lt_of_le ha' hp),Nat.testBit_lt_two_pow (Nat.lt_of_lt_of_le hb' hp)]
theorem q0oz{cs:List Clk}(hp:0<rnd cs){ps:List Int}(h:LC cs ps):ps≠[]:=fun e=>by
 obtain⟨i,hi,_⟩:=h.cov 0 hp;rw[e] at hi;cases hi
def allB:Nat->List (List Bool)
 |0=>[[]]
 |n+1=>(allB n).flatMap fun l=>[true::l,false::l]
theorem q0pz(n:Nat):(allB n).length=2^n:=by
 induction n with
 |zero=>rfl
 |succ n ih=>
  show ((allB n).flatMap fun l=>[true::l,false::l]).length=_;have:∀ls:List (List Bool),(ls.flatMap fun l=>[true::l,false::l]).length=ls.length*2:=fun ls=>by
   induction ls with
   |nil=>rfl
   |cons l ls ih2=>
    rw[List.flatMap_cons,List.length_append,ih2];show 2+ls.length*2=(ls.length+1)*2;omega
  rw[this,ih,Nat.pow_succ]
theorem qm6z:∀l:List Bool,l∈allB l.length
 |[]=>List.mem_singleton.mpr rfl
 |b::l=>by
  show b::l∈(allB l.length).flatMap fun l=>[true::l,false::l];refine List.mem_flatMap.mpr ⟨l,qm6z l,?_⟩;cases b<;>simp
def Bd(cs:List Clk):Prop:=∃B:List Clk,B.length≤5/\∀a∈cs,∀b∈cs,a∉B->b∉B->a≠b->∀x:Nat,¬(rg x a=true/\rg x b=true)
def sigB(cs B:List Clk)(ps:List Int):List Bool:=B.map fun z=>(List.range cs.length).any fun i=>decide (((i:Nat):Int)∈ps)&&decide (cs[i]?=some z)
theorem qfhz{cs:List Clk}(nd:cs.Nodup){i j:Nat}{c:Clk}(h1:cs[i]?=some c)(h2:cs[j]?=some c):i=j:=
 (List.getElem?_inj (List.getElem?_eq_some_iff.mp h1).1 nd).mp (h1.trans h2.symm)
theorem qm7z{cs B:List Clk}(nd:cs.Nodup){ps qs:List Int}(e:sigB cs B ps=sigB cs B qs){j:Nat}{c:Clk}(hj:cs[j]?=some c)(hc:c∈B)(h:((j:Nat):Int)∈ps):((j:Nat):Int)∈qs:=by
 have key:=List.map_inj_left.mp e c hc;have h1:((List.range cs.length).any fun i=>decide (((i:Nat):Int)∈ps)&&decide (cs[i]?=some c))=true:=List.any_eq_true.mpr ⟨j,List.mem_range.mpr (List.getElem?_eq_some_iff.mp hj).1,by rw[decide_eq_true h,decide_eq_true hj];rfl⟩;rw[key] at h1;obtain⟨i,_,h2⟩:=List.any_eq_true.mp h1;rw[Bool.and_eq_true,decide_eq_true_iff,decide_eq_true_iff] at h2;rw[qfhz nd hj h2.2];exact h2.1
theorem qm8z{cs B:List Clk}(nd:cs.Nodup)(hB:∀a∈cs,∀b∈cs,a∉B->b∉B->a≠b->∀x:Nat,¬(rg x a=true/\rg x b=true)){ps qs:List Int}(hp:LC cs ps)(hq:LC cs qs)(e:sigB cs B ps=sigB cs B qs){j:Nat}(h:((j:Nat):Int)∈ps):((j:Nat):Int)∈qs:=by
 have hjl:j<cs.length:=by have:=hp.b _ h;omega
 have hj:=List.getElem?_eq_getElem hjl;by_cases hc:cs[j]∈B
 ·exact qm7z nd e hj hc h
 refine Classical.byContradiction fun hn=>?_;obtain⟨x,hx,hx2⟩:=hp.need j h;obtain⟨i0,hi0,hr0⟩:=hp.cov x hx;have e0:=hx2 i0 hi0 hr0;subst e0;obtain⟨i,hi,hr⟩:=hq.cov x hx;have hil:=qbgz hr;have hie:=List.getElem?_eq_getElem hil;by_cases hci:cs[i]∈B
 ·have:=hx2 i (qm7z nd e.symm hie hci hi) hr;subst this;exact hn hi
 ·refine hB cs[i0] (List.getElem_mem hjl) cs[i] (List.getElem_mem hil) hc hci (fun z=>?_) x ⟨?_,?_⟩
  ·have:i0=i:=qfhz nd hj (z▸hie);subst this;exact hn hi
  ·rw[←qbaz hj];exact hr0
  ·rw[←qbaz hie];exact hr
theorem q0qz{cs:List Clk}(nd:cs.Nodup)(h:Bd cs):(lcL cs).length<64:=by
 obtain⟨B,hB5,hB⟩:=h;have h1:((lcL cs).map (sigB cs B)).Nodup:=by
  show List.Pairwise _ _;rw[List.pairwise_map];refine List.Pairwise.imp_of_mem (fun {a b} ha hb hne e=>hne ?_) (qm5z cs);have ha:=lc_mem.mp ha;have hb:=lc_mem.mp hb;refine qfdz ha.r hb.r fun z=>⟨fun hz=>?_,fun hz=>?_⟩
  ·have:=ha.b z hz;have ez:z=((z.toNat:Nat):Int):=by omega
   rw[ez] at hz ⊢;exact qm8z nd hB ha hb e hz
  ·have:=hb.b z hz;have ez:z=((z.toNat:Nat):Int):=by omega
   rw[ez] at hz ⊢;exact qm8z nd hB hb ha e.symm hz
 have h2:((lcL cs).map (sigB cs B)).length≤(allB B.length).length:=h1.length_le_of_subset fun l hl=>by
  obtain⟨ps,_,rfl⟩:=List.mem_map.mp hl;have:(sigB cs B ps).length=B.length:=List.length_map ..;rw[←this];exact qm6z _
 rw[List.length_map,q0pz] at h2;have h3:2^B.length≤2^5:=Nat.pow_le_pow_right (by decide) hB5;omega
theorem q0rz{cs:List Clk}(k:Nat):∀ps:List Int,ps.length≤k->(∀x∈ps,0≤x/\x<(cs.length:Int))->ps.Pairwise (· < ·)->(∀x,x<rnd cs->∃i:Nat,((i:Nat):Int)∈ps/\ringI cs x i=true)->∃qs,LC cs qs:=by
 induction k with
 |zero=>
  intro ps hl hb hr hc;have e:ps=[]:=List.length_eq_zero_iff.mp (by omega);exact⟨ps,hb,hr,hc,fun j hj=>by rw[e] at hj;cases hj⟩
 |succ k ih=>
  intro ps hl hb hr hc;by_cases hn:∀j:Nat,((j:Nat):Int)∈ps->∃x,x<rnd cs/\∀i:Nat,((i:Nat):Int)∈ps->ringI cs x i=true->i=j
  ·exact⟨ps,hb,hr,hc,hn⟩
  ·obtain⟨j,hj⟩:=Classical.not_forall.mp hn;obtain⟨hj1,hj2⟩:=Classical.not_imp.mp hj;have hlt:(ps.filter fun x=>decide (x≠((j:Nat):Int))).length<ps.length:=List.length_filter_lt_length_iff_exists.mpr ⟨_,hj1,by simp⟩;refine ih (ps.filter fun x=>decide (x≠((j:Nat):Int))) (by omega) (fun x hx=>hb x (List.mem_filter.mp hx).1) (hr.filter _) fun x hx=>?_;refine Classical.byContradiction fun hno=>hj2 ⟨x,hx,fun i hi hri=>?_⟩;refine Classical.byContradiction fun hij=>hno ⟨i,List.mem_filter.mpr ⟨hi,decide_eq_true fun z=>hij (by omega)⟩,hri⟩
def rngI(n:Nat):List Int:=(List.range n).map fun i:Nat=>(i:Int)
theorem rngI_mem{n i:Nat}:((i:Nat):Int)∈rngI n↔i<n:=by
 unfold rngI;rw[List.mem_map];constructor
 ·rintro⟨k,hk,e⟩;have:=List.mem_range.mp hk;omega
 ·intro h;exact⟨i,List.mem_range.mpr h,rfl⟩
theorem qm9z(n:Nat):(rngI n).Pairwise (· < ·):=by
 unfold rngI;rw[List.pairwise_map];exact List.pairwise_lt_range.imp fun {a b} h=>by omega
theorem qnaz{n:Nat}:∀x∈rngI n,0≤x/\x<(n:Int):=fun x hx=>by
 obtain⟨k,hk,rfl⟩:=List.mem_map.mp hx;have:=List.mem_range.mp hk;omega
theorem fm_iff{cs:List Clk}:fmO cs=none↔∀x,x<rnd cs->∃i,ringI cs x i=true:=by
 unfold fmO;rw[List.find?_eq_none];constructor
 ·intro h x hx;have h1:=h x (List.mem_range.mpr hx);obtain⟨z,hz,hr⟩:=cnt_pos.mp (show cntN cs x≠0 by simpa using h1);obtain⟨i,hi⟩:=List.getElem?_of_mem hz;exact⟨i,by rw[qbaz hi];exact hr⟩
 ·intro h x hx hc;obtain⟨i,hi⟩:=h x (List.mem_range.mp hx);have hl:=qbgz hi;have he:=List.getElem?_eq_getElem hl;rw[qbaz he] at hi;have:=cnt_pos.mpr ⟨cs[i],List.getElem_mem hl,hi⟩;rw[beq_iff_eq] at hc;exact this hc
theorem lc_some{cs:List Clk}:lcL cs≠[]↔fmO cs=none:=by
 rw[fm_iff];constructor
 ·intro h x hx;obtain⟨ps,hps⟩:=List.exists_mem_of_ne_nil _ h;obtain⟨i,_,hr⟩:=(lc_mem.mp hps).cov x hx;exact⟨i,hr⟩
 ·intro h e;obtain⟨qs,hq⟩:=q0rz (cs:=cs) _ (rngI cs.length) (Nat.le_refl _) qnaz (qm9z _) fun x hx=>by
   obtain⟨i,hi⟩:=h x hx;exact⟨i,rngI_mem.mpr (qbgz hi),hi⟩
  have:=lc_mem.mpr hq;rw[e] at this;cases this
theorem q0sz{cs:List Clk}{ps qs:List Int}(hp:LC cs ps)(hq:LC cs qs)(h:∀z∈qs,z∈ps):qs=ps:=by
 refine qfdz hq.r hp.r fun z=>⟨h z,fun hz=>?_⟩;have:=hp.b z hz;have ez:z=((z.toNat:Nat):Int):=by omega
 rw[ez] at hz ⊢;obtain⟨x,hx,hx2⟩:=hp.need _ hz;obtain⟨i,hi,hr⟩:=hq.cov x hx;rw[←hx2 i (h _ hi) hr];exact hi
theorem q0tz{cs:List Clk}{x i j:Nat}{a b:Clk}(hc:cntN cs x=1)(hi:cs[i]?=some a)(hj:cs[j]?=some b)(ha:rg x a=true)(hb:rg x b=true):i=j:=by
 refine Classical.byContradiction fun hne=>?_;unfold cntN at hc;rcases Nat.lt_or_gt_of_ne hne with h|h
 ·have:=qmez h hi hj ha hb;omega
 ·have:=qmez h hj hi hb ha;omega
theorem qnbz{cs:List Clk}{c:Clk}{x:Nat}(hv:Valid c)(h:lonO cs c=some x):x<rnd cs/\rg x c=true/\cntN cs x=1:=by
 unfold lonO at h;have h1:=List.mem_of_find?_eq_some h;have h2:=List.find?_some h;obtain⟨h3,h4⟩:=(qbez hv).mp h1;exact⟨h3,h4,by simpa using h2⟩
theorem q0uz{cs:List Clk}(hv:∀z∈cs,Valid z){ps:List Int}(h:LC cs ps){i:Nat}(hi:i<cs.length)(hl:lonA cs i≠none):((i:Nat):Int)∈ps:=by
 have he:=List.getElem?_eq_getElem hi;unfold lonA at hl;rw[he] at hl;cases e:lonO cs cs[i] with
 |none=>exact absurd e hl
 |some x=>
  obtain⟨h1,h2,h3⟩:=qnbz (hv _ (List.getElem_mem hi)) e;obtain⟨k,hk,hr⟩:=h.cov x h1;have hkl:=qbgz hr;have hke:=List.getElem?_eq_getElem hkl;rw[qbaz hke] at hr;rw[q0tz h3 he hke h2 hr];exact hk
def cAt(cs:List Clk)(i:Nat):Clk:=(cs[i]?).getD (1,0)
theorem qd0z{cs:List Clk}{i:Nat}(h:i<cs.length):cs[i]?=some (cAt cs i):=by
 unfold cAt;rw[List.getElem?_eq_getElem h];rfl
def chos(cs:List Clk)(ps:List Int):List Clk:=ps.map fun z=>cAt cs z.toNat
structure Ch(cs:List Clk)(ps:List Int):Prop where
 s:RndS cs
 nd:cs.Nodup
 lc:LC cs ps
theorem Ch.mem{cs:List Clk}{ps:List Int}(h:Ch cs ps){c:Clk}(hc:c∈chos cs ps):∃i:Nat,((i:Nat):Int)∈ps/\i<cs.length/\cs[i]?=some c:=by
 obtain⟨z,hz,rfl⟩:=List.mem_map.mp hc;have hb:=h.lc.b z hz;have hl:z.toNat<cs.length:=by omega
 exact⟨z.toNat,by rw[Int.toNat_of_nonneg hb.1];exact hz,hl,qd0z hl⟩
theorem Ch.mem2{cs:List Clk}{ps:List Int}(h:Ch cs ps){i:Nat}(hi:((i:Nat):Int)∈ps):cAt cs i∈chos cs ps:=List.mem_map.mpr ⟨_,hi,rfl⟩
theorem Ch.sub{cs:List Clk}{ps:List Int}(h:Ch cs ps):∀c∈chos cs ps,c∈cs:=fun c hc=>by
 obtain⟨i,_,_,e⟩:=h.mem hc;exact List.mem_of_getElem? e
theorem Ch.len{cs:List Clk}{ps:List Int}(h:Ch cs ps):ps.length≤cs.length:=by
 have hnd:ps.Nodup:=h.lc.r.imp fun {a b} q e=>by omega
 have hsub:∀z∈ps,z∈rngI cs.length:=fun z hz=>by
  have hb:=h.lc.b z hz;have e:z=((z.toNat:Nat):Int):=by omega
  rw[e];exact rngI_mem.mpr (by omega)
 have:=hnd.length_le_of_subset hsub;unfold rngI at this;rw[List.length_map,List.length_range] at this;exact this
theorem Ch.rnd_le{cs:List Clk}{ps:List Int}(h:Ch cs ps):rnd (chos cs ps)≤rnd cs:=by
 have hpos:=qb6z fun z hz=>(h.s.1 z hz).1.1;refine Nat.le_of_dvd hpos (qe7z (Nat.one_dvd _) fun c hc=>qbfz (h.sub c hc))
theorem Ch.rs{cs:List Clk}{ps:List Int}(h:Ch cs ps):RndS (chos cs ps):=⟨fun c hc=>h.s.1 c (h.sub c hc),by
 have h1:=h.len;have h2:=h.s.2.1;unfold chos;rw[List.length_map];omega,Nat.le_trans h.rnd_le h.s.2.2⟩
theorem Ch.fm{cs:List Clk}{ps:List Int}(h:Ch cs ps):fmO (chos cs ps)=none:=by
 unfold fmO;rw[List.find?_eq_none];intro x hx hc;have hx:=List.mem_range.mp hx;obtain⟨i,hi,hr⟩:=h.lc.cov x (Nat.lt_of_lt_of_le hx h.rnd_le);rw[qbaz (qd0z (qbgz hr))] at hr;have:=cnt_pos.mpr ⟨_,h.mem2 hi,hr⟩;rw[beq_iff_eq] at hc;exact this hc
theorem Ch.nodup{cs:List Clk}{ps:List Int}(h:Ch cs ps):(chos cs ps).Nodup:=by
 unfold chos;show List.Pairwise _ _;rw[List.pairwise_map];refine List.Pairwise.imp_of_mem (fun {a b} ha hb hab e=>?_) h.lc.r;have h1:=h.lc.b a ha;have h2:=h.lc.b b hb;have e1:=qd0z (cs:=cs) (i:=a.toNat) (by omega);have e2:=qd0z (cs:=cs) (i:=b.toNat) (by omega);have:=qfhz h.nd (e▸e1) e2;omega
theorem qncz{α:Type}{a:α}:∀{l:List α},l.Nodup->a∈l->(∀b∈l,b=a)->l=[a]
 |[],_,h,_=>by cases h
 |[x],_,_,h=>by rw[h x List.mem_cons_self]
 |x::y::l,nd,_,h=>by
  have h1:=h x List.mem_cons_self;have h2:=h y (List.mem_cons_of_mem _ List.mem_cons_self);have:=(List.nodup_cons.mp nd).1;rw[h1,h2] at this;exact absurd List.mem_cons_self this
theorem Ch.alone{cs:List Clk}{ps:List Int}(h:Ch cs ps){c:Clk}(hc:c∈chos cs ps):∃x,x<rnd (chos cs ps)/\rg x c=true/\(chos cs ps).filter (rg x)=[c]:=by
 have hv:∀z∈chos cs ps,Valid z:=fun z hz=>(h.s.1 z (h.sub z hz)).1;have hpos:=qb6z fun z hz=>(hv z hz).1;obtain⟨j,hj,hjl,hje⟩:=h.mem hc;obtain⟨x,hx,hx2⟩:=h.lc.need j hj;obtain⟨i0,hi0,hr0⟩:=h.lc.cov x hx;have e0:=hx2 i0 hi0 hr0;subst e0;rw[qbaz hje] at hr0;have key:∀z∈chos cs ps,rg (((x%rnd (chos cs ps):Nat)):Int) z=rg x z:=fun z hz=>qdmz (hv z hz).1 (qbfz hz) x;refine⟨x%rnd (chos cs ps),Nat.mod_lt _ hpos,by rw[key c hc];exact hr0,?_⟩;rw[List.filter_congr key];refine qncz (h.nodup.filter _) (List.mem_filter.mpr ⟨hc,hr0⟩) fun b hb=>?_;obtain⟨hb1,hb2⟩:=List.mem_filter.mp hb;obtain⟨k,hk,hkl,hke⟩:=h.mem hb1;have:=hx2 k hk (by rw[qbaz hke];exact hb2);subst this;rw[hje] at hke;exact (Option.some.inj hke).symm
theorem Ch.lon{cs:List Clk}{ps:List Int}(h:Ch cs ps){c:Clk}(hc:c∈chos cs ps):lonO (chos cs ps) c≠none:=by
 obtain⟨x,h1,h2,h3⟩:=h.alone hc;unfold lonO;intro e;rw[List.find?_eq_none] at e;refine e x ((qbez (h.s.1 c (h.sub c hc)).1).mpr ⟨h1,h2⟩) ?_;unfold cntN;rw[h3];rfl
theorem Ch.idle{cs:List Clk}{ps:List Int}(h:Ch cs ps):idlL (chos cs ps)=[]:=by
 unfold idlL;rw[List.filter_eq_nil_iff];intro i hi hn;have hi:=List.mem_range.mp hi;have he:=List.getElem?_eq_getElem hi;unfold lonA at hn;rw[he] at hn;have:=h.lon (List.getElem_mem hi);cases e:lonO (chos cs ps) (chos cs ps)[i] with
 |none=>exact this e
 |some v=>
  have hn:(lonO (chos cs ps) (chos cs ps)[i]).isNone=true:=hn;rw[e] at hn;cases hn
end My
namespace My
open PySem L2 L3
theorem at_z{cs:List Clk}{z:Int}(h0:0≤z)(h1:z<(cs.length:Int)):atI (cs.map cD) z=some (cD (cAt cs z.toNat)):=by
 have e:z=((z.toNat:Nat):Int):=by omega
 have:=qbiz (xs:=cs.map cD) (j:=z.toNat) (v:=cD (cAt cs z.toNat)) (by rw[List.getElem?_map,qd0z (by omega)];rfl);rw[←e] at this;exact this
theorem qndz{G:Gp}{cs:List Clk}{ps:List Int}{Q:List D->Gp->Prop}(hb:∀z∈ps,0≤z/\z<(cs.length:Int))(q:Q ((chos cs ps).map cD) G):
  compGo (fun _=>True) (hName 0) tNoTest3 (eOp rIx3 (eVar 1) (eVar 0)) Q (ps.map D.int) [] [none,some (csD cs)] G:=by
 refine q7z (guard:=fun _=>True) (fun τ=>∃x,τ=[x,some (csD cs)]) D.int (fun _=>true) (fun z=>cD (cAt cs z.toNat)) (G:=G) trivial ps [] _ ⟨none,rfl⟩ ?_ ?_
 ·rintro z hz τ K1 K2 ⟨x,rfl⟩ g1 g2;exact⟨fun _=>⟨_,at_z (hb z hz).1 (hb z hz).2,g1 rfl _ ⟨_,rfl⟩⟩,nofun⟩
 ·rw[filter_all,List.nil_append,show (ps.map fun z=>cD (cAt cs z.toNat))=(chos cs ps).map cD by unfold chos;rw[List.map_map];rfl];exact q
def qd1z:Sp3:=fun ds G Q=>∃(cs:List Clk) (ps:List Int),ds=[csD cs,tupI ps]/\Ch cs ps/\∀G',Sub G G'->Q (.bl true) G'
def q0vz:TS3:=sRet (eAndV (eCall qb5z (aCons (eVar 2) (aNil))) (eOp (rEq3 false) (eCall qb9z (aCons (eVar 2) (aNil))) (eLst (aNil))))
def q0wz:TS3:=sSeq (sAsg (eCB qa3z (aCons (eComp ["place"] [0] (iSeq (eVar 1)) (hName 0) (tNoTest3) (eOp rIx3 (eVar 1) (eVar 0))) (aNil))) (hName 2)) q0vz
def q0xz:TS3:=sSeq (sIf (eNot (eTest (eCall qdqz (aCons (eVar 0) (aCons (eVar 1) (aNil)))))) (sRet (eC (.bl false))) (sNext)) q0wz
def qnez:TS3:=sSeq (sDrop (eCall qb3z (aCons (eCall qa9z (aCons (eVar 0) (aNil))) (aCons (eC (.int 10000)) (aNil))))) q0xz
theorem Ch.plen{cs:List Clk}{ps:List Int}(h:Ch cs ps):(ps.map D.int).length≤sizeLine:=by
 have h1:=h.len;have h2:=h.s.2.1;rw[List.length_map];exact line1000 (by omega)
theorem q0yz:∀ds G Q,qd1z ds G Q->qnez (endsOf Q) (start3 ["clocks","thing","chosen"] ds) G:=by
 rintro ds G Q ⟨cs,ps,rfl,h,q⟩;have h1:=h.len;have h2:=h.s.2.1;have h3:=h.s.2.2;refine⟨cs,rfl,h.s.1,by omega,rnd cs,10000,rfl,by omega,?_⟩;refine⟨cs,ps,rfl,h.lc.b,h.lc.r,by omega,nofun,fun _=>?_⟩;refine⟨h.plen,qndz h.lc.b fun p1 G1 n1=>⟨_,n1.at_,?_⟩⟩;refine⟨chos cs ps,rfl,h.rs,?_⟩;rw[h.fm];refine⟨fun _=>⟨chos cs ps,rfl,h.rs,fun p2 G2 n2 p3 G3 n3=>?_⟩,nofun⟩;rw[h.idle] at n2;exact⟨_,_,q0z (n3.sub _ _ n2.at_) rfl,q0z n3.at_ rfl,by decide,qjz (q G3 (n1.sub.trans (n2.sub.trans n3.sub)))⟩
def qd2z:Sp3:=fun ds G Q=>∃(cs:List Clk) (ps:List Int),ds=[csD cs,tupI ps]/\Ch cs ps/\∀G',Sub G G'->Q (.bl true) G'
def q0zz:TS3:=sRet (eOp (rEq3 false) (eComp ["place"] [4,1] (iRng1 (aCons (eCB qvz (aCons (eVar 0) (aNil))) (aNil))) (hName 0) (eAnd (eTest (eOp (rIn3 true) (eVar 0) (eVar 1))) (eTest (eOp (rIn3 true) (eVar 0) (eVar 2)))) (eVar 0)) (eLst (aNil)))
def q00z:TS3:=sSeq (sAsg (eCall qb9z (aCons (eVar 0) (aNil))) (hName 4)) q0zz
def q01z:TS3:=sSeq (sIf (eOr (eNot (eTest (eCall qd1z (aCons (eVar 0) (aCons (eVar 1) (aNil)))))) (eOr (eNot (eTest (eCall qb5z (aCons (eVar 2) (aNil))))) (eOr (eTest (eOp (rIs3 false) (eVar 3) (eC .non))) (eNot (eTest (eCall qdsz (aCons (eVar 2) (aCons (eVar 3) (aNil))))))))) (sRet (eC (.bl false))) (sNext)) q00z
def q02z:TS3:=sSeq (sAsg (eCall qdzz (aCons (eVar 2) (aNil))) (hName 3)) q01z
def qnfz:TS3:=sSeq (sAsg (eCB qa3z (aCons (eComp ["place"] [0] (iSeq (eVar 1)) (hName 0) (tNoTest3) (eOp rIx3 (eVar 1) (eVar 0))) (aNil))) (hName 2)) q02z
theorem q03z{us:List Clk}(hv:∀c∈us,Valid c)(hl:∀c∈us,lonO us c≠none):needsD (atA us) us (tupI (us.map fun c=>((lonN us c:Nat):Int)))=true:=by
 show (decide (((us.map fun c=>((lonN us c:Nat):Int)).map D.int).length=us.length)&&(us.zip ((us.map fun c=>((lonN us c:Nat):Int)).map D.int)).all (needOk (atA us)))=true;rw[List.length_map,List.length_map,decide_eq_true rfl,Bool.true_and,List.map_map,List.all_eq_true];intro p hp;obtain⟨i,hi,e⟩:=List.getElem_of_mem hp;rw[List.length_zip,List.length_map] at hi;rw[List.getElem_zip,List.getElem_map] at e;have hi':i<us.length:=by omega
 rw[←e];show decide (atA us ((lonN us us[i]:Nat):Int)=[us[i]])=true;have hm:=List.getElem_mem hi';cases el:lonO us us[i] with
 |none=>exact absurd el (hl _ hm)
 |some x=>
  obtain⟨x1,x2,x3⟩:=qnbz (hv _ hm) el;have en:lonN us us[i]=x:=by
   unfold lonN;rw[el];rfl
  rw[en];refine decide_eq_true ?_;unfold cntN at x3;obtain⟨a,ha⟩:=List.length_eq_one_iff.mp x3;have h1:us[i]∈us.filter (rg x):=List.mem_filter.mpr ⟨hm,x2⟩;rw[ha,List.mem_singleton] at h1;show us.filter (rg x)=_;rw[ha,h1]
def idlI(cs:List Clk):List Int:=(idlL cs).map fun i:Nat=>(i:Int)
theorem qngz(cs:List Clk):(idlL cs).map nD=(idlI cs).map D.int:=by
 unfold idlI;rw[List.map_map];rfl
theorem qnhz{cs:List Clk}{i:Nat}(hi:i<cs.length):((i:Nat):Int)∈idlI cs↔lonA cs i=none:=by
 unfold idlI idlL;rw[List.mem_map];constructor
 ·rintro⟨k,hk,e⟩;have:k=i:=by omega
  subst this;exact Option.isNone_iff_eq_none.mp (List.mem_filter.mp hk).2
 ·intro h;exact⟨i,List.mem_filter.mpr ⟨List.mem_range.mpr hi,by rw[h];rfl⟩,rfl⟩
theorem q04z:∀ds G Q,qd2z ds G Q->qnfz (endsOf Q) (start3 ["clocks","places","some","paper","idle"] ds) G:=by
 rintro ds G Q ⟨cs,ps,rfl,h,q⟩;have h1:=h.len;have h2:=h.s.2.1;have hlm:(cs.map cD).length=cs.length:=List.length_map ..;have hvu:∀c∈chos cs ps,Valid c:=fun c hc=>(h.s.1 c (h.sub c hc)).1;refine⟨h.plen,qndz h.lc.b fun p1 G1 n1=>⟨_,n1.at_,?_⟩⟩;refine⟨chos cs ps,rfl,h.rs,fun c hc=>h.lon hc,fun G2 s2=>?_⟩;refine⟨cs,ps,rfl,h,fun G3 s3=>⟨nofun,fun _=>⟨chos cs ps,rfl,h.rs,?_⟩⟩⟩;rw[h.fm];refine⟨nofun,fun _=>⟨nofun,fun _=>⟨chos cs ps,_,rfl,?_,fun c hc=>(hvu c hc).1,by have:=h.rs.2.1;omega,?_⟩⟩⟩
 ·intro d hd;obtain⟨z,_,rfl⟩:=List.mem_map.mp hd;trivial
 rw[q03z hvu fun c hc=>h.lon hc];refine⟨nofun,fun _=>⟨cs,rfl,h.s,fun p4 G4 n4=>?_⟩⟩;rw[qngz] at n4;refine⟨⟨by rw[hlm];omega,by rw[hlm];omega⟩,?_,?_⟩
 ·show (rngL 0 ((((cs.map cD).length:Nat):Int)).toNat).length≤sizeLine;rw[qbjz,hlm];exact line1000 (by omega)
 show compGo _ _ _ _ _ (rngL 0 ((((cs.map cD).length:Nat):Int)).toNat) _ _ _;rw[hlm,Int.toNat_natCast,rng0];refine q7z (fun τ=>∃x,τ=[x,some (.obj p4),some (tupI ps)]) nD (fun i=>!decide (((i:Nat):Int)∈idlI cs) && !decide (((i:Nat):Int)∈ps)) nD (G:=G4) trivial (List.range cs.length) [] _ ⟨none,rfl⟩ ?_ ?_
 ·rintro i hi τ K1 K2 ⟨x,rfl⟩ g1 g2;refine⟨.int (i:Int),(idlI cs).map Dat.D.int,rfl,.inl (q0z n4.at_ (qdoz _)),by rw[qboz];decide,?_⟩;rw[qfcz];refine⟨fun h1=>⟨.int (i:Int),ps.map Dat.D.int,rfl,.inr (qcoz ps),by rw[qboz];decide,?_⟩,fun h1=>⟨nofun,fun _=>g2 ?_ _ ⟨_,rfl⟩⟩⟩
  ·rw[qfcz];have h1':(!decide (((i:Nat):Int)∈idlI cs))=true:=h1;refine⟨fun h2=>g1 ?_ _ ⟨_,rfl⟩,fun h2=>g2 ?_ _ ⟨_,rfl⟩⟩
   ·have h2':(!decide (((i:Nat):Int)∈ps))=true:=h2;rw[h1',h2'];rfl
   ·have h2':(!decide (((i:Nat):Int)∈ps))=false:=h2;rw[h2',Bool.and_false]
  ·have h1':(!decide (((i:Nat):Int)∈idlI cs))=false:=h1;rw[h1',Bool.false_and]
 intro p5 G5 n5 p6 G6 n6;have hf:(List.range cs.length).filter (fun i=>!decide (((i:Nat):Int)∈idlI cs) && !decide (((i:Nat):Int)∈ps))=[]:=by
  rw[List.filter_eq_nil_iff];intro i hi hn;have hi:=List.mem_range.mp hi;rw[Bool.and_eq_true] at hn;have n1:((i:Nat):Int)∉idlI cs:=by simpa using hn.1
  have n2:((i:Nat):Int)∉ps:=by simpa using hn.2
  exact n2 (q0uz (fun z hz=>(h.s.1 z hz).1) h.lc hi fun e=>n1 ((qnhz hi).mpr e))
 rw[hf] at n5;exact⟨_,_,q0z (n6.sub _ _ n5.at_) rfl,q0z n6.at_ rfl,by decide,qjz (q G6 ((n1.sub.trans s2).trans (s3.trans (n4.sub.trans (n5.sub.trans n6.sub)))))⟩
def qd3z:Sp3:=fun ds G Q=>∃cs:List Clk,ds=[csD cs]/\RndS cs/\∀G',Sub G G'->Q (.bl true) G'
def qniz:TS3:=sIf (eOr (eTest (eOp (rEq3 true) (eOp (rIs3 false) (eVar 4) (eC .non)) (eOp (rIn3 false) (eVar 2) (eVar 1)))) (eTest (eOp (rEq3 true) (eCall qcmz (aCons (eVar 3) (aCons (eOp rIx3 (eVar 0) (eVar 2)) (aNil)))) (eVar 4)))) (sRet (eC (.bl false))) (sNext)
def q05z:TS3:=sSeq (sAsg (eCall qdyz (aCons (eVar 0) (aCons (eVar 2) (aNil)))) (hName 4)) qniz
def q06z:TS3:=sSeq (sAsg (eOp rAdd3 (eSl (eVar 0) (oNone) (oSome (eVar 2))) (eSl (eVar 0) (oSome (eOp rAdd3 (eVar 2) (eC (.int 1)))) (oNone))) (hName 3)) q05z
def qnjz:TS3:=sRet (eC (.bl true))
def q07z:TS3:=sSeq (sFor (iRng1 (aCons (eCB qvz (aCons (eVar 0) (aNil))) (aNil))) (hName 2) (q06z)) qnjz
def qnkz:TS3:=sSeq (sAsg (eCall qb9z (aCons (eVar 0) (aNil))) (hName 1)) q07z
theorem qnlz{cs:List Clk}{i:Nat}{c:Clk}(hi:cs[i]?=some c):rnd (rest1 cs i++[c])=rnd cs:=by
 have key:∀z,z∈rest1 cs i++[c]↔z∈cs:=fun z=>by rw[List.mem_append,List.mem_singleton,←qmbz hi z]
 exact Nat.dvd_antisymm (qe7z (Nat.one_dvd _) fun z hz=>qbfz ((key z).mp hz)) (qe7z (Nat.one_dvd _) fun z hz=>qbfz ((key z).mpr hz))
theorem q08z{cs:List Clk}{i:Nat}{c:Clk}(hi:cs[i]?=some c)(x:Nat)(hr:rg x c=true):cntN cs x=cntN (rest1 cs i) x+1:=by
 unfold cntN;conv=>lhs;rw[qmdz hi]
 unfold rest1;rw[List.filter_append,List.filter_append,List.length_append,List.length_append,List.filter_cons_of_pos hr,List.length_cons];omega
theorem q09z{cs:List Clk}{i:Nat}{c:Clk}(hv:Valid c)(hi:cs[i]?=some c):fwO (rest1 cs i) c=lonA cs i:=by
 unfold fwO lonA;rw[hi,qnlz hi];show _=lonO cs c;unfold lonO;have:∀xs:List Nat,(∀x∈xs,rg x c=true)->xs.find? (fun x=>cntN (rest1 cs i) x==0)=xs.find? fun x=>cntN cs x==1:=fun xs=>by
  induction xs with
  |nil=>intro _;rfl
  |cons x xs ih=>
   intro h;have e:(cntN (rest1 cs i) x==0)=(cntN cs x==1):=by
    rw[q08z hi x (h x List.mem_cons_self),Bool.eq_iff_iff,beq_iff_eq,beq_iff_eq];omega
   rw[List.find?_cons,List.find?_cons,e,ih fun y hy=>h y (List.mem_cons_of_mem _ hy)]
 exact this _ fun x hx=>((qbez hv).mp hx).2
theorem qnmz{a b:Bool}(h:a=b):(!(Dat.D.bl a).eqb (.bl b))=false:=by
 subst h;cases a<;>rfl
def oX9:Option Nat->Dat.D
 |none=>.non
 |some x=>.int (x:Nat)
theorem qnnz{G:Gp}(o:Option Nat):toDat G (oN o)=some (oX9 o):=by cases o<;>rfl
theorem q1az(o:Option Nat):(!(oX9 o).eqb (oX9 o))=false:=by
 cases o with
 |none=>rfl
 |some x=>
  show (!((x:Int)==(x:Int)))=false;rw[beq_self_eq_true];rfl
theorem q1bz:∀ds G Q,qd3z ds G Q->qnkz (endsOf Q) (start3 ["clocks","idle","place","others","lone"] ds) G:=by
 rintro ds G Q ⟨cs,rfl,hs,q⟩;have hlm:(cs.map cD).length=cs.length:=List.length_map ..;have h12:=hs.2.1;refine⟨cs,rfl,hs,fun p1 G1 n1=>?_⟩;rw[qngz] at n1;refine⟨⟨by rw[hlm];omega,by rw[hlm];omega⟩,?_⟩;show forGo _ _ _ _ (rngL 0 ((((cs.map cD).length:Nat):Int)).toNat) _ _;rw[hlm,Int.toNat_natCast,rng0];refine qwz (fun ds τ G'=>Sub G1 G'/\∃(is:List Nat) (x2 x3 x4:Option D),ds=is.map nD/\(∀i∈is,i<cs.length)/\τ=[some (csD cs),some (.obj p1),x2,x3,x4]) (fun _ _ _ _=>trivial) ?_ ?_ _ _ _ ⟨Sub.refl _,_,none,none,none,rfl,fun i hi=>List.mem_range.mp hi,rfl⟩
 ·rintro d ds τ G2 N ⟨s2,is,x2,x3,x4,e,his,rfl⟩ hN;cases is with
  |nil=>cases e
  |cons i is=>
   cases e;have hil:=his i List.mem_cons_self;have hi:=List.getElem?_eq_getElem hil;have hv:=(hs.1 _ (List.getElem_mem hil)).1;have e1:cut3 (cs.map cD) none (some (i:Int))=(cs.take i).map cD:=by rw[qa8z,qcjz]
   have e2:cut3 (cs.map cD) (some ((i:Int)+1)) none=(cs.drop (i+1)).map cD:=by
    rw[qa8z,show ((i:Int)+1)=((i+1:Nat):Int) by omega,qgrz]
   have hlr:(rest1 cs i).length=cs.length-1:=by
    unfold rest1;rw[List.length_append,List.length_take,List.length_drop];omega
   show ((cut3 (cs.map cD) none (some (i:Int))).length+(cut3 (cs.map cD) (some ((i:Int)+1)) none).length≤sizeLine)/\_;rw[e1,e2,←List.length_append,←List.map_append];refine⟨by rw[List.length_map];show (rest1 cs i).length≤sizeLine;exact line1000 (by omega),?_⟩;refine⟨cs,i,rfl,hs,hil,fun G3 s3=>?_⟩;have e13:=s3 _ _ (s2 _ _ n1.at_);have nx:∀y4,N [some (csD cs),some (.obj p1),some (nD i),some (csD (rest1 cs i)),y4] G3:=fun y4=>hN _ _ ⟨s2.trans s3,is,_,_,_,rfl,fun k hk=>his k (List.mem_cons_of_mem _ hk),rfl⟩;have fin:qniz { endsOf Q with nx:=N,ct:=N,bk:=qnjz (endsOf Q)} [some (csD cs),some (.obj p1),some (nD i),some (csD (rest1 cs i)),some (oN (lonA cs i))] G3:=by
    have ok2:ClOk 1000 (rest1 cs i++[cs[i]]):=fun z hz=>hs.1 z ((qmbz hi z).mpr (by rw[List.mem_append,List.mem_singleton] at hz;exact hz));have isn:isNon (oN (lonA cs i))=(lonA cs i).isNone:=by cases lonA cs i<;>rfl
    have hdec:decide (((i:Nat):Int)∈idlI cs)=(lonA cs i).isNone:=by
     rw[Bool.eq_iff_iff,decide_eq_true_iff,qnhz hil,Option.isNone_iff_eq_none]
    refine⟨.int (i:Int),(idlI cs).map Dat.D.int,rfl,.inl (q0z e13 (qdoz _)),by rw[qboz];decide,_,_,rfl,rfl,Nat.zero_le _,fun h=>?_,fun _=>?_⟩
    ·have h':(!(Dat.D.bl (isNon (oN (lonA cs i)))).eqb (.bl (((idlI cs).map Dat.D.int).any fun v=>v.eqb (.int (i:Int)))))=true:=h;rw[qfcz,qnmz (isn.trans hdec.symm)] at h';cases h'
    ·refine⟨cD cs[i],qbiz (by rw[List.getElem?_map,hi];rfl),rest1 cs i,cs[i],rfl,ok2,by omega,by rw[qnlz hi];exact hs.2.2,?_⟩;rw[q09z hv hi];refine⟨_,_,qnnz _,qnnz _,by cases lonA cs i<;>exact Nat.zero_le _,fun h=>?_,fun _=>nx _⟩
     have h':(!(oX9 (lonA cs i)).eqb (oX9 (lonA cs i)))=true:=h;rw[q1az] at h';cases h'
   exact fin
 ·rintro τ G2 ⟨s2,is,x2,x3,x4,e,his,rfl⟩;exact qjz (q G2 (n1.sub.trans s2))
end My
namespace My
open PySem L2 L3
structure Rt(cs:List Clk):Prop where
 sm:ClSm cs
 r:Rise cs
 l:cs.length≤12
 bd:Bd cs
theorem Rt.s{cs:List Clk}(h:Rt cs):RndS cs:=⟨fun c hc=>⟨(h.sm c hc).1,by have:=(h.sm c hc).2.1;omega⟩,h.l,Nat.le_trans (Nat.le_of_dvd (by decide) (qe7z (d:=720) (Nat.one_dvd _) fun c hc=>by
 have h0:=(h.sm c hc).1.1;refine Int.natCast_dvd_natCast.mp ?_;rw[Int.toNat_of_nonneg (by omega)];exact (h.sm c hc).2.2)) (by decide)⟩
theorem Rt.nd{cs:List Clk}(h:Rt cs):cs.Nodup:=qyjz h.r
theorem Rt.pos{cs:List Clk}(h:Rt cs):0<rnd cs:=qb6z fun z hz=>(h.sm z hz).1.1
theorem Rt.len{cs:List Clk}(h:Rt cs):(lcL cs).length<64:=q0qz h.nd h.bd
theorem Rt.ne{cs:List Clk}(h:Rt cs):∀ns∈lcL cs,ns≠[]:=fun ns hn=>q0oz h.pos (lc_mem.mp hn)
theorem Rt.ch{cs:List Clk}(h:Rt cs){ps:List Int}(hp:ps∈lcL cs):Ch cs ps:=⟨h.s,h.nd,lc_mem.mp hp⟩
theorem qg8z{cs:List Clk}(ho:Once cs)(hv:∀z∈cs,Valid z){a b:Clk}(ha:a∈cs)(hb:b∈cs)(hne:a≠b)(x:Nat):¬(rg x a=true/\rg x b=true):=by
 rintro⟨h1,h2⟩;obtain⟨y,hy⟩:=List.length_eq_one_iff.mp (ho (x:Int));have m1:a∈cs.filter (rg2 (x:Int)):=List.mem_filter.mpr ⟨ha,by rw[qbnz (hv a ha)];exact h1⟩;have m2:b∈cs.filter (rg2 (x:Int)):=List.mem_filter.mpr ⟨hb,by rw[qbnz (hv b hb)];exact h2⟩;rw[hy,List.mem_singleton] at m1 m2;exact hne (m1.trans m2.symm)
theorem q1cz{cs:List Clk}(h:Rt cs)(he:exB cs=true):lcL cs=[rngI cs.length]:=by
 have ho:=qynz h.s.1 he;have hv:∀z∈cs,Valid z:=fun z hz=>(h.sm z hz).1;have hall:∀ps∈lcL cs,ps=rngI cs.length:=fun ps hps=>by
  have hl:=lc_mem.mp hps;refine qfdz hl.r (qm9z _) fun z=>⟨fun hz=>?_,fun hz=>?_⟩
  ·have hb:=hl.b z hz;have e:z=((z.toNat:Nat):Int):=by omega
   rw[e];exact rngI_mem.mpr (by omega)
  ·have hb:=qnaz z hz;have e:z=((z.toNat:Nat):Int):=by omega
   have hzl:z.toNat<cs.length:=by omega
   have hje:=List.getElem?_eq_getElem hzl;have hjm:=List.getElem_mem hzl;have hx:cs[z.toNat].2.toNat%rnd cs<rnd cs:=Nat.mod_lt _ h.pos;obtain⟨i,hi,hr⟩:=hl.cov _ hx;have hil:=qbgz hr;have hie:=List.getElem?_eq_getElem hil;have him:=List.getElem_mem hil;rw[qbaz hie,qdmz (hv _ him).1 (qbfz him)] at hr;have hr2:rg ((cs[z.toNat].2.toNat:Nat):Int) cs[z.toNat]=true:=by
    rw[Int.toNat_of_nonneg (hv _ hjm).2.1];show (cs[z.toNat].2%cs[z.toNat].1==cs[z.toNat].2)=true;rw[Int.emod_eq_of_lt (hv _ hjm).2.1 (hv _ hjm).2.2,beq_self_eq_true]
   have hei:i=z.toNat:=by
    refine Classical.byContradiction fun hne=>qg8z ho hv him hjm (fun z2=>hne ?_) _ ⟨hr,hr2⟩;exact qfhz h.nd hie (z2▸hje)
   rw[e,←hei];exact hi
 have hne:lcL cs≠[]:=lc_some.mpr (fm_iff.mpr fun x hx=>by
  have h1:=ho (x:Int);obtain⟨c,hc⟩:=List.exists_mem_of_length_pos (show 0<(cs.filter (rg2 (x:Int))).length by rw[h1];decide);obtain⟨h2,h3⟩:=List.mem_filter.mp hc;obtain⟨i,hi⟩:=List.getElem?_of_mem h2;exact⟨i,by rw[qbaz hi,←qbnz (hv c h2)];exact h3⟩)
 obtain⟨ps,hps⟩:=List.exists_mem_of_ne_nil _ hne;exact qncz (qm5z cs) (hall ps hps▸hps) hall
def qcaz:Sp3:=fun ds G Q=>∃cs:List Clk,ds=[csD cs]/\Rt cs/\∀G',Sub G G'->Q (.bl true) G'
def qnoz:TS3:=sIf (eAnd (eTest (eOp (rEq3 true) (eVar 3) (eVar 2))) (eTest (eOp (rEq3 false) (eComp ["place"] [2] (iSeq (eVar 3)) (hName 0) (eTest (eOp (rIn3 true) (eVar 0) (eVar 1))) (eVar 0)) (eLst (aNil))))) (sRet (eC (.bl false))) (sNext)
def q1dz:TS3:=sFor (iSeq (eVar 1)) (hName 3) (qnoz)
def qnpz:TS3:=sRet (eOrV (eNotV (eCall qdlz (aCons (eVar 0) (aNil)))) (eOp (rEq3 false) (eVar 1) (eLst (aCons (eTR1 (aCons (eCB qvz (aCons (eVar 0) (aNil))) (aNil))) (aNil)))))
def q1ez:TS3:=sSeq (sIf (eOr (eTest (eOp (rIn3 true) (eVar 4) (eVar 1))) (eTest (eOp (rEq3 true) (eCB qvz (aCons (eVar 4) (aNil))) (eCB qevz (aCons (eComp ["places"] [] (iSeq (eVar 1)) (hName 0) (tNoTest3) (eCB qvz (aCons (eVar 0) (aNil)))) (aNil)))))) (sRet (eC (.bl false))) (sNext)) qnpz
def qnqz:TS3:=sSeq (sIf (eTest (eOp (rEq3 false) (eVar 1) (eLst (aNil)))) (sRet (eOp (rIs3 false) (eVar 4) (eC .non))) (sNext)) q1ez
def q1fz:TS3:=sSeq (sAsg (eCall qdxz (aCons (eVar 0) (aNil))) (hName 4)) qnqz
def qnrz:TS3:=sSeq (sFor (iSeq (eVar 1)) (hName 2) (q1dz)) q1fz
def q1gz:TS3:=sSeq (sIf (eNot (eTest (eCB qbwz (aCons (eComp ["places"] [0] (iSeq (eVar 1)) (hName 0) (tNoTest3) (eCall qd2z (aCons (eVar 1) (aCons (eVar 0) (aNil))))) (aNil))))) (sRet (eC (.bl false))) (sNext)) qnrz
def q1hz:TS3:=sSeq (sIf (eOr (eTest (eOp (rEq3 true) (eOp (rEq3 true) (eVar 1) (eLst (aNil))) (eCall qb5z (aCons (eVar 0) (aNil))))) (eNot (eTest (eCall qd3z (aCons (eVar 0) (aNil)))))) (sRet (eC (.bl false))) (sNext)) q1gz
def qnsz:TS3:=sSeq (sAsg (eCall qcsz (aCons (eVar 0) (aNil))) (hName 1)) q1hz
theorem qg9z(js:List (List Int)):(Dat.D.lst (js.map tX)).dep≤50:=by
 show Dat.deps (js.map tX)+1≤50;have:=ql4z js;omega
theorem q1iz(ps:List Int):(tX ps).dep≤50:=by
 show Dat.deps (ps.map Dat.D.int)+1≤50;rw[qboz];decide
structure Tld(cs:List Clk)(js:List (List Int)):Prop where
 rt:Rt cs
 pm:js.Perm (lcL cs)
theorem Tld.len{cs:List Clk}{js:List (List Int)}(h:Tld cs js):js.length<64:=by rw[h.pm.length_eq];exact h.rt.len
theorem q1jz{Q:V3}{G1:Gp}{cs:List Clk}{js:List (List Int)}{p:Addr}{x2 x3 x4:Option D}(h:Tld cs js)(hp:G1 p=some (.lst (js.map tupI)))(q:∀G',Sub G1 G'->(endsOf Q).rt (.bl true) G'):qnpz (endsOf Q) [some (csD cs),some (.obj p),x2,x3,x4] G1:=by
 have hlm:(cs.map cD).length=cs.length:=List.length_map ..;have hl:=h.rt.l;refine⟨cs,rfl,h.rt.s.1,hl,?_⟩;cases he:exB cs with
 |false=>exact⟨fun _=>q G1 (Sub.refl _),nofun⟩
 |true=>
  refine⟨nofun,fun _=>⟨⟨by rw[hlm];omega,by rw[hlm];omega⟩,fun p2 G2 n2=>?_⟩⟩;have ej:js=[rngI cs.length]:=by
   have:=h.pm;rw[q1cz h.rt he] at this;exact List.perm_singleton.mp this
  have er:D.tup (rngL 0 ((((cs.map cD).length:Nat):Int)).toNat)=tupI (rngI cs.length):=by
   rw[hlm,Int.toNat_natCast,rng0];unfold tupI rngI;rw[List.map_map];rfl
  rw[er] at n2;refine⟨_,_,q0z (n2.sub _ _ hp) (qdpz js),q0z (ds:=[rngI cs.length].map tupI) n2.at_ (qdpz [rngI cs.length]),qg9z js,?_⟩;show (endsOf Q).rt (.bl ((Dat.D.lst (js.map tX)).eqb (.lst ([rngI cs.length].map tX)))) G2;rw[ej];have:(Dat.D.lst ([rngI cs.length].map tX)).eqb (.lst ([rngI cs.length].map tX))=true:=by
   show ((tX (rngI cs.length)).eqb (tX (rngI cs.length))&&true)=true;rw[qfbz,decide_eq_true rfl];rfl
  rw[this];exact q G2 n2.sub
theorem qntz{Q:V3}{G1:Gp}{cs:List Clk}{js:List (List Int)}{p:Addr}{d:D}{x2 x3:Option D}(h:Tld cs js)(hp:G1 p=some (.lst (js.map tupI)))(hd:(lcL cs=[]/\d=.non)∨∃ps,ps∈lcL cs/\(∀qs∈lcL cs,ps.length≤qs.length)/\d=tupI ps)(q:∀G',Sub G1 G'->(endsOf Q).rt (.bl true) G'):qnqz (endsOf Q) [some (csD cs),some (.obj p),x2,x3,some d] G1:=by
 intro p2 G2 n2;have hp2:=n2.sub _ _ hp;refine⟨_,_,q0z hp2 (qdpz js),q0z n2.at_ rfl,qg9z js,fun h1=>?_,fun h1=>?_⟩
 ·have h1':(Dat.D.lst (js.map tX)).eqb (.lst [])=true:=h1;rw[qe3z,qe4z,List.isEmpty_iff] at h1';have e0:lcL cs=[]:=by
   have:=h.pm;rw[h1'] at this;exact List.nil_perm.mp this
  rcases hd with⟨_,rfl⟩|⟨ps,hps,_⟩
  ·exact q G2 n2.sub
  ·rw[e0] at hps;cases hps
 ·have h1':(Dat.D.lst (js.map tX)).eqb (.lst [])=false:=h1;rw[qe3z,qe4z] at h1';rcases hd with⟨e0,_⟩|⟨ps,hps,hmin,rfl⟩
  ·have:=h.pm;rw[e0] at this;rw[List.perm_nil.mp this] at h1';cases h1'
  have hin:ps∈js:=h.pm.mem_iff.mpr hps;refine⟨tX ps,js.map tX,qcoz ps,.inl (q0z hp2 (qdpz js)),Nat.le_trans (ql4z js) (by decide),?_⟩;rw[qx6z,decide_eq_true hin];refine⟨nofun,fun _=>⟨_,hp2,?_,?_⟩⟩
  ·show (js.map tupI).length≤sizeLine;rw[List.length_map];have:=h.len;exact line1000 (by omega)
  refine q7z (guard:=fun G=>G p=some (.lst (js.map tupI))) (fun τ=>∃x,τ=[x]) tupI (fun _=>true) (fun ns=>D.int ((ns.length:Nat):Int)) (G:=G2) hp2 js [] _ ⟨none,rfl⟩ ?_ ?_
  ·rintro ns hn τ K1 K2 ⟨x,rfl⟩ g1 g2;refine⟨fun _=>?_,nofun⟩;have:=g1 rfl [some (tupI ns)] ⟨_,rfl⟩;show K2 _ (D.int (((ns.map D.int).length:Nat):Int)) _;rw[List.length_map];exact this
  intro p3 G3 n3;rw[filter_all,List.nil_append,show (js.map fun ns=>D.int ((ns.length:Nat):Int))=(js.map fun ns=>((ns.length:Nat):Int)).map D.int by rw[List.map_map];rfl] at n3;refine⟨_,_,n3.at_,qgwz _,by rw[List.length_map];exact List.length_pos_of_mem hin,fun m hm hle=>?_⟩;have em:m=((ps.length:Nat):Int):=by
   obtain⟨qs,hqs,rfl⟩:=List.mem_map.mp hm;have h1:=hmin qs (h.pm.mem_iff.mp hqs);have h2:=hle _ (List.mem_map.mpr ⟨ps,hin,rfl⟩);omega
  subst em;refine⟨_,_,rfl,rfl,Nat.zero_le _,fun h2=>?_,fun _=>q1jz h (n3.sub _ _ hp2) fun G4 s4=>q G4 (n2.sub.trans (n3.sub.trans s4))⟩;have h2':(!(Dat.D.int (((ps.map D.int).length:Nat):Int)).eqb (.int ((ps.length:Nat):Int)))=true:=h2;rw[List.length_map] at h2';have h3:(!((((ps.length:Nat):Int))==((ps.length:Nat):Int)))=true:=h2';rw[beq_self_eq_true] at h3;cases h3
theorem q1kz{D3:Ends3}{G1:Gp}{cs:List Clk}{ps qs:List Int}{p:Addr}{x4:Option D}(hps:LC cs ps)(hqs:LC cs qs)(hl:cs.length≤12)(hs:Ch cs qs)(q:∀G',Sub G1 G'->D3.nx [some (csD cs),some (.obj p),some (tupI ps),some (tupI qs),x4] G'):qnoz D3 [some (csD cs),some (.obj p),some (tupI ps),some (tupI qs),x4] G1:=by
 refine⟨_,_,qcoz qs,qcoz ps,q1iz qs,fun h=>⟨hs.plen,?_⟩,fun _=>⟨nofun,fun _=>q G1 (Sub.refl _)⟩⟩;have h':(!(tX qs).eqb (tX ps))=true:=h;rw[qfbz] at h';have hne:¬qs=ps:=by simpa using h'
 refine q7z (fun τ=>∃x,τ=[x,some (tupI ps)]) D.int (fun z=>!decide (z∈ps)) D.int (G:=G1) trivial qs [] _ ⟨none,rfl⟩ ?_ ?_
 ·rintro z hz τ K1 K2 ⟨x,rfl⟩ g1 g2;refine⟨.int z,ps.map Dat.D.int,rfl,.inr (qcoz ps),by rw[qboz];decide,?_⟩;rw[qfcz];exact⟨fun h=>g1 h _ ⟨_,rfl⟩,fun h=>g2 h _ ⟨_,rfl⟩⟩
 intro p2 G2 n2 p3 G3 n3;rw[List.nil_append] at n2;refine⟨_,_,q0z (n3.sub _ _ n2.at_) (qdoz _),q0z n3.at_ rfl,?_,fun h2=>?_,fun _=>q G3 (n2.sub.trans n3.sub)⟩
 ·show Dat.deps _+1≤50;rw[qboz];decide
 ·have h2':(Dat.D.lst ((qs.filter fun z=>!decide (z∈ps)).map Dat.D.int)).eqb (.lst [])=true:=h2;rw[qe3z,qe4z,List.isEmpty_iff,List.filter_eq_nil_iff] at h2';exact absurd (q0sz hps hqs fun z hz=>by simpa using h2' z hz) hne
theorem q1lz{Q:V3}{G1:Gp}{cs:List Clk}{js:List (List Int)}{p:Addr}{x2 x3 x4:Option D}(h:Tld cs js)(hp:G1 p=some (.lst (js.map tupI)))(q:∀G',Sub G1 G'->(endsOf Q).rt (.bl true) G'):qnrz (endsOf Q) [some (csD cs),some (.obj p),x2,x3,x4] G1:=by
 have hl:=h.rt.l;have hin:∀k∈js,k∈lcL cs:=fun k hk=>h.pm.mem_iff.mp hk;refine⟨_,hp,?_⟩;refine qwz (fun ds τ G'=>Sub G1 G'/\∃(ks:List (List Int)) (y2 y3:Option D),ds=ks.map tupI/\(∀k∈ks,k∈lcL cs)/\τ=[some (csD cs),some (.obj p),y2,y3,x4]) (fun _ _ _ h=>h.1 _ _ hp) ?_ ?_ _ _ _ ⟨Sub.refl _,js,_,_,rfl,hin,rfl⟩
 ·rintro d ds τ G2 N ⟨s2,ks,y2,y3,e,hk,rfl⟩ hN;cases ks with
  |nil=>cases e
  |cons k ks=>
   cases e;have hkk:=hk k List.mem_cons_self;have hp2:=s2 _ _ hp;refine⟨_,hp2,?_⟩;refine qwz (fun ds τ G'=>Sub G2 G'/\∃(ls:List (List Int)) (y3:Option D),ds=ls.map tupI/\(∀k∈ls,k∈lcL cs)/\τ=[some (csD cs),some (.obj p),some (tupI k),y3,x4]) (fun _ _ _ h=>h.1 _ _ hp2) ?_ ?_ _ _ _ ⟨Sub.refl _,js,_,rfl,hin,rfl⟩
   ·rintro d ds τ G3 N3 ⟨s3,ls,y3,e,hls,rfl⟩ hN3;cases ls with
    |nil=>cases e
    |cons l ls=>
     cases e;have hll:=hls l List.mem_cons_self;exact q1kz (lc_mem.mp hkk) (lc_mem.mp hll) hl (h.rt.ch hll) fun G4 s4=>hN3 _ _ ⟨s3.trans s4,ls,_,rfl,fun m hm=>hls m (List.mem_cons_of_mem _ hm),rfl⟩
   ·rintro τ G3 ⟨s3,ls,y3,e,hls,rfl⟩;exact hN _ _ ⟨s2.trans s3,ks,_,_,rfl,fun m hm=>hk m (List.mem_cons_of_mem _ hm),rfl⟩
 ·rintro τ G2 ⟨s2,ks,y2,y3,e,hk,rfl⟩;refine⟨cs,rfl,h.rt.s,h.rt.len,h.rt.ne,fun G3 s3=>⟨fun e0=>?_,fun ps hps hmin=>?_⟩⟩
  ·exact qntz h (s3 _ _ (s2 _ _ hp)) (.inl ⟨e0,rfl⟩) fun G4 s4=>q G4 (s2.trans (s3.trans s4))
  ·exact qntz h (s3 _ _ (s2 _ _ hp)) (.inr ⟨ps,hps,hmin,rfl⟩) fun G4 s4=>q G4 (s2.trans (s3.trans s4))
theorem q1mz:∀ds G Q,qcaz ds G Q->qnsz (endsOf Q) (start3 ["clocks","some","one","other","fewest"] ds) G:=by
 rintro ds G Q ⟨cs,rfl,rt,q⟩;have hs:=rt.s;refine⟨cs,rfl,hs,rt.len,rt.ne,fun p js G1 hp hr n1=>?_⟩;have T:Tld cs js:=⟨rt,hp⟩;intro p2 G2 n2;have e2:=n2.sub _ _ n1.at_;refine⟨_,_,q0z e2 (qdpz js),q0z n2.at_ rfl,qg9z js,cs,rfl,hs,_,_,rfl,rfl,Nat.zero_le _,fun h=>?_,fun _=>?_⟩
 ·exfalso;have h':(!(Dat.D.bl (!(Dat.D.lst (js.map tX)).eqb (.lst []))).eqb (.bl (fmO cs).isNone))=true:=h;rw[qnmz] at h'
  ·cases h'
  ·rw[qe3z,qe4z,Bool.eq_iff_iff,Option.isNone_iff_eq_none,←lc_some];constructor
   ·intro hn e;rw[e] at hp;rw[List.perm_nil.mp hp] at hn;cases hn
   ·intro hn;cases js with
    |nil=>exact absurd (List.nil_perm.mp hp) hn
    |cons a as=>rfl
 ·refine⟨cs,rfl,hs,fun G3 s3=>⟨nofun,fun _=>?_⟩⟩;have e3:=s3 _ _ e2;have hjl:=T.len;refine⟨_,e3,?_,?_⟩
  ·show (js.map tupI).length≤sizeLine;rw[List.length_map];exact line1000 (by omega)
  refine qdbz (fun ds acc τ G'=>Sub G3 G'/\(∃x,τ=[x,some (csD cs)])/\∃ks dn:List (List Int),ds=ks.map tupI/\(∀k∈ks,k∈lcL cs)/\acc=dn.map fun _=>D.bl true) (fun _ _ _ _ h=>h.1 _ _ e3) ?_ ?_ _ _ _ _ ⟨Sub.refl _,⟨none,rfl⟩,js,[],rfl,fun k hk=>hp.mem_iff.mp hk,rfl⟩
  ·rintro d ds acc τ G4 K1 K2 ⟨s4,⟨x,rfl⟩,ks,dn,e,hk,rfl⟩ g1 g2;cases ks with
   |nil=>cases e
   |cons k ks=>
    cases e;refine⟨fun _=>⟨cs,k,rfl,rt.ch (hk k List.mem_cons_self),fun G5 s5=>g1 _ _ _ ⟨s4.trans s5,⟨_,rfl⟩,ks,dn++[k],rfl,fun m hm=>hk m (List.mem_cons_of_mem _ hm),by rw[List.map_append];rfl⟩⟩,nofun⟩
  ·rintro acc τ G4 ⟨s4,⟨x,rfl⟩,ks,dn,e,hk,rfl⟩ p5 G5 n5;refine⟨_,_,n5.at_,qdiz (fun _:List Int=>true) dn,?_⟩;rw[all_map,show (dn.all fun _=>true)=true from List.all_eq_true.mpr fun _ _=>rfl];refine⟨nofun,fun _=>q1lz T (n5.sub _ _ (s4 _ _ e3)) fun G6 s6=>qjz (q G6 (n1.sub.trans (n2.sub.trans (s3.trans (s4.trans (n5.sub.trans s6))))))⟩
end My
namespace My
open PySem L2 L3
def qd4z:Sp3:=fun ds G Q=>∃p:Addr,ds=[.obj p]/\G p=some .pen/\∀cs,Rt cs->Q (csD cs) G
def q1nz:TS3:=sDrop (eM qf2z (eVar 1) (aCons (eTup (aCons (eVar 3) (aCons (eCall qapz (aCons (eVar 0) (aCons (eVar 3) (aNil)))) (aNil)))) (aNil)))
def q1oz:TS3:=sSeq (sAsg (eLstIx (aCons (eC (.int 1)) (aCons (eC (.int 2)) (aCons (eC (.int 3)) (aCons (eC (.int 4)) (aCons (eC (.int 6)) (aNil)))))) (eCall qapz (aCons (eVar 0) (aCons (eC (.int 5)) (aNil))))) (hName 3)) q1nz
def q1pz:TS3:=sRet (eCB qa3z (aCons (eSl (eSortSet (eVar 1)) (oNone) (oSome (eC (.int 8)))) (aNil)))
def q1qz:TS3:=sSeq (sFor (iRng1 (aCons (eCall qapz (aCons (eVar 0) (aCons (eC (.int 4)) (aNil)))) (aNil))) (hName 2) (q1oz)) q1pz
def qnuz:TS3:=sSeq (sAsg (eSl (eCall qb7z (aCons (eVar 0) (aCons (eOp rAdd3 (eC (.int 1)) (eCall qapz (aCons (eVar 0) (aCons (eC (.int 3)) (aNil))))) (aNil)))) (oNone) (oSome (eC (.int 6)))) (hName 1)) q1qz
theorem q1rz:∀ds G Q,qd4z ds G Q->qnuz (endsOf Q) (start3 ["pen","found","turn","step"] ds) G:=by
 rintro ds G Q ⟨pp,rfl,hpp,q⟩;refine⟨pp,3,rfl,hpp,⟨by decide,qqz (by decide) (by decide)⟩,fun r r1 r2=>⟨pp,1+r,rfl,hpp,⟨by omega,by omega⟩,fun q1 as G1 hP l1 l2 n1=>⟨_,n1.at_,fun q2 G2 n2=>?_⟩⟩⟩;rw[qa8z,show (some (6:Int))=some ((6:Nat):Int) from rfl,qcjz] at n2;have m2:New G q2 (.lst ((as.take 6).map cD)) G2:=⟨n1.sub.of_none n2.non,n1.sub.trans n2.sub,n2.at_⟩;have hpp2:=m2.sub _ _ hpp;refine⟨pp,4,rfl,hpp2,⟨by decide,qqz (by decide) (by decide)⟩,fun t t1 t2=>⟨⟨by omega,by omega⟩,?_⟩⟩;refine qwz (fun ds τ G'=>∃(bs:List Clk) (x2 x3:Option D),τ=[some (.obj pp),some (.obj q2),x2,x3]/\New G q2 (.lst ((as.take 6++bs).map cD)) G'/\ClSm bs/\bs.length+ds.length≤3) (fun _ _ _ _=>trivial) ?_ ?_ _ _ _ ⟨[],_,_,rfl,by rw[List.append_nil];exact m2,nofun,?_⟩
 ·rintro d ds τ G3 N ⟨bs,x2,x3,rfl,m3,okb,hb⟩ hN;have hpp3:=m3.sub _ _ hpp;have e3:=m3.at_;refine⟨pp,5,rfl,hpp3,⟨by decide,qqz (by decide) (by decide)⟩,fun u u1 u2=>?_⟩;obtain⟨stp,hm,es⟩:=qe5z (ns:=[1,2,3,4,6]) u1 u2;have hs:(1≤stp/\stp≤24)/\stp∣720:=by
   simp at hm;rcases hm with rfl|rfl|rfl|rfl|rfl<;>decide
  refine⟨.int stp,es,⟨q2,_,rfl,e3⟩,pp,stp,rfl,hpp3,⟨by omega,qqz (by omega) (by omega)⟩,fun v v1 v2=>?_⟩;simp only[List.length_cons] at hb;have htl:(as.take 6).length≤6:=by rw[List.length_take];omega
  refine⟨_,e3,by rw[List.length_map,List.length_append];exact Nat.lt_of_le_of_lt (show (as.take 6).length+bs.length≤20 by omega) (by decide),?_⟩;refine hN _ _ ⟨bs++[(stp,v)],_,_,rfl,?_,fun c hc=>?_,by rw[List.length_append];simp;omega⟩
  ·have:=wrote (o':=.lst ((as.take 6++bs).map cD++[D.tup [.int stp,.int v]])) m3;rw[show (as.take 6++(bs++[(stp,v)])).map cD=(as.take 6++bs).map cD++[D.tup [.int stp,.int v]] by rw[←List.append_assoc,List.map_append];rfl];exact this
  ·rcases List.mem_append.mp hc with hc|hc
   ·exact okb c hc
   ·rw[List.mem_singleton.mp hc];exact⟨⟨by show 0<stp;omega,v1,v2⟩,hs.1.2,hs.2⟩
 ·rintro τ G3 ⟨bs,x2,x3,rfl,m3,okb,hb⟩;have htl:(as.take 6).length≤6:=by rw[List.length_take];omega
  refine⟨_,qgvz m3.at_,by rw[List.length_map,List.length_append];simp at hb;omega,qguz,fun p4 mss G4 n4 hmem nd hr hl4=>?_⟩;obtain⟨us,rfl,hmem2,hr2,hl2⟩:=qlaz hmem nd hr hl4;rw[qe6z] at n4;refine⟨_,n4.at_,fun p5 G5 n5=>⟨_,n5.at_,?_⟩⟩;rw[qa8z,show (some (8:Int))=some ((8:Nat):Int) from rfl,qcjz];have hmm:∀z∈us.take 8,z∈as∨z∈bs:=fun z hz=>by
   rcases List.mem_append.mp ((hmem2 z).mp (List.mem_of_mem_take hz)) with h|h
   ·exact .inl (List.mem_of_mem_take h)
   ·exact .inr h
  refine qa7z (m3.sub.trans (n4.sub.trans n5.sub)) (q (us.take 8) ⟨fun c hc=>?_,hr2.take 8,by rw[List.length_take];omega,bs,by simp at hb;omega,fun a ha b hb' na nb hne x=>?_⟩)
  ·rcases hmm c hc with h|h
   ·exact hP.1 c h
   ·exact okb c h
  ·rcases hmm a ha with h1|h1
   ·rcases hmm b hb' with h2|h2
    ·exact qg8z hP.2.1 (fun z hz=>(hP.1 z hz).1) h1 h2 hne x
    ·exact absurd h2 nb
   ·exact absurd h1 na
 ·show ([]:List Clk).length+(rngL 0 t.toNat).length≤3;rw[qbjz];simp;omega
def sp_law:Sp3:=fun ds G Q=>∃ns:List Int,ds=[.scr (ns.map .int)]/\ns.length≤63/\Q (.bl true) G
def q1sz:TS3:=sIf (eNot (eTest (eCall qcaz (aCons (eCB qa3z (aCons (eCB qc2z (aCons (eCall qb7z (aCons (eVar 2) (aCons (eC (.int 3)) (aNil)))) (aNil))) (aNil))) (aNil))))) (sRet (eC (.bl false))) (sNext)
def qnvz:TS3:=sSeq (sIf (eOr (eNot (eTest (eCall qcaz (aCons (eCall qd4z (aCons (eVar 2) (aNil))) (aNil))))) (eNot (eTest (eCall qcaz (aCons (eSl (eCall qdrz (aCons (eVar 2) (aNil))) (oNone) (oSome (eC (.int 6)))) (aNil)))))) (sRet (eC (.bl false))) (sNext)) q1sz
def q1tz:TS3:=sSeq (sAsg (eCall qgqz (aCons (eVar 1) (aNil))) (hName 2)) qnvz
def q1uz:TS3:=sRet (eC (.bl true))
def qnwz:TS3:=sSeq (sFor (iSeq (eOp rAdd3 (eLst (aCons (eCall qc8z (aCons (eVar 0) (aCons (eC (.int 0)) (aNil)))) (aNil))) (eSl (eVar 0) (oSome (eC (.int 1))) (oSome (eC (.int 4)))))) (hName 1) (q1tz)) q1uz
theorem q1vz{cs:List Clk}(h:cs.length≤6):Bd cs:=by
 refine⟨cs.tail,by rw[List.length_tail];omega,fun a ha b hb na nb hne x=>?_⟩;exfalso;cases cs with
 |nil=>cases ha
 |cons c cs=>
  have e1:a=c:=by
   rcases List.mem_cons.mp ha with e|e
   ·exact e
   ·exact absurd e na
  have e2:b=c:=by
   rcases List.mem_cons.mp hb with e|e
   ·exact e
   ·exact absurd e nb
  exact hne (e1.trans e2.symm)
theorem perm_back{L:List Clk}{mss:List (List Int)}(hp:mss.Perm (L.map toL)):∃cs':List Clk,mss=cs'.map toL/\cs'.Perm L:=by
 obtain⟨cs',rfl,_⟩:=qgtz (cs:=L) fun ns hn=>hp.mem_iff.mp hn;refine⟨cs',rfl,?_⟩;have back:∀us:List Clk,(us.map toL).map (fun l=>((l.getD 0 0,l.getD 1 0):Clk))=us:=fun us=>by
  rw[List.map_map];exact List.map_id _
 have:=hp.map (fun l:List Int=>((l.getD 0 0,l.getD 1 0):Clk));rwa [back,back] at this
theorem q1wz{D3:Ends3}{G:Gp}{pp:Addr}{x0 x1:Option D}(hpp:G pp=some .pen)(q:∀G',Sub G G'->D3.nx [x0,x1,some (.obj pp)] G'):qnvz D3 [x0,x1,some (.obj pp)] G:=by
 refine⟨pp,rfl,hpp,fun cs rt=>⟨cs,rfl,rt,fun G1 s1=>⟨nofun,fun _=>⟨pp,rfl,s1 _ _ hpp,fun es sm hl hr=>?_⟩⟩⟩⟩;have h6:(es.take 6).length≤6:=by rw[List.length_take];omega
 refine⟨es.take 6,?_,⟨fun c hc=>sm c (List.mem_of_mem_take hc),hr.take 6,by omega,q1vz h6⟩,fun G2 s2=>⟨nofun,fun _=>?_⟩⟩
 ·show [D.tup (cut3 (es.map cD) none (some ((6:Nat):Int)))]=_;rw[qa8z,qcjz];rfl
 refine⟨pp,3,rfl,s2 _ _ (s1 _ _ hpp),⟨by decide,by decide⟩,fun q3 as G3 hP l1 l2 n3=>?_⟩;refine⟨_,qgvz n3.at_,by rw[List.length_map];omega,qguz,fun p4 mss G4 n4 hpm hr4=>?_⟩;obtain⟨us,rfl,hpu⟩:=perm_back hpm;rw[qe6z] at n4;refine⟨_,n4.at_,us,rfl,⟨fun c hc=>hP.1 c (hpu.mem_iff.mp hc),qk9z hr4 (List.pairwise_map.mpr (((hpu.nodup_iff).mpr hP.2.1.nodup).imp fun h e=>h (qk8z e))),by rw[hpu.length_eq];omega,[],by decide,fun a ha b hb _ _ hne x=>qg8z hP.2.1 (fun z hz=>(hP.1 z hz).1) (hpu.mem_iff.mp ha) (hpu.mem_iff.mp hb) hne x⟩,fun G5 s5=>⟨nofun,fun _=>q G5 (s1.trans (s2.trans (n3.sub.trans (n4.sub.trans s5))))⟩⟩
theorem q1xz:∀ds G Q,sp_law ds G Q->qnwz (endsOf Q) (start3 ["script","cell","pen"] ds) G:=by
 rintro ds G Q ⟨ns,rfl,hl,q⟩;refine⟨ns,0,rfl,fun i=>?_⟩;intro q0 G0 n0 q1 G1 n1;rw[qa8z] at n1;have hcl:=qv4z ns (some 1) (some 4);refine⟨_,_,n1.sub _ _ n0.at_,n1.at_,?_,fun q2 G2 n2=>?_⟩
 ·rw[List.length_map];exact line1000 (by simp;omega)
 have s2:=(n0.sub.trans n1.sub).trans n2.sub;refine⟨_,n2.at_,?_⟩;refine qwz (fun ds τ G'=>(∃is:List Int,ds=is.map D.int)/\Sub G2 G'/\∃x1 x2,τ=[some (.scr (ns.map .int)),x1,x2]) (fun _ _ _ h=>h.2.1 _ _ n2.at_) ?_ ?_ _ _ _ ⟨⟨i::cutG ns (some 1) (some 4),rfl⟩,Sub.refl _,_,_,rfl⟩
 ·rintro d ds τ G3 N ⟨⟨is,e⟩,s3,x1,x2,rfl⟩ hN;cases is with
  |nil=>cases e
  |cons cc is=>
   cases e;exact⟨cc,rfl,fun pp G4 n4=>q1wz n4.at_ fun G5 s5=>hN _ _ ⟨⟨is,rfl⟩,s3.trans (n4.sub.trans s5),_,_,rfl⟩⟩
 ·rintro τ G3 ⟨_,s3,x1,x2,rfl⟩;exact qa7z (s2.trans s3) q
end My
namespace My
open PySem L2 L3
def top(i:Nat):Stmt:=PySem.Challenge.pw_coverclocks_k29_whole_least_covers.main.body.getD i (.Pass ⟨0,0,0,0⟩)
abbrev qhaz:Stmt:=top 6
abbrev q1yz:List Str:=["thing"]
theorem q1zz:FnScope q1yz ["thing"] (defScope qhaz):=⟨rfl,rfl,rfl,by decide +kernel,rfl,by decide +kernel,by decide +kernel⟩
abbrev qhbz:Stmt:=top 7
abbrev q10z:List Str:=["things","thing"]
theorem q11z:FnScope q10z ["things","thing"] (defScope qhbz):=⟨rfl,rfl,rfl,by decide +kernel,rfl,by decide +kernel,by decide +kernel⟩
abbrev qhcz:Stmt:=top 8
abbrev q12z:List Str:=["things","thing"]
theorem q13z:FnScope q12z ["things","thing"] (defScope qhcz):=⟨rfl,rfl,rfl,by decide +kernel,rfl,by decide +kernel,by decide +kernel⟩
abbrev qd5z:Stmt:=top 9
abbrev qhdz:List Str:=["things","thing"]
theorem q14z:FnScope qhdz ["things","thing"] (defScope qd5z):=⟨rfl,rfl,rfl,by decide +kernel,rfl,by decide +kernel,by decide +kernel⟩
abbrev qhez:Stmt:=top 10
abbrev q15z:List Str:=["many","most"]
theorem q16z:FnScope q15z ["many","most"] (defScope qhez):=⟨rfl,rfl,rfl,by decide +kernel,rfl,by decide +kernel,by decide +kernel⟩
abbrev qhfz:Stmt:=top 11
abbrev q17z:List Str:=["times","number","turn"]
theorem sc_z40:FnScope q17z ["times"] (defScope qhfz):=⟨rfl,rfl,rfl,by decide +kernel,rfl,by decide +kernel,by decide +kernel⟩
abbrev qhgz:Stmt:=top 12
abbrev q18z:List Str:=["one","other","left"]
theorem sc_z3:FnScope q18z ["one","other"] (defScope qhgz):=⟨rfl,rfl,rfl,by decide +kernel,rfl,by decide +kernel,by decide +kernel⟩
abbrev qhhz:Stmt:=top 13
abbrev q19z:List Str:=["numbers","least","number"]
theorem sc_z1:FnScope q19z ["numbers"] (defScope qhhz):=⟨rfl,rfl,rfl,by decide +kernel,rfl,by decide +kernel,by decide +kernel⟩
abbrev qhiz:Stmt:=top 14
abbrev q2az:List Str:=["number","bound","high","low","high_factor","low_factor","turns","left","left_factor"]
theorem sc_z28:FnScope q2az ["number","bound"] (defScope qhiz):=⟨rfl,rfl,rfl,by decide +kernel,rfl,by decide +kernel,by decide +kernel⟩
abbrev qhjz:Stmt:=top 15
abbrev q2bz:List Str:=["top","bottom","shared"]
theorem sc_z9:FnScope q2bz ["top","bottom"] (defScope qhjz):=⟨rfl,rfl,rfl,by decide +kernel,rfl,by decide +kernel,by decide +kernel⟩
abbrev qhkz:Stmt:=top 16
abbrev q2cz:List Str:=["clocks","many","counts","step","rest","number"]
theorem sc_z6:FnScope q2cz ["clocks","many"] (defScope qhkz):=⟨rfl,rfl,rfl,by decide +kernel,rfl,by decide +kernel,by decide +kernel⟩
abbrev qhlz:Stmt:=top 17
abbrev q2dz:List Str:=["clock","counts","many","number"]
theorem sc_z5:FnScope q2dz ["clock","counts","many"] (defScope qhlz):=⟨rfl,rfl,rfl,by decide +kernel,rfl,by decide +kernel,by decide +kernel⟩
abbrev qhmz:Stmt:=top 19
abbrev q2ez:List Str:=["clock","number"]
theorem q2fz:FnScope q2ez ["clock","number"] (defScope qhmz):=⟨rfl,rfl,rfl,by decide +kernel,rfl,by decide +kernel,by decide +kernel⟩
abbrev qfiz:Stmt:=top 20
abbrev qnxz:List Str:=["clocks","number"]
theorem q2gz:FnScope qnxz ["clocks","number"] (defScope qfiz):=⟨rfl,rfl,rfl,by decide +kernel,rfl,by decide +kernel,by decide +kernel⟩
abbrev qfjz:Stmt:=top 21
abbrev qnyz:List Str:=["clocks"]
theorem q2hz:FnScope qnyz ["clocks"] (defScope qfjz):=⟨rfl,rfl,rfl,by decide +kernel,rfl,by decide +kernel,by decide +kernel⟩
abbrev qhnz:Stmt:=top 22
abbrev q2iz:List Str:=["one","other","shared","apart","many","turns"]
theorem sc_z37:FnScope q2iz ["one","other"] (defScope qhnz):=⟨rfl,rfl,rfl,by decide +kernel,rfl,by decide +kernel,by decide +kernel⟩
abbrev qhoz:Stmt:=top 24
abbrev q2jz:List Str:=["clocks"]
theorem q2kz:FnScope q2jz ["clocks"] (defScope qhoz):=⟨rfl,rfl,rfl,by decide +kernel,rfl,by decide +kernel,by decide +kernel⟩
abbrev qhpz:Stmt:=top 25
abbrev q2lz:List Str:=["clocks"]
theorem q2mz:FnScope q2lz ["clocks"] (defScope qhpz):=⟨rfl,rfl,rfl,by decide +kernel,rfl,by decide +kernel,by decide +kernel⟩
abbrev qhqz:Stmt:=top 26
abbrev q2nz:List Str:=["clocks","clock"]
theorem q2oz:FnScope q2nz ["clocks","clock"] (defScope qhqz):=⟨rfl,rfl,rfl,by decide +kernel,rfl,by decide +kernel,by decide +kernel⟩
abbrev qfkz:Stmt:=top 28
abbrev qnzz:List Str:=["clocks"]
theorem q2pz:FnScope qnzz ["clocks"] (defScope qfkz):=⟨rfl,rfl,rfl,by decide +kernel,rfl,by decide +kernel,by decide +kernel⟩
abbrev qhrz:Stmt:=top 29
abbrev q2qz:List Str:=["clocks","place"]
theorem q2rz:FnScope q2qz ["clocks","place"] (defScope qhrz):=⟨rfl,rfl,rfl,by decide +kernel,rfl,by decide +kernel,by decide +kernel⟩
abbrev qflz:Stmt:=top 30
abbrev qn0z:List Str:=["clocks","counts"]
theorem sc_z16:FnScope qn0z ["clocks"] (defScope qflz):=⟨rfl,rfl,rfl,by decide +kernel,rfl,by decide +kernel,by decide +kernel⟩
abbrev qhsz:Stmt:=top 31
abbrev q2sz:List Str:=["clocks","thing","clock","number"]
theorem sc_z23:FnScope q2sz ["clocks","thing"] (defScope qhsz):=⟨rfl,rfl,rfl,by decide +kernel,rfl,by decide +kernel,by decide +kernel⟩
abbrev qhtz:Stmt:=top 32
abbrev q2tz:List Str:=["clocks","numbers"]
theorem sc_z18:FnScope q2tz ["clocks"] (defScope qhtz):=⟨rfl,rfl,rfl,by decide +kernel,rfl,by decide +kernel,by decide +kernel⟩
abbrev qctz:Stmt:=top 33
abbrev qfmz:List Str:=["clocks","bits","wanted","spared"]
theorem sc_z15:FnScope qfmz ["clocks"] (defScope qctz):=⟨rfl,rfl,rfl,by decide +kernel,rfl,by decide +kernel,by decide +kernel⟩
abbrev qhuz:Stmt:=top 34
abbrev q2uz:List Str:=["clocks"]
theorem q2vz:FnScope q2uz ["clocks"] (defScope qhuz):=⟨rfl,rfl,rfl,by decide +kernel,rfl,by decide +kernel,by decide +kernel⟩
abbrev qfnz:Stmt:=top 35
abbrev qn1z:List Str:=["clocks","thing","chosen"]
theorem sc_z21:FnScope qn1z ["clocks","thing"] (defScope qfnz):=⟨rfl,rfl,rfl,by decide +kernel,rfl,by decide +kernel,by decide +kernel⟩
abbrev qhvz:Stmt:=top 36
abbrev q2wz:List Str:=["clocks","bits","many","marks","clock","bit","number"]
theorem sc_z27:FnScope q2wz ["clocks","bits"] (defScope qhvz):=⟨rfl,rfl,rfl,by decide +kernel,rfl,by decide +kernel,by decide +kernel⟩
abbrev qhwz:Stmt:=top 37
abbrev q2xz:List Str:=["clocks","bits","wanted","mark","bit"]
theorem sc_z14:FnScope q2xz ["clocks","bits"] (defScope qhwz):=⟨rfl,rfl,rfl,by decide +kernel,rfl,by decide +kernel,by decide +kernel⟩
abbrev qfoz:Stmt:=top 38
abbrev qn2z:List Str:=["wanted","bits","mark"]
theorem q2yz:FnScope qn2z ["wanted","bits","mark"] (defScope qfoz):=⟨rfl,rfl,rfl,by decide +kernel,rfl,by decide +kernel,by decide +kernel⟩
abbrev qfpz:Stmt:=top 39
abbrev qn3z:List Str:=["bits","mark"]
theorem q2zz:FnScope qn3z ["bits","mark"] (defScope qfpz):=⟨rfl,rfl,rfl,by decide +kernel,rfl,by decide +kernel,by decide +kernel⟩
abbrev qfqz:Stmt:=top 41
abbrev qn4z:List Str:=["clocks","bottom"]
theorem sc_z29:FnScope qn4z ["clocks"] (defScope qfqz):=⟨rfl,rfl,rfl,by decide +kernel,rfl,by decide +kernel,by decide +kernel⟩
abbrev qhxz:Stmt:=top 42
abbrev q20z:List Str:=["clocks","place","other","met"]
theorem sc_z32:FnScope q20z ["clocks"] (defScope qhxz):=⟨rfl,rfl,rfl,by decide +kernel,rfl,by decide +kernel,by decide +kernel⟩
abbrev qhyz:Stmt:=top 43
abbrev q21z:List Str:=["clocks"]
theorem q22z:FnScope q21z ["clocks"] (defScope qhyz):=⟨rfl,rfl,rfl,by decide +kernel,rfl,by decide +kernel,by decide +kernel⟩
abbrev qhzz:Stmt:=top 45
abbrev q23z:List Str:=["script","k"]
theorem q24z:FnScope q23z ["script","k"] (defScope qhzz):=⟨rfl,rfl,rfl,by decide +kernel,rfl,by decide +kernel,by decide +kernel⟩
abbrev qh0z:Stmt:=top 46
abbrev q25z:List Str:=["seed"]
theorem sc_z34:FnScope q25z ["seed"] (defScope qh0z):=⟨rfl,rfl,rfl,by decide +kernel,rfl,by decide +kernel,by decide +kernel⟩
abbrev qh1z:Stmt:=top 47
abbrev q26z:List Str:=["cell","left"]
theorem sc_z22:FnScope q26z ["cell"] (defScope qh1z):=⟨rfl,rfl,rfl,by decide +kernel,rfl,by decide +kernel,by decide +kernel⟩
abbrev qh2z:Stmt:=top 48
abbrev q27z:List Str:=["pen","many","found"]
theorem sc_z33:FnScope q27z ["pen","many"] (defScope qh2z):=⟨rfl,rfl,rfl,by decide +kernel,rfl,by decide +kernel,by decide +kernel⟩
abbrev qfrz:Stmt:=top 49
abbrev qn5z:List Str:=["pen","times","found","turn","spot","k","step","rest"]
theorem sc_z31:FnScope qn5z ["pen","times"] (defScope qfrz):=⟨rfl,rfl,rfl,by decide +kernel,rfl,by decide +kernel,by decide +kernel⟩
abbrev qh3z:Stmt:=top 50
abbrev q28z:List Str:=["pen","way","found","steps","turn","step"]
theorem sc_z8:FnScope q28z ["pen"] (defScope qh3z):=⟨rfl,rfl,rfl,by decide +kernel,rfl,by decide +kernel,by decide +kernel⟩
abbrev qh4z:Stmt:=top 51
abbrev q29z:List Str:=["pen","found","turn","step"]
theorem sc_z39:FnScope q29z ["pen"] (defScope qh4z):=⟨rfl,rfl,rfl,by decide +kernel,rfl,by decide +kernel,by decide +kernel⟩
abbrev qd6z:Stmt:=top 52
abbrev qh5z:List Str:=["clocks","places","some","paper","idle"]
theorem sc_z7:FnScope qh5z ["clocks","places"] (defScope qd6z):=⟨rfl,rfl,rfl,by decide +kernel,rfl,by decide +kernel,by decide +kernel⟩
abbrev qh6z:Stmt:=top 53
abbrev q3az:List Str:=["clocks","idle","place","others","lone"]
theorem sc_z4:FnScope q3az ["clocks"] (defScope qh6z):=⟨rfl,rfl,rfl,by decide +kernel,rfl,by decide +kernel,by decide +kernel⟩
abbrev qcuz:Stmt:=top 54
abbrev qfsz:List Str:=["clocks","some","one","other","fewest"]
theorem sc_z30:FnScope qfsz ["clocks"] (defScope qcuz):=⟨rfl,rfl,rfl,by decide +kernel,rfl,by decide +kernel,by decide +kernel⟩
abbrev qh7z:Stmt:=top 55
abbrev q3bz:List Str:=["script","cell","pen"]
theorem sc_law:FnScope q3bz ["script"] (defScope qh7z):=⟨rfl,rfl,rfl,by decide +kernel,rfl,by decide +kernel,by decide +kernel⟩
set_option genInjectivity false in
structure Adr where
 f_z24:Addr
 d_z24:FuncData
 f_z25:Addr
 d_z25:FuncData
 f_z2:Addr
 d_z2:FuncData
 f_z0:Addr
 d_z0:FuncData
 f_z10:Addr
 d_z10:FuncData
 f_z40:Addr
 d_z40:FuncData
 f_z3:Addr
 d_z3:FuncData
 f_z1:Addr
 d_z1:FuncData
 f_z28:Addr
 d_z28:FuncData
 f_z9:Addr
 d_z9:FuncData
 f_z6:Addr
 d_z6:FuncData
 f_z5:Addr
 d_z5:FuncData
 f_z43:Addr
 d_z43:FuncData
 f_z35:Addr
 d_z35:FuncData
 f_z36:Addr
 d_z36:FuncData
 f_z37:Addr
 d_z37:FuncData
 f_z42:Addr
 d_z42:FuncData
 f_z12:Addr
 d_z12:FuncData
 f_z11:Addr
 d_z11:FuncData
 f_z41:Addr
 d_z41:FuncData
 f_z38:Addr
 d_z38:FuncData
 f_z16:Addr
 d_z16:FuncData
 f_z23:Addr
 d_z23:FuncData
 f_z18:Addr
 d_z18:FuncData
 f_z15:Addr
 d_z15:FuncData
 f_z13:Addr
 d_z13:FuncData
 f_z21:Addr
 d_z21:FuncData
 f_z27:Addr
 d_z27:FuncData
 f_z14:Addr
 d_z14:FuncData
 f_z19:Addr
 d_z19:FuncData
 f_z17:Addr
 d_z17:FuncData
 f_z29:Addr
 d_z29:FuncData
 f_z32:Addr
 d_z32:FuncData
 f_z26:Addr
 d_z26:FuncData
 f_z20:Addr
 d_z20:FuncData
 f_z34:Addr
 d_z34:FuncData
 f_z22:Addr
 d_z22:FuncData
 f_z33:Addr
 d_z33:FuncData
 f_z31:Addr
 d_z31:FuncData
 f_z8:Addr
 d_z8:FuncData
 f_z39:Addr
 d_z39:FuncData
 f_z7:Addr
 d_z7:FuncData
 f_z4:Addr
 d_z4:FuncData
 f_z30:Addr
 d_z30:FuncData
 f_law:Addr
 d_law:FuncData
 t_MOST_NUMBERS:Tok
structure Txt(K:PySem.W.Frag)(mg:Str->Option Value)(t:Adr):Prop where
 F_z24:Fun K "whole_good" "whole_good" qhaz t.f_z24 t.d_z24
 m_z24:mg "whole_good" = some (.ref t.f_z24)
 b_z24:Binds K t.d_z24 ["thing"] []
 F_z25:Fun K "place_good" "place_good" qhbz t.f_z25 t.d_z25
 m_z25:mg "place_good" = some (.ref t.f_z25)
 b_z25:Binds K t.d_z25 ["things","thing"] []
 F_z2:Fun K "refuse_no_place" "refuse_no_place" qhcz t.f_z2 t.d_z2
 m_z2:mg "refuse_no_place" = some (.ref t.f_z2)
 b_z2:Binds K t.d_z2 ["things","thing"] []
 F_z0:Fun K "rising_places_good" "rising_places_good" qd5z t.f_z0 t.d_z0
 m_z0:mg "rising_places_good" = some (.ref t.f_z0)
 b_z0:Binds K t.d_z0 ["things","thing"] []
 F_z10:Fun K "refuse_above" "refuse_above" qhez t.f_z10 t.d_z10
 m_z10:mg "refuse_above" = some (.ref t.f_z10)
 b_z10:Binds K t.d_z10 ["many","most"] []
 F_z40:Fun K "doubled" "doubled" qhfz t.f_z40 t.d_z40
 m_z40:mg "doubled" = some (.ref t.f_z40)
 b_z40:Binds K t.d_z40 ["times"] []
 F_z3:Fun K "common_divisor" "common_divisor" qhgz t.f_z3 t.d_z3
 m_z3:mg "common_divisor" = some (.ref t.f_z3)
 b_z3:Binds K t.d_z3 ["one","other"] []
 F_z1:Fun K "common_multiple" "common_multiple" qhhz t.f_z1 t.d_z1
 m_z1:mg "common_multiple" = some (.ref t.f_z1)
 b_z1:Binds K t.d_z1 ["numbers"] []
 F_z28:Fun K "inverse_of" "inverse_of" qhiz t.f_z28 t.d_z28
 m_z28:mg "inverse_of" = some (.ref t.f_z28)
 b_z28:Binds K t.d_z28 ["number","bound"] []
 F_z9:Fun K "lowest_terms" "lowest_terms" qhjz t.f_z9 t.d_z9
 m_z9:mg "lowest_terms" = some (.ref t.f_z9)
 b_z9:Binds K t.d_z9 ["top","bottom"] []
 F_z6:Fun K "counts_within" "counts_within" qhkz t.f_z6 t.d_z6
 m_z6:mg "counts_within" = some (.ref t.f_z6)
 b_z6:Binds K t.d_z6 ["clocks","many"] []
 F_z5:Fun K "first_counted" "first_counted" qhlz t.f_z5 t.d_z5
 m_z5:mg "first_counted" = some (.ref t.f_z5)
 b_z5:Binds K t.d_z5 ["clock","counts","many"] []
 F_z43:Fun K "rings" "rings" qhmz t.f_z43 t.d_z43
 m_z43:mg "rings" = some (.ref t.f_z43)
 b_z43:Binds K t.d_z43 ["clock","number"] []
 F_z35:Fun K "rings_at" "rings_at" qfiz t.f_z35 t.d_z35
 m_z35:mg "rings_at" = some (.ref t.f_z35)
 b_z35:Binds K t.d_z35 ["clocks","number"] []
 F_z36:Fun K "round_of" "round_of" qfjz t.f_z36 t.d_z36
 m_z36:mg "round_of" = some (.ref t.f_z36)
 b_z36:Binds K t.d_z36 ["clocks"] []
 F_z37:Fun K "meet_of" "meet_of" qhnz t.f_z37 t.d_z37
 m_z37:mg "meet_of" = some (.ref t.f_z37)
 b_z37:Binds K t.d_z37 ["one","other"] []
 F_z42:Fun K "covers" "covers" qhoz t.f_z42 t.d_z42
 m_z42:mg "covers" = some (.ref t.f_z42)
 b_z42:Binds K t.d_z42 ["clocks"] []
 F_z12:Fun K "first_missed" "first_missed" qhpz t.f_z12 t.d_z12
 m_z12:mg "first_missed" = some (.ref t.f_z12)
 b_z12:Binds K t.d_z12 ["clocks"] []
 F_z11:Fun K "first_within" "first_within" qhqz t.f_z11 t.d_z11
 m_z11:mg "first_within" = some (.ref t.f_z11)
 b_z11:Binds K t.d_z11 ["clocks","clock"] []
 F_z41:Fun K "idle_of" "idle_of" qfkz t.f_z41 t.d_z41
 m_z41:mg "idle_of" = some (.ref t.f_z41)
 b_z41:Binds K t.d_z41 ["clocks"] []
 F_z38:Fun K "lone_at" "lone_at" qhrz t.f_z38 t.d_z38
 m_z38:mg "lone_at" = some (.ref t.f_z38)
 b_z38:Binds K t.d_z38 ["clocks","place"] []
 F_z16:Fun K "lone_numbers" "lone_numbers" qflz t.f_z16 t.d_z16
 m_z16:mg "lone_numbers" = some (.ref t.f_z16)
 b_z16:Binds K t.d_z16 ["clocks"] []
 F_z23:Fun K "needs_good" "needs_good" qhsz t.f_z23 t.d_z23
 m_z23:mg "needs_good" = some (.ref t.f_z23)
 b_z23:Binds K t.d_z23 ["clocks","thing"] []
 F_z18:Fun K "needs_paper" "needs_paper" qhtz t.f_z18 t.d_z18
 m_z18:mg "needs_paper" = some (.ref t.f_z18)
 b_z18:Binds K t.d_z18 ["clocks"] []
 F_z15:Fun K "least_covers" "least_covers" qctz t.f_z15 t.d_z15
 m_z15:mg "least_covers" = some (.ref t.f_z15)
 b_z15:Binds K t.d_z15 ["clocks"] []
 F_z13:Fun K "fewest_cover" "fewest_cover" qhuz t.f_z13 t.d_z13
 m_z13:mg "fewest_cover" = some (.ref t.f_z13)
 b_z13:Binds K t.d_z13 ["clocks"] []
 F_z21:Fun K "least_good" "least_good" qfnz t.f_z21 t.d_z21
 m_z21:mg "least_good" = some (.ref t.f_z21)
 b_z21:Binds K t.d_z21 ["clocks","thing"] []
 F_z27:Fun K "ring_marks" "ring_marks" qhvz t.f_z27 t.d_z27
 m_z27:mg "ring_marks" = some (.ref t.f_z27)
 b_z27:Binds K t.d_z27 ["clocks","bits"] []
 F_z14:Fun K "wanted_marks" "wanted_marks" qhwz t.f_z14 t.d_z14
 m_z14:mg "wanted_marks" = some (.ref t.f_z14)
 b_z14:Binds K t.d_z14 ["clocks","bits"] []
 F_z19:Fun K "most_spared" "most_spared" qfoz t.f_z19 t.d_z19
 m_z19:mg "most_spared" = some (.ref t.f_z19)
 b_z19:Binds K t.d_z19 ["wanted","bits","mark"] []
 F_z17:Fun K "places_kept" "places_kept" qfpz t.f_z17 t.d_z17
 m_z17:mg "places_kept" = some (.ref t.f_z17)
 b_z17:Binds K t.d_z17 ["bits","mark"] []
 F_z29:Fun K "shares_of" "shares_of" qfqz t.f_z29 t.d_z29
 m_z29:mg "shares_of" = some (.ref t.f_z29)
 b_z29:Binds K t.d_z29 ["clocks"] []
 F_z32:Fun K "clash_of" "clash_of" qhxz t.f_z32 t.d_z32
 m_z32:mg "clash_of" = some (.ref t.f_z32)
 b_z32:Binds K t.d_z32 ["clocks"] []
 F_z26:Fun K "exact_good" "exact_good" qhyz t.f_z26 t.d_z26
 m_z26:mg "exact_good" = some (.ref t.f_z26)
 b_z26:Binds K t.d_z26 ["clocks"] []
 F_z20:Fun K "_law_cell_at" "_law_cell_at" qhzz t.f_z20 t.d_z20
 m_z20:mg "_law_cell_at" = some (.ref t.f_z20)
 b_z20:Binds K t.d_z20 ["script","k"] []
 F_z34:Fun K "_law_next" "_law_next" qh0z t.f_z34 t.d_z34
 m_z34:mg "_law_next" = some (.ref t.f_z34)
 b_z34:Binds K t.d_z34 ["seed"] []
 F_z22:Fun K "_law_pen_of" "_law_pen_of" qh1z t.f_z22 t.d_z22
 m_z22:mg "_law_pen_of" = some (.ref t.f_z22)
 b_z22:Binds K t.d_z22 ["cell"] []
 F_z33:Fun K "_law_draw" "_law_draw" qh2z t.f_z33 t.d_z33
 m_z33:mg "_law_draw" = some (.ref t.f_z33)
 b_z33:Binds K t.d_z33 ["pen","many"] []
 F_z31:Fun K "_law_split" "_law_split" qfrz t.f_z31 t.d_z31
 m_z31:mg "_law_split" = some (.ref t.f_z31)
 b_z31:Binds K t.d_z31 ["pen","times"] []
 F_z8:Fun K "_law_clocks_of" "_law_clocks_of" qh3z t.f_z8 t.d_z8
 m_z8:mg "_law_clocks_of" = some (.ref t.f_z8)
 b_z8:Binds K t.d_z8 ["pen"] []
 F_z39:Fun K "_law_few" "_law_few" qh4z t.f_z39 t.d_z39
 m_z39:mg "_law_few" = some (.ref t.f_z39)
 b_z39:Binds K t.d_z39 ["pen"] []
 F_z7:Fun K "_law_one_right" "_law_one_right" qd6z t.f_z7 t.d_z7
 m_z7:mg "_law_one_right" = some (.ref t.f_z7)
 b_z7:Binds K t.d_z7 ["clocks","places"] []
 F_z4:Fun K "_law_idle_right" "_law_idle_right" qh6z t.f_z4 t.d_z4
 m_z4:mg "_law_idle_right" = some (.ref t.f_z4)
 b_z4:Binds K t.d_z4 ["clocks"] []
 F_z30:Fun K "_law_right" "_law_right" qcuz t.f_z30 t.d_z30
 m_z30:mg "_law_right" = some (.ref t.f_z30)
 b_z30:Binds K t.d_z30 ["clocks"] []
 F_law:Fun K "law" "law" qh7z t.f_law t.d_law
 m_law:mg "law" = some (.ref t.f_law)
 b_law:Binds K t.d_law ["script"] []
 m_MOST_NUMBERS:mg "MOST_NUMBERS" = some (.int 10000 t.t_MOST_NUMBERS)
 m_all:mg "all" = none
 m_bool:mg "bool" = none
 m_enumerate:mg "enumerate" = none
 m_int:mg "int" = none
 m_isinstance:mg "isinstance" = none
 m_len:mg "len" = none
 m_max:mg "max" = none
 m_min:mg "min" = none
 m_range:mg "range" = none
 m_set:mg "set" = none
 m_sorted:mg "sorted" = none
 m_sum:mg "sum" = none
 m_tuple:mg "tuple" = none
 m_zip:mg "zip" = none
section
variable {P:Program} {w:World} {K:PySem.W.Frag} {mg:Str->Option Value} {base:Heap} {t:Adr}
theorem q3cz:∀ds G Q,qchz ds G Q->ds.length=1:=by
 intro ds G Q h
 first
  | (rcases ds with _|⟨_,_|⟨_,_|⟨_,_|⟨_,_⟩⟩⟩⟩<;>first|rfl|exact h.elim)
  | (obtain⟨rfl,_⟩:=h;rfl)
  | (obtain⟨_,rfl,_⟩:=h;rfl)
  | (obtain⟨_,_,rfl,_⟩:=h;rfl)
  | (obtain⟨_,_,_,rfl,_⟩:=h;rfl)
  | (obtain⟨_,_,_,_,rfl,_⟩:=h;rfl)
  | (obtain⟨_,_,_,_,_,rfl,_⟩:=h;rfl)
  | (obtain⟨_,_,_,_,_,_,rfl,_⟩:=h;rfl)
  | (obtain⟨_,_,_,_,_,_,_,rfl,_⟩:=h;rfl)
  | (obtain⟨_,_,_,_,_,_,_,_,rfl,_⟩:=h;rfl)
theorem qn6z(T:Txt K mg t):FnOk3 P w K mg base 1 t.f_z24 t.d_z24 ["thing"] qchz:=by
 refine qfn3 (k:=0) (sp:=qchz) T.F_z24 q1zz (by decide) q3cz qkxz (fun cdv A outer s H E hr=>?_) qvuz;refine qez (qhz ?_);refine qewz (qeyz quaz rfl (qaz (pv 0)) T.m_isinstance T.m_int rfl (by decide) (by decide)) ?_;refine qc6z (qkqz (qeyz qubz rfl (qaz (pv 0)) T.m_isinstance T.m_bool rfl (by decide) (by decide)))
theorem q3dz:∀ds G Q,qcnz ds G Q->ds.length=2:=by
 intro ds G Q h;obtain⟨_,_,rfl,_⟩:=h;rfl
theorem qn7z(T:Txt K mg t):FnOk3 P w K mg base 2 t.f_z25 t.d_z25 ["things","thing"] qcnz:=by
 refine qfn3 (k:=1) (sp:=qcnz) T.F_z25 q11z (by decide) q3dz ql2z (fun cdv A outer s H E hr=>?_) qx0z;refine qez (qhz ?_);refine qewz (qgz ((qn6z T).mono (by decide)) hr T.m_z24 T.F_z24.kp T.b_z24 (qbz (qaz (pv 1)) qcz)) ?_;refine qc6z (qvrz l_le qcfz qplz (qcez hr.units0) qdz (qaz (pv 1)) (q3z hr.units T.m_len (qbz (qaz (pv 0)) qcz)))
theorem q3ez:∀ds G Q,qdnz ds G Q->ds.length=2:=by
 intro ds G Q h;obtain⟨_,_,rfl,_⟩:=h;rfl
theorem q3fz(T:Txt K mg t):FnOk3 P w K mg base 3 t.f_z2 t.d_z2 ["things","thing"] qdnz:=by
 refine qfn3 (k:=2) (sp:=qdnz) T.F_z2 q13z (by decide) q3ez ql3z (fun cdv A outer s H E hr=>?_) qx4z;refine qez (qsz (qahz (q5z ?_)) (qez qkrz) qrz);refine qgz ((qn7z T).mono (by decide)) hr T.m_z25 T.F_z25.kp T.b_z25 (qbz (qaz (pv 0)) (qbz (qaz (pv 1)) qcz))
theorem q3gz:∀ds G Q,qdqz ds G Q->ds.length=2:=by
 intro ds G Q h;obtain⟨_,_,rfl,_⟩:=h;rfl
theorem q3hz(T:Txt K mg t):FnOk3 P w K mg base 3 t.f_z0 t.d_z0 ["things","thing"] qdqz:=by
 refine qfn3 (k:=2) (sp:=qdqz) T.F_z0 q14z (by decide) q3gz ql5z (fun cdv A outer s H E hr=>?_) qx9z;refine qfz (qsz (qaoz ?_) (qez (qhz q1z)) qrz) (qez (qhz (qezz hr.units T.m_all (qbz ?_ qcz))));refine qa4z (qahz (q5z (qeyz kit_tuple rfl (qaz (pv 1)) T.m_isinstance T.m_tuple rfl (by decide) (by decide)))) ?_;refine qbmz (qahz (q5z (qezz hr.units T.m_all (qbz ?_ qcz))));refine q6z rfl (show CmpOk qhdz (defScope qd5z) _ ["place"] [0] from⟨rfl,by decide +kernel,by decide +kernel,by decide +kernel,by decide +kernel,by decide +kernel⟩) ?_ ?_;refine q2z (qaz (pv 1));intro s0 H0 fp0;refine⟨(qlz (i:=0) (show (["place","things"]:List Str).Nodup by decide +kernel)),qasz,?_⟩;refine qgz ((qn7z T).mono (by decide)) hr T.m_z25 T.F_z25.kp T.b_z25 (qbz (qaz (pv 1)) (qbz (qaz (pv 0)) qcz));refine q6z rfl (show CmpOk qhdz (defScope qd5z) _ ["ahead","place"] [] from⟨rfl,by decide +kernel,by decide +kernel,by decide +kernel,by decide +kernel,by decide +kernel⟩) ?_ ?_;refine qgnz T.m_zip (qbz (qaz (pv 1)) (qbz (qa6z (qaz (pv 1)) (qayz qdz) qbdz) qcz));intro s0 H0 fp0;refine⟨(qbzz rfl ?_),qasz,(qanz qcfz (qcez hr.units0) (qaz (pv 0)) (qaz (pv 1)) (nomark _))⟩;refine qaiz (qlz (i:=0) (show (["ahead","place"]:List Str).Nodup by decide +kernel)) ?_;refine qaiz (qlz (i:=1) (show (["ahead","place"]:List Str).Nodup by decide +kernel)) qbyz
theorem q3iz:∀ds G Q,qb3z ds G Q->ds.length=2:=by
 intro ds G Q h;obtain⟨_,_,rfl,_⟩:=h;rfl
theorem qh8z(T:Txt K mg t):FnOk3 P w K mg base 1 t.f_z10 t.d_z10 ["many","most"] qb3z:=by
 refine qfn3 (k:=0) (sp:=qb3z) T.F_z10 q16z (by decide) q3iz qlrz (fun cdv A outer s H E hr=>?_) qxgz;refine qez (qsz (qpz l_gt qpmz (qaz (pv 0)) (qaz (pv 1)) (nomark _)) (qez qkrz) qrz)
theorem q3jz:∀ds G Q,qcrz ds G Q->ds.length=1:=by
 intro ds G Q h;obtain⟨_,rfl,_⟩:=h;rfl
theorem qn8z(T:Txt K mg t):FnOk3 P w K mg base 1 t.f_z40 t.d_z40 ["times"] qcrz:=by
 refine qfn3 (k:=0) (sp:=qcrz) T.F_z40 sc_z40 (by decide) q3jz qmmz (fun cdv A outer s H E hr=>?_) qzrz;refine qfz (qkz (i:=1) sc_z40.nd qdz) (qfz ?_ (qez (qhz (qaz (pv 1)))));refine qzz PassesOwn.never rfl (qaxz T.m_range (qbz (qaz (pv 0)) qcz)) (qlz (i:=2) sc_z40.nd) ?_;refine qez (qvlz (i:=1) qviz sc_z40.nd (qaz (pv 1)) qijz)
theorem q3kz:∀ds G Q,qb2z ds G Q->ds.length=2:=by
 intro ds G Q h;obtain⟨_,_,rfl,_⟩:=h;rfl
theorem qh9z(T:Txt K mg t):FnOk3 P w K mg base 1 t.f_z3 t.d_z3 ["one","other"] qb2z:=by
 refine qfn3 (k:=0) (sp:=qb2z) T.F_z3 sc_z3 (by decide) q3kz qlez (fun cdv A outer s H E hr=>?_) qwbz;refine qfz ?_ (qez (qhz (qaz (pv 0))));refine qksz PassesOwn.never (qpz l_ne (qamz hr.units) (qaz (pv 1)) qdz (nomark _)) ?_;refine qfz (qkz (i:=2) sc_z3.nd (qiz qawz qauz (qaz (pv 0)) (qaz (pv 1)))) ?_;refine qfz (qkz (i:=0) sc_z3.nd (qaz (pv 1))) (qez (qkz (i:=1) sc_z3.nd (qaz (pv 2))))
theorem q3lz:∀ds G Q,qdcz ds G Q->ds.length=1:=by
 intro ds G Q h;obtain⟨_,_,rfl,_⟩:=h;rfl
theorem q3mz(T:Txt K mg t):FnOk3 P w K mg base 2 t.f_z1 t.d_z1 ["numbers"] qdcz:=by
 refine qfn3 (k:=1) (sp:=qdcz) T.F_z1 sc_z1 (by decide) q3lz qlfz (fun cdv A outer s H E hr=>?_) qwfz;refine qfz (qkz (i:=1) sc_z1.nd qdz) (qfz ?_ (qez (qhz (qaz (pv 1)))));refine qzz PassesOwn.never rfl (q2z (qaz (pv 0))) (qlz (i:=2) sc_z1.nd) (qez ?_);refine qkz (i:=1) sc_z1.nd (qiz qagz qafz (qaz (pv 1)) (qiz qa1z qa0z (qaz (pv 2)) ?_));refine qgz ((qh9z T).mono (by decide)) hr T.m_z3 T.F_z3.kp T.b_z3 ?_;refine qbz (qaz (pv 1)) (qbz (qaz (pv 2)) qcz)
theorem q3nz:∀ds G Q,qdfz ds G Q->ds.length=2:=by
 intro ds G Q h;obtain⟨_,_,rfl,_⟩:=h;rfl
theorem q3oz(T:Txt K mg t):FnOk3 P w K mg base 1 t.f_z28 t.d_z28 ["number","bound"] qdfz:=by
 refine qfn3 (k:=0) (sp:=qdfz) T.F_z28 sc_z28 (by decide) q3nz qlkz (fun cdv A outer s H E hr=>?_) qwzz;refine qfz (qkz (i:=2) sc_z28.nd (qaz (pv 1))) ?_;refine qfz (qkz (i:=3) sc_z28.nd (qiz qawz qauz (qaz (pv 0)) (qaz (pv 1)))) ?_;refine qfz (qkz (i:=4) sc_z28.nd qdz) (qfz (qkz (i:=5) sc_z28.nd qdz) ?_);refine qfz ?_ (qez (qhz (qiz qawz qauz (qaz (pv 4)) (qaz (pv 1)))));refine qksz PassesOwn.never (qpz l_ne (qamz hr.units) (qaz (pv 3)) qdz (nomark _)) ?_;refine qfz (qkz (i:=6) sc_z28.nd (qiz qa1z qa0z (qaz (pv 2)) (qaz (pv 3)))) ?_;refine qfz (qkz (i:=7) sc_z28.nd (qiz qcyz qcvz (qaz (pv 2)) (qiz qagz qafz (qaz (pv 6)) (qaz (pv 3))))) ?_;refine qfz (qkz (i:=8) sc_z28.nd (qiz qcyz qcvz (qaz (pv 4)) (qiz qagz qafz (qaz (pv 6)) (qaz (pv 5))))) ?_;refine qfz (qkz (i:=2) sc_z28.nd (qaz (pv 3))) (qfz (qkz (i:=4) sc_z28.nd (qaz (pv 5))) ?_);refine qfz (qkz (i:=3) sc_z28.nd (qaz (pv 7))) (qez (qkz (i:=5) sc_z28.nd (qaz (pv 8))))
theorem q3pz:∀ds G Q,qddz ds G Q->ds.length=2:=by
 intro ds G Q h;obtain⟨_,_,rfl,_⟩:=h;rfl
theorem q3qz(T:Txt K mg t):FnOk3 P w K mg base 2 t.f_z9 t.d_z9 ["top","bottom"] qddz:=by
 refine qfn3 (k:=1) (sp:=qddz) T.F_z9 sc_z9 (by decide) q3pz qlhz (fun cdv A outer s H E hr=>?_) qwjz;refine qfz (qkz (i:=2) sc_z9.nd ?_) ?_;refine qgz ((qh9z T).mono (by decide)) hr T.m_z3 T.F_z3.kp T.b_z3 ?_;refine qbz (qaz (pv 0)) (qbz (qaz (pv 1)) qcz);refine qez (qhz (qa5z (qbz (qiz qa1z qa0z (qaz (pv 0)) (qaz (pv 2))) (qbz (qiz qa1z qa0z (qaz (pv 1)) (qaz (pv 2))) qcz))))
theorem q3rz:∀ds G Q,qb4z ds G Q->ds.length=2:=by
 intro ds G Q h;obtain⟨_,_,rfl,_⟩:=h;rfl
theorem qn9z(T:Txt K mg t):FnOk3 P w K mg base 2 t.f_z6 t.d_z6 ["clocks","many"] qb4z:=by
 refine qfn3 (k:=1) (sp:=qb4z) T.F_z6 sc_z6 (by decide) q3rz qltz (fun cdv A outer s H E hr=>?_) qxmz;refine qfz (qbxz ?_) ?_;refine qgz ((qh8z T).mono (by decide)) hr T.m_z10 T.F_z10.kp T.b_z10 ?_;refine qbz (qaz (pv 1)) (qbz (qglz T.m_MOST_NUMBERS) qcz);refine qfz (qkz (i:=2) sc_z6.nd (qiz qagz qafz (qacz (qbz qdz qcz)) (qaz (pv 1)))) ?_;refine qfz ?_ (qez (qhz (qaz (pv 2))));refine qzz PassesOwn.never rfl (q2z (qaz (pv 0))) ?_ (qez ?_);refine qbzz rfl (qaiz (qlz (i:=3) sc_z6.nd) (qaiz (qlz (i:=4) sc_z6.nd) qbyz));refine qzz PassesOwn.never rfl (qgoz T.m_range (qbz (qaz (pv 4)) (qbz (qaz (pv 1)) (qbz (qaz (pv 3)) qcz)))) ?_ ?_;refine qlz (i:=5) sc_z6.nd;refine qez (qkwz (qaz (pv 2)) (qaz (pv 5)) qdz)
theorem q3sz:∀ds G Q,qclz ds G Q->ds.length=3:=by
 intro ds G Q h;obtain⟨_,_,_,_,_,rfl,_⟩:=h;rfl
theorem qoaz(T:Txt K mg t):FnOk3 P w K mg base 1 t.f_z5 t.d_z5 ["clock","counts","many"] qclz:=by
 refine qfn3 (k:=0) (sp:=qclz) T.F_z5 sc_z5 (by decide) q3sz qlvz (fun cdv A outer s H E hr=>?_) qxpz;refine qfz ?_ (qez (qhz qarz));refine qzz PassesOwn.never rfl (qgoz T.m_range ?_) (qlz (i:=3) sc_z5.nd) ?_;refine qbz (qoz (qaz (pv 0)) qdz) (qbz (q3z hr.units T.m_len (qbz (qaz (pv 1)) qcz)) (qbz (qoz (qaz (pv 0)) qdz) qcz));refine qez (qsz (qpz l_eq (qaqz hr.units) (qoz (qaz (pv 1)) (qaz (pv 3))) (qaz (pv 2)) (nomark _)) (qez (qhz (qaz (pv 3)))) qrz)
theorem q3tz:∀ds G Q,qc9z ds G Q->ds.length=2:=by
 intro ds G Q h;obtain⟨_,_,rfl,_⟩:=h;rfl
theorem q3uz(T:Txt K mg t):FnOk3 P w K mg base 1 t.f_z43 t.d_z43 ["clock","number"] qc9z:=by
 refine qfn3 (k:=0) (sp:=qc9z) T.F_z43 q2fz (by decide) q3tz qk2z (fun cdv A outer s H E hr=>?_) qv1z;refine qez (qhz (qanz l_eq (qaqz hr.units) (qiz qawz qauz (qaz (pv 1)) (qoz (qaz (pv 0)) qdz)) (qoz (qaz (pv 0)) qdz) (nomark _)))
theorem q3vz:∀ds G Q,qdaz ds G Q->ds.length=2:=by
 intro ds G Q h;obtain⟨_,_,rfl,_⟩:=h;rfl
theorem q3wz(T:Txt K mg t):FnOk3 P w K mg base 2 t.f_z35 t.d_z35 ["clocks","number"] qdaz:=by
 refine qfn3 (k:=1) (sp:=qdaz) T.F_z35 q2gz (by decide) q3vz qk3z (fun cdv A outer s H E hr=>?_) qv2z;refine qez (qhz ?_);refine q6z rfl (show CmpOk qnxz (defScope qfiz) _ ["clock"] [1] from⟨rfl,by decide +kernel,by decide +kernel,by decide +kernel,by decide +kernel,by decide +kernel⟩) ?_ ?_;refine q2z (qaz (pv 0));intro s0 H0 fp0;refine⟨(qlz (i:=0) (show (["clock","number"]:List Str).Nodup by decide +kernel)),?_,(qaz (pv 0))⟩;refine qb0z (q5z (qgz ((q3uz T).mono (by decide)) hr T.m_z43 T.F_z43.kp T.b_z43 (qbz (qaz (pv 0)) (qbz (qaz (pv 1)) qcz))))
theorem q3xz:∀ds G Q,qa9z ds G Q->ds.length=1:=by
 intro ds G Q h;obtain⟨_,rfl,_⟩:=h;rfl
theorem qd7z(T:Txt K mg t):FnOk3 P w K mg base 3 t.f_z36 t.d_z36 ["clocks"] qa9z:=by
 refine qfn3 (k:=2) (sp:=qa9z) T.F_z36 q2hz (by decide) q3xz qlgz (fun cdv A outer s H E hr=>?_) qwhz;refine qez (qhz ?_);refine qgz ((q3mz T).mono (by decide)) hr T.m_z1 T.F_z1.kp T.b_z1 (qbz ?_ qcz);refine q6z rfl (show CmpOk qnyz (defScope qfjz) _ ["clock"] [] from⟨rfl,by decide +kernel,by decide +kernel,by decide +kernel,by decide +kernel,by decide +kernel⟩) ?_ ?_;refine q2z (qaz (pv 0));intro s0 H0 fp0;refine⟨(qlz (i:=0) (show (["clock"]:List Str).Nodup by decide +kernel)),qasz,(qoz (qaz (pv 0)) qdz)⟩
theorem q3yz:∀ds G Q,qdgz ds G Q->ds.length=2:=by
 intro ds G Q h;obtain⟨_,_,rfl,_⟩:=h;rfl
theorem q3zz(T:Txt K mg t):FnOk3 P w K mg base 2 t.f_z37 t.d_z37 ["one","other"] qdgz:=by
 refine qfn3 (k:=1) (sp:=qdgz) T.F_z37 sc_z37 (by decide) q3yz qlmz (fun cdv A outer s H E hr=>?_) qw7z;refine qfz (qkz (i:=2) sc_z37.nd ?_) ?_;refine qgz ((qh9z T).mono (by decide)) hr T.m_z3 T.F_z3.kp T.b_z3 ?_;refine qbz (qoz (qaz (pv 0)) qdz) (qbz (qoz (qaz (pv 1)) qdz) qcz);refine qfz (qkz (i:=3) sc_z37.nd (qiz qcyz qcvz (qoz (qaz (pv 1)) qdz) (qoz (qaz (pv 0)) qdz))) ?_;refine qfz (qsz (qpz l_ne (qamz hr.units) (qiz qawz qauz (qaz (pv 3)) (qaz (pv 2))) qdz (nomark _)) (qez (qhz qarz)) qrz) ?_;refine qfz (qkz (i:=4) sc_z37.nd (qiz qa1z qa0z (qoz (qaz (pv 1)) qdz) (qaz (pv 2)))) ?_;refine qfz (qkz (i:=5) sc_z37.nd ?_) (qez (qhz ?_));refine qiz qawz qauz (qiz qagz qafz (qiz qa1z qa0z (qaz (pv 3)) (qaz (pv 2))) ?_) (qaz (pv 4));refine qgz ((q3oz T).mono (by decide)) hr T.m_z28 T.F_z28.kp T.b_z28 ?_;refine qbz (qiz qa1z qa0z (qoz (qaz (pv 0)) qdz) (qaz (pv 2))) (qbz (qaz (pv 4)) qcz);refine qa5z (qbz (qiz qagz qafz (qoz (qaz (pv 0)) qdz) (qaz (pv 4))) ?_);refine qbz (qiz qabz qaaz (qoz (qaz (pv 0)) qdz) (qiz qagz qafz (qoz (qaz (pv 0)) qdz) (qaz (pv 5)))) qcz
theorem q30z:∀ds G Q,qcmz ds G Q->ds.length=2:=by
 intro ds G Q h;obtain⟨_,_,rfl,_⟩:=h;rfl
theorem qobz(T:Txt K mg t):FnOk3 P w K mg base 4 t.f_z11 t.d_z11 ["clocks","clock"] qcmz:=by
 refine qfn3 (k:=3) (sp:=qcmz) T.F_z11 q2oz (by decide) q30z qlwz (fun cdv A outer s H E hr=>?_) qxqz;refine qez (qhz ?_);refine qgz ((qoaz T).mono (by decide)) hr T.m_z5 T.F_z5.kp T.b_z5 ?_;refine qbz (qaz (pv 1)) (qbz ?_ (qbz qdz qcz));refine qgz ((qn9z T).mono (by decide)) hr T.m_z6 T.F_z6.kp T.b_z6 (qbz (qaz (pv 0)) (qbz ?_ qcz));refine qgz ((qd7z T).mono (by decide)) hr T.m_z36 T.F_z36.kp T.b_z36 ?_;refine qbz (qiz qabz qaaz (qaz (pv 0)) (qa5z (qbz (qaz (pv 1)) qcz))) qcz
theorem q31z:∀ds G Q,qdkz ds G Q->ds.length=1:=by
 intro ds G Q h;obtain⟨_,rfl,_⟩:=h;rfl
theorem q32z(T:Txt K mg t):FnOk3 P w K mg base 5 t.f_z12 t.d_z12 ["clocks"] qdkz:=by
 refine qfn3 (k:=4) (sp:=qdkz) T.F_z12 q2mz (by decide) q31z qlyz (fun cdv A outer s H E hr=>?_) qxuz;refine qez (qhz ?_);refine qgz ((qobz T).mono (by decide)) hr T.m_z11 T.F_z11.kp T.b_z11 ?_;refine qbz (qaz (pv 0)) (qbz (qa5z (qbz qdz (qbz qdz qcz))) qcz)
theorem q33z:∀ds G Q,qb5z ds G Q->ds.length=1:=by
 intro ds G Q h;obtain⟨_,rfl,_⟩:=h;rfl
theorem qiaz(T:Txt K mg t):FnOk3 P w K mg base 6 t.f_z42 t.d_z42 ["clocks"] qb5z:=by
 refine qfn3 (k:=5) (sp:=qb5z) T.F_z42 q2kz (by decide) q33z qlzz (fun cdv A outer s H E hr=>?_) qxvz;refine qez (qhz ?_);refine qanz l_is qcbz (qgz ((q32z T).mono (by decide)) hr T.m_z12 T.F_z12.kp T.b_z12 (qbz (qaz (pv 0)) qcz)) ?_ (nomark _);refine qarz
theorem q34z:∀ds G Q,qb8z ds G Q->ds.length=1:=by
 intro ds G Q h;obtain⟨_,rfl,_⟩:=h;rfl
theorem qibz(T:Txt K mg t):FnOk3 P w K mg base 4 t.f_z16 t.d_z16 ["clocks"] qb8z:=by
 refine qfn3 (k:=3) (sp:=qb8z) T.F_z16 sc_z16 (by decide) q34z qmxz (fun cdv A outer s H E hr=>?_) q0hz;refine qfz (qkz (i:=1) sc_z16.nd ?_) (qez (qhz ?_));refine qgz ((qn9z T).mono (by decide)) hr T.m_z6 T.F_z6.kp T.b_z6 (qbz (qaz (pv 0)) ?_);refine qbz (qgz ((qd7z T).mono (by decide)) hr T.m_z36 T.F_z36.kp T.b_z36 (qbz (qaz (pv 0)) qcz)) qcz;refine q6z rfl (show CmpOk qn0z (defScope qflz) _ ["clock"] [1] from⟨rfl,by decide +kernel,by decide +kernel,by decide +kernel,by decide +kernel,by decide +kernel⟩) ?_ ?_;refine q2z (qaz (pv 0));intro s0 H0 fp0;refine⟨(qlz (i:=0) (show (["clock","counts"]:List Str).Nodup by decide +kernel)),qasz,?_⟩;refine qgz ((qoaz T).mono (by decide)) hr T.m_z5 T.F_z5.kp T.b_z5 ?_;refine qbz (qaz (pv 0)) (qbz (qaz (pv 1)) (qbz qdz qcz))
theorem q35z:∀ds G Q,qb9z ds G Q->ds.length=1:=by
 intro ds G Q h;obtain⟨_,rfl,_⟩:=h;rfl
theorem qicz(T:Txt K mg t):FnOk3 P w K mg base 5 t.f_z41 t.d_z41 ["clocks"] qb9z:=by
 refine qfn3 (k:=4) (sp:=qb9z) T.F_z41 q2pz (by decide) q35z qmzz (fun cdv A outer s H E hr=>?_) q0iz;refine qez (qhz ?_);refine q6z rfl (show CmpOk qnzz (defScope qfkz) _ ["place","number"] [] from⟨rfl,by decide +kernel,by decide +kernel,by decide +kernel,by decide +kernel,by decide +kernel⟩) ?_ ?_;refine qkvz T.m_enumerate ?_;refine qbz (qgz ((qibz T).mono (by decide)) hr T.m_z16 T.F_z16.kp T.b_z16 (qbz (qaz (pv 0)) qcz)) qcz;intro s0 H0 fp0;refine⟨(qbzz rfl ?_),(qb0z (qpz l_is qcbz (qaz (pv 1)) qarz (nomark _))),(qaz (pv 0))⟩;refine qaiz (qlz (i:=0) (show (["place","number"]:List Str).Nodup by decide +kernel)) ?_;refine qaiz (qlz (i:=1) (show (["place","number"]:List Str).Nodup by decide +kernel)) qbyz
theorem q36z:∀ds G Q,qdyz ds G Q->ds.length=2:=by
 intro ds G Q h;obtain⟨_,_,rfl,_⟩:=h;rfl
theorem q37z(T:Txt K mg t):FnOk3 P w K mg base 5 t.f_z38 t.d_z38 ["clocks","place"] qdyz:=by
 refine qfn3 (k:=4) (sp:=qdyz) T.F_z38 q2rz (by decide) q36z qm0z (fun cdv A outer s H E hr=>?_) q0kz;refine qfz (qbxz ?_) (qez (qhz ?_));refine qgz ((q3fz T).mono (by decide)) hr T.m_z2 T.F_z2.kp T.b_z2 ?_;refine qbz (qaz (pv 0)) (qbz (qaz (pv 1)) qcz);refine qoz (qgz ((qibz T).mono (by decide)) hr T.m_z16 T.F_z16.kp T.b_z16 (qbz (qaz (pv 0)) qcz)) (qaz (pv 1))
theorem q38z:∀ds G Q,qdsz ds G Q->ds.length=2:=by
 intro ds G Q h;obtain⟨_,_,rfl,_⟩:=h;rfl
theorem q39z(T:Txt K mg t):FnOk3 P w K mg base 3 t.f_z23 t.d_z23 ["clocks","thing"] qdsz:=by
 refine qfn3 (k:=2) (sp:=qdsz) T.F_z23 sc_z23 (by decide) q38z qg2z (fun cdv A outer s H E hr=>?_) qy8z;refine qfz (qsz (qaoz ?_) (qez (qhz q1z)) qrz) (qfz ?_ (qez (qhz q1z)));refine qa4z (qahz (q5z (qeyz kit_tuple rfl (qaz (pv 1)) T.m_isinstance T.m_tuple rfl (by decide) (by decide)))) (qbmz ?_);refine qpz l_ne (qamz hr.units) (q3z hr.units T.m_len (qbz (qaz (pv 1)) qcz)) (q3z hr.units T.m_len (qbz (qaz (pv 0)) qcz)) (nomark _);refine qzz PassesOwn.never rfl (qgnz T.m_zip (qbz (qaz (pv 0)) (qbz (qaz (pv 1)) qcz))) ?_ ?_;refine qbzz rfl (qaiz (qlz (i:=2) sc_z23.nd) (qaiz (qlz (i:=3) sc_z23.nd) qbyz));refine qez (qsz (qaoz ?_) (qez (qhz q1z)) qrz);refine qa4z (qahz (q5z (qgz ((qn6z T).mono (by decide)) hr T.m_z24 T.F_z24.kp T.b_z24 (qbz (qaz (pv 3)) qcz)))) ?_;refine qbmz ?_;refine qpz l_ne (qamz hr.units) ?_ (qacz (qbz (qaz (pv 2)) qcz)) (nomark _);refine qgz ((q3wz T).mono (by decide)) hr T.m_z35 T.F_z35.kp T.b_z35 (qbz (qaz (pv 0)) (qbz (qaz (pv 3)) qcz))
theorem q4az:∀ds G Q,qdzz ds G Q->ds.length=1:=by
 intro ds G Q h;obtain⟨_,rfl,_⟩:=h;rfl
theorem q4bz(T:Txt K mg t):FnOk3 P w K mg base 5 t.f_z18 t.d_z18 ["clocks"] qdzz:=by
 refine qfn3 (k:=4) (sp:=qdzz) T.F_z18 sc_z18 (by decide) q4az qm1z (fun cdv A outer s H E hr=>?_) q0nz;refine qfz (qkz (i:=1) sc_z18.nd ?_) ?_;refine qgz ((qibz T).mono (by decide)) hr T.m_z16 T.F_z16.kp T.b_z16 (qbz (qaz (pv 0)) qcz);refine qfz (qsz (qpz l_in (qkoz hr.units) qarz (qaz (pv 1)) (by with_unfolding_all rfl)) (qez (qhz qarz)) qrz) ?_;refine qez (qhz (qb1z hr.units T.m_tuple (qbz (qaz (pv 1)) qcz)))
theorem q4cz:∀ds G Q,qdtz ds G Q->ds.length=2:=by
 intro ds G Q h;obtain⟨_,_,rfl,_⟩:=h;rfl
theorem q4dz(T:Txt K mg t):FnOk3 P w K mg base 4 t.f_z27 t.d_z27 ["clocks","bits"] qdtz:=by
 refine qfn3 (k:=3) (sp:=qdtz) T.F_z27 sc_z27 (by decide) q4cz qmpz (fun cdv A outer s H E hr=>?_) qzyz;refine qfz ?_ ?_;refine qkz (i:=2) sc_z27.nd (qgz ((qd7z T).mono (by decide)) hr T.m_z36 T.F_z36.kp T.b_z36 (qbz (qaz (pv 0)) qcz));refine qfz (qbxz ?_) ?_;refine qgz ((qh8z T).mono (by decide)) hr T.m_z10 T.F_z10.kp T.b_z10 ?_;refine qbz (qaz (pv 2)) (qbz (qglz T.m_MOST_NUMBERS) qcz);refine qfz (qkz (i:=3) sc_z27.nd (qiz qagz qafz (qacz (qbz qdz qcz)) (qaz (pv 2)))) (qfz ?_ (qez (qhz (qaz (pv 3)))));refine qzz PassesOwn.never rfl (qgnz T.m_zip (qbz (qaz (pv 0)) (qbz (qaz (pv 1)) qcz))) ?_ (qez ?_);refine qbzz rfl (qaiz (qlz (i:=4) sc_z27.nd) (qaiz (qlz (i:=5) sc_z27.nd) qbyz));refine qzz PassesOwn.never rfl (qgoz T.m_range (qbz (qoz (qaz (pv 4)) qdz) (qbz (qaz (pv 2)) (qbz (qoz (qaz (pv 4)) qdz) qcz)))) ?_ ?_;refine qlz (i:=6) sc_z27.nd;refine qez (qkwz (qaz (pv 3)) (qaz (pv 6)) (qaz (pv 5)))
theorem q4ez:∀ds G Q,qduz ds G Q->ds.length=2:=by
 intro ds G Q h;obtain⟨_,_,rfl,_⟩:=h;rfl
theorem q4fz(T:Txt K mg t):FnOk3 P w K mg base 5 t.f_z14 t.d_z14 ["clocks","bits"] qduz:=by
 refine qfn3 (k:=4) (sp:=qduz) T.F_z14 sc_z14 (by decide) q4ez qmsz (fun cdv A outer s H E hr=>?_) qz5z;refine qfz ?_ ?_;refine qkz (i:=2) sc_z14.nd (qiz qagz qafz (qacz (qbz q1z qcz)) ?_);refine qgz ((qn8z T).mono (by decide)) hr T.m_z40 T.F_z40.kp T.b_z40 (qbz (q3z hr.units T.m_len (qbz (qaz (pv 0)) qcz)) qcz);refine qfz ?_ (qfz ?_ (qez (qhz (qaz (pv 2)))));refine qzz PassesOwn.never rfl (q2z ?_) (qlz (i:=3) sc_z14.nd) (qez (qc7z q1z (qexz (qaz (pv 2)) (qaz (pv 3)))));refine qgz ((q4dz T).mono (by decide)) hr T.m_z27 T.F_z27.kp T.b_z27 (qbz (qaz (pv 0)) (qbz (qaz (pv 1)) qcz));refine qzz PassesOwn.never rfl (q2z (qaz (pv 1))) (qlz (i:=4) sc_z14.nd) (qez ?_);refine qzz PassesOwn.never rfl (qaxz T.m_range (qbz (q3z hr.units T.m_len (qbz (qaz (pv 2)) qcz)) qcz)) (qlz (i:=3) sc_z14.nd) ?_;refine qez ?_;refine qsz (qaoz ?_) (qez (qc7z q1z (qexz (qaz (pv 2)) (qaz (pv 3))))) qrz;refine qc5z (qpz l_ne (qamz hr.units) (qiz qg0z qg1z (qaz (pv 3)) (qaz (pv 4))) qdz (nomark _)) ?_;refine qc4z (q5z (qoz (qaz (pv 2)) (qiz qcyz qcvz (qaz (pv 3)) (qaz (pv 4)))))
theorem q4gz:∀ds G Q,qdvz ds G Q->ds.length=3:=by
 intro ds G Q h;obtain⟨_,_,_,_,_,rfl,_⟩:=h;rfl
theorem q4hz(T:Txt K mg t):FnOk3 P w K mg base 1 t.f_z19 t.d_z19 ["wanted","bits","mark"] qdvz:=by
 refine qfn3 (k:=0) (sp:=qdvz) T.F_z19 q2yz (by decide) q4gz qmtz (fun cdv A outer s H E hr=>?_) qz8z;refine qfz (qsz (q5z (qoz (qaz (pv 0)) (qaz (pv 2)))) (qez (qhz q1z)) qrz) (qez (qhz (qezz hr.units T.m_all (qbz ?_ qcz))));refine q6z rfl (show CmpOk qn2z (defScope qfoz) _ ["bit"] [2,0] from⟨rfl,by decide +kernel,by decide +kernel,by decide +kernel,by decide +kernel,by decide +kernel⟩) ?_ ?_;refine q2z (qaz (pv 1));intro s0 H0 fp0;refine⟨(qlz (i:=0) (show (["bit","mark","wanted"]:List Str).Nodup by decide +kernel)),?_,?_⟩;refine qb0z (qpz l_eq (qaqz hr.units) (qiz qg0z qg1z (qaz (pv 1)) (qaz (pv 0))) qdz (nomark _));refine qoz (qaz (pv 2)) (qiz qabz qaaz (qaz (pv 1)) (qaz (pv 0)))
theorem q4iz:∀ds G Q,qdwz ds G Q->ds.length=2:=by
 intro ds G Q h;obtain⟨_,_,_,rfl,_⟩:=h;rfl
theorem q4jz(T:Txt K mg t):FnOk3 P w K mg base 1 t.f_z17 t.d_z17 ["bits","mark"] qdwz:=by
 refine qfn3 (k:=0) (sp:=qdwz) T.F_z17 q2zz (by decide) q4iz qmuz (fun cdv A outer s H E hr=>?_) q0az;refine qez (qhz (qb1z hr.units T.m_tuple (qbz ?_ qcz)));refine q6z rfl (show CmpOk qn3z (defScope qfpz) _ ["place","bit"] [1] from⟨rfl,by decide +kernel,by decide +kernel,by decide +kernel,by decide +kernel,by decide +kernel⟩) ?_ ?_;refine qkvz T.m_enumerate (qbz (qaz (pv 0)) qcz);intro s0 H0 fp0;refine⟨(qbzz rfl ?_),(qb0z (qpz l_eq (qaqz hr.units) (qiz qg0z qg1z (qaz (pv 2)) (qaz (pv 1))) qdz (nomark _))),(qaz (pv 0))⟩;refine qaiz (qlz (i:=0) (show (["place","bit","mark"]:List Str).Nodup by decide +kernel)) ?_;refine qaiz (qlz (i:=1) (show (["place","bit","mark"]:List Str).Nodup by decide +kernel)) qbyz
theorem q4kz:∀ds G Q,qcsz ds G Q->ds.length=1:=by
 intro ds G Q h;obtain⟨_,rfl,_⟩:=h;rfl
theorem qocz(T:Txt K mg t):FnOk3 P w K mg base 6 t.f_z15 t.d_z15 ["clocks"] qcsz:=by
 refine qfn3 (k:=5) (sp:=qcsz) T.F_z15 sc_z15 (by decide) q4kz qmvz (fun cdv A outer s H E hr=>?_) q0ez;refine qfz (qkz (i:=1) sc_z15.nd ?_) ?_;refine q6z rfl (show CmpOk qfmz (defScope qctz) _ ["place"] [] from⟨rfl,by decide +kernel,by decide +kernel,by decide +kernel,by decide +kernel,by decide +kernel⟩) ?_ ?_;refine qaxz T.m_range (qbz (q3z hr.units T.m_len (qbz (qaz (pv 0)) qcz)) qcz);intro s0 H0 fp0;refine⟨(qlz (i:=0) (show (["place"]:List Str).Nodup by decide +kernel)),qasz,?_⟩;refine qgz ((qn8z T).mono (by decide)) hr T.m_z40 T.F_z40.kp T.b_z40 (qbz (qaz (pv 0)) qcz);refine qfz (qkz (i:=2) sc_z15.nd ?_) ?_;refine qgz ((q4fz T).mono (by decide)) hr T.m_z14 T.F_z14.kp T.b_z14 (qbz (qaz (pv 0)) (qbz (qaz (pv 1)) qcz));refine qfz ?_ (qez (qhz (qktz hr.units T.m_sorted (qbz ?_ qcz))));refine qvsz (i:=3) rfl sc_z15.nd (show CmpOk qfmz (defScope qctz) _ ["mark"] [2,1] from⟨rfl,by decide +kernel,by decide +kernel,by decide +kernel,by decide +kernel,by decide +kernel⟩) ?_ ?_;refine qaxz T.m_range (qbz (q3z hr.units T.m_len (qbz (qaz (pv 2)) qcz)) qcz);intro s0 H0 fp0;refine⟨(qlz (i:=0) (show (["mark","wanted","bits"]:List Str).Nodup by decide +kernel)),(qb0z (q5z ?_)),(qaz (pv 0))⟩;refine qgz ((q4hz T).mono (by decide)) hr T.m_z19 T.F_z19.kp T.b_z19 ?_;refine qbz (qaz (pv 1)) (qbz (qaz (pv 2)) (qbz (qaz (pv 0)) qcz));refine q6z rfl (show CmpOk qfmz (defScope qctz) _ ["mark"] [1] from⟨rfl,by decide +kernel,by decide +kernel,by decide +kernel,by decide +kernel,by decide +kernel⟩) ?_ ?_;refine q2z (qaz (pv 3));intro s0 H0 fp0;refine⟨(qlz (i:=0) (show (["mark","bits"]:List Str).Nodup by decide +kernel)),qasz,?_⟩;refine qgz ((q4jz T).mono (by decide)) hr T.m_z17 T.F_z17.kp T.b_z17 (qbz (qaz (pv 1)) (qbz (qaz (pv 0)) qcz))
theorem q4lz:∀ds G Q,qdxz ds G Q->ds.length=1:=by
 intro ds G Q h;obtain⟨_,rfl,_⟩:=h;rfl
theorem q4mz(T:Txt K mg t):FnOk3 P w K mg base 7 t.f_z13 t.d_z13 ["clocks"] qdxz:=by
 refine qfn3 (k:=6) (sp:=qdxz) T.F_z13 q2vz (by decide) q4lz qmwz (fun cdv A outer s H E hr=>?_) q0fz;refine qez (qhz (qzez rfl ?_ T.m_min T.m_len));refine qgz ((qocz T).mono (by decide)) hr T.m_z15 T.F_z15.kp T.b_z15 (qbz (qaz (pv 0)) qcz)
theorem q4nz:∀ds G Q,qd1z ds G Q->ds.length=2:=by
 intro ds G Q h;obtain⟨_,_,rfl,_⟩:=h;rfl
theorem q4oz(T:Txt K mg t):FnOk3 P w K mg base 7 t.f_z21 t.d_z21 ["clocks","thing"] qd1z:=by
 refine qfn3 (k:=6) (sp:=qd1z) T.F_z21 sc_z21 (by decide) q4nz qnez (fun cdv A outer s H E hr=>?_) q0yz;refine qfz (qbxz ?_) ?_;refine qgz ((qh8z T).mono (by decide)) hr T.m_z10 T.F_z10.kp T.b_z10 ?_;refine qbz (qgz ((qd7z T).mono (by decide)) hr T.m_z36 T.F_z36.kp T.b_z36 (qbz (qaz (pv 0)) qcz)) ?_;refine qbz (qglz T.m_MOST_NUMBERS) qcz;refine qfz (qsz (qahz (q5z ?_)) (qez (qhz q1z)) qrz) ?_;refine qgz ((q3hz T).mono (by decide)) hr T.m_z0 T.F_z0.kp T.b_z0 ?_;refine qbz (qaz (pv 0)) (qbz (qaz (pv 1)) qcz);refine qfz ?_ (qez (qhz ?_));refine qkz (i:=2) sc_z21.nd (qb1z hr.units T.m_tuple (qbz ?_ qcz));refine q6z rfl (show CmpOk qn1z (defScope qfnz) _ ["place"] [0] from⟨rfl,by decide +kernel,by decide +kernel,by decide +kernel,by decide +kernel,by decide +kernel⟩) ?_ ?_;refine q2z (qaz (pv 1));intro s0 H0 fp0;refine⟨(qlz (i:=0) (show (["place","clocks"]:List Str).Nodup by decide +kernel)),qasz,(qoz (qaz (pv 1)) (qaz (pv 0)))⟩;refine qewz (qgz ((qiaz T).mono (by decide)) hr T.m_z42 T.F_z42.kp T.b_z42 (qbz (qaz (pv 2)) qcz)) (qc6z ?_);refine qanz l_eq (qaqz hr.units) (qgz ((qicz T).mono (by decide)) hr T.m_z41 T.F_z41.kp T.b_z41 (qbz (qaz (pv 2)) qcz)) ?_ (nomark _);refine qacz qcz
theorem q4pz:∀ds G Q,qdez ds G Q->ds.length=1:=by
 intro ds G Q h;obtain⟨_,rfl,_⟩:=h;rfl
theorem q4qz(T:Txt K mg t):FnOk3 P w K mg base 4 t.f_z29 t.d_z29 ["clocks"] qdez:=by
 refine qfn3 (k:=3) (sp:=qdez) T.F_z29 sc_z29 (by decide) q4pz qljz (fun cdv A outer s H E hr=>?_) qwlz;refine qfz ?_ (qez (qhz ?_));refine qkz (i:=1) sc_z29.nd (qgz ((qd7z T).mono (by decide)) hr T.m_z36 T.F_z36.kp T.b_z36 (qbz (qaz (pv 0)) qcz));refine qgz ((q3qz T).mono (by decide)) hr T.m_z9 T.F_z9.kp T.b_z9 ?_;refine qbz (qvpz hr.units T.m_sum (qbz ?_ qcz)) (qbz (qaz (pv 1)) qcz);refine q6z rfl (show CmpOk qn4z (defScope qfqz) _ ["clock"] [1] from⟨rfl,by decide +kernel,by decide +kernel,by decide +kernel,by decide +kernel,by decide +kernel⟩) ?_ ?_;refine q2z (qaz (pv 0));intro s0 H0 fp0;refine⟨(qlz (i:=0) (show (["clock","bottom"]:List Str).Nodup by decide +kernel)),qasz,?_⟩;refine qiz qa1z qa0z (qaz (pv 1)) (qoz (qaz (pv 0)) qdz)
theorem q4rz:∀ds G Q,qdhz ds G Q->ds.length=1:=by
 intro ds G Q h;obtain⟨_,rfl,_⟩:=h;rfl
theorem q4sz(T:Txt K mg t):FnOk3 P w K mg base 3 t.f_z32 t.d_z32 ["clocks"] qdhz:=by
 refine qfn3 (k:=2) (sp:=qdhz) T.F_z32 sc_z32 (by decide) q4rz qloz (fun cdv A outer s H E hr=>?_) qxcz;refine qfz ?_ (qez (qhz qarz));refine qzz PassesOwn.never rfl (qaxz T.m_range (qbz (q3z hr.units T.m_len (qbz (qaz (pv 0)) qcz)) qcz)) (qlz (i:=1) sc_z32.nd) ?_;refine qez ?_;refine qzz PassesOwn.never rfl ?_ (qlz (i:=2) sc_z32.nd) ?_;refine qvmz T.m_range (qbz (qiz qabz qaaz (qaz (pv 1)) qdz) (qbz (q3z hr.units T.m_len (qbz (qaz (pv 0)) qcz)) qcz));refine qfz (qkz (i:=3) sc_z32.nd ?_) ?_;refine qgz ((q3zz T).mono (by decide)) hr T.m_z37 T.F_z37.kp T.b_z37 ?_;refine qbz (qoz (qaz (pv 0)) (qaz (pv 1))) (qbz (qoz (qaz (pv 0)) (qaz (pv 2))) qcz);refine qez (qsz (qpz qsmz qpoz (qaz (pv 3)) qarz (nomark _)) ?_ qrz);refine qez (qhz (qa5z (qbz (qaz (pv 1)) (qbz (qaz (pv 2)) (qbz (qoz (qaz (pv 3)) qdz) qcz)))))
theorem q4tz:∀ds G Q,qdlz ds G Q->ds.length=1:=by
 intro ds G Q h;obtain⟨_,rfl,_⟩:=h;rfl
theorem q4uz(T:Txt K mg t):FnOk3 P w K mg base 5 t.f_z26 t.d_z26 ["clocks"] qdlz:=by
 refine qfn3 (k:=4) (sp:=qdlz) T.F_z26 q22z (by decide) q4tz ql1z (fun cdv A outer s H E hr=>?_) qxzz;refine qez (qhz ?_);refine qewz ?_ (qc6z ?_);refine qanz l_eq (qaqz hr.units) (qgz ((q4qz T).mono (by decide)) hr T.m_z29 T.F_z29.kp T.b_z29 (qbz (qaz (pv 0)) qcz)) ?_ (nomark _);refine qa5z (qbz qdz (qbz qdz qcz));refine qanz l_is qcbz (qgz ((q4sz T).mono (by decide)) hr T.m_z32 T.F_z32.kp T.b_z32 (qbz (qaz (pv 0)) qcz)) qarz (nomark _)
theorem q4vz:∀ds G Q,qc8z ds G Q->ds.length=2:=by
 intro ds G Q h;obtain⟨_,_,rfl,_⟩:=h;rfl
theorem q4wz(T:Txt K mg t):FnOk3 P w K mg base 1 t.f_z20 t.d_z20 ["script","k"] qc8z:=by
 refine qfn3 (k:=0) (sp:=qc8z) T.F_z20 q24z (by decide) q4vz qkyz (fun cdv A outer s H E hr=>?_) qvvz;refine qfz ?_ (qez (qhz qdz));refine qsz (qpz qcfz (qcez hr.units0) (qaz (pv 1)) (q3z hr.units T.m_len (qbz (qaz (pv 0)) qcz)) (nomark _)) ?_ qrz;refine qez (qhz (qoz (qaz (pv 0)) (qaz (pv 1))))
theorem q4xz:∀ds G Q,qciz ds G Q->ds.length=1:=by
 intro ds G Q h;obtain⟨_,rfl,_⟩:=h;rfl
theorem qodz(T:Txt K mg t):FnOk3 P w K mg base 1 t.f_z34 t.d_z34 ["seed"] qciz:=by
 refine qfn3 (k:=0) (sp:=qciz) T.F_z34 sc_z34 (by decide) q4xz qkzz (fun cdv A outer s H E hr=>?_) qvwz;refine qfz (qkz (i:=0) sc_z34.nd (qiz qawz qauz (qiz qabz qaaz (qaz (pv 0)) qdz) qdz)) ?_;refine qez (qhz (qiz qawz qauz ?_ qdz));refine qiz qabz qaaz (qiz qabz qaaz (qiz qagz qafz (qaz (pv 0)) (qaz (pv 0))) (qiz qagz qafz qdz (qaz (pv 0)))) qdz
theorem q4yz:∀ds G Q,qe1z ds G Q->ds.length=1:=by
 intro ds G Q h;obtain⟨_,rfl,_⟩:=h;rfl
theorem q4zz(T:Txt K mg t):FnOk3 P w K mg base 1 t.f_z22 t.d_z22 ["cell"] qgqz:=by
 refine FnOk.imp ?_ qv0z;refine qfn3 (k:=0) (sp:=qe1z) T.F_z22 sc_z22 (by decide) q4yz qk1z (fun cdv A outer s H E hr=>?_) qvzz;refine qfz (qkz (i:=1) sc_z22.nd (qvoz hr.units T.m_max (qbz (qaz (pv 0)) (qbz (qiz qcyz qcvz qdz (qaz (pv 0))) qcz)))) ?_;refine qez (qhz (qacz (qbz (qaz (pv 1)) ?_)));refine qbz (qvnz hr.units T.m_int (qbz (qanz l_ge qpnz (qaz (pv 1)) (qiz qsjz qpkz qdz qdz) (nomark _)) qcz)) ?_;refine qbz (qiz qawz qauz (qaz (pv 1)) qdz) qcz
theorem q40z:∀ds G Q,qe0z ds G Q->ds.length=2:=by
 intro ds G Q h;obtain⟨_,_,_,_,_,rfl,_⟩:=h;rfl
theorem qazz(T:Txt K mg t):FnOk3 P w K mg base 2 t.f_z33 t.d_z33 ["pen","many"] qapz:=by
 refine FnOk.imp ?_ qvyz;refine qfn3 (k:=1) (sp:=qe0z) T.F_z33 sc_z33 (by decide) q40z qk0z (fun cdv A outer s H E hr=>?_) qvxz;refine qfz ?_ ?_;refine qsz (qpz l_eq (qaqz hr.units) (qoz (qaz (pv 0)) qdz) qdz (nomark _)) ?_ qrz;refine qfz (qkz (i:=2) sc_z33.nd (qiz qawz qauz (qoz (qaz (pv 0)) qdz) (qaz (pv 1)))) ?_;refine qfz (qc7z (qiz qa1z qa0z (qoz (qaz (pv 0)) qdz) (qaz (pv 1))) (qexz (qaz (pv 0)) qdz)) (qez (qhz (qaz (pv 2))));refine qfz (qc7z ?_ (qexz (qaz (pv 0)) qdz)) ?_;refine qgz ((qodz T).mono (by decide)) hr T.m_z34 T.F_z34.kp T.b_z34 (qbz ?_ qcz);refine qiz qabz qaaz (qgz ((qodz T).mono (by decide)) hr T.m_z34 T.F_z34.kp T.b_z34 (qbz (qoz (qaz (pv 0)) qdz) qcz)) (qdz);refine qez (qhz (qiz qawz qauz (qiz qa1z qa0z (qoz (qaz (pv 0)) qdz) qdz) (qaz (pv 1))))
theorem q41z:∀ds G Q,qb7z ds G Q->ds.length=2:=by
 intro ds G Q h;obtain⟨_,_,rfl,_⟩:=h;rfl
theorem qidz(T:Txt K mg t):FnOk3 P w K mg base 3 t.f_z31 t.d_z31 ["pen","times"] qb7z:=by
 refine qfn3 (k:=2) (sp:=qb7z) T.F_z31 sc_z31 (by decide) q41z qmfz (fun cdv A outer s H E hr=>?_) qyvz;refine qfz (qkz (i:=2) sc_z31.nd (qacz (qbz (qa5z (qbz qdz (qbz qdz qcz))) qcz))) ?_;refine qfz ?_ (qez (qhz (qaz (pv 2))));refine qzz PassesOwn.never rfl (qaxz T.m_range (qbz (qaz (pv 1)) qcz)) (qlz (i:=3) sc_z31.nd) ?_;refine qfz (qkz (i:=4) sc_z31.nd ?_) ?_;refine qgz ((qazz T).mono (by decide)) hr T.m_z33 T.F_z33.kp T.b_z33 ?_;refine qbz (qaz (pv 0)) (qbz (q3z hr.units T.m_len (qbz (qaz (pv 2)) qcz)) qcz);refine qfz ?_ ?_;refine qkz (i:=5) sc_z31.nd (qgmz (qbz qdz (qbz qdz (qbz qdz qcz))) ?_);refine qgz ((qazz T).mono (by decide)) hr T.m_z33 T.F_z33.kp T.b_z33 (qbz (qaz (pv 0)) (qbz qdz qcz));refine qfz ?_ (qez ?_);refine qc7z (qoz (qaz (pv 2)) (qaz (pv 4))) (qbzz rfl (qaiz (qlz (i:=6) sc_z31.nd) (qaiz (qlz (i:=7) sc_z31.nd) qbyz)));refine qsz (qaoz ?_) (qez (qkz (i:=2) sc_z31.nd ?_)) qrz;refine qc5z (qpz qcfz (qcez hr.units0) (qiz qabz qaaz (q3z hr.units T.m_len (qbz (qaz (pv 2)) qcz)) (qaz (pv 5))) qdz (nomark _)) ?_;refine qc4z (qpz qcfz (qcez hr.units0) (qiz qagz qafz (qaz (pv 6)) (qaz (pv 5))) qdz (nomark _));refine qiz qabz qaaz ?_ (qa6z (qaz (pv 2)) (qayz (qiz qabz qaaz (qaz (pv 4)) qdz)) qbdz);refine qiz qabz qaaz (qa6z (qaz (pv 2)) qbdz (qayz (qaz (pv 4)))) ?_;refine q6z rfl (show CmpOk qn5z (defScope qfrz) _ ["part"] [6,5,7] from⟨rfl,by decide +kernel,by decide +kernel,by decide +kernel,by decide +kernel,by decide +kernel⟩) ?_ ?_;refine qaxz T.m_range (qbz (qaz (pv 5)) qcz);intro s0 H0 fp0;refine⟨(qlz (i:=0) (show (["part","step","k","rest"]:List Str).Nodup by decide +kernel)),qasz,?_⟩;refine qa5z (qbz (qiz qagz qafz (qaz (pv 1)) (qaz (pv 2))) ?_);refine qbz (qiz qabz qaaz (qaz (pv 3)) (qiz qagz qafz (qaz (pv 1)) (qaz (pv 0)))) qcz
theorem q42z:∀ds G Q,qdrz ds G Q->ds.length=1:=by
 intro ds G Q h;obtain⟨_,rfl,_⟩:=h;rfl
theorem q43z(T:Txt K mg t):FnOk3 P w K mg base 4 t.f_z8 t.d_z8 ["pen"] qdrz:=by
 refine qfn3 (k:=3) (sp:=qdrz) T.F_z8 sc_z8 (by decide) q42z qmhz (fun cdv A outer s H E hr=>?_) qy3z;refine qfz (qkz (i:=1) sc_z8.nd ?_) (qfz (qkz (i:=2) sc_z8.nd (qacz qcz)) ?_);refine qgz ((qazz T).mono (by decide)) hr T.m_z33 T.F_z33.kp T.b_z33 (qbz (qaz (pv 0)) (qbz qdz qcz));refine qfz ?_ ?_;refine qsz (qpz qcfz (qcez hr.units0) (qaz (pv 1)) qdz (nomark _)) ?_ qrz;refine qfz (qkz (i:=2) sc_z8.nd ?_) (qez ?_);refine qgz ((qidz T).mono (by decide)) hr T.m_z31 T.F_z31.kp T.b_z31 (qbz (qaz (pv 0)) ?_);refine qbz (qgz ((qazz T).mono (by decide)) hr T.m_z33 T.F_z33.kp T.b_z33 (qbz (qaz (pv 0)) (qbz qdz qcz))) qcz;refine qsz (qaoz ?_) (qez (qbxz ?_)) qrz;refine qc5z (qpz l_eq (qaqz hr.units) (qaz (pv 1)) qdz (nomark _)) (qc4z (qpz l_ne (qamz hr.units) (qaz (pv 2)) (qacz qcz) (nomark _)));refine qgpz qs2z PySem.F.slot_list_pop PySem.F.type_list_pop qqqz (qaz (pv 2)) (qbz ?_ qcz);refine qgz ((qazz T).mono (by decide)) hr T.m_z33 T.F_z33.kp T.b_z33 ?_;refine qbz (qaz (pv 0)) (qbz (q3z hr.units T.m_len (qbz (qaz (pv 2)) qcz)) qcz);refine qfz (qkz (i:=3) sc_z8.nd (qacz (qbz qdz ?_))) ?_;refine qbz qdz (qbz qdz (qbz qdz (qbz qdz (qbz qdz (qbz qdz (qbz qdz (qbz qdz (qbz qdz qcz))))))));refine qfz ?_ ?_;refine qzz PassesOwn.never rfl (qaxz T.m_range ?_) (qlz (i:=4) sc_z8.nd) ?_;refine qbz (qgmz (qbz qdz (qbz qdz (qbz qdz (qbz qdz (qbz qdz (qbz qdz qcz)))))) (qaz (pv 1))) qcz;refine qfz (qkz (i:=5) sc_z8.nd ?_) (qez (qbxz ?_));refine qoz (qaz (pv 3)) (qgz ((qazz T).mono (by decide)) hr T.m_z33 T.F_z33.kp T.b_z33 (qbz (qaz (pv 0)) (qbz qdz qcz)));refine qgpz qjnz PySem.F.slot_list_append PySem.F.type_list_append qfvz (qaz (pv 2)) (qbz (qa5z (qbz (qaz (pv 5)) ?_)) qcz);refine qbz (qgz ((qazz T).mono (by decide)) hr T.m_z33 T.F_z33.kp T.b_z33 (qbz (qaz (pv 0)) (qbz (qaz (pv 5)) qcz))) (qcz);refine qez (qhz (qb1z hr.units T.m_tuple (qbz (qa6z (qkuz hr.units (qaz (pv 2)) T.m_sorted T.m_set) qbdz (qayz qdz)) qcz)))
theorem q44z:∀ds G Q,qd4z ds G Q->ds.length=1:=by
 intro ds G Q h;obtain⟨_,rfl,_⟩:=h;rfl
theorem q45z(T:Txt K mg t):FnOk3 P w K mg base 4 t.f_z39 t.d_z39 ["pen"] qd4z:=by
 refine qfn3 (k:=3) (sp:=qd4z) T.F_z39 sc_z39 (by decide) q44z qnuz (fun cdv A outer s H E hr=>?_) q1rz;refine qfz (qkz (i:=1) sc_z39.nd (qa6z ?_ qbdz (qayz qdz))) ?_;refine qgz ((qidz T).mono (by decide)) hr T.m_z31 T.F_z31.kp T.b_z31 ?_;refine qbz (qaz (pv 0)) (qbz (qiz qabz qaaz qdz ?_) qcz);refine qgz ((qazz T).mono (by decide)) hr T.m_z33 T.F_z33.kp T.b_z33 (qbz (qaz (pv 0)) (qbz qdz qcz));refine qfz ?_ ?_;refine qzz PassesOwn.never rfl (qaxz T.m_range ?_) (qlz (i:=2) sc_z39.nd) ?_;refine qbz (qgz ((qazz T).mono (by decide)) hr T.m_z33 T.F_z33.kp T.b_z33 (qbz (qaz (pv 0)) (qbz qdz qcz))) qcz;refine qfz (qkz (i:=3) sc_z39.nd ?_) (qez (qbxz ?_));refine qgmz (qbz qdz (qbz qdz (qbz qdz (qbz qdz (qbz qdz qcz))))) ?_;refine qgz ((qazz T).mono (by decide)) hr T.m_z33 T.F_z33.kp T.b_z33 (qbz (qaz (pv 0)) (qbz qdz qcz));refine qgpz qjnz PySem.F.slot_list_append PySem.F.type_list_append qfvz (qaz (pv 1)) (qbz (qa5z (qbz (qaz (pv 3)) ?_)) qcz);refine qbz (qgz ((qazz T).mono (by decide)) hr T.m_z33 T.F_z33.kp T.b_z33 (qbz (qaz (pv 0)) (qbz (qaz (pv 3)) qcz))) (qcz);refine qez (qhz (qb1z hr.units T.m_tuple (qbz (qa6z (qkuz hr.units (qaz (pv 1)) T.m_sorted T.m_set) qbdz (qayz qdz)) qcz)))
theorem q46z:∀ds G Q,qd2z ds G Q->ds.length=2:=by
 intro ds G Q h;obtain⟨_,_,rfl,_⟩:=h;rfl
theorem q47z(T:Txt K mg t):FnOk3 P w K mg base 8 t.f_z7 t.d_z7 ["clocks","places"] qd2z:=by
 refine qfn3 (k:=7) (sp:=qd2z) T.F_z7 sc_z7 (by decide) q46z qnfz (fun cdv A outer s H E hr=>?_) q04z;refine qfz ?_ ?_;refine qkz (i:=2) sc_z7.nd (qb1z hr.units T.m_tuple (qbz ?_ qcz));refine q6z rfl (show CmpOk qh5z (defScope qd6z) _ ["place"] [0] from⟨rfl,by decide +kernel,by decide +kernel,by decide +kernel,by decide +kernel,by decide +kernel⟩) ?_ ?_;refine q2z (qaz (pv 1));intro s0 H0 fp0;refine⟨(qlz (i:=0) (show (["place","clocks"]:List Str).Nodup by decide +kernel)),qasz,(qoz (qaz (pv 1)) (qaz (pv 0)))⟩;refine qfz (qkz (i:=3) sc_z7.nd ?_) ?_;refine qgz ((q4bz T).mono (by decide)) hr T.m_z18 T.F_z18.kp T.b_z18 (qbz (qaz (pv 2)) qcz);refine qfz (qsz (qaoz ?_) (qez (qhz q1z)) qrz) ?_;refine qa4z (qahz (q5z ?_)) ?_;refine qgz ((q4oz T).mono (by decide)) hr T.m_z21 T.F_z21.kp T.b_z21 (qbz (qaz (pv 0)) (qbz (qaz (pv 1)) qcz));refine qa4z (qahz (q5z (qgz ((qiaz T).mono (by decide)) hr T.m_z42 T.F_z42.kp T.b_z42 (qbz (qaz (pv 2)) qcz)))) ?_;refine qa4z (qpz l_is qcbz (qaz (pv 3)) qarz (nomark _)) (qbmz (qahz (q5z ?_)));refine qgz ((q39z T).mono (by decide)) hr T.m_z23 T.F_z23.kp T.b_z23 (qbz (qaz (pv 2)) (qbz (qaz (pv 3)) qcz));refine qfz ?_ (qez (qhz (qanz l_eq (qaqz hr.units) ?_ (qacz qcz) (nomark _))));refine qkz (i:=4) sc_z7.nd (qgz ((qicz T).mono (by decide)) hr T.m_z41 T.F_z41.kp T.b_z41 (qbz (qaz (pv 0)) qcz));refine q6z rfl (show CmpOk qh5z (defScope qd6z) _ ["place"] [4,1] from⟨rfl,by decide +kernel,by decide +kernel,by decide +kernel,by decide +kernel,by decide +kernel⟩) ?_ ?_;refine qaxz T.m_range (qbz (q3z hr.units T.m_len (qbz (qaz (pv 0)) qcz)) qcz);intro s0 H0 fp0;refine⟨(qlz (i:=0) (show (["place","idle","places"]:List Str).Nodup by decide +kernel)),(qb0z (qaoz ?_)),(qaz (pv 0))⟩;refine qc5z (qpz qeuz (qetz hr.units) (qaz (pv 0)) (qaz (pv 1)) (by with_unfolding_all rfl)) ?_;refine qc4z (qpz qeuz (qetz hr.units) (qaz (pv 0)) (qaz (pv 2)) (by with_unfolding_all rfl))
theorem q48z:∀ds G Q,qd3z ds G Q->ds.length=1:=by
 intro ds G Q h;obtain⟨_,rfl,_⟩:=h;rfl
theorem q49z(T:Txt K mg t):FnOk3 P w K mg base 6 t.f_z4 t.d_z4 ["clocks"] qd3z:=by
 refine qfn3 (k:=5) (sp:=qd3z) T.F_z4 sc_z4 (by decide) q48z qnkz (fun cdv A outer s H E hr=>?_) q1bz;refine qfz ?_ (qfz ?_ (qez (qhz q1z)));refine qkz (i:=1) sc_z4.nd (qgz ((qicz T).mono (by decide)) hr T.m_z41 T.F_z41.kp T.b_z41 (qbz (qaz (pv 0)) qcz));refine qzz PassesOwn.never rfl (qaxz T.m_range (qbz (q3z hr.units T.m_len (qbz (qaz (pv 0)) qcz)) qcz)) ?_ ?_;refine qlz (i:=2) sc_z4.nd;refine qfz (qkz (i:=3) sc_z4.nd ?_) ?_;refine qiz qabz qaaz (qa6z (qaz (pv 0)) qbdz (qayz (qaz (pv 2)))) ?_;refine qa6z (qaz (pv 0)) (qayz (qiz qabz qaaz (qaz (pv 2)) qdz)) qbdz;refine qfz (qkz (i:=4) sc_z4.nd ?_) (qez (qsz (qaoz ?_) (qez (qhz q1z)) qrz));refine qgz ((q37z T).mono (by decide)) hr T.m_z38 T.F_z38.kp T.b_z38 (qbz (qaz (pv 0)) (qbz (qaz (pv 2)) qcz));refine qa4z ?_ (qbmz (qpz l_ne (qamz hr.units) ?_ (qaz (pv 4)) (nomark _)));refine qpz l_ne (qamz hr.units) (qanz l_is qcbz (qaz (pv 4)) qarz (nomark _)) ?_ (nomark _);refine qanz l_in (qkoz hr.units) (qaz (pv 2)) (qaz (pv 1)) (by with_unfolding_all rfl);refine qgz ((qobz T).mono (by decide)) hr T.m_z11 T.F_z11.kp T.b_z11 ?_;refine qbz (qaz (pv 3)) (qbz (qoz (qaz (pv 0)) (qaz (pv 2))) qcz)
theorem q5az:∀ds G Q,qcaz ds G Q->ds.length=1:=by
 intro ds G Q h
 first
  | (rcases ds with _|⟨_,_|⟨_,_|⟨_,_|⟨_,_⟩⟩⟩⟩<;>first|rfl|exact h.elim)
  | (obtain⟨rfl,_⟩:=h;rfl)
  | (obtain⟨_,rfl,_⟩:=h;rfl)
  | (obtain⟨_,_,rfl,_⟩:=h;rfl)
  | (obtain⟨_,_,_,rfl,_⟩:=h;rfl)
  | (obtain⟨_,_,_,_,rfl,_⟩:=h;rfl)
  | (obtain⟨_,_,_,_,_,rfl,_⟩:=h;rfl)
  | (obtain⟨_,_,_,_,_,_,rfl,_⟩:=h;rfl)
  | (obtain⟨_,_,_,_,_,_,_,rfl,_⟩:=h;rfl)
  | (obtain⟨_,_,_,_,_,_,_,_,rfl,_⟩:=h;rfl)
theorem qiez(T:Txt K mg t):FnOk3 P w K mg base 9 t.f_z30 t.d_z30 ["clocks"] qcaz:=by
 refine qfn3 (k:=8) (sp:=qcaz) T.F_z30 sc_z30 (by decide) q5az qnsz (fun cdv A outer s H E hr=>?_) q1mz;refine qfz (qkz (i:=1) sc_z30.nd ?_) ?_;refine qgz ((qocz T).mono (by decide)) hr T.m_z15 T.F_z15.kp T.b_z15 (qbz (qaz (pv 0)) qcz);refine qfz (qsz (qaoz ?_) (qez (qhz q1z)) qrz) ?_;refine qa4z ?_ (qbmz (qahz ?_));refine qpz l_ne (qamz hr.units) (qanz l_ne (qamz hr.units) (qaz (pv 1)) (qacz qcz) (nomark _)) ?_ (nomark _);refine qgz ((qiaz T).mono (by decide)) hr T.m_z42 T.F_z42.kp T.b_z42 (qbz (qaz (pv 0)) qcz);refine q5z (qgz ((q49z T).mono (by decide)) hr T.m_z4 T.F_z4.kp T.b_z4 (qbz (qaz (pv 0)) qcz));refine qfz ?_ ?_;refine qsz (qahz (q5z (qezz hr.units T.m_all (qbz ?_ qcz)))) (qez (qhz q1z)) qrz;refine q6z rfl (show CmpOk qfsz (defScope qcuz) _ ["places"] [0] from⟨rfl,by decide +kernel,by decide +kernel,by decide +kernel,by decide +kernel,by decide +kernel⟩) ?_ ?_;refine q2z (qaz (pv 1));intro s0 H0 fp0;refine⟨(qlz (i:=0) (show (["places","clocks"]:List Str).Nodup by decide +kernel)),qasz,?_⟩;refine qgz ((q47z T).mono (by decide)) hr T.m_z7 T.F_z7.kp T.b_z7 ?_;refine qbz (qaz (pv 1)) (qbz (qaz (pv 0)) qcz);refine qfz ?_ ?_;refine qzz PassesOwn.never rfl (q2z (qaz (pv 1))) (qlz (i:=2) sc_z30.nd) (qez ?_);refine qzz PassesOwn.never rfl (q2z (qaz (pv 1))) (qlz (i:=3) sc_z30.nd) (qez (qsz (qaoz ?_) (qez (qhz q1z)) qrz));refine qc5z (qpz l_ne (qamz hr.units) (qaz (pv 3)) (qaz (pv 2)) (nomark _)) (qc4z (qpz l_eq (qaqz hr.units) ?_ (qacz qcz) (nomark _)));refine q6z rfl (show CmpOk qfsz (defScope qcuz) _ ["place"] [2] from⟨rfl,by decide +kernel,by decide +kernel,by decide +kernel,by decide +kernel,by decide +kernel⟩) ?_ ?_;refine q2z (qaz (pv 3));intro s0 H0 fp0;refine⟨(qlz (i:=0) (show (["place","one"]:List Str).Nodup by decide +kernel)),?_,(qaz (pv 0))⟩;refine qb0z (qpz qeuz (qetz hr.units) (qaz (pv 0)) (qaz (pv 1)) (by with_unfolding_all rfl));refine qfz (qkz (i:=4) sc_z30.nd ?_) ?_;refine qgz ((q4mz T).mono (by decide)) hr T.m_z13 T.F_z13.kp T.b_z13 (qbz (qaz (pv 0)) qcz);refine qfz ?_ ?_;refine qsz (qpz l_eq (qaqz hr.units) (qaz (pv 1)) (qacz qcz) (nomark _)) (qez (qhz (qanz l_is qcbz (qaz (pv 4)) qarz (nomark _)))) (qrz);refine qfz (qsz (qaoz ?_) (qez (qhz q1z)) qrz) (qez (qhz ?_));refine qa4z (qpz qeuz (qetz hr.units) (qaz (pv 4)) (qaz (pv 1)) (by with_unfolding_all rfl)) (qbmz ?_);refine qpz l_ne (qamz hr.units) (q3z hr.units T.m_len (qbz (qaz (pv 4)) qcz)) (qvqz hr.units T.m_min (qbz ?_ qcz)) (nomark _);refine q6z rfl (show CmpOk qfsz (defScope qcuz) _ ["places"] [] from⟨rfl,by decide +kernel,by decide +kernel,by decide +kernel,by decide +kernel,by decide +kernel⟩) ?_ ?_;refine q2z (qaz (pv 1));intro s0 H0 fp0;refine⟨(qlz (i:=0) (show (["places"]:List Str).Nodup by decide +kernel)),qasz,(q3z hr.units T.m_len (qbz (qaz (pv 0)) qcz))⟩;refine qvkz (qkqz (qgz ((q4uz T).mono (by decide)) hr T.m_z26 T.F_z26.kp T.b_z26 (qbz (qaz (pv 0)) qcz))) ?_;refine qc6z (qanz l_eq (qaqz hr.units) (qaz (pv 1)) ?_ (nomark _));refine qacz (qbz (qzlz rfl T.m_range T.m_tuple (qbz (q3z hr.units T.m_len (qbz (qaz (pv 0)) qcz)) qcz)) qcz)
theorem q5bz:∀ds G Q,sp_law ds G Q->ds.length=1:=by
 intro ds G Q h;obtain⟨_,rfl,_⟩:=h;rfl
theorem ok_law(T:Txt K mg t):FnOk3 P w K mg base 10 t.f_law t.d_law ["script"] sp_law:=by
 refine qfn3 (k:=9) (sp:=sp_law) T.F_law sc_law (by decide) q5bz qnwz (fun cdv A outer s H E hr=>?_) q1xz;refine qfz ?_ (qez (qhz q1z));refine qzz PassesOwn.never rfl (q2z ?_) (qlz (i:=1) sc_law.nd) ?_;refine qiz qabz qaaz (qacz ?_) (qa6z (qaz (pv 0)) (qayz qdz) (qayz qdz));refine qbz (qgz ((q4wz T).mono (by decide)) hr T.m_z20 T.F_z20.kp T.b_z20 (qbz (qaz (pv 0)) (qbz qdz qcz))) (qcz);refine qfz ?_ ?_;refine qkz (i:=2) sc_law.nd (qgz ((q4zz T).mono (by decide)) hr T.m_z22 T.F_z22.kp T.b_z22 (qbz (qaz (pv 1)) qcz));refine qfz (qsz (qaoz ?_) (qez (qhz q1z)) qrz) (qez (qsz (qahz (q5z ?_)) (qez (qhz q1z)) qrz));refine qa4z (qahz (q5z ?_)) (qbmz (qahz (q5z ?_)));refine qgz ((qiez T).mono (by decide)) hr T.m_z30 T.F_z30.kp T.b_z30 ?_;refine qbz (qgz ((q45z T).mono (by decide)) hr T.m_z39 T.F_z39.kp T.b_z39 (qbz (qaz (pv 2)) qcz)) qcz;refine qgz ((qiez T).mono (by decide)) hr T.m_z30 T.F_z30.kp T.b_z30 (qbz ?_ qcz);refine qa6z (qgz ((q43z T).mono (by decide)) hr T.m_z8 T.F_z8.kp T.b_z8 (qbz (qaz (pv 2)) qcz)) qbdz ?_;refine qayz qdz;refine qgz ((qiez T).mono (by decide)) hr T.m_z30 T.F_z30.kp T.b_z30 (qbz ?_ qcz);refine qb1z hr.units T.m_tuple (qbz (qktz hr.units T.m_sorted ?_) qcz);refine qbz (qgz ((qidz T).mono (by decide)) hr T.m_z31 T.F_z31.kp T.b_z31 (qbz (qaz (pv 2)) (qbz qdz qcz))) qcz
end
def Has(K:PySem.W.Frag)(nm:Str)(st:Stmt):Prop:=∃f d,Fun K nm nm st f d/\PySem.W.nsIn K mainGlobals nm=some (some (.ref f))
theorem has_mk{K:PySem.W.Frag}{nm:Str}{st:Stmt}{f:Addr}{od an:Option Addr}{sl:Array (Option Value)}{oc kV dc pm cd ct:Value}(a:PySem.W.nsIn K mainGlobals nm=some (some (.ref f)))(l:K.lookup f=some ⟨oc,od,.func (PySem.W.fnOf nm nm (defArgs st) (defBody st) (defScope st) .none kV dc pm an cd ct),sl⟩)(c:PySem.W.codeIn K cd nm=true)(k:PySem.W.keepIn K (.ref f)=true):Has K nm st:=⟨f,_,qqwz l c k,a⟩
theorem txt_mk{K:PySem.W.Frag}{h:Heap}{mg:Str->Option Value}(X:K.In h)(G:h.Ns mainGlobals mg)
  (h0:Has K "whole_good" qhaz)
  (h1:Has K "place_good" qhbz)
  (h2:Has K "refuse_no_place" qhcz)
  (h3:Has K "rising_places_good" qd5z)
  (h4:Has K "refuse_above" qhez)
  (h5:Has K "doubled" qhfz)
  (h6:Has K "common_divisor" qhgz)
  (h7:Has K "common_multiple" qhhz)
  (h8:Has K "inverse_of" qhiz)
  (h9:Has K "lowest_terms" qhjz)
  (h10:Has K "counts_within" qhkz)
  (h11:Has K "first_counted" qhlz)
  (h12:Has K "rings" qhmz)
  (h13:Has K "rings_at" qfiz)
  (h14:Has K "round_of" qfjz)
  (h15:Has K "meet_of" qhnz)
  (h16:Has K "covers" qhoz)
  (h17:Has K "first_missed" qhpz)
  (h18:Has K "first_within" qhqz)
  (h19:Has K "idle_of" qfkz)
  (h20:Has K "lone_at" qhrz)
  (h21:Has K "lone_numbers" qflz)
  (h22:Has K "needs_good" qhsz)
  (h23:Has K "needs_paper" qhtz)
  (h24:Has K "least_covers" qctz)
  (h25:Has K "fewest_cover" qhuz)
  (h26:Has K "least_good" qfnz)
  (h27:Has K "ring_marks" qhvz)
  (h28:Has K "wanted_marks" qhwz)
  (h29:Has K "most_spared" qfoz)
  (h30:Has K "places_kept" qfpz)
  (h31:Has K "shares_of" qfqz)
  (h32:Has K "clash_of" qhxz)
  (h33:Has K "exact_good" qhyz)
  (h34:Has K "_law_cell_at" qhzz)
  (h35:Has K "_law_next" qh0z)
  (h36:Has K "_law_pen_of" qh1z)
  (h37:Has K "_law_draw" qh2z)
  (h38:Has K "_law_split" qfrz)
  (h39:Has K "_law_clocks_of" qh3z)
  (h40:Has K "_law_few" qh4z)
  (h41:Has K "_law_one_right" qd6z)
  (h42:Has K "_law_idle_right" qh6z)
  (h43:Has K "_law_right" qcuz)
  (h44:Has K "law" qh7z)
  {t0:Tok} (gint0:PySem.W.nsIn K mainGlobals "MOST_NUMBERS" = some (some (.int 10000 t0)))
  (z0:PySem.W.nsIn K mainGlobals "all" = some none)
  (z1:PySem.W.nsIn K mainGlobals "bool" = some none)
  (z2:PySem.W.nsIn K mainGlobals "enumerate" = some none)
  (z3:PySem.W.nsIn K mainGlobals "int" = some none)
  (z4:PySem.W.nsIn K mainGlobals "isinstance" = some none)
  (z5:PySem.W.nsIn K mainGlobals "len" = some none)
  (z6:PySem.W.nsIn K mainGlobals "max" = some none)
  (z7:PySem.W.nsIn K mainGlobals "min" = some none)
  (z8:PySem.W.nsIn K mainGlobals "range" = some none)
  (z9:PySem.W.nsIn K mainGlobals "set" = some none)
  (z10:PySem.W.nsIn K mainGlobals "sorted" = some none)
  (z11:PySem.W.nsIn K mainGlobals "sum" = some none)
  (z12:PySem.W.nsIn K mainGlobals "tuple" = some none)
  (z13:PySem.W.nsIn K mainGlobals "zip" = some none)
  : ∃t:Adr,Txt K mg t/\∀(s:Shared) (v:Value),BindsTo s t.d_law ⟨[v],[]⟩ [("script",v)]:=by
 obtain⟨f0,d0,F0,a0⟩:=h0;obtain⟨f1,d1,F1,a1⟩:=h1;obtain⟨f2,d2,F2,a2⟩:=h2;obtain⟨f3,d3,F3,a3⟩:=h3;obtain⟨f4,d4,F4,a4⟩:=h4;obtain⟨f5,d5,F5,a5⟩:=h5;obtain⟨f6,d6,F6,a6⟩:=h6;obtain⟨f7,d7,F7,a7⟩:=h7;obtain⟨f8,d8,F8,a8⟩:=h8;obtain⟨f9,d9,F9,a9⟩:=h9;obtain⟨f10,d10,F10,a10⟩:=h10;obtain⟨f11,d11,F11,a11⟩:=h11;obtain⟨f12,d12,F12,a12⟩:=h12;obtain⟨f13,d13,F13,a13⟩:=h13;obtain⟨f14,d14,F14,a14⟩:=h14;obtain⟨f15,d15,F15,a15⟩:=h15;obtain⟨f16,d16,F16,a16⟩:=h16;obtain⟨f17,d17,F17,a17⟩:=h17;obtain⟨f18,d18,F18,a18⟩:=h18;obtain⟨f19,d19,F19,a19⟩:=h19;obtain⟨f20,d20,F20,a20⟩:=h20;obtain⟨f21,d21,F21,a21⟩:=h21;obtain⟨f22,d22,F22,a22⟩:=h22;obtain⟨f23,d23,F23,a23⟩:=h23;obtain⟨f24,d24,F24,a24⟩:=h24;obtain⟨f25,d25,F25,a25⟩:=h25;obtain⟨f26,d26,F26,a26⟩:=h26;obtain⟨f27,d27,F27,a27⟩:=h27;obtain⟨f28,d28,F28,a28⟩:=h28;obtain⟨f29,d29,F29,a29⟩:=h29;obtain⟨f30,d30,F30,a30⟩:=h30;obtain⟨f31,d31,F31,a31⟩:=h31;obtain⟨f32,d32,F32,a32⟩:=h32;obtain⟨f33,d33,F33,a33⟩:=h33;obtain⟨f34,d34,F34,a34⟩:=h34;obtain⟨f35,d35,F35,a35⟩:=h35;obtain⟨f36,d36,F36,a36⟩:=h36;obtain⟨f37,d37,F37,a37⟩:=h37;obtain⟨f38,d38,F38,a38⟩:=h38;obtain⟨f39,d39,F39,a39⟩:=h39;obtain⟨f40,d40,F40,a40⟩:=h40;obtain⟨f41,d41,F41,a41⟩:=h41;obtain⟨f42,d42,F42,a42⟩:=h42;obtain⟨f43,d43,F43,a43⟩:=h43;obtain⟨f44,d44,F44,a44⟩:=h44;exact⟨⟨f0,d0,f1,d1,f2,d2,f3,d3,f4,d4,f5,d5,f6,d6,f7,d7,f8,d8,f9,d9,f10,d10,f11,d11,f12,d12,f13,d13,f14,d14,f15,d15,f16,d16,f17,d17,f18,d18,f19,d19,f20,d20,f21,d21,f22,d22,f23,d23,f24,d24,f25,d25,f26,d26,f27,d27,f28,d28,f29,d29,f30,d30,f31,d31,f32,d32,f33,d33,f34,d34,f35,d35,f36,d36,f37,d37,f38,d38,f39,d39,f40,d40,f41,d41,f42,d42,f43,d43,f44,d44,t0⟩,⟨F0,
  PySem.W.mg_of X G a0,
  F0.binds (ps:=["thing"]) fun _ _ _ _ _ _ us hl=>by obtain⟨_,rfl⟩:=len1 hl;rfl,
  F1,
  PySem.W.mg_of X G a1,
  F1.binds (ps:=["things","thing"]) fun _ _ _ _ _ _ us hl=>by obtain⟨_,_,rfl⟩:=len2 hl;rfl,
  F2,
  PySem.W.mg_of X G a2,
  F2.binds (ps:=["things","thing"]) fun _ _ _ _ _ _ us hl=>by obtain⟨_,_,rfl⟩:=len2 hl;rfl,
  F3,
  PySem.W.mg_of X G a3,
  F3.binds (ps:=["things","thing"]) fun _ _ _ _ _ _ us hl=>by obtain⟨_,_,rfl⟩:=len2 hl;rfl,
  F4,
  PySem.W.mg_of X G a4,
  F4.binds (ps:=["many","most"]) fun _ _ _ _ _ _ us hl=>by obtain⟨_,_,rfl⟩:=len2 hl;rfl,
  F5,
  PySem.W.mg_of X G a5,
  F5.binds (ps:=["times"]) fun _ _ _ _ _ _ us hl=>by obtain⟨_,rfl⟩:=len1 hl;rfl,
  F6,
  PySem.W.mg_of X G a6,
  F6.binds (ps:=["one","other"]) fun _ _ _ _ _ _ us hl=>by obtain⟨_,_,rfl⟩:=len2 hl;rfl,
  F7,
  PySem.W.mg_of X G a7,
  F7.binds (ps:=["numbers"]) fun _ _ _ _ _ _ us hl=>by obtain⟨_,rfl⟩:=len1 hl;rfl,
  F8,
  PySem.W.mg_of X G a8,
  F8.binds (ps:=["number","bound"]) fun _ _ _ _ _ _ us hl=>by obtain⟨_,_,rfl⟩:=len2 hl;rfl,
  F9,
  PySem.W.mg_of X G a9,
  F9.binds (ps:=["top","bottom"]) fun _ _ _ _ _ _ us hl=>by obtain⟨_,_,rfl⟩:=len2 hl;rfl,
  F10,
  PySem.W.mg_of X G a10,
  F10.binds (ps:=["clocks","many"]) fun _ _ _ _ _ _ us hl=>by obtain⟨_,_,rfl⟩:=len2 hl;rfl,
  F11,
  PySem.W.mg_of X G a11,
  F11.binds (ps:=["clock","counts","many"]) fun _ _ _ _ _ _ us hl=>by obtain⟨_,_,_,rfl⟩:=len3 hl;rfl,
  F12,
  PySem.W.mg_of X G a12,
  F12.binds (ps:=["clock","number"]) fun _ _ _ _ _ _ us hl=>by obtain⟨_,_,rfl⟩:=len2 hl;rfl,
  F13,
  PySem.W.mg_of X G a13,
  F13.binds (ps:=["clocks","number"]) fun _ _ _ _ _ _ us hl=>by obtain⟨_,_,rfl⟩:=len2 hl;rfl,
  F14,
  PySem.W.mg_of X G a14,
  F14.binds (ps:=["clocks"]) fun _ _ _ _ _ _ us hl=>by obtain⟨_,rfl⟩:=len1 hl;rfl,
  F15,
  PySem.W.mg_of X G a15,
  F15.binds (ps:=["one","other"]) fun _ _ _ _ _ _ us hl=>by obtain⟨_,_,rfl⟩:=len2 hl;rfl,
  F16,
  PySem.W.mg_of X G a16,
  F16.binds (ps:=["clocks"]) fun _ _ _ _ _ _ us hl=>by obtain⟨_,rfl⟩:=len1 hl;rfl,
  F17,
  PySem.W.mg_of X G a17,
  F17.binds (ps:=["clocks"]) fun _ _ _ _ _ _ us hl=>by obtain⟨_,rfl⟩:=len1 hl;rfl,
  F18,
  PySem.W.mg_of X G a18,
  F18.binds (ps:=["clocks","clock"]) fun _ _ _ _ _ _ us hl=>by obtain⟨_,_,rfl⟩:=len2 hl;rfl,
  F19,
  PySem.W.mg_of X G a19,
  F19.binds (ps:=["clocks"]) fun _ _ _ _ _ _ us hl=>by obtain⟨_,rfl⟩:=len1 hl;rfl,
  F20,
  PySem.W.mg_of X G a20,
  F20.binds (ps:=["clocks","place"]) fun _ _ _ _ _ _ us hl=>by obtain⟨_,_,rfl⟩:=len2 hl;rfl,
  F21,
  PySem.W.mg_of X G a21,
  F21.binds (ps:=["clocks"]) fun _ _ _ _ _ _ us hl=>by obtain⟨_,rfl⟩:=len1 hl;rfl,
  F22,
  PySem.W.mg_of X G a22,
  F22.binds (ps:=["clocks","thing"]) fun _ _ _ _ _ _ us hl=>by obtain⟨_,_,rfl⟩:=len2 hl;rfl,
  F23,
  PySem.W.mg_of X G a23,
  F23.binds (ps:=["clocks"]) fun _ _ _ _ _ _ us hl=>by obtain⟨_,rfl⟩:=len1 hl;rfl,
  F24,
  PySem.W.mg_of X G a24,
  F24.binds (ps:=["clocks"]) fun _ _ _ _ _ _ us hl=>by obtain⟨_,rfl⟩:=len1 hl;rfl,
  F25,
  PySem.W.mg_of X G a25,
  F25.binds (ps:=["clocks"]) fun _ _ _ _ _ _ us hl=>by obtain⟨_,rfl⟩:=len1 hl;rfl,
  F26,
  PySem.W.mg_of X G a26,
  F26.binds (ps:=["clocks","thing"]) fun _ _ _ _ _ _ us hl=>by obtain⟨_,_,rfl⟩:=len2 hl;rfl,
  F27,
  PySem.W.mg_of X G a27,
  F27.binds (ps:=["clocks","bits"]) fun _ _ _ _ _ _ us hl=>by obtain⟨_,_,rfl⟩:=len2 hl;rfl,
  F28,
  PySem.W.mg_of X G a28,
  F28.binds (ps:=["clocks","bits"]) fun _ _ _ _ _ _ us hl=>by obtain⟨_,_,rfl⟩:=len2 hl;rfl,
  F29,
  PySem.W.mg_of X G a29,
  F29.binds (ps:=["wanted","bits","mark"]) fun _ _ _ _ _ _ us hl=>by obtain⟨_,_,_,rfl⟩:=len3 hl;rfl,
  F30,
  PySem.W.mg_of X G a30,
  F30.binds (ps:=["bits","mark"]) fun _ _ _ _ _ _ us hl=>by obtain⟨_,_,rfl⟩:=len2 hl;rfl,
  F31,
  PySem.W.mg_of X G a31,
  F31.binds (ps:=["clocks"]) fun _ _ _ _ _ _ us hl=>by obtain⟨_,rfl⟩:=len1 hl;rfl,
  F32,
  PySem.W.mg_of X G a32,
  F32.binds (ps:=["clocks"]) fun _ _ _ _ _ _ us hl=>by obtain⟨_,rfl⟩:=len1 hl;rfl,
  F33,
  PySem.W.mg_of X G a33,
  F33.binds (ps:=["clocks"]) fun _ _ _ _ _ _ us hl=>by obtain⟨_,rfl⟩:=len1 hl;rfl,
  F34,
  PySem.W.mg_of X G a34,
  F34.binds (ps:=["script","k"]) fun _ _ _ _ _ _ us hl=>by obtain⟨_,_,rfl⟩:=len2 hl;rfl,
  F35,
  PySem.W.mg_of X G a35,
  F35.binds (ps:=["seed"]) fun _ _ _ _ _ _ us hl=>by obtain⟨_,rfl⟩:=len1 hl;rfl,
  F36,
  PySem.W.mg_of X G a36,
  F36.binds (ps:=["cell"]) fun _ _ _ _ _ _ us hl=>by obtain⟨_,rfl⟩:=len1 hl;rfl,
  F37,
  PySem.W.mg_of X G a37,
  F37.binds (ps:=["pen","many"]) fun _ _ _ _ _ _ us hl=>by obtain⟨_,_,rfl⟩:=len2 hl;rfl,
  F38,
  PySem.W.mg_of X G a38,
  F38.binds (ps:=["pen","times"]) fun _ _ _ _ _ _ us hl=>by obtain⟨_,_,rfl⟩:=len2 hl;rfl,
  F39,
  PySem.W.mg_of X G a39,
  F39.binds (ps:=["pen"]) fun _ _ _ _ _ _ us hl=>by obtain⟨_,rfl⟩:=len1 hl;rfl,
  F40,
  PySem.W.mg_of X G a40,
  F40.binds (ps:=["pen"]) fun _ _ _ _ _ _ us hl=>by obtain⟨_,rfl⟩:=len1 hl;rfl,
  F41,
  PySem.W.mg_of X G a41,
  F41.binds (ps:=["clocks","places"]) fun _ _ _ _ _ _ us hl=>by obtain⟨_,_,rfl⟩:=len2 hl;rfl,
  F42,
  PySem.W.mg_of X G a42,
  F42.binds (ps:=["clocks"]) fun _ _ _ _ _ _ us hl=>by obtain⟨_,rfl⟩:=len1 hl;rfl,
  F43,
  PySem.W.mg_of X G a43,
  F43.binds (ps:=["clocks"]) fun _ _ _ _ _ _ us hl=>by obtain⟨_,rfl⟩:=len1 hl;rfl,
  F44,
  PySem.W.mg_of X G a44,
  F44.binds (ps:=["script"]) fun _ _ _ _ _ _ us hl=>by obtain⟨_,rfl⟩:=len1 hl;rfl,
  PySem.W.mg_of X G gint0,
  PySem.W.mg_none_of X G z0,
  PySem.W.mg_none_of X G z1,
  PySem.W.mg_none_of X G z2,
  PySem.W.mg_none_of X G z3,
  PySem.W.mg_none_of X G z4,
  PySem.W.mg_none_of X G z5,
  PySem.W.mg_none_of X G z6,
  PySem.W.mg_none_of X G z7,
  PySem.W.mg_none_of X G z8,
  PySem.W.mg_none_of X G z9,
  PySem.W.mg_none_of X G z10,
  PySem.W.mg_none_of X G z11,
  PySem.W.mg_none_of X G z12,
  PySem.W.mg_none_of X G z13⟩,fun s v=>by
  obtain⟨_,_,_,_,_,_,_,_,_,rfl,_⟩:=F44.ex;exact .of_eq rfl⟩
theorem q5cz(K:PySem.W.Frag)(H:Hp)(a:Addr)(ns:List Int)(hl:ns.length≤63)(ho:Only H)(hS:SqL K H a (ns.map V.int)):lowSp K sp_law [.ref a] H (fun v _=>v=.bl true) fun _ _ _=>False:=by
 refine⟨[.scr (ns.map .int)],fun _=>none,fun d _=>d=.bl true,.cons ?_ .nil,(fun _ _ e=>nomatch e),⟨ns,rfl,hl,rfl⟩,fun v H' d G' hv _ _ q=>?_⟩
 ·unfold Hv;refine⟨a,ns.map V.int,rfl,?_,Hvs.ints ns⟩;rcases hS with (h|h)|h
  ·rcases ho a with z|⟨o,xs,z⟩
   ·rw[z] at h;cases h
   ·rw[z] at h;cases h
  ·exact .inl h
  ·exact .inr h
 ·subst q;exact qcxz hv
theorem walk{l:PySem.W.OpenLaw}{q:Program}{loose:List Str}{XP:(Str->Option Value)->Heap->Prop}{YP:World->Heap->Prop}{d:DefRec}{K:Params->PySem.W.Frag}(hn:l.most=some 63)(hdf:d.params.defaults=[])
  (hY:∀(w:World) (h:Heap),YP w h->(K w.params).In h)
  (F:∀(w:World) (mg:Str->Option Value) (fa:Addr) (h:Heap),(K w.params).In h->h.Ns mainGlobals mg->mg d.name=some (.ref fa) ->
   ∃fd:FuncData,(∀(s:Shared) (u:Value),BindsTo s fd ⟨[u],[]⟩ [("script",u)])/\∀base:Heap,(K w.params).In base->base.Ns mainGlobals mg->FnOk l.prog w (K w.params) mg base CX0 10 fa fd ["script"] (lowSp (K w.params) sp_law)):
  PySem.W.WalkO q loose XP YP l.row.toRowW d [] (fun f vs=>PySem.call f vs):=
 L2.walk_of (n:=63) (k:=10) (x:="script") (CX:=fun _=>CX0) (sp:=fun w=>lowSp (K w.params) sp_law) hn (by decide) hdf ⟨rfl,by decide,by decide⟩ hY F (fun w H a ns hl ho hS=>q5cz (K w.params) H a ns hl ho hS) fun _ _ _ _ _ z=>z
end My
open PySem PySem.W PyProof.Rows
set_option maxRecDepth 100000 in
set_option maxHeartbeats 0 in
theorem PySem.Challenge.cw_coverclocks_k29_whole_least_covers_holds : PySem.Challenge.rw_coverclocks_k29_whole_least_covers.Holds := by
 w_on;o_law;k_head;(case hw=>w_witness2)
 k_fill
 refine My.walk (l:=PySem.Challenge.rw_coverclocks_k29_whole_least_covers) rfl rfl (fun w h Y=>PySem.W.kIn_of Y) ?F
 case F=>
  intro w mg fa h KX G hmg
  refine' Exists.elim (My.txt_mk KX G (My.has_mk ?a0 ?l0 ?c0 ?k0) (My.has_mk ?a1 ?l1 ?c1 ?k1) (My.has_mk ?a2 ?l2 ?c2 ?k2) (My.has_mk ?a3 ?l3 ?c3 ?k3) (My.has_mk ?a4 ?l4 ?c4 ?k4) (My.has_mk ?a5 ?l5 ?c5 ?k5) (My.has_mk ?a6 ?l6 ?c6 ?k6) (My.has_mk ?a7 ?l7 ?c7 ?k7) (My.has_mk ?a8 ?l8 ?c8 ?k8) (My.has_mk ?a9 ?l9 ?c9 ?k9) (My.has_mk ?a10 ?l10 ?c10 ?k10) (My.has_mk ?a11 ?l11 ?c11 ?k11) (My.has_mk ?a12 ?l12 ?c12 ?k12) (My.has_mk ?a13 ?l13 ?c13 ?k13) (My.has_mk ?a14 ?l14 ?c14 ?k14) (My.has_mk ?a15 ?l15 ?c15 ?k15) (My.has_mk ?a16 ?l16 ?c16 ?k16) (My.has_mk ?a17 ?l17 ?c17 ?k17) (My.has_mk ?a18 ?l18 ?c18 ?k18) (My.has_mk ?a19 ?l19 ?c19 ?k19) (My.has_mk ?a20 ?l20 ?c20 ?k20) (My.has_mk ?a21 ?l21 ?c21 ?k21) (My.has_mk ?a22 ?l22 ?c22 ?k22) (My.has_mk ?a23 ?l23 ?c23 ?k23) (My.has_mk ?a24 ?l24 ?c24 ?k24) (My.has_mk ?a25 ?l25 ?c25 ?k25) (My.has_mk ?a26 ?l26 ?c26 ?k26) (My.has_mk ?a27 ?l27 ?c27 ?k27) (My.has_mk ?a28 ?l28 ?c28 ?k28) (My.has_mk ?a29 ?l29 ?c29 ?k29) (My.has_mk ?a30 ?l30 ?c30 ?k30) (My.has_mk ?a31 ?l31 ?c31 ?k31) (My.has_mk ?a32 ?l32 ?c32 ?k32) (My.has_mk ?a33 ?l33 ?c33 ?k33) (My.has_mk ?a34 ?l34 ?c34 ?k34) (My.has_mk ?a35 ?l35 ?c35 ?k35) (My.has_mk ?a36 ?l36 ?c36 ?k36) (My.has_mk ?a37 ?l37 ?c37 ?k37) (My.has_mk ?a38 ?l38 ?c38 ?k38) (My.has_mk ?a39 ?l39 ?c39 ?k39) (My.has_mk ?a40 ?l40 ?c40 ?k40) (My.has_mk ?a41 ?l41 ?c41 ?k41) (My.has_mk ?a42 ?l42 ?c42 ?k42) (My.has_mk ?a43 ?l43 ?c43 ?k43) (My.has_mk ?a44 ?l44 ?c44 ?k44) ?gint0 ?z0 ?z1 ?z2 ?z3 ?z4 ?z5 ?z6 ?z7 ?z8 ?z9 ?z10 ?z11 ?z12 ?z13) ?fin
  case a0|l0|c0|k0|a1|l1|c1|k1|a2|l2|c2|k2|a3|l3|c3|k3|a4|l4|c4|k4|a5|l5|c5|k5|a6|l6|c6|k6|a7|l7|c7|k7|a8|l8|c8|k8|a9|l9|c9|k9=>k_is
  case a10|l10|c10|k10|a11|l11|c11|k11|a12|l12|c12|k12|a13|l13|c13|k13|a14|l14|c14|k14|a15|l15|c15|k15|a16|l16|c16|k16|a17|l17|c17|k17|a18|l18|c18|k18|a19|l19|c19|k19=>k_is
  case a20|l20|c20|k20|a21|l21|c21|k21|a22|l22|c22|k22|a23|l23|c23|k23|a24|l24|c24|k24|a25|l25|c25|k25|a26|l26|c26|k26|a27|l27|c27|k27|a28|l28|c28|k28|a29|l29|c29|k29=>k_is
  case a30|l30|c30|k30|a31|l31|c31|k31|a32|l32|c32|k32|a33|l33|c33|k33|a34|l34|c34|k34|a35|l35|c35|k35|a36|l36|c36|k36|a37|l37|c37|k37|a38|l38|c38|k38|a39|l39|c39|k39=>k_is
  case a40|l40|c40|k40|a41|l41|c41|k41|a42|l42|c42|k42|a43|l43|c43|k43|a44|l44|c44|k44|gint0|z0|z1|z2|z3|z4|z5|z6|z7|z8|z9|z10|z11|z12|z13=>k_is
  case fin=>
   rintro t ⟨T,b⟩
   have e2:=hmg.symm.trans T.m_law
   cases e2
   exact⟨t.d_law,b,fun base _ _=>My.ok_law T⟩
