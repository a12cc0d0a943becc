import PyProof.Rows.All
import Wide.All
import OpenK.AllK
import Wide.FinOn
import Lean
import PyProof.EqAt
import PyProof.EqKinds
import PyProof.TupleCall
import PyProof.NeKinds
import KE.KSortAsk
import PySem.SetTable
import PyProof.SetKind
import PyProof.TupleKey
import PyProof.IsRules
import PyProof.DictKinds
import PyProof.FactsAll.set
import PyProof.RangeIter
import PyProof.Seq
import PyProof.ForAny
import PyProof.WalksMore
import PyProof.CollectWalk
import PyProof.CollectIter
import PyProof.WalksS
import PyProof.Rows.SetFrom
import KE.KSortTup
import PyProof.Draws
import PyProof.Rows.Range3
import PyProof.ExcClass2
import PyProof.InstSpecial
import PyProof.RaisesMany
import PyProof.Rows.Own
import KE.KTryDeep
import PyProof.InstStoreFacts
import PyProof.ExcArgs
import PyProof.SetRoads
import PyProof.Rows.CallKwBuiltin
import KE.KMinKey
import PySem.Challenge.RW_coverclocks_k37_whole_splits_and_joins
set_option Elab.async false
set_option linter.all false
set_option maxRecDepth 100000
set_option maxHeartbeats 6400000
namespace PySem.W.Fast
def tw10077397800344437339:=0
def tw10147761983330833180:=0
def tw10469388254428725518:=0
def tw10479145195448834537:=0
def tw10557851325136600504:=0
def tw10731814046469725799:=0
def tw10785841797582913540:=0
def tw11006814835884766699:=0
def tw11129172285565401743:=0
def tw11407652264099815326:=0
def tw11508146317413289962:=0
def tw12096377420292984313:=0
def tw1225745026918022641:=0
def tw12477080452090444431:=0
def tw12583866592959930562:=0
def tw12724266824068804237:=0
def tw12738974299675343662:=0
def tw13160796139697541028:=0
def tw13323558158915700045:=0
def tw13493834370361847813:=0
def tw13622006008434336281:=0
def tw13662184126470496912:=0
def tw13674786174247013313:=0
def tw13991206486998378228:=0
def tw1400569157453091993:=0
def tw14457753227164956173:=0
def tw14493273772121704691:=0
def tw14553706039925791100:=0
def tw14606603230501900698:=0
def tw1463101701472353024:=0
def tw14688651536735308255:=0
def tw14831766646876691822:=0
def tw14853235969255736437:=0
def tw14900693090984521698:=0
def tw14937976582706372502:=0
def tw15017718503191458655:=0
def tw15088480312976104309:=0
def tw15113346854112378505:=0
def tw15289160784961843225:=0
def tw15309866308750429312:=0
def tw15383901404484680042:=0
def tw15592148227896855413:=0
def tw15770298531719879300:=0
def tw15854492450342483202:=0
def tw15872013000577893010:=0
def tw16613895640387779399:=0
def tw16658953943979453845:=0
def tw16690608167909958771:=0
def tw16870496537926739162:=0
def tw16957716137768832833:=0
def tw17202784784838738305:=0
def tw17205385281511258586:=0
def tw17509222147550869953:=0
def tw17694337411138578738:=0
def tw17780599367930132980:=0
def tw17873941374607801276:=0
def tw17956636893527239207:=0
def tw1809341200991010786:=0
def tw18096365536807184187:=0
def tw18098432892630857369:=0
def tw18143901158950839974:=0
def tw18191296189866212838:=0
def tw2007005438495240247:=0
def tw2053937537338181277:=0
def tw2286971408383747490:=0
def tw2591597457905907366:=0
def tw2604066700983350957:=0
def tw3619628773181883934:=0
def tw3694298454623513639:=0
def tw3709638748330718019:=0
def tw3760891622063959399:=0
def tw4019556078671787129:=0
def tw406078180036548321:=0
def tw4135062933734955946:=0
def tw4246182244461782672:=0
def tw4534003163677590007:=0
def tw4550433778168137169:=0
def tw4877621010464823915:=0
def tw4888265129450947634:=0
def tw4918027365865664962:=0
def tw4956432648528940304:=0
def tw4992702837445521884:=0
def tw5035952423885430695:=0
def tw5167865350781693652:=0
def tw5249481511077027582:=0
def tw5253714777250752878:=0
def tw5369550690834399257:=0
def tw5392087692907272961:=0
def tw5650878245200443958:=0
def tw5852761167941079325:=0
def tw5905331595157967836:=0
def tw5994646175337924816:=0
def tw6005091167785303101:=0
def tw6585827734282275984:=0
def tw6868935281451881779:=0
def tw7886445582639335120:=0
def tw7953529736223869255:=0
def tw8007962526216997628:=0
def tw8106070371617200490:=0
def tw8424538073841571572:=0
def tw8456396576181435410:=0
def tw8575383702013277799:=0
def tw8590289139472829709:=0
def tw8968878744220948330:=0
def tw9009842527470182088:=0
def tw9312521739767755791:=0
def tw9329832903897007789:=0
def tw9568296859442493317:=0
def tw9623291088097620426:=0
def tw9706271327961137206:=0
def tw10314883515771717919:=0
def tw10782726370534429229:=0
def tw10863437259477639810:=0
def tw11272929528667457958:=0
def tw11710151260657695637:=0
def tw12049696297538665886:=0
def tw12560536026083926292:=0
def tw12752345895911807918:=0
def tw13161149831828095227:=0
def tw13778063980086773948:=0
def tw13844926573432449083:=0
def tw14413884509077542150:=0
def tw15071481483663864229:=0
def tw16061398002402165596:=0
def tw16937983860113163773:=0
def tw17330698223581397562:=0
def tw17819740561299848772:=0
def tw18180519877263412610:=0
def tw1852762004877763403:=0
def tw1972429328922540495:=0
def tw2441356465922539985:=0
def tw2600276433018127076:=0
def tw2758936097424544702:=0
def tw284408511767368181:=0
def tw2956287526985839892:=0
def tw3435503103130824619:=0
def tw3750449955813791651:=0
def tw385173315956746641:=0
def tw4090752713539220974:=0
def tw4228804707509493613:=0
def tw434802385519850904:=0
def tw5478029753379619900:=0
def tw5664414338257262811:=0
def tw591137624180437766:=0
def tw6072013787005108805:=0
def tw639396349996529916:=0
def tw679977508213943717:=0
def tw727116407849869193:=0
def tw7545873023062764401:=0
def tw7581149956969332597:=0
def tw7713744304691879781:=0
def tw8315245637118450375:=0
def tw8628199525803912400:=0
def tw8867861608983016177:=0
def tw9392709438698561813:=0
def tw9940280055030060319:=0
def tw10090817254764672773:=0
def tw1031613724697889008:=0
def tw10922081907865177579:=0
def tw11152380452975914790:=0
def tw12580004812193875767:=0
def tw126634254531015777:=0
def tw13230430650136591855:=0
def tw13855884710865376609:=0
def tw14009106397586631384:=0
def tw1400970125141026881:=0
def tw14068369606190220254:=0
def tw14601959280208117083:=0
def tw15051815188676087348:=0
def tw15757688661471411064:=0
def tw16448907701195098784:=0
def tw16586772694827186792:=0
def tw16699378480349256283:=0
def tw17187191919138518619:=0
def tw17741315850436342308:=0
def tw17937383234362503446:=0
def tw18223577153529738026:=0
def tw201404274006573214:=0
def tw2076685807800130874:=0
def tw2241519394947583253:=0
def tw2426110906081428291:=0
def tw2501802321040678926:=0
def tw2652077832976981543:=0
def tw3121812882456877400:=0
def tw3893858793461276373:=0
def tw4716964204571209791:=0
def tw4747468146343662876:=0
def tw5293023259189155399:=0
def tw5932031348641213300:=0
def tw593389304494262593:=0
def tw6042522155489573275:=0
def tw6149148540467273465:=0
def tw7348729232784314369:=0
def tw7430698663761456127:=0
def tw783671094032603966:=0
def tw7848269650308110322:=0
def tw8208284672215793929:=0
def tw9309193599656946658:=0
def tw12230847902680510488:=0
def tw14034051625755026226:=0
def tw17913602042893817780:=0
def tw18264727114751537723:=0
def tw8060033753367044119:=0
def tw9078533571300598476:=0
def tw13276751538508320928:=0
def tw6255853953609762823:=0
def tw8524566566591837743:=0
def tw8807707528529390770:=0
def tw11741364201587587840:=0
def tw16442261502293637068:=0
def tw17919981479769921314:=0
end PySem.W.Fast
namespace L2
open PySem PySem.Spec PyProof.Rows
abbrev Key:=Sum Int Str
def keyIs:Key->Value->Bool
 |.inl k,v=>Value.isInt k v
 |.inr x,v=>Value.isStrOf x v
def keyH(w:World):Key->Int
 |.inl k=>hashInt k
 |.inr x=>hashStr w x
theorem qa5z:∀{k:Key} {v:Value},keyIs k v=true->(∃i t,k=Sum.inl i/\v=Value.int i t)∨(∃x t,k=Sum.inr x/\v=Value.str x t)
 |.inl i,v,h=>by
  obtain⟨t,e⟩:=Value.isInt_shape (k:=i) (v:=v) h;exact .inl ⟨i,t,rfl,e⟩
 |.inr x,v,h=>by
  obtain⟨t,e⟩:=Value.isStrOf_shape (x:=x) (v:=v) h;exact .inr ⟨x,t,rfl,e⟩
theorem qpcz(a b:Int):decide ((Sum.inl a:Key)=Sum.inl b)=(a==b):=by
 by_cases e:a=b
 ·subst e;simp
 ·have h:¬(Sum.inl a:Key)=Sum.inl b:=fun q=>e (Sum.inl.inj q);rw[decide_eq_false h];exact (beq_eq_false_iff_ne.mpr e).symm
theorem qpdz(a b:Str):decide ((Sum.inr a:Key)=Sum.inr b)=decide (a=b):=by
 by_cases e:a=b
 ·subst e;simp
 ·have h:¬(Sum.inr a:Key)=Sum.inr b:=fun q=>e (Sum.inr.inj q);rw[decide_eq_false h,decide_eq_false e]
theorem qpez(a:Int)(b:Str):decide ((Sum.inl a:Key)=Sum.inr b)=false:=decide_eq_false (fun q=>nomatch q)
theorem qpfz(a:Str)(b:Int):decide ((Sum.inr a:Key)=Sum.inl b)=false:=decide_eq_false (fun q=>nomatch q)
def mixKind(prog:Program)(w:World):PySem.KeyKind prog w Key where
 is:=keyIs
 hash:=keyH w
 inj:=fun v a b ha hb=>by
  rcases qa5z ha with⟨i,t,rfl,rfl⟩|⟨x,t,rfl,rfl⟩
  ·rcases qa5z hb with⟨j,u,rfl,e⟩|⟨y,u,rfl,e⟩
   ·injection e with e1 _;rw[e1]
   ·exact nomatch e
  ·rcases qa5z hb with⟨j,u,rfl,e⟩|⟨y,u,rfl,e⟩
   ·exact nomatch e
   ·injection e with e1 _;rw[e1]
 byValue:=fun k v h=>by
  rcases qa5z h with⟨i,t,rfl,rfl⟩|⟨x,t,rfl,rfl⟩<;>rfl
 pyHash:=fun hv h=>by
  rcases qa5z hv with⟨i,t,rfl,rfl⟩|⟨x,t,rfl,rfl⟩
  ·exact wpAny_pyHash_int h
  ·exact wpAny_pyHash_str h
 eqBool:=fun hu hv h=>by
  rcases qa5z hu with⟨i,t,rfl,rfl⟩|⟨x,t,rfl,rfl⟩
  ·rcases qa5z hv with⟨j,u,rfl,rfl⟩|⟨y,u,rfl,rfl⟩
   ·rw[qpcz] at h;exact wpAny_eqBool_int h
   ·rw[qpez] at h;exact SeqAt.EqAt.int_str i t y u _ _ _ _ h
  ·rcases qa5z hv with⟨j,u,rfl,rfl⟩|⟨y,u,rfl,rfl⟩
   ·rw[qpfz] at h;exact SeqAt.EqAt.str_int x t j u _ _ _ _ h
   ·rw[qpdz] at h;exact wpAny_eqBool_str h
 «strs»:=fun k x t v h=>by
  rcases qa5z h with⟨i,u,rfl,e⟩|⟨y,u,rfl,e⟩
  ·exact nomatch e
  ·injection e with e1 _;subst e1;cases v<;>rfl
end L2
namespace L2
open PySem PySem.Spec PyProof.Rows
inductive V where
 |non|bl (b:Bool)|int (i:Int)|str (x:Str)|byt (b:Array UInt8)|flt (b:UInt64)|ref (a:Addr)|ty (n:String)
 deriving DecidableEq
def RelV:V->Value->Prop
 |.non,u=>u=Value.none
 |.bl b,u=>u=Value.bool b
 |.int i,u=>∃t,u=Value.int i t
 |.str x,u=>∃t,u=Value.str x t
 |.byt b,u=>∃t,u=Value.bytes b t
 |.flt b,u=>∃t,u=Value.float b t
 |.ref a,u=>u=Value.ref a
 |.ty n,u=>u=Value.type n
abbrev Vals:List V->List Value->Prop:=Paired RelV
theorem Vals.length{xs:List V}{us:List Value}(r:Vals xs us):xs.length=us.length:=Paired.length r
theorem Vals.get:∀{xs:List V} {us:List Value} {i:Nat} {x:V},Vals xs us->xs[i]?=some x->∃u,us[i]?=some u/\RelV x u
 |_,_,_,_,.nil,e=>by simp at e
 |_,_,0,_,.cons r _,e=>by simp at e;subst e;exact⟨_,rfl,r⟩
 |_,_,i+1,x,.cons _ t,e=>by
  obtain⟨u,h1,h2⟩:=Vals.get (i:=i) (x:=x) t (by simpa using e);exact⟨u,by simpa using h1,h2⟩
theorem Vals.set{x:V}{u:Value}(r:RelV x u):∀{xs:List V} {us:List Value} (i:Nat),Vals xs us->Vals (xs.set i x) (us.set i u)
 |_,_,_,.nil=>.nil
 |_,_,0,.cons _ t=>.cons r t
 |_,_,i+1,.cons q t=>.cons q (Vals.set r i t)
theorem Vals.append:∀{xs ys:List V} {us ws:List Value},Vals xs us->Vals ys ws->Vals (xs++ys) (us++ws)
 |_,_,_,_,.nil,s=>s
 |_,_,_,_,.cons r t,s=>.cons r (Vals.append t s)
theorem Vals.take:∀{xs:List V} {us:List Value} (n:Nat),Vals xs us->Vals (xs.take n) (us.take n)
 |_,_,0,_=>.nil
 |_,_,_+1,.nil=>.nil
 |_,_,n+1,.cons r t=>.cons r (Vals.take n t)
theorem Vals.drop:∀{xs:List V} {us:List Value} (n:Nat),Vals xs us->Vals (xs.drop n) (us.drop n)
 |_,_,0,r=>r
 |_,_,_+1,.nil=>.nil
 |_,_,n+1,.cons _ t=>Vals.drop n t
def RelO:Option V->Option Value->Prop
 |some v,some u=>RelV v u
 |none,none=>True
 |_,_=>False
def KV{κ:Type}:List (κ×V)->List (κ×Value)->Prop:=Paired fun (p:κ×V) (q:κ×Value)=>p.1=q.1/\RelV p.2 q.2
def kV:Key->V
 |.inl i=>.int i
 |.inr x=>.str x
inductive HO where
 |lst (xs:List V)
 |tup (xs:List V)
 |dK (kvs:List (Key×V))|dT (kvs:List (List Key×V))
 |set (S:Int->Bool) (n:Nat)
 |ins (C dx:Addr) (fs:List (Str×V))
 |own (x:Addr)
 |xd (fs:List (Str×V))
 |met (f x:Addr)
 |rng (lo hi:Int)
 |frz (o:Obj) (u:HO)
 |tbl (ps:Array Value)
 |ext (φ:Heap->Prop)
abbrev Hp:=Addr->Option HO
def upd(H:Hp)(a:Addr)(o:HO):Hp:=fun b=>if b=a then some o else H b
theorem qwz{H:Hp}{a:Addr}{o:HO}:upd H a o a=some o:=by unfold upd;rw[if_pos rfl]
theorem qoz{H:Hp}{a b:Addr}{o:HO}(h:b≠a):upd H a o b=H b:=by unfold upd;rw[if_neg h]
theorem qaqz{H:Hp}{a b:Addr}{o:HO}(h:H a=some o)(h':H b=none):a≠b:=by
 intro e;subst e;rw[h] at h';cases h'
def IsTup2(h:Heap)(a:Addr)(items:Array Value):Prop:=∃o,h.get? a=some o/\o.cls=.type "tuple"/\(∃n,o.data=.seq items n)/\o.dict=none
theorem IsTup2.tup{h:Heap}{a:Addr}{items:Array Value}(x:IsTup2 h a items):IsTup h a items:=let ⟨o,h1,h2,h3,_⟩:=x;⟨o,h1,h2,h3⟩
theorem IsTup2.new(h:Heap)(items:Array Value):IsTup2 (h.push { cls:=.type "tuple",data:=.seq items }) h.objs.size items:=⟨_,Heap.get?_push_size _ rfl,rfl,⟨_,rfl⟩,rfl⟩
theorem IsTup2.lt{h:Heap}{a:Addr}{items:Array Value}(x:IsTup2 h a items):a<h.objs.size:=let ⟨_,ho,_⟩:=x;Heap.lt_size ho
theorem IsTup2.noDict{h:Heap}{a:Addr}{items:Array Value}(x:IsTup2 h a items):∀b,Value.ref a=.ref b->∃o,h.get? b=some o/\o.dict=none:=fun b e=>by
 cases e;obtain⟨o,h1,_,_,h4⟩:=x;exact⟨o,h1,h4⟩
section
variable (P:Program) (w:World)
def ObjOk(H:Hp)(h:Heap)(a:Addr):HO->Prop
 |.lst xs=>xs.length≤sizeLine/\∃(its:List Value) (n:Nat),Vals xs its/\h.get? a=some { cls:=.type "list",data:=.seq its.toArray n }
 |.tup xs=>xs.length≤sizeLine/\∃its:List Value,Vals xs its/\IsTup2 h a its.toArray
 |.dK kvs=>kvs.length≤sizeLine/\(a==sysModules)=false/\∃vs,KV kvs vs/\h.DictOf (mixKind P w) a vs
 |.dT kvs=>kvs.length≤sizeLine/\(a==sysModules)=false/\∃xs:List (List Key×Addr×Value),
   Paired (fun (p:List Key×V) (q:List Key×Addr×Value)=>p.1=q.1/\H q.2.1=some (.tup (p.1.map kV))/\RelV p.2 q.2.2) kvs xs ∧
   ∃o es ep,h.get? a=some o/\o.ExactDict/\o.data=.dict es ep/\es.toList=xs.map (entryOfKey (tupleKind (mixKind P w)))/\(xs.map (·.1)).Nodup
 |.set S n=>h.SetOf (intKind P w) a S n
 |.ins C dx fs=>H dx=some (.own a)/\fs.length≤1000/\dx≠a/\h.get? a=some (PySem.W.instObj C dx) ∧
   ∃mA,h.Ns1 dx mA/\(∀f,RelO (fs.lookup f) (mA f))/\PySem.Within mA (fs.map (·.1))
 |.own _=>∃o,h.get? a=some o
 |.xd fs=>∃mA,h.Ns1 a mA/\∀f,RelO (fs.lookup f) (mA f)
 |.rng lo hi=>∃t u v,h.get? a=some { cls:=.type "range",data:=.fields #[.int lo t,.int hi u,.int 1 v]}
 |.frz o u=>h.get? a=some o/\ObjOk H h a u
 |.tbl ps=>h.get? a=some { cls:=.none,data:=.fields ps }
 |.met f x=>h.get? a=some (PySem.W.methodObj (.ref f) (.ref x))
 |.ext φ=>φ h/\(∃o,h.get? a=some o)/\∀h1 h2:Heap,φ h1->(∀o,h1.get? a=some o->h2.get? a=some o)->φ h2
def HOk(H:Hp)(h:Heap):Prop:=∀a o,H a=some o->ObjOk P w H h a o
end
section
variable {P:Program} {w:World} {H H':Hp} {h h':Heap} {a:Addr} {o:HO}
theorem ObjOk.lt(x:ObjOk P w H h a o):a<h.objs.size:=by
 cases o with
 |lst xs=>obtain⟨_,_,_,_,e⟩:=x;exact Heap.lt_size e
 |tup xs=>obtain⟨_,_,_,p⟩:=x;exact p.lt
 |dK kvs=>obtain⟨_,_,_,_,o,_,_,e,_⟩:=x;exact Heap.lt_size e
 |dT kvs=>obtain⟨_,_,_,_,o,_,_,e,_⟩:=x;exact Heap.lt_size e
 |set S n=>obtain⟨o,_,_,_,e,_⟩:=x;exact Heap.lt_size e
 |ins C dx fs=>obtain⟨_,_,_,e,_⟩:=x;exact Heap.lt_size e
 |own y=>obtain⟨_,e⟩:=x;exact Heap.lt_size e
 |xd fs=>obtain⟨_,⟨_,_,_,e,_⟩,_⟩:=x;exact Heap.lt_size e
 |rng lo hi=>obtain⟨_,_,_,e⟩:=x;exact Heap.lt_size e
 |frz ob u=>obtain⟨e,_⟩:=x;exact Heap.lt_size e
 |tbl ps=>exact Heap.lt_size (show h.get? a=some _ from x)
 |met f y=>exact Heap.lt_size (show h.get? a=some _ from x)
 |ext φ=>obtain⟨_,⟨_,e⟩,_⟩:=x;exact Heap.lt_size e
theorem Paired.mapP{α β:Type}{F G:α->β->Prop}:∀{l₁:List α} {l₂:List β},Paired F l₁ l₂->(∀a b,F a b->G a b)->Paired G l₁ l₂
 |_,_,.nil,_=>.nil
 |_,_,.cons r t,f=>.cons (f _ _ r) (Paired.mapP t f)
theorem ObjOk.stay(x:ObjOk P w H h a o)(k:∀b u,(b=a∨H b=some (.own a))->h.get? b=some u->h'.get? b=some u)
  (ho:∀b,H b=some (.own a)->H' b=some (.own a)) (ht:∀b xs,H b=some (.tup xs)->H' b=some (.tup xs)):ObjOk P w H' h' a o:=by
 induction o with
 |lst xs=>obtain⟨z,its,n,r,e⟩:=x;exact⟨z,its,n,r,k _ _ (.inl rfl) e⟩
 |tup xs=>obtain⟨z,its,r,ob,e,c⟩:=x;exact⟨z,its,r,ob,k _ _ (.inl rfl) e,c⟩
 |dK kvs=>obtain⟨z,y,vs,r,ob,es,ep,e,c⟩:=x;exact⟨z,y,vs,r,ob,es,ep,k _ _ (.inl rfl) e,c⟩
 |dT kvs=>
  obtain⟨z,y,xs,r,ob,es,ep,e,c⟩:=x;exact⟨z,y,xs,Paired.mapP r fun p q z=>⟨z.1,ht _ _ z.2.1,z.2.2⟩,ob,es,ep,k _ _ (.inl rfl) e,c⟩
 |set S n=>obtain⟨ob,es,ep,t,e,c⟩:=x;exact⟨ob,es,ep,t,k _ _ (.inl rfl) e,c⟩
 |ins C dx fs=>
  obtain⟨d,z,ne,e,mA,⟨od,es,ep,e2,c⟩,r⟩:=x;exact⟨ho _ d,z,ne,k _ _ (.inl rfl) e,mA,⟨od,es,ep,k _ _ (.inr d) e2,c⟩,r⟩
 |own y=>obtain⟨ob,e⟩:=x;exact⟨ob,k _ _ (.inl rfl) e⟩
 |xd fs=>obtain⟨mA,⟨od,es,ep,e,c⟩,r⟩:=x;exact⟨mA,⟨od,es,ep,k _ _ (.inl rfl) e,c⟩,r⟩
 |rng lo hi=>obtain⟨t,u,v,e⟩:=x;exact⟨t,u,v,k _ _ (.inl rfl) e⟩
 |frz ob u ih=>obtain⟨e,q⟩:=x;exact⟨k _ _ (.inl rfl) e,ih q⟩
 |tbl ps=>
  have e:h.get? a=some { cls:=.none,data:=.fields ps }:=x;show h'.get? a=some { cls:=.none,data:=.fields ps };exact k a _ (.inl rfl) e
 |met f y=>
  have e:h.get? a=some (PySem.W.methodObj (.ref f) (.ref y)):=x;show h'.get? a=some (PySem.W.methodObj (.ref f) (.ref y));exact k a _ (.inl rfl) e
 |ext φ=>obtain⟨p,⟨o,e⟩,st⟩:=x;exact⟨st _ _ p fun o q=>k _ _ (.inl rfl) q,⟨o,k _ _ (.inl rfl) e⟩,st⟩
theorem HOk.lt(x:HOk P w H h)(e:H a=some o):a<h.objs.size:=(x a o e).lt
theorem HOk.fresh(x:HOk P w H h)(e:h.objs.size≤a):H a=none:=by
 cases q:H a with
 |none=>rfl
 |some u=>exact absurd (Nat.lt_of_lt_of_le (x.lt q) e) (Nat.lt_irrefl _)
theorem HOk.kept(x:HOk P w H h)(k:∀b u,h.get? b=some u->h'.get? b=some u):HOk P w H h':=fun a o e=>
 (x a o e).stay (fun b u _ q=>k b u q) (fun _ q=>q) fun _ _ q=>q
theorem HOk.laid(x:HOk P w H h)(k:∀b u,h.get? b=some u->h'.get? b=some u)(hp:h.objs.size≤a)(new:ObjOk P w (upd H a o) h' a o):HOk P w (upd H a o) h':=fun b u e=>by
 have hn:=x.fresh hp;by_cases hb:b=a
 ·subst hb;rw[qwz] at e;cases e;exact new
 ·rw[qoz hb] at e;exact (x b u e).stay (fun c v _ q=>k c v q) (fun c q=>by rw[qoz (qaqz q hn)];exact q) fun c xs q=>by rw[qoz (qaqz q hn)];exact q
end
def Rd(H:Hp)(a:Addr)(u:HO):Prop:=H a=some u∨∃o,H a=some (.frz o u)
theorem Rd.ok{P:Program}{w:World}{H:Hp}{h:Heap}{a:Addr}{u:HO}(r:Rd H a u)(x:HOk P w H h):ObjOk P w H h a u:=by
 rcases r with r|⟨o,r⟩
 ·exact x a u r
 ·obtain⟨_,q⟩:=x a _ r;exact q
def Mut:Option HO->Prop
 |some (.lst _)=>True
 |some (.dK _)=>True
 |some (.dT _)=>True
 |some (.set _ _)=>True
 |some (.ins _ _ _)=>True
 |some (.ext _)=>True
 |_=>False
section
variable {P:Program} {w:World} {H:Hp} {h h':Heap} {x e:Addr} {o':HO}
theorem HOk.write(ok:HOk P w H h)(mu:Mut (H x))(he:e=x∨H e=some (.own x))(k:∀b u,b≠e->h.get? b=some u->h'.get? b=some u)(heo:∃u,h'.get? e=some u)
  (new:ObjOk P w (upd H x o') h' x o'):HOk P w (upd H x o') h':=fun b u q=>by
 have nown:∀c y,H c=some (.own y)->c≠x:=fun c y r z=>by subst z;rw[r] at mu;exact mu
 have ntup:∀c xs,H c=some (.tup xs)->c≠x:=fun c xs r z=>by subst z;rw[r] at mu;exact mu
 by_cases hb:b=x
 ·subst hb;rw[qwz] at q;cases q;exact new
 ·rw[qoz hb] at q;by_cases hbe:b=e
  ·have q':H b=some (.own x):=by
    rcases he with z|z
    ·exact absurd (hbe.trans z) hb
    ·rw[hbe];exact z
   rw[q] at q';cases q';obtain⟨v,hv⟩:=heo;exact⟨v,by rw[hbe];exact hv⟩
  ·refine (ok b u q).stay (fun c v hc r=>k c v ?_ r) (fun c r=>by rw[qoz (nown c b r)];exact r) fun c xs r=>by rw[qoz (ntup c xs r)];exact r
   rcases hc with rfl|hc
   ·exact hbe
   ·rintro rfl;rcases he with z|z
    ·exact nown c b hc z
    ·rw[hc] at z;cases z;exact hb rfl
end
structure Un(fs ex:List Addr)(H H':Hp)(h h':Heap):Prop where
 keep:∀b o,h.get? b=some o->H b=none->b∉fs->b∉ex->h'.get? b=some o
 slot:∀b o,h.get? b=some o->H b=none->b∈fs->b∉ex->∃sl,h'.get? b=some { o with slots:=sl }
 free:∀b o,h.get? b=some o->H b=none->b∉ex->H' b=none
 there:∀b o,h.get? b=some o->b∉ex->∃o',h'.get? b=some o'
 tups:∀b xs,H b=some (.tup xs)->H' b=some (.tup xs)
 frzs:∀b o u,H b=some (.frz o u)->H' b=some (.frz o u)
 tbls:∀b ps,H b=some (.tbl ps)->∃more,H' b=some (.tbl (ps++more))
section
variable {fs fs' ex ex':List Addr} {H H1 H2:Hp} {h h1 h2 h':Heap} {a x e:Addr} {o:HO}
theorem Un.any(u:Un fs ex H H1 h h1){b:Addr}{ob:Obj}(q:h.get? b=some ob)(n:H b=none)(hx:b∉ex):∃sl,h1.get? b=some { ob with slots:=sl }:=by
 by_cases hb:b∈fs
 ·exact u.slot b ob q n hb hx
 ·exact⟨ob.slots,u.keep b ob q n hb hx⟩
theorem Un.kept(k:∀b u,h.get? b=some u->h'.get? b=some u):Un fs ex H H h h':=
 ⟨fun b ob q _ _ _=>k b ob q,fun b ob q _ _ _=>⟨ob.slots,k b ob q⟩,fun _ _ _ n _=>n,fun b ob q _=>⟨ob,k b ob q⟩,fun _ _ q=>q,fun _ _ _ q=>q,fun _ ps q=>⟨#[],by rw[q];simp⟩⟩
theorem Un.refl:Un fs ex H H h h:=Un.kept fun _ _ q=>q
theorem Un.laid(k:∀b u,h.get? b=some u->h'.get? b=some u)(hp:h.objs.size≤a)(hn:H a=none):Un fs ex H (upd H a o) h h' where
 keep:=fun b u q _ _ _=>k b u q
 slot:=fun b u q _ _ _=>⟨u.slots,k b u q⟩
 free:=fun b u q n _=>by rw[qoz (Nat.ne_of_lt (Nat.lt_of_lt_of_le (Heap.lt_size q) hp))];exact n
 there:=fun b u q _=>⟨u,k b u q⟩
 tups:=fun b xs q=>by rw[qoz (qaqz q hn)];exact q
 frzs:=fun b u xs q=>by rw[qoz (qaqz q hn)];exact q
 tbls:=fun b ps q=>⟨#[],by rw[qoz (qaqz q hn),q];simp⟩
theorem Un.write(mu:Mut (H x))(he:e=x∨H e=some (.own x))(k:∀b u,b≠e->h.get? b=some u->h'.get? b=some u)(heo:∃u,h'.get? e=some u):Un fs ex H (upd H x o) h h':=by
 have hx:∀b,H b=none->b≠x:=fun b n z=>by subst z;rw[n] at mu;exact mu
 have hb:∀b,H b=none->b≠e:=fun b n z=>by
  subst z;rcases he with r|r
  ·exact hx b n r
  ·rw[n] at r;cases r
 have hm:∀b u,H b=some u->¬Mut (some u)->b≠x:=fun b u q nm z=>by subst z;rw[q] at mu;exact nm mu
 refine⟨fun b u q n _ _=>k b u (hb b n) q,fun b u q n _ _=>⟨u.slots,k b u (hb b n) q⟩,fun b u q n _=>by rw[qoz (hx b n)];exact n,fun b u q _=>?_,
  fun b xs q=>by rw[qoz (hm b _ q fun z=>z)];exact q,fun b u xs q=>by rw[qoz (hm b _ q fun z=>z)];exact q,fun b ps q=>⟨#[],by rw[qoz (hm b _ q fun z=>z),q];simp⟩⟩
 by_cases hbe:b=e
 ·subst hbe;exact heo
 ·exact⟨u,k b u hbe q⟩
end
def trk(h:Heap)(H:Hp):List Addr:=(List.range h.objs.size).filter fun a=>(H a).isSome
def hidT(h:Heap)(H:Hp):Heap:=PySem.W.hideAll h (trk h H)
theorem qpgz(h:Heap)(H:Hp):(hidT h H).objs.size=h.objs.size:=PySem.W.hideAll_size _ _
theorem qphz{h:Heap}{H:Hp}{b:Addr}{o:Obj}(e:h.get? b=some o)(n:H b=none):(hidT h H).get? b=some o:=
 PySem.W.hideAll_get _ e fun hm=>by
  have q:(H b).isSome=true:=(List.mem_filter.mp hm).2;rw[n] at q;simp at q
theorem qpiz{h:Heap}{H:Hp}{b:Addr}{o:Obj}(e:(hidT h H).get? b=some o):h.get? b=some o/\H b=none:=by
 have e':h.get? b=some o:=PySem.W.of_hideAll (trk h H) e;refine⟨e',?_⟩;cases q:H b with
 |none=>rfl
 |some x=>
  have hm:b∈trk h H:=List.mem_filter.mpr ⟨List.mem_range.mpr (Heap.lt_size e'),by simp[q]⟩;have z:(hidT h H).get? b=none:=PySem.W.hideAll_none (trk h H) hm;rw[z] at e;cases e
end L2
namespace L2
open PySem PySem.Spec PyProof.Rows
structure Mod(K:PySem.W.Frag)(mg:Str->Option Value)(base:Heap):Prop where
 kin:K.In base
 glob:base.Ns mainGlobals mg
 blt:∃mb,base.Ns builtinsNs mb/\∀x:Str,x≠"__name__"->mb x=bootBuiltins x
 nolimit:base.NoLimit
structure Cx where
 prog:Program
 w:World
 K:PySem.W.Frag
 mg:Str->Option Value
 base:Heap
 A:Around
 N:List Str
 s₀:Shared
 H₀:Hp
 env:Env
 outer:List Env
 stack:List Env
 ex:List Addr
 fn:Str->Bool
 calm:Bool
 pn:List (Addr×Obj)
 xe:Value->Shared->Prop
def frs(l:List Env):List Addr:=l.filterMap (·.frame)
abbrev Cx.fs(X:Cx):List Addr:=frs X.outer
def Vis(sc:Scope)(x:Str):Prop:=sc.names.lookup x=some .local∨sc.names.lookup x=some .cell∨sc.names.lookup x=some .free
def Loc(sc:Scope)(x:Str):Prop:=sc.names.lookup x=some .local∨sc.names.lookup x=some .cell
def Look(env:Env)(h:Heap)(m:Str->Option Value)(x:Str)(u:Value):Prop:=
 (env.kindOf x=some .local/\m x=some u)∨((env.kindOf x=some .cell∨env.kindOf x=some .free)/\∃c,env.cells.lookup x=some c/\h.IsCell c (some u))
structure Cx.Ok(X:Cx):Prop where
 mod:Mod X.K X.mg X.base
 kind:X.env.scope.kind=.function
 glob:X.env.globals=mainGlobals
 blt:X.env.builtins=builtinsNs
 above:X.s₀.heap.objs.size≤X.env.locals
 inj:∀x y c,X.env.cells.lookup x=some c->X.env.cells.lookup y=some c->x=y
 has:∀x,(X.env.kindOf x=some .cell∨X.env.kindOf x=some .free)->∃c,X.env.cells.lookup x=some c
 cab:∀x c,X.fn x=true->X.env.cells.lookup x=some c->X.s₀.heap.objs.size≤c
 hd:X.calm=true->X.A.handled=none
 frames:X.A.frames=some X.stack
 stk:X.stack=X.outer∨(X.stack=X.env::X.outer/\X.env.frame=some X.env.locals)
 exf:∀b∈X.ex,b≠X.env.locals/\∀x c,X.env.cells.lookup x=some c->c≠b
 bs:∀b o,X.base.get? b=some o->X.s₀.heap.get? b=some o/\X.H₀ b=none
 bsz:X.base.objs.size≤X.s₀.heap.objs.size
 noex:∀b o,X.base.get? b=some o->b∉X.ex
 exfs:∀b∈X.ex,b∉X.fs
 funs:X.s₀.heap.FunFrames X.base X.outer
 frf:∀b∈X.fs,X.H₀ b=none
structure Inv(X:Cx)(pins:List (Addr×Obj))(σ:List (Option V))(H:Hp)(s:Shared):Prop where
 ok:X.Ok
 os:s.os=X.s₀.os
 bare:AllBare s.gens
 base:Un X.fs X.ex X.H₀ H X.s₀.heap s.heap
 loc:∃m,s.heap.Ns X.env.locals m/\∀(i:Nat) (x:Str) (v:V),X.N[i]?=some x->σ[i]?=some (some v)->Vis X.env.scope x->∃u,RelV v u/\Look X.env s.heap m x u
 cell:∀x c,X.env.cells.lookup x=some c->∃v,s.heap.IsCell c v
 free:H X.env.locals=none
 freeC:∀x c,X.env.cells.lookup x=some c->H c=none
 pin:∀p∈X.pn++pins,s.heap.get? p.1=some p.2/\H p.1=none/\p.1≠X.env.locals/\p.1∉X.fs/\∀v,p.2.data≠.cell v
 hok:HOk X.prog X.w H s.heap
 len:σ.length=X.N.length
section
variable {X:Cx} {pins:List (Addr×Obj)} {σ:List (Option V)} {H H':Hp} {s:Shared} {h':Heap}
theorem Cx.Ok.nofr(ok:X.Ok){b:Addr}{o:Obj}(e:X.base.get? b=some o):b∉X.fs:=fun hb=>by
 have:=(ok.funs.mem hb).1;rw[e] at this;cases this
theorem Inv.bs(I:Inv X pins σ H s):∀b o,X.base.get? b=some o->s.heap.get? b=some o/\H b=none:=fun b o e=>
 ⟨I.base.keep b o (I.ok.bs b o e).1 (I.ok.bs b o e).2 (I.ok.nofr e) (I.ok.noex b o e),I.base.free b o (I.ok.bs b o e).1 (I.ok.bs b o e).2 (I.ok.noex b o e)⟩
theorem Inv.bk(I:Inv X pins σ H s):∀b o,X.base.get? b=some o->s.heap.get? b=some o:=fun b o e=>(I.bs b o e).1
theorem Inv.mod(I:Inv X pins σ H s):Mod X.K X.mg X.base:=I.ok.mod
theorem Inv.kIn(I:Inv X pins σ H s):X.K.In s.heap:=I.ok.mod.kin.keeps I.bk
theorem Inv.lt(I:Inv X pins σ H s):X.env.locals<s.heap.objs.size:=let ⟨_,hn,_⟩:=I.loc;hn.lt
theorem Inv.sz(I:Inv X pins σ H s):X.s₀.heap.objs.size≤s.heap.objs.size:=Nat.le_trans I.ok.above (Nat.le_of_lt I.lt)
theorem Inv.nofs(I:Inv X pins σ H s){a:Addr}(h:s.heap.objs.size≤a):a∉X.fs:=fun hb=>by
 obtain⟨_,o,ho,_⟩:=I.ok.funs.mem hb;exact absurd (Nat.lt_of_lt_of_le (Heap.lt_size ho) (Nat.le_trans I.sz h)) (Nat.lt_irrefl _)
theorem Inv.cne(I:Inv X pins σ H s):∀x c,X.env.cells.lookup x=some c->c≠X.env.locals:=fun x c e z=>by
 obtain⟨v,o,ho,hd⟩:=I.cell x c e;obtain⟨m,⟨o',es,ep,ho',hd',_⟩,_⟩:=I.loc;rw[z,ho'] at ho;cases ho;rw[hd'] at hd;cases hd
theorem Inv.funs(I:Inv X pins σ H s):s.heap.FunFrames X.base X.outer:=by
 have all:∀(l:List Env),(∀b∈frs l,b∈X.fs)->X.s₀.heap.FunFrames X.base l->s.heap.FunFrames X.base l:=by
  intro l
  induction l with
  |nil=>intro _ _;trivial
  |cons env r ih=>
   intro hs hl;obtain⟨hk,⟨L,o,hf,hn,ho,hd⟩,hr⟩:=hl;have hL:L∈X.fs:=hs L (by unfold frs;rw[List.filterMap_cons,hf];exact List.mem_cons_self);obtain⟨sl,e⟩:=I.base.slot L o ho (I.ok.frf L hL) hL fun z=>I.ok.exfs L z hL;exact⟨hk,⟨L,_,hf,hn,e,hd⟩,ih (fun b hb=>hs b (by unfold frs;rw[List.filterMap_cons,hf];exact List.mem_cons_of_mem _ hb)) hr⟩
 exact all X.outer (fun _ hb=>hb) I.ok.funs
theorem Inv.stack(I:Inv X pins σ H s):s.heap.FunFrames X.base X.stack:=by
 rcases I.ok.stk with e|⟨e,hf⟩
 ·rw[e];exact I.funs
 ·rw[e];obtain⟨m,hn,_⟩:=I.loc;refine .cons (by rw[I.ok.kind];decide) hf hn ?_ I.funs;exact Heap.get?_none_of_le (Nat.le_trans I.ok.bsz I.ok.above)
theorem Inv.stkSub(I:Inv X pins σ H s):∀b∈frs X.stack,b∈X.env.locals::X.fs:=fun b hb=>by
 rcases I.ok.stk with e|⟨e,hf⟩
 ·rw[e] at hb;exact List.mem_cons_of_mem _ hb
 ·rw[e] at hb;unfold frs at hb;rw[List.filterMap_cons,hf] at hb;exact hb
theorem Inv.stkFree(I:Inv X pins σ H s):∀b∈frs X.stack,H b=none:=fun b hb=>by
 rcases List.mem_cons.mp (I.stkSub b hb) with e|hb
 ·rw[e];exact I.free
 ·obtain⟨_,o,ho,_⟩:=I.ok.funs.mem hb;exact I.base.free b o ho (I.ok.frf b hb) fun z=>I.ok.exfs b z hb
theorem Inv.step{g':Array GenState}{t':Nat}{d':Drawn}{ch:List Addr}(I:Inv X pins σ H s)
  (hch:∀b∈ch,(b∈X.ex∨X.s₀.heap.objs.size≤b)/\b≠X.env.locals/\(∀x c,X.env.cells.lookup x=some c->c≠b)/\∀p∈X.pn++pins,p.1≠b)
  (keep:∀b o,b≠X.env.locals->b∉X.fs->b∉ch->s.heap.get? b=some o->H b=none->h'.get? b=some o)
  (slot:∀b o,b≠X.env.locals->b∈X.fs->b∉ch->s.heap.get? b=some o->H b=none->∃sl,h'.get? b=some { o with slots:=sl }) (free:∀b o,b∉ch->s.heap.get? b=some o->H b=none->H' b=none)
  (there:∀b o,b∉ch->s.heap.get? b=some o->∃o',h'.get? b=some o')
  (tups:∀b xs,H b=some (.tup xs)->H' b=some (.tup xs)) (frzs:∀b o u,H b=some (.frz o u)->H' b=some (.frz o u)) (tbls:∀b ps,H b=some (.tbl ps)->∃more,H' b=some (.tbl (ps++more)))
  (ns:∀m,s.heap.Ns X.env.locals m->h'.Ns X.env.locals m) (hok:HOk X.prog X.w H' h') (hg:AllBare g'):
  Inv X pins σ H' { s with heap:=h',gens:=g',drawn:=d',toks:=t' }:=by
 have neL:∀b o,X.s₀.heap.get? b=some o->b≠X.env.locals:=fun b o e=>Nat.ne_of_lt (Nat.lt_of_lt_of_le (Heap.lt_size e) I.ok.above);have neC:∀b o,X.s₀.heap.get? b=some o->b∉X.ex->b∉ch:=fun b o e hx hb=>by
  rcases (hch b hb).1 with z|z
  ·exact hx z
  ·exact absurd (Nat.lt_of_lt_of_le (Heap.lt_size e) z) (Nat.lt_irrefl _)
 have cellK:∀x c,X.env.cells.lookup x=some c->∀v,s.heap.IsCell c v->h'.IsCell c v:=fun x c e v ⟨o,ho,hd⟩=>by
  have nch:c∉ch:=fun z=>(hch c z).2.2.1 x c e rfl;by_cases hc:c∈X.fs
  ·obtain⟨sl,q⟩:=slot c o (I.cne x c e) hc nch ho (I.freeC x c e);exact⟨_,q,hd⟩
  ·exact⟨o,keep c o (I.cne x c e) hc nch ho (I.freeC x c e),hd⟩
 refine⟨I.ok,I.os,hg,⟨fun b o e n hb hx=>?_,fun b o e n hb hx=>?_,fun b o e n hx=>?_,fun b o e hx=>?_,fun b xs e=>tups b xs (I.base.tups b xs e),fun b o xs e=>frzs b o xs (I.base.frzs b o xs e),fun b ps e=>?_⟩,?_,fun x c e=>?_,?_,fun x c e=>?_,fun p hp=>?_,hok,I.len⟩
 ·exact keep b o (neL b o e) hb (neC b o e hx) (I.base.keep b o e n hb hx) (I.base.free b o e n hx)
 ·obtain⟨sl,e1⟩:=I.base.slot b o e n hb hx;obtain⟨sl',e2⟩:=slot b _ (neL b o e) hb (neC b o e hx) e1 (I.base.free b o e n hx);exact⟨sl',e2⟩
 ·obtain⟨o',e1⟩:=I.base.there b o e hx;exact free b o' (neC b o e hx) e1 (I.base.free b o e n hx)
 ·obtain⟨o',e1⟩:=I.base.there b o e hx;exact there b o' (neC b o e hx) e1
 ·obtain⟨m1,e1⟩:=I.base.tbls b ps e;obtain⟨m2,e2⟩:=tbls b _ e1;exact⟨m1++m2,by rw[e2,Array.append_assoc]⟩
 ·obtain⟨m,hn,hl⟩:=I.loc;refine⟨m,ns m hn,fun i x v e1 e2 e3=>?_⟩;obtain⟨u,r,l⟩:=hl i x v e1 e2 e3;refine⟨u,r,?_⟩;rcases l with l|⟨k,c,e,z⟩
  ·exact .inl l
  ·exact .inr ⟨k,c,e,cellK x c e _ z⟩
 ·obtain⟨v,z⟩:=I.cell x c e;exact⟨v,cellK x c e v z⟩
 ·obtain⟨m,⟨o,_,_,ho,_⟩,_⟩:=I.loc;exact free _ o (fun z=>(hch _ z).2.1 rfl) ho I.free
 ·obtain⟨v,o,ho,hd⟩:=I.cell x c e;exact free c o (fun z=>(hch c z).2.2.1 x c e rfl) ho (I.freeC x c e)
 ·obtain⟨e,n,ne,nf,d⟩:=I.pin p hp;have nch:p.1∉ch:=fun z=>(hch p.1 z).2.2.2 p hp rfl;exact⟨keep p.1 p.2 ne nf nch e n,free p.1 p.2 nch e n,ne,nf,d⟩
theorem Inv.un{t':Nat}(I:Inv X pins σ H s)(u:Un X.fs [] H H' s.heap h')(hok:HOk X.prog X.w H' h'):Inv X pins σ H' { s with heap:=h',toks:=t' }:=by
 obtain⟨m,⟨o,es,ep,ho,r⟩,_⟩:=id I.loc;obtain⟨sl,hL⟩:=u.any ho I.free (by simp);exact I.step (g':=s.gens) (d':=s.drawn) (ch:=[]) (fun _ z=>nomatch z) (fun b o _ hb _ e n=>u.keep b o e n hb (by simp)) (fun b o _ hb _ e n=>u.slot b o e n hb (by simp)) (fun b o _ e n=>u.free b o e n (by simp)) (fun b o _ e=>u.there b o e (by simp)) u.tups u.frzs u.tbls (fun m' hm=>by
  obtain⟨o',es',ep',ho',r'⟩:=hm;rw[ho] at ho';cases ho';exact⟨_,es',ep',hL,r'⟩) hok I.bare
theorem Inv.call{g':Array GenState}{t':Nat}{d':Drawn}{ch:List Addr}(I:Inv X pins σ H s)(u:Un (frs X.stack) ch H H' s.heap h')(hok:HOk X.prog X.w H' h')(hg:AllBare g')
  (hch:∀b∈ch,(b∈X.ex∨X.s₀.heap.objs.size≤b)/\b≠X.env.locals/\(∀x c,X.env.cells.lookup x=some c->c≠b)/\∀p∈X.pn++pins,p.1≠b):
  Inv X pins σ H' { s with heap:=h',gens:=g',drawn:=d',toks:=t' }:=by
 obtain⟨m,⟨o,es,ep,ho,r⟩,_⟩:=id I.loc;obtain⟨sl,hL⟩:=u.any ho I.free fun z=>(hch _ z).2.1 rfl;exact I.step (ch:=ch) hch (fun b o hL hb hc e n=>u.keep b o e n (fun z=>(List.mem_cons.mp (I.stkSub b z)).elim hL hb) hc) (fun b o _ _ hc e n=>u.any e n hc) (fun b o hc e n=>u.free b o e n hc) (fun b o hc e=>u.there b o e hc) u.tups u.frzs u.tbls (fun m' hm=>by
  obtain⟨o',es',ep',ho',r'⟩:=hm;rw[ho] at ho';cases ho';exact⟨_,es',ep',hL,r'⟩) hok hg
theorem Inv.turned{t':Nat}{it:Addr}(I:Inv X pins σ H s)(k:∀b o,b≠it->s.heap.get? b=some o->h'.get? b=some o)(hn:H it=none)(hL:it≠X.env.locals)
  (h1:it∈X.ex∨X.s₀.heap.objs.size≤it) (h2:∀x c,X.env.cells.lookup x=some c->c≠it) (h3:∀p∈X.pn++pins,p.1≠it):Inv X pins σ H { s with heap:=h',toks:=t' }:=by
 have nit:∀b u,H b=some u->b≠it:=fun b u e z=>by rw[z,hn] at e;cases e
 refine I.step (g':=s.gens) (d':=s.drawn) (ch:=[it]) (fun b hb=>?_) (fun b o _ _ hc e _=>k b o (fun z=>hc (by simp[z])) e) (fun b o _ _ hc e _=>⟨o.slots,k b o (fun z=>hc (by simp[z])) e⟩) (fun _ _ _ _ n=>n)
  (fun b o hc e=>⟨o,k b o (fun z=>hc (by simp[z])) e⟩) (fun _ _ e=>e) (fun _ _ _ e=>e) (fun b ps e=>⟨#[],by rw[e];simp⟩) (fun m hm=>?_) (fun b u e=>?_) I.bare
 ·have e:b=it:=by simpa using hb
  subst e;exact⟨h1,hL,h2,h3⟩
 ·obtain⟨o,es,ep,ho,r⟩:=hm;exact⟨o,es,ep,k _ o (Ne.symm hL) ho,r⟩
 ·refine (I.hok b u e).stay (fun c v hc q=>k c v ?_ q) (fun _ q=>q) fun _ _ q=>q;rcases hc with z|z
  ·rw[z];exact nit b u e
  ·exact nit c _ z
theorem Inv.tok(I:Inv X pins σ H s)(t:Nat):Inv X pins σ H { s with toks:=t }:=I.un (h':=s.heap) (t':=t) Un.refl I.hok
theorem Inv.kept{t':Nat}(I:Inv X pins σ H s)(k:∀b u,s.heap.get? b=some u->h'.get? b=some u):Inv X pins σ H { s with heap:=h',toks:=t' }:=I.un (Un.kept k) (I.hok.kept k)
theorem Inv.laid{a:Addr}{o:HO}{t':Nat}(I:Inv X pins σ H s)(k:∀b u,s.heap.get? b=some u->h'.get? b=some u)(hp:s.heap.objs.size≤a)(new:ObjOk X.prog X.w (upd H a o) h' a o):
  Inv X pins σ (upd H a o) { s with heap:=h',toks:=t' }:=I.un (Un.laid k hp (I.hok.fresh hp)) (I.hok.laid k hp new)
theorem Inv.write{x e:Addr}{o:HO}{t':Nat}(I:Inv X pins σ H s)(mu:Mut (H x))(he:e=x∨H e=some (.own x))(k:∀b u,b≠e->s.heap.get? b=some u->h'.get? b=some u)(heo:∃u,h'.get? e=some u)
  (new:ObjOk X.prog X.w (upd H x o) h' x o):Inv X pins σ (upd H x o) { s with heap:=h',toks:=t' }:=I.un (Un.write mu he k heo) (I.hok.write mu he k heo new)
theorem Inv.pins_of{pins':List (Addr×Obj)}(I:Inv X pins σ H s)(h:∀p∈pins',s.heap.get? p.1=some p.2/\H p.1=none/\p.1≠X.env.locals/\p.1∉X.fs/\∀v,p.2.data≠.cell v):Inv X pins' σ H s:=
 ⟨I.ok,I.os,I.bare,I.base,I.loc,I.cell,I.free,I.freeC,fun p hp=>(List.mem_append.mp hp).elim (fun z=>I.pin p (List.mem_append_left _ z)) (h p),I.hok,I.len⟩
theorem qimz{N:List Str}(hN:N.Nodup){i j:Nat}{x:Str}(a:N[i]?=some x)(b:N[j]?=some x):i=j:=by
 obtain⟨h1,e1⟩:=List.getElem?_eq_some_iff.mp a;obtain⟨h2,e2⟩:=List.getElem?_eq_some_iff.mp b;exact (List.getElem_inj hN).mp (e1.trans e2.symm)
theorem qinz{M:Model}{A:Around}{E:Value->Shared->Prop}{i:Nat}{x:Str}{v:V}{u:Value}{Q:Unit->Shared->Prop}(I:Inv X pins σ H s)(hN:X.N.Nodup)(hi:X.N[i]?=some x)(hx:Loc X.env.scope x)(r:RelV v u)
  (h:∀s',Inv X pins (σ.set i (some v)) H s'->(∃a,Heap.SameBut a s.heap s'.heap/\(a=X.env.locals∨X.env.cells.lookup x=some a))->Q () s') (hf:X.fn x=true∨X.env.scope.names.lookup x=some .local:=by first|exact .inl rfl|exact .inr rfl|assumption):wpAny M A (storeName X.env x u) Q E s:=by
 obtain⟨m,hn,hl⟩:=id I.loc;have hcls:(X.env.scope.kind==.class||(X.env.scope.kind==.module&&X.env.locals != X.env.globals))=false:=by rw[I.ok.kind];rfl
 have hiσ:i<σ.length:=by rw[I.len];exact (List.getElem?_eq_some_iff.mp hi).1
 have cne:=I.cne;have tracked:∀{a:Addr} {h':Heap},(∃o,s.heap.get? a=some o/\H a=none)->Heap.SameBut a s.heap h'->HOk X.prog X.w H h':=fun {a h'} ha hs b ob e=>by
  obtain⟨_,_,hfree⟩:=ha;refine (I.hok b ob e).stay (fun c w' hc q=>(hs.2 c ?_).trans q) (fun _ q=>q) fun _ _ q=>q;rintro rfl;rcases hc with rfl|hc
  ·rw[hfree] at e;cases e
  ·rw[hfree] at hc;cases hc
 rcases hx with hk|hk
 ·refine wpAny_storeName_local hk hn (fun h' hn' hs=>?_) hcls;obtain⟨oL,_,_,hoL,_⟩:=id hn;refine h _ ⟨I.ok,I.os,I.bare,⟨fun b o e n hb hx=>?_,fun b o e n hb hx=>?_,I.base.free,fun b o e hx=>?_,I.base.tups,I.base.frzs,I.base.tbls⟩,⟨_,hn',fun j y v' e1 e2 e3=>?_⟩,fun y c e=>?_,I.free,I.freeC,fun p hp=>?_,tracked ⟨oL,hoL,I.free⟩ hs,by simpa using I.len⟩ ⟨_,hs,.inl rfl⟩
  ·exact (hs.2 b (Nat.ne_of_lt (Nat.lt_of_lt_of_le (Heap.lt_size e) I.ok.above))).trans (I.base.keep b o e n hb hx)
  ·obtain⟨sl,e1⟩:=I.base.slot b o e n hb hx;exact⟨sl,(hs.2 b (Nat.ne_of_lt (Nat.lt_of_lt_of_le (Heap.lt_size e) I.ok.above))).trans e1⟩
  ·obtain⟨o',e1⟩:=I.base.there b o e hx;exact⟨o',(hs.2 b (Nat.ne_of_lt (Nat.lt_of_lt_of_le (Heap.lt_size e) I.ok.above))).trans e1⟩
  ·by_cases hj:j=i
   ·subst hj;rw[hi] at e1;cases e1;rw[List.getElem?_set_self hiσ] at e2;cases e2;exact⟨u,r,.inl ⟨hk,by simp⟩⟩
   ·rw[List.getElem?_set_ne (Ne.symm hj)] at e2;obtain⟨u',r',q⟩:=hl j y v' e1 e2 e3;refine⟨u',r',?_⟩;rcases q with⟨k,e⟩|⟨k,c,e,z⟩
    ·refine .inl ⟨k,?_⟩;have:y≠x:=fun e=>hj (qimz hN e1 (e▸hi));simp[this,e]
    ·exact .inr ⟨k,c,e,z.sameBut hs (cne y c e)⟩
  ·obtain⟨w',z⟩:=I.cell y c e;exact⟨w',z.sameBut hs (cne y c e)⟩
  ·obtain⟨e,n,ne,nf,d⟩:=I.pin p hp;exact⟨(hs.2 p.1 ne).trans e,n,ne,nf,d⟩
 ·have hfn:X.fn x=true:=by
   rcases hf with z|z
   ·exact z
   ·rw[z] at hk;cases hk
  obtain⟨c,hc⟩:=I.ok.has x (.inl hk);obtain⟨w',z⟩:=I.cell x c hc;refine wpAny_storeName_cell I.ok.kind hk hc z (fun h' hc' hs=>?_);obtain⟨oc,hoc,hocd⟩:=id z;refine h { s with heap:=h' } ⟨I.ok,I.os,I.bare,⟨fun b o e n hb hx=>?_,fun b o e n hb hx=>?_,I.base.free,fun b o e hx=>?_,I.base.tups,I.base.frzs,I.base.tbls⟩,⟨m,hn.sameBut hs (Ne.symm (cne x c hc)),fun j y v' e1 e2 e3=>?_⟩,fun y c' e=>?_,I.free,I.freeC,fun p hp=>?_,tracked ⟨oc,hoc,I.freeC x c hc⟩ hs,by simpa using I.len⟩ ⟨c,hs,.inr hc⟩
  ·exact (hs.2 b (Nat.ne_of_lt (Nat.lt_of_lt_of_le (Heap.lt_size e) (I.ok.cab x c hfn hc)))).trans (I.base.keep b o e n hb hx)
  ·obtain⟨sl,e1⟩:=I.base.slot b o e n hb hx;exact⟨sl,(hs.2 b (Nat.ne_of_lt (Nat.lt_of_lt_of_le (Heap.lt_size e) (I.ok.cab x c hfn hc)))).trans e1⟩
  ·obtain⟨o',e1⟩:=I.base.there b o e hx;exact⟨o',(hs.2 b (Nat.ne_of_lt (Nat.lt_of_lt_of_le (Heap.lt_size e) (I.ok.cab x c hfn hc)))).trans e1⟩
  ·by_cases hj:j=i
   ·subst hj;rw[hi] at e1;cases e1;rw[List.getElem?_set_self hiσ] at e2;cases e2;exact⟨u,r,.inr ⟨.inl hk,c,hc,hc'⟩⟩
   ·rw[List.getElem?_set_ne (Ne.symm hj)] at e2;obtain⟨u',r',q⟩:=hl j y v' e1 e2 e3;refine⟨u',r',?_⟩;rcases q with q|⟨k,c',e,z'⟩
    ·exact .inl q
    ·refine .inr ⟨k,c',e,z'.sameBut hs ?_⟩;rintro rfl;exact hj (qimz hN e1 (I.ok.inj _ _ _ e hc▸hi))
  ·by_cases hcc:c'=c
   ·subst hcc;exact⟨_,hc'⟩
   ·obtain⟨w2,z2⟩:=I.cell y c' e;exact⟨w2,z2.sameBut hs hcc⟩
  ·obtain⟨e,n,ne,nf,d⟩:=I.pin p hp;refine⟨(hs.2 p.1 ?_).trans e,n,ne,nf,d⟩;intro q;rw[q,hoc] at e;have q':oc=p.2:=Option.some.inj e;exact d w' (by rw[←q'];exact hocd)
theorem qioz{M:Model}{A:Around}{E:Value->Shared->Prop}{i:Nat}{x:Str}{v:V}{u:Value}{Q:Unit->Shared->Prop}(I:Inv X pins σ H s)(hN:X.N.Nodup)(hi:X.N[i]?=some x)(hx:Loc X.env.scope x)(r:RelV v u)
  (h:∀s',Inv X pins (σ.set i (some v)) H s'->Q () s') (hf:X.fn x=true∨X.env.scope.names.lookup x=some .local:=by first|exact .inl rfl|exact .inr rfl|assumption):wpAny M A (storeName X.env x u) Q E s:=
 qinz I hN hi hx r (fun s' I' _=>h s' I') hf
theorem Inv.call'{s':Shared}{ch:List Addr}(I:Inv X pins σ H s)(ho:s'.os=s.os)(u:Un (frs X.stack) ch H H' s.heap s'.heap)(hok:HOk X.prog X.w H' s'.heap)(hg:AllBare s'.gens)
  (hch:∀b∈ch,(b∈X.ex∨X.s₀.heap.objs.size≤b)/\b≠X.env.locals/\(∀x c,X.env.cells.lookup x=some c->c≠b)/\∀p∈X.pn++pins,p.1≠b):Inv X pins σ H' s':=by
 obtain⟨h',g',d',t',o'⟩:=s';have e:o'=s.os:=ho;subst e;exact I.call (g':=g') (t':=t') (d':=d') u hok hg hch
end
abbrev XK:=Value->Option Addr->Hp->Prop
abbrev St:=List (Option V)
abbrev VK:=V->Hp->Prop
abbrev TE:=St->Hp->VK->Prop
abbrev TT:=St->Hp->(Bool->Hp->Prop)->Prop
abbrev TA:=St->Hp->(List V->Hp->Prop)->Prop
structure Ends where
 nx:St->Hp->Prop
 rt:VK
 bk:St->Hp->Prop:=fun _ _=>False
 ct:St->Hp->Prop:=fun _ _=>False
abbrev TS:=Ends->St->Hp->Prop
def EP(X:Cx)(pins:List (Addr×Obj))(σ:St)(Q:VK)(u:Value)(s':Shared):Prop:=∃v H',Inv X pins σ H' s'/\RelV v u/\Q v H'
def TP(X:Cx)(pins:List (Addr×Obj))(σ:St)(Q:Bool->Hp->Prop)(b:Bool)(s':Shared):Prop:=∃H',Inv X pins σ H' s'/\Q b H'
def AP(X:Cx)(pins:List (Addr×Obj))(σ:St)(Q:List V->Hp->Prop)(us:List Value)(s':Shared):Prop:=∃vs H',Inv X pins σ H' s'/\Vals vs us/\Q vs H'
def SP(X:Cx)(pins:List (Addr×Obj))(D:Ends)(f:Flow)(s':Shared):Prop:=
 match f with
 |.next=>∃σ' H',Inv X pins σ' H' s'/\D.nx σ' H'
 |.brk=>∃σ' H',Inv X pins σ' H' s'/\D.bk σ' H'
 |.cont=>∃σ' H',Inv X pins σ' H' s'/\D.ct σ' H'
 |.ret u=>∃v σ' H',Inv X pins σ' H' s'/\RelV v u/\D.rt v H'
def PE(X:Cx)(e:Expr)(t:TE):Prop:=
 ∀(pins:List (Addr×Obj)) (s:Shared) (σ:St) (H:Hp) (Q:VK),Inv X pins σ H s->t σ H Q->wpAny (model X.prog X.w) X.A (eval e X.env) (EP X pins σ Q) X.xe s
def PT(X:Cx)(e:Expr)(t:TT):Prop:=
 ∀(pins:List (Addr×Obj)) (s:Shared) (σ:St) (H:Hp) (Q:Bool->Hp->Prop),Inv X pins σ H s->t σ H Q->wpAny (model X.prog X.w) X.A (isTrue e X.env (eval e X.env)) (TP X pins σ Q) X.xe s
def PW(X:Cx)(e:Expr)(t:TT):Prop:=
 ∀(whole:Sem Value) (pins:List (Addr×Obj)) (s:Shared) (σ:St) (H:Hp) (Q:Bool->Hp->Prop),Inv X pins σ H s->t σ H Q->wpAny (model X.prog X.w) X.A (isTrue e X.env whole) (TP X pins σ Q) X.xe s
theorem PW.pt{X:Cx}{e:Expr}{t:TT}(h:PW X e t):PT X e t:=h _
def PA(X:Cx)(es:List Expr)(t:TA):Prop:=
 ∀(pos:Pos) (pins:List (Addr×Obj)) (s:Shared) (σ:St) (H:Hp) (Q:List V->Hp->Prop),Inv X pins σ H s->t σ H Q->wpAny (model X.prog X.w) X.A (spliced (backTo pos (starEach es X.env))) (AP X pins σ Q) X.xe s
def PS(X:Cx)(st:Stmt)(t:TS):Prop:=
 ∀(pins:List (Addr×Obj)) (s:Shared) (σ:St) (H:Hp) (D:Ends),Inv X pins σ H s->t D σ H->wpAny (model X.prog X.w) X.A (exec st X.env) (SP X pins D) X.xe s
def PSs(X:Cx)(st:List Stmt)(t:TS):Prop:=
 ∀(pins:List (Addr×Obj)) (s:Shared) (σ:St) (H:Hp) (D:Ends),Inv X pins σ H s->t D σ H->wpAny (model X.prog X.w) X.A (execs st X.env) (SP X pins D) X.xe s
theorem thn{α:Type}{t:Sem α}{Q Q':α->Shared->Prop}{M:Model}{A:Around}{E:Value->Shared->Prop}{s:Shared}(h:wpAny M A t Q E s)(hQ:∀a s,Q a s->Q' a s):wpAny M A t Q' E s:=wpAny_mono h hQ fun _ _ x=>x
end L2
namespace L2
open PySem PySem.Spec PyProof.Rows
section
variable {X:Cx}
theorem bin{a b:Expr}{ta tb:TE}(ha:PE X a ta)(hb:PE X b tb){pins:List (Addr×Obj)}{s:Shared}{σ:St}{H:Hp}{R:V->V->Hp->Prop}(I:Inv X pins σ H s)(h:ta σ H fun x H1=>tb σ H1 fun y H2=>R x y H2)
  {α:Type} {Q:α->Shared->Prop} {f:Value->Value->Sem α}
  (hf:∀v u s2 x y H2,Inv X pins σ H2 s2->RelV x v->RelV y u->R x y H2->wpAny (model X.prog X.w) X.A (f v u) Q X.xe s2):
  wpAny (model X.prog X.w) X.A (eval a X.env) (fun v s₁=>wpAny (model X.prog X.w) X.A (eval b X.env) (fun u s₂=>wpAny (model X.prog X.w) X.A (f v u) Q X.xe s₂) X.xe s₁) X.xe s:=by
 refine thn (ha pins s σ H _ I h) fun v s1 ⟨x,H1,I1,r1,q1⟩=>?_;refine thn (hb pins s1 σ H1 _ I1 q1) fun u s2 ⟨y,H2,I2,r2,q2⟩=>?_;exact hf v u s2 x y H2 I2 r1 r2 q2
def tVar(i:Nat):TE:=fun σ H Q=>∃v,σ[i]?=some (some v)/\Q v H
def tC(v:V):TE:=fun _ H Q=>Q v H
theorem qpjz{i:Nat}{x:Str}{pos:Pos}(hN:X.N[i]?=some x)(hv:Vis X.env.scope x)(hd:(x==("__debug__":Str))=false:=by decide)(hcd:(x==("__classdict__":Str))=false:=by decide):PE X (.Name x pos) (tVar i):=by
 intro pins s σ H Q I h;obtain⟨v,e,h⟩:=h;obtain⟨m,hn,hl⟩:=I.loc;obtain⟨u,r,l⟩:=hl i x v hN e hv;have fin:EP X pins σ Q u s:=⟨v,H,I,r,h⟩;rcases l with⟨hk,hm⟩|⟨hk,c,hc,hcell⟩
 ·exact wpAny_Name (wpAny_loadName_local I.ok.kind hk hn hm fin) hd
 ·rcases hk with hk|hk
  ·exact wpAny_Name (wpAny_loadName_cell I.ok.kind hk hc hcell fin) hd
  ·exact wpAny_Name (wpAny_loadName_free I.ok.kind hk hc hcell fin hcd) hd
theorem qpkz{i j pos}:PE X (.Constant (.int i) j pos) (tC (.int i)):=fun _ _ _ H _ I h=>wpAny_Constant_int ⟨.int i,H,I.tok _,⟨_,rfl⟩,h⟩
theorem qplz{b j pos}:PE X (.Constant (.bool b) j pos) (tC (.bl b)):=fun _ _ _ H _ I h=>Constant_bool ⟨.bl b,H,I,rfl,h⟩
theorem qpmz{j pos}:PE X (.Constant .none j pos) (tC .non):=fun _ _ _ H _ I h=>Constant_none ⟨.non,H,I,rfl,h⟩
def Gl(X:Cx)(x:Str):Prop:=X.env.kindOf x=some .globalImplicit
theorem qipz{E:Value->Shared->Prop}{pins:List (Addr×Obj)}{s:Shared}{σ:St}{H:Hp}{x:Str}{u:Value}{pos:Pos}{Q:Value->Shared->Prop}(I:Inv X pins σ H s)(hg:Gl X x)(hm:X.mg x=some u)(h:Q u s)
  (hd:(x==("__debug__":Str))=false:=by decide):wpAny (model X.prog X.w) X.A (eval (.Name x pos) X.env) Q E s:=
 Calls.Name_function_global I.ok.kind hg (Calls.loadGlobal_global (by rw[I.ok.glob];exact I.mod.glob.keeps I.bk) hm h) hd
theorem qbgz{E:Value->Shared->Prop}{pins:List (Addr×Obj)}{s:Shared}{σ:St}{H:Hp}{x:Str}{u:Value}{pos:Pos}{Q:Value->Shared->Prop}(I:Inv X pins σ H s)(hg:Gl X x)(hm:X.mg x=none)(hv:bootBuiltins x=some u)(h:Q u s)
  (hn:x≠"__name__":=by decide) (hd:(x==("__debug__":Str))=false:=by decide):wpAny (model X.prog X.w) X.A (eval (.Name x pos) X.env) Q E s:=by
 obtain⟨mb,h1,h2⟩:=I.mod.blt;exact Calls.Name_function_global I.ok.kind hg (Calls.loadGlobal_builtin (by rw[I.ok.glob];exact I.mod.glob.keeps I.bk) hm (by rw[I.ok.blt];exact h1.keeps I.bk) ((h2 x hn).trans hv) h) hd
theorem qpnz{x:Str}{v:V}{u:Value}{pos:Pos}(hg:Gl X x)(hm:X.mg x=some u)(r:RelV v u)(hd:(x==("__debug__":Str))=false:=by decide):PE X (.Name x pos) (tC v):=
 fun _ _ _ H _ I h=>qipz I hg hm ⟨v,H,I,r,h⟩ hd
theorem qpoz{x:Str}{v:V}{u:Value}{pos:Pos}(hg:Gl X x)(hm:X.mg x=none)(hv:bootBuiltins x=some u)(r:RelV v u)(hn:x≠"__name__":=by decide)(hd:(x==("__debug__":Str))=false:=by decide):PE X (.Name x pos) (tC v):=
 fun _ _ _ H _ I h=>qbgz I hg hm hv ⟨v,H,I,r,h⟩ hn hd
variable {a b:Expr} {ta tb:TE} {pos:Pos}
variable {tA tB':TT} {rest:List Expr}
def tAnd(t u:TT):TT:=fun σ H Q=>t σ H fun c H1=>if c=true then u σ H1 Q else Q false H1
def tOr(t u:TT):TT:=fun σ H Q=>t σ H fun c H1=>if c=true then Q true H1 else u σ H1 Q
def tNot(t:TT):TT:=fun σ H Q=>t σ H fun c H1=>Q (!c) H1
theorem pw_and1(ha:PT X a tA):PW X (.BoolOp .And [a] pos) tA:=by
 intro wh pins s σ H Q I h;refine isTrue_and (thn (ha pins s σ H Q I h) fun c s1 e=>?_);cases c with
 |true=>exact isTrue_and_nil e
 |false=>exact e
theorem pw_or1(ha:PT X a tA):PW X (.BoolOp .Or [a] pos) tA:=by
 intro wh pins s σ H Q I h;refine isTrue_or (thn (ha pins s σ H Q I h) fun c s1 e=>?_);cases c with
 |false=>exact isTrue_or_nil e
 |true=>exact e
theorem pw_and(ha:PT X a tA)(hb:PW X (.BoolOp .And (b::rest) pos) tB'):PW X (.BoolOp .And (a::b::rest) pos) (tAnd tA tB'):=by
 intro wh pins s σ H Q I h;refine isTrue_and (thn (ha pins s σ H _ I h) fun c s1 ⟨H1,I1,q1⟩=>?_);cases c with
 |true=>exact hb wh pins s1 σ H1 Q I1 q1
 |false=>exact⟨H1,I1,q1⟩
theorem pw_or(ha:PT X a tA)(hb:PW X (.BoolOp .Or (b::rest) pos) tB'):PW X (.BoolOp .Or (a::b::rest) pos) (tOr tA tB'):=by
 intro wh pins s σ H Q I h;refine isTrue_or (thn (ha pins s σ H _ I h) fun c s1 ⟨H1,I1,q1⟩=>?_);cases c with
 |true=>exact⟨H1,I1,q1⟩
 |false=>exact hb wh pins s1 σ H1 Q I1 q1
theorem qppz(ha:PT X a tA):PT X (.UnaryOp .Not a pos) (tNot tA):=by
 intro pins s σ H Q I h;exact isTrue_not (ha pins s σ H (fun c H1=>Q (!c) H1) I h)
def tAndV(ta tb:TE):TE:=fun σ H Q=>ta σ H fun x H1=>∃c,x=.bl c/\if c=true then tb σ H1 Q else Q (.bl false) H1
def tNotV(ta:TE):TE:=fun σ H Q=>ta σ H fun x H1=>∃c,x=.bl c/\Q (.bl (!c)) H1
theorem qpqz{op}{t:TE}(h:PE X a t):PE X (.BoolOp op [a] pos) t:=fun pins s σ H Q I hw=>BoolOp_one (h pins s σ H Q I hw)
theorem qprz(ha:PE X a ta)(hb:PE X (.BoolOp .And (b::rest) pos) tb):PE X (.BoolOp .And (a::b::rest) pos) (tAndV ta tb):=by
 intro pins s σ H Q I h;refine BoolOp_and (thn (ha pins s σ H _ I h) fun v s1 ⟨x,H1,I1,r1,q1⟩=>?_);obtain⟨c,rfl,q1⟩:=q1;cases r1;refine wpAny_truthy_bool ?_;cases c with
 |true=>exact hb pins s1 σ H1 Q I1 q1
 |false=>exact⟨.bl false,H1,I1,rfl,q1⟩
theorem qpsz(ha:PE X a ta):PE X (.UnaryOp .Not a pos) (tNotV ta):=by
 intro pins s σ H Q I h;refine UnaryOp_ (thn (ha pins s σ H _ I h) fun v s1 ⟨x,H1,I1,r1,q1⟩=>?_);obtain⟨c,rfl,q1⟩:=q1;cases r1;exact not_of (wpAny_truthy_bool ⟨.bl (!c),H1,I1,rfl,q1⟩)
def tIf(t:TT)(ta tb:TE):TE:=fun σ H Q=>t σ H fun c H1=>if c=true then ta σ H1 Q else tb σ H1 Q
theorem qptz{c:Expr}(hc:PT X c tA)(ha:PE X a ta)(hb:PE X b tb):PE X (.IfExp c a b pos) (tIf tA ta tb):=by
 intro pins s σ H Q I h;refine wpAny_IfExp (thn (hc pins s σ H _ I h) fun d s1 ⟨H1,I1,q1⟩=>?_);cases d with
 |true=>exact ha pins s1 σ H1 Q I1 q1
 |false=>exact hb pins s1 σ H1 Q I1 q1
end
end L2
namespace L2
open PySem PySem.Spec PyProof.Rows
def SqL(K:PySem.W.Frag)(H:Hp)(a:Addr)(xs:List V):Prop:=
 Rd H a (.lst xs) ∨
  ∃(o:Obj) (its:Array Value) (n:Nat),K.lookup a=some o/\o.cls=.type "list"/\o.dict=none/\o.data=.seq its n/\its.size≤sizeLine/\Vals xs its.toList
def SqT(K:PySem.W.Frag)(H:Hp)(a:Addr)(xs:List V):Prop:=
 Rd H a (.tup xs) ∨
  ∃(o:Obj) (its:Array Value) (n:Nat),K.lookup a=some o/\o.cls=.type "tuple"/\o.dict=none/\o.data=.seq its n/\its.size≤sizeLine/\Vals xs its.toList
def absV:Value->Option V
 |.none=>some .non
 |.bool b=>some (.bl b)
 |.int i _=>some (.int i)
 |.str x _=>some (.str x)
 |.bytes b _=>some (.byt b)
 |.float b _=>some (.flt b)
 |.ref a=>some (.ref a)
 |.type n=>some (.ty n)
 |_=>none
theorem RelV.abs{x:V}{u:Value}(r:RelV x u):absV u=some x:=by
 cases x with
 |non=>cases r;rfl
 |bl _=>cases r;rfl
 |int _=>obtain⟨t,rfl⟩:=r;rfl
 |str _=>obtain⟨t,rfl⟩:=r;rfl
 |byt _=>obtain⟨t,rfl⟩:=r;rfl
 |flt _=>obtain⟨t,rfl⟩:=r;rfl
 |ref _=>cases r;rfl
 |ty _=>cases r;rfl
theorem RelV.inj{x y:V}{u:Value}(r:RelV x u)(q:RelV y u):x=y:=Option.some.inj (r.abs.symm.trans q.abs)
theorem Vals.inj:∀{xs ys:List V} {us:List Value},Vals xs us->Vals ys us->xs=ys
 |_,_,_,.nil,.nil=>rfl
 |_,_,_,.cons r t,.cons r' t'=>by rw[r.inj r',Vals.inj t t']
section
variable {X:Cx} {pins:List (Addr×Obj)} {σ:St} {H:Hp} {s:Shared} {a:Addr} {xs ys:List V}
theorem SqL.of{K:PySem.W.Frag}(h:H a=some (.lst xs)):SqL K H a xs:=.inl (.inl h)
theorem SqT.of{K:PySem.W.Frag}(h:H a=some (.tup xs)):SqT K H a xs:=.inl (.inl h)
theorem Inv.list(I:Inv X pins σ H s)(h:SqL X.K H a xs):∃its:List Value,Vals xs its/\PlainL s.heap a its.toArray/\xs.length≤sizeLine:=by
 rcases h with h|⟨o,its,n,hk,hc,hd,hs,hz,r⟩
 ·obtain⟨z,its,n,r,e⟩:=h.ok I.hok;exact⟨its,r,⟨_,n,e,rfl,rfl,rfl⟩,z⟩
 ·refine⟨its.toList,r,⟨o,n,I.kIn a o hk,hc,hd,by simpa using hs⟩,?_⟩;have e:=r.length;simp only[Array.length_toList] at e;omega
theorem Inv.tuple(I:Inv X pins σ H s)(h:SqT X.K H a xs):∃its:List Value,Vals xs its/\IsTup s.heap a its.toArray/\xs.length≤sizeLine:=by
 rcases h with h|⟨o,its,n,hk,hc,_,hs,hz,r⟩
 ·obtain⟨z,its,r,p⟩:=h.ok I.hok;exact⟨its,r,p.tup,z⟩
 ·refine⟨its.toList,r,⟨o,I.kIn a o hk,hc,n,by simpa using hs⟩,?_⟩;have e:=r.length;simp only[Array.length_toList] at e;omega
theorem Inv.list_inj(I:Inv X pins σ H s)(h:SqL X.K H a xs)(h':SqL X.K H a ys):xs=ys:=by
 obtain⟨its,r,⟨o,n,e,_,_,d⟩,_⟩:=I.list h;obtain⟨its',r',⟨o',n',e',_,_,d'⟩,_⟩:=I.list h';rw[e] at e';cases e';rw[d] at d';injection d' with d1 _
 have:its=its':=by simpa using congrArg Array.toList d1
 subst this;exact r.inj r'
theorem Inv.tuple_inj(I:Inv X pins σ H s)(h:SqT X.K H a xs)(h':SqT X.K H a ys):xs=ys:=by
 obtain⟨its,r,⟨o,e,_,n,d⟩,_⟩:=I.tuple h;obtain⟨its',r',⟨o',e',_,n',d'⟩,_⟩:=I.tuple h';rw[e] at e';cases e';rw[d] at d';injection d' with d1 _
 have:its=its':=by simpa using congrArg Array.toList d1
 subst this;exact r.inj r'
end
abbrev Cx.wish(X:Cx)(E:Value->Shared->Prop):Cx:={ X with xe:=E }
abbrev Cx.nox(X:Cx):Cx:=X.wish fun _ _=>False
theorem Cx.Ok.wish{X:Cx}(ok:X.Ok)(E:Value->Shared->Prop):(X.wish E).Ok:=
 ⟨ok.mod,ok.kind,ok.glob,ok.blt,ok.above,ok.inj,ok.has,ok.cab,ok.hd,ok.frames,ok.stk,ok.exf,ok.bs,ok.bsz,ok.noex,ok.exfs,ok.funs,ok.frf⟩
theorem Cx.Ok.unwish{X:Cx}{E:Value->Shared->Prop}(ok:(X.wish E).Ok):X.Ok:=
 ⟨ok.mod,ok.kind,ok.glob,ok.blt,ok.above,ok.inj,ok.has,ok.cab,ok.hd,ok.frames,ok.stk,ok.exf,ok.bs,ok.bsz,ok.noex,ok.exfs,ok.funs,ok.frf⟩
section
variable {X:Cx} {pins:List (Addr×Obj)} {σ:St} {H:Hp} {s:Shared} {E:Value->Shared->Prop}
theorem Inv.wish(I:Inv X pins σ H s)(E:Value->Shared->Prop):Inv (X.wish E) pins σ H s:=⟨I.ok.wish E,I.os,I.bare,I.base,I.loc,I.cell,I.free,I.freeC,I.pin,I.hok,I.len⟩
theorem Inv.unwish(I:Inv (X.wish E) pins σ H s):Inv X pins σ H s:=⟨I.ok.unwish,I.os,I.bare,I.base,I.loc,I.cell,I.free,I.freeC,I.pin,I.hok,I.len⟩
theorem SP.unwish{D:Ends}{f:Flow}{s':Shared}(h:SP (X.wish E) pins D f s'):SP X pins D f s':=by
 cases f with
 |next=>obtain⟨σ',H',I,q⟩:=h;exact⟨σ',H',I.unwish,q⟩
 |brk=>obtain⟨σ',H',I,q⟩:=h;exact⟨σ',H',I.unwish,q⟩
 |cont=>obtain⟨σ',H',I,q⟩:=h;exact⟨σ',H',I.unwish,q⟩
 |ret u=>obtain⟨v,σ',H',I,r,q⟩:=h;exact⟨v,σ',H',I.unwish,r,q⟩
theorem PSs.nox{st:List Stmt}{t:TS}(h:PSs X.nox st t):PSs X st t:=fun pins s σ H D I hw=>
 wpAny_mono (h pins s σ H D (I.wish _) hw) (fun _ _ q=>q.unwish) fun _ _ z=>False.elim z
end
section
variable {X:Cx} {st:Stmt} {rest:List Stmt} {t u:TS} {e:Expr} {te:TE} {pos:Pos}
def tNext:TS:=fun D σ H=>D.nx σ H
def tSeq(t u:TS):TS:=fun D σ H=>t { D with nx:=u D } σ H
theorem qpuz:PSs X [] tNext:=fun _ _ σ H _ I h=>wpAny_execs_nil ⟨σ,H,I,h⟩
theorem qpvz(h1:PS X st t)(h2:PSs X rest u):PSs X (st::rest) (tSeq t u):=by
 intro pins s σ H D I h;refine wpAny_execs_cons (thn (h1 pins s σ H { D with nx:=u D } I h) fun f s1 q=>?_);cases f with
 |next=>
  obtain⟨σ',H',I',q⟩:=q;exact h2 pins s1 σ' H' D I' q
 |ret v=>exact q
 |brk=>exact q
 |cont=>exact q
theorem qpwz(h1:PS X st t):PSs X [st] t:=by
 intro pins s σ H D I h;refine wpAny_execs_cons (thn (h1 pins s σ H D I h) fun f s1 q=>?_);cases f with
 |next=>exact wpAny_execs_nil q
 |ret v=>exact q
 |brk=>exact q
 |cont=>exact q
theorem Inv.quiet{pins:List (Addr×Obj)}{σ:St}{H:Hp}{s:Shared}(I:Inv X pins σ H s):interactive X.env=false:=by simp[interactive,I.ok.kind]
def tDrop(te:TE):TS:=fun D σ H=>te σ H fun _ H1=>D.nx σ H1
theorem qpxz(he:PE X e te)(hs:swapsWith e none pos.line X.env=pure false:=by rfl):PS X (.Expr e pos) (tDrop te):=by
 intro pins s σ H D I h;exact wpAny_Expr_any (thn (he pins s σ H _ I h) fun v s1 ⟨x,H1,I1,r1,q1⟩=>⟨σ,H1,I1,q1⟩) I.quiet hs
def tRet(te:TE):TS:=fun D σ H=>te σ H D.rt
theorem qpyz(he:PE X e te):PS X (.Return (some e) pos) (tRet te):=by
 intro pins s σ H D I h;exact wpAny_Return_some (thn (he pins s σ H _ I h) fun v s1 ⟨x,H1,I1,r1,q1⟩=>⟨x,σ,H1,I1,r1,q1⟩)
def tIfS(c:TT)(t u:TS):TS:=fun D σ H=>c σ H fun b H1=>if b=true then t D σ H1 else u D σ H1
theorem qpzz{c:Expr}{a b:List Stmt}{tc:TT}(hc:PT X c tc)(ha:PSs X a t)(hb:PSs X b u):PS X (.If c a b pos) (tIfS tc t u):=by
 intro pins s σ H D I h;refine wpAny_If (thn (hc pins s σ H _ I h) fun d s1 ⟨H1,I1,q1⟩=>?_);cases d with
 |true=>exact ha pins s1 σ H1 D I1 q1
 |false=>exact hb pins s1 σ H1 D I1 q1
def tNever:TS:=fun _ _ _=>False
theorem qp0z:PS X st tNever:=fun _ _ _ _ _ _ h=>h.elim
end
abbrev TG:=V->St->Hp->(St->Hp->Prop)->Prop
abbrev TGs:=List V->St->Hp->(St->Hp->Prop)->Prop
def PG(X:Cx)(target:Expr)(t:TG):Prop:=
 ∀(pins:List (Addr×Obj)) (s:Shared) (σ:St) (H:Hp) (v:V) (u:Value) (Q:St->Hp->Prop),Inv X pins σ H s->RelV v u->t v σ H Q ->
  wpAny (model X.prog X.w) X.A (assign target X.env u) (fun _ s'=>∃σ' H',Inv X pins σ' H' s'/\Q σ' H') X.xe s
def PGs(X:Cx)(ts:List Expr)(t:TGs):Prop:=
 ∀(pins:List (Addr×Obj)) (s:Shared) (σ:St) (H:Hp) (vs:List V) (us:List Value) (Q:St->Hp->Prop),Inv X pins σ H s->Vals vs us->t vs σ H Q ->
  wpAny (model X.prog X.w) X.A (assignInOrder ((assignEach ts X.env).map (·.2)) us) (fun _ s'=>∃σ' H',Inv X pins σ' H' s'/\Q σ' H') X.xe s
abbrev TSet:=V->V->V->Hp->(Hp->Prop)->Prop
def PSet(X:Cx)(t:TSet):Prop:=
 ∀(pins:List (Addr×Obj)) (s:Shared) (σ:St) (H:Hp) (o i v:V) (ov iv u:Value) (Q:Hp->Prop),Inv X pins σ H s->RelV o ov->RelV i iv->RelV v u->t o i v H Q ->
  wpAny (model X.prog X.w) X.A (setItem ov iv u) (fun _ s'=>∃H',Inv X pins σ H' s'/\Q H') X.xe s
section
variable {X:Cx} {pos:Pos}
def gName(i:Nat):TG:=fun v σ H Q=>Q (σ.set i (some v)) H
theorem qp1z{i:Nat}{x:Str}(hN:X.N.Nodup)(hi:X.N[i]?=some x)(hx:Loc X.env.scope x)(hf:X.fn x=true∨X.env.scope.names.lookup x=some .local:=by first|exact .inl rfl|exact .inr rfl|assumption):PG X (.Name x pos) (gName i):=by
 intro pins s σ H v u Q I r h;exact wpAny_assign_Name (qioz I hN hi hx r (fun s' I'=>⟨_,H,I',h⟩) hf)
def gNil:TGs:=fun vs σ H Q=>vs=[]/\Q σ H
def gCons(t:TG)(u:TGs):TGs:=fun vs σ H Q=>∃v r,vs=v::r/\t v σ H fun σ' H'=>u r σ' H' Q
theorem qp2z:PGs X [] gNil:=by
 intro pins s σ H vs us Q I r h;obtain⟨e,h⟩:=h;subst e;cases r;exact assignInOrder_nil ⟨σ,H,I,h⟩
theorem qp3z{e:Expr}{es:List Expr}{t:TG}{u:TGs}(h1:PG X e t)(h2:PGs X es u)
  (hs:(assignEach (e::es) X.env).map (·.2)=assign e X.env::(assignEach es X.env).map (·.2):=by rfl):PGs X (e::es) (gCons t u):=by
 intro pins s σ H vs us Q I r h;obtain⟨v,vr,e1,h⟩:=h;subst e1;cases r with
 |cons r rr=>
  rw[hs];refine assignInOrder_cons (thn (h1 pins s σ H _ _ _ I r h) fun _ s1 ⟨σ1,H1,I1,q1⟩=>?_);exact h2 pins s1 σ1 H1 _ _ Q I1 rr q1
def gTup(K:PySem.W.Frag)(n:Nat)(t:TGs):TG:=fun v σ H Q=>∃a xs,v=.ref a/\SqT K H a xs/\xs.length=n/\t xs σ H Q
theorem qp4z{es:List Expr}{k:Nat}{t:TGs}{n:Nat}(hc:X.calm=true)(h:PGs X es t)
  (hn:(assignEach es X.env).length=n:=by rfl) (hst:(assignEach es X.env).findIdx? (·.1)=none:=by rfl):PG X (.Tuple es k pos) (gTup X.K n t):=by
 intro pins s σ H v u Q I r hw;obtain⟨a,xs,e1,hq,hl,hw⟩:=hw;subst e1;cases r;obtain⟨its,rv,ht,hz⟩:=I.tuple hq;refine assign_Tuple_tuple (I.ok.hd hc) ht (by simp[hn,←hl,rv.length]) hst fun h' hx=>?_;have I1:Inv X pins σ H { s with heap:=h' }:=I.kept (t':=s.toks) fun b o e=>hx b o (Nat.ne_of_lt (Heap.lt_size e)) e
 exact h pins _ σ H xs _ Q I1 (by simpa using rv) hw
def gSub(to ti:TE)(t:TSet):TG:=fun v σ H Q=>to σ H fun o H1=>ti σ H1 fun i H2=>t o i v H2 fun H3=>Q σ H3
theorem qp5z{o i:Expr}{to ti:TE}{t:TSet}(ho:PE X o to)(hi:PE X i ti)(hs:PSet X t)
  (ha:∀v,assign (.Subscript o i pos) X.env v=(do
   let ov ←holding [v] (eval o X.env)
   let iv ←holding [v,ov] (eval i X.env)
   standAt pos
   holding [v,ov,iv] (setItem ov iv v)
   release [v,ov,iv] []):=by intro _;rfl):PG X (.Subscript o i pos) (gSub to ti t):=by
 intro pins s σ H v u Q I r h
 rw[ha]
 refine wpAny_bind (wpAny_holding (thn (ho pins s σ H _ I h) fun ov s1 ⟨x,H1,I1,r1,q1⟩=>?_))
 refine wpAny_bind (wpAny_holding (thn (hi pins s1 σ H1 _ I1 q1) fun iv s2 ⟨y,H2,I2,r2,q2⟩=>?_))
 refine wpAny_bind (wpAny_standAt (wpAny_bind (wpAny_holding (thn (hs pins s2 σ H2 x y v ov iv u _ I2 r1 r2 r q2) fun _ s3 ⟨H3,I3,q3⟩=>?_))))
 exact wpAny_release ⟨σ,H3,I3,q3⟩
def tAsg(te:TE)(g:TG):TS:=fun D σ H=>te σ H fun x H1=>g x σ H1 D.nx
theorem qp6z{tg e:Expr}{te:TE}{g:TG}(he:PE X e te)(hg:PG X tg g)(hs:swapsWithSole [tg] e pos.line X.env=pure false:=by rfl)(hw:swappedStores [tg] e X.env=pure none:=by rfl)
  (h1:(assignEach [tg] X.env).map (·.2)=[assign tg X.env]:=by rfl):PS X (.Assign [tg] e pos) (tAsg te g):=by
 intro pins s σ H D I h;refine wpAny_Assign_stores (thn (he pins s σ H _ I h) fun v s1 ⟨x,H1,I1,r1,q1⟩=>?_) hs hw;rw[h1];exact thn (hg pins s1 σ H1 x v _ I1 r1 q1) fun _ s2 q=>q
theorem qp7z{i:Nat}{x:Str}{e:Expr}{te:TE}{pos':Pos}(hN:X.N.Nodup)(hi:X.N[i]?=some x)(hx:Loc X.env.scope x)(he:PE X e te)(hs:swapsWith e (some (.Name x pos')) pos.line X.env=pure false:=by rfl)(hf:X.fn x=true∨X.env.scope.names.lookup x=some .local:=by first|exact .inl rfl|exact .inr rfl|assumption):
  PS X (.Assign [.Name x pos'] e pos) (tAsg te (gName i)):=by
 intro pins s σ H D I h;refine wpAny_Assign_Name (thn (he pins s σ H _ I h) fun v s1 ⟨y,H1,I1,r1,q1⟩=>?_) hs;exact qioz I1 hN hi hx r1 (fun s2 I2=>⟨_,H1,I2,q1⟩) hf
end
section
variable {X:Cx} {pos:Pos}
def tWhile(c:TT)(tb:TS):TS:=fun D σ H=>∃W:Nat->St->Hp->Prop,(∃m,W m σ H)/\∀m σ H,W m σ H ->
 c σ H fun b H1=>if b=true then ∃N:St->Hp->Prop,(∀σ' H',N σ' H'->∃m',m' < m/\W m' σ' H')/\tb { D with nx:=N,ct:=N,bk:=D.nx } σ H1 else D.nx σ H1
theorem qp8z{c:Expr}{body:List Stmt}{tc:TT}{tb:TS}(hp:PassesOwn (model X.prog X.w) X.A X.env X.xe)(hc:PT X c tc)(hb:PSs X body tb):PS X (.While c body [] pos) (tWhile tc tb):=by
 intro pins s σ H D I h;obtain⟨W,⟨m0,w0⟩,turn⟩:=h;refine wpAny_While (codeAny_whileLoop (fun n s'=>∃σ' H',Inv X pins σ' H' s'/\W n σ' H') ?_ m0 ⟨σ,H,I,w0⟩);rintro n s1 ⟨σ1,H1,I1,w1⟩;refine wpAny_passesOwn hp (thn (hc pins s1 σ1 H1 _ I1 (turn n σ1 H1 w1)) fun b s2 ⟨H2,I2,q2⟩=>?_);cases b with
 |true=>
  obtain⟨N,hN,q2⟩:=q2;rw[if_pos rfl];refine wpAny_passesOwn hp (thn (hb pins s2 σ1 H2 _ I2 q2) fun f s3 q3=>?_);cases f with
  |next=>
   obtain⟨σ3,H3,I3,n3⟩:=q3;obtain⟨m',hm,w3⟩:=hN σ3 H3 n3;exact⟨m',hm,σ3,H3,I3,w3⟩
  |cont=>
   obtain⟨σ3,H3,I3,n3⟩:=q3;obtain⟨m',hm,w3⟩:=hN σ3 H3 n3;exact⟨m',hm,σ3,H3,I3,w3⟩
  |brk=>exact q3
  |ret v=>exact q3
 |false=>
  rw[if_neg Bool.false_ne_true];exact wpAny_execs_nil ⟨σ1,H2,I2,q2⟩
end
structure It where
 go:Nat->Hp->Prop
 yld:Nat->Hp->V->Hp->Prop
 stop:Nat->Hp->Prop
def FpOk(X:Cx)(pins:List (Addr×Obj))(H:Hp)(b:Addr):Prop:=
 H b=none/\b≠X.env.locals/\b∉X.fs/\(b∈X.ex∨X.s₀.heap.objs.size≤b)/\(∀x c,X.env.cells.lookup x=some c->c≠b)/\∀p∈X.pn++pins,p.1≠b
theorem Inv.fpOk{X:Cx}{pins:List (Addr×Obj)}{σ:St}{H H':Hp}{s:Shared}{b:Addr}(I:Inv X pins σ H s)(hb:s.heap.objs.size≤b)(hn:H' b=none):FpOk X pins H' b:=by
 refine⟨hn,Nat.ne_of_gt (Nat.lt_of_lt_of_le I.lt hb),I.nofs hb,.inr (Nat.le_trans I.sz hb),fun x c e z=>?_,fun p hp z=>?_⟩
 ·obtain⟨v,q⟩:=I.cell x c e;exact absurd (Nat.lt_of_lt_of_le q.lt (by rw[z];exact hb)) (Nat.lt_irrefl _)
 ·exact absurd (Nat.lt_of_lt_of_le (Heap.lt_size (I.pin p hp).1) (by rw[z];exact hb)) (Nat.lt_irrefl _)
structure Turn(P:Program)(w:World)(K:PySem.W.Frag)(tg:Expr)(J:It)(fp:List Addr)(it:Addr)(tn:Nat->Heap->Prop):Prop where
 mem:it∈fp
 obj:∀i h,tn i h->∀b∈fp,∃o,h.get? b=some o/\∀v,o.data≠.cell v
 keep:∀i h h',tn i h->(∀b∈fp,∀o,h.get? b=some o->h'.get? b=some o)->tn i h'
 item:∀(X:Cx),X.prog=P->X.w=w->X.K=K->X.calm=true->∀(i:Nat) (pins:List (Addr×Obj)) (s:Shared) (σ:St) (H:Hp) (E:Value->Shared->Prop),Inv X pins σ H s->(∀b∈fp,FpOk X pins H b)->tn i s.heap->J.go i H ->
  wpAny (model P w) X.A (pyNext (.ref it)) (fun r s1=>∃u,r=some u ∧
   wpAny (model P w) X.A (letOwnedTupleGo tg (.ref it) u) (fun _ s2=>∃x H',Inv X pins σ H' s2/\RelV x u/\J.yld i H x H'/\tn (i+1) s2.heap/\∀b∈fp,H' b=none) E s1) E s
 done:∀(X:Cx),X.prog=P->X.w=w->X.K=K->X.calm=true->∀(i:Nat) (pins:List (Addr×Obj)) (s:Shared) (σ:St) (H:Hp) (E:Value->Shared->Prop),Inv X pins σ H s->(∀b∈fp,FpOk X pins H b)->tn i s.heap->J.stop i H ->
  wpAny (model P w) X.A (pyNext (.ref it)) (fun r s1=>r=none/\Inv X pins σ H s1) E s
 self:∀(A:Around) (i:Nat) (s:Shared) (Q:Value->Shared->Prop) (E:Value->Shared->Prop),tn i s.heap->Q (.ref it) s->wpAny (model P w) A (pyIter (.ref it)) Q E s
abbrev TI:=St->Hp->(It->Hp->Prop)->Prop
def PIE(X:Cx)(pins:List (Addr×Obj))(σ:St)(tg:Expr)(R:It->Hp->Prop)(itv:Value)(s2:Shared):Prop:=
 ∃(it:Addr) (fp:List Addr) (tn:Nat->Heap->Prop) (J:It) (H':Hp),itv=.ref it/\Inv X pins σ H' s2/\Turn X.prog X.w X.K tg J fp it tn/\tn 0 s2.heap/\(∀b∈fp,FpOk X pins H' b)/\R J H'
def PI(X:Cx)(tg iter:Expr)(wi:TI):Prop:=
 ∀(pins:List (Addr×Obj)) (s:Shared) (σ:St) (H:Hp) (R:It->Hp->Prop),Inv X pins σ H s->wi σ H R ->
  wpAny (model X.prog X.w) X.A (eval iter X.env) (fun v s1=>wpAny (model X.prog X.w) X.A (pyIter v) (PIE X pins σ tg R) X.xe s1) X.xe s
theorem qfvz{M:Model}{A:Around}{E:Value->Shared->Prop}{s:Shared}{tg:Expr}{it:Addr}{u:Value}{o:Obj}{n:String}{vs:Array Value}{Q:Unit->Shared->Prop}(ho:s.heap.get? it=some o)(hc:o.cls=.type n)(hd:o.data=.fields vs)
    (hn:["enumerate","zip","dict_itemiterator","dict_reverseitemiterator","odict_iterator","itertools.zip_longest","itertools.pairwise"].contains n=false) (hQ:Q () s):wpAny M A (letOwnedTupleGo tg (.ref it) u) Q E s:=by
  unfold letOwnedTupleGo;cases tg<;>first
    |exact wpAny_pure hQ
    | (cases u<;>first
        |exact wpAny_pure hQ
        | (refine wpAny_bind (wpAny_load ho ?_)
           rw[hc,hd];show wpAny M A (if (["enumerate","zip","dict_itemiterator","dict_reverseitemiterator","odict_iterator","itertools.zip_longest","itertools.pairwise"].contains n&&vs[0]?==some (rawInt _))=true then _ else _) Q E s;rw[if_neg (by intro h;rw[hn,Bool.false_and] at h;cases h)];exact wpAny_pure hQ))
def Itl(K:PySem.W.Frag)(a:Addr):It:=
 ⟨fun i H=>∃xs x,SqL K H a xs/\xs[i]?=some x,fun i H x H'=>H'=H/\∀xs,SqL K H a xs->xs[i]?=some x,fun i H=>∃xs,SqL K H a xs/\xs.length≤i⟩
def Itt(K:PySem.W.Frag)(a:Addr):It:=
 ⟨fun i H=>∃xs x,SqT K H a xs/\xs[i]?=some x,fun i H x H'=>H'=H/\∀xs,SqT K H a xs->xs[i]?=some x,fun i H=>∃xs,SqT K H a xs/\xs.length≤i⟩
def Itr(lo:Int)(n:Nat):It:=⟨fun i _=>i<n,fun i H x H'=>H'=H/\x=.int (lo+i),fun i _=>n≤i⟩
theorem qp9z{P:Program}{w:World}{K:PySem.W.Frag}{tg:Expr}(a it:Addr):Turn P w K tg (Itl K a) [it] it (fun i h=>h.IsListIter it a i) where
 mem:=by simp
 obj:=fun i h st b hb=>by
  have e:b=it:=by simpa using hb
  subst e;obtain⟨o,e,c,d⟩:=st;exact⟨o,e,fun v z=>by rw[d] at z;cases z⟩
 keep:=fun i h h' st k=>st.at fun o e=>k it (by simp) o e
 item:=by
  intro X hP hw hK hc i pins s σ H E I hf st hg;subst hP hw hK;obtain⟨xs,x,hq,hx⟩:=hg;obtain⟨its,rv,p,hz⟩:=I.list hq;obtain⟨u,hu,ru⟩:=rv.get hx;obtain⟨f0,f1,f2,f3,f4,f5⟩:=hf it (by simp);refine wpAny_pyNext_list_item st p.isList (x:=u) (by simpa using hu) fun h' st' sb=>?_;have I1:Inv X pins σ H { s with heap:=h' }:=I.turned (t':=s.toks) (fun b o hb e=>(sb.2 b hb).trans e) f0 f1 f3 f4 f5;obtain⟨o,e,c,d⟩:=id st';exact⟨u,rfl,qfvz (s:={ s with heap:=h' }) e c d (by decide) ⟨x,H,I1,ru,⟨rfl,fun ys hy=>by rw[I.list_inj hy hq];exact hx⟩,st',fun b hb=>(hf b hb).1⟩⟩
 done:=by
  intro X hP hw hK hc i pins s σ H E I hf st hg;subst hP hw hK;obtain⟨xs,hq,hx⟩:=hg;obtain⟨its,rv,p,hz⟩:=I.list hq;obtain⟨f0,f1,f2,f3,f4,f5⟩:=hf it (by simp);have hl:=rv.length;exact wpAny_pyNext_list_end (I.ok.hd hc) st p.isList (by simp;omega) fun h' eb=>⟨rfl,I.turned (t':=s.toks) (fun b o hb e=>eb b o hb e) f0 f1 f3 f4 f5⟩
 self:=fun _ _ _ _ _ st h=>wpAny_pyIter_listiter st h
theorem qqaz{P:Program}{w:World}{K:PySem.W.Frag}{tg:Expr}(a it:Addr):Turn P w K tg (Itt K a) [it] it (fun i h=>h.IsTupleIter it a i) where
 mem:=by simp
 obj:=fun i h st b hb=>by
  have e:b=it:=by simpa using hb
  subst e;obtain⟨o,e,c,d⟩:=st;exact⟨o,e,fun v z=>by rw[d] at z;cases z⟩
 keep:=fun i h h' st k=>st.at fun o e=>k it (by simp) o e
 item:=by
  intro X hP hw hK hc i pins s σ H E I hf st hg;subst hP hw hK;obtain⟨xs,x,hq,hx⟩:=hg;obtain⟨its,rv,p,hz⟩:=I.tuple hq;obtain⟨u,hu,ru⟩:=rv.get hx;obtain⟨f0,f1,f2,f3,f4,f5⟩:=hf it (by simp);refine wpAny_pyNext_tuple_item st (show s.heap.IsTuple a its.toArray from p) (x:=u) (by simpa using hu) fun h' st' sb=>?_;have I1:Inv X pins σ H { s with heap:=h' }:=I.turned (t':=s.toks) (fun b o hb e=>(sb.2 b hb).trans e) f0 f1 f3 f4 f5;obtain⟨o,e,c,d⟩:=id st';exact⟨u,rfl,qfvz (s:={ s with heap:=h' }) e c d (by decide) ⟨x,H,I1,ru,⟨rfl,fun ys hy=>by rw[I.tuple_inj hy hq];exact hx⟩,st',fun b hb=>(hf b hb).1⟩⟩
 done:=by
  intro X hP hw hK hc i pins s σ H E I hf st hg;subst hP hw hK;obtain⟨xs,hq,hx⟩:=hg;obtain⟨its,rv,p,hz⟩:=I.tuple hq;obtain⟨f0,f1,f2,f3,f4,f5⟩:=hf it (by simp);have hl:=rv.length;exact wpAny_pyNext_tuple_end (I.ok.hd hc) st (show s.heap.IsTuple a its.toArray from p) (by simp;omega) fun h' eb=>⟨rfl,I.turned (t':=s.toks) (fun b o hb e=>eb b o hb e) f0 f1 f3 f4 f5⟩
 self:=fun _ _ _ _ _ st h=>wpAny_pyIter_tupleiter st h
theorem qqbz{P:Program}{w:World}{K:PySem.W.Frag}{tg:Expr}(it:Addr)(lo:Int)(n:Nat):Turn P w K tg (Itr lo n) [it] it (fun i h=>IsRangeIter h it (lo+(i:Nat)*1) ((n:Int)-(i:Nat)) 1) where
 mem:=by simp
 obj:=fun i h st b hb=>by
  have e:b=it:=by simpa using hb
  subst e;exact⟨_,st,fun v z=>by
   have z':Data.fields _=Data.cell v:=z;cases z'⟩
 keep:=fun i h h' st k=>k it (by simp) _ st
 item:=by
  intro X hP hw hK hc i pins s σ H E I hf st hg;subst hP hw hK;obtain⟨f0,f1,f2,f3,f4,f5⟩:=hf it (by simp);have W:=Walks.range (prog:=X.prog) (w:=X.w) (I.ok.hd hc) it lo 1 n;refine W.item i s _ _ hg st fun v h' tk hv st' kk=>?_;obtain⟨t,rfl⟩:=hv;have I1:Inv X pins σ H { s with heap:=h',toks:=tk }:=I.turned (fun b o hb e=>kk b o (by simpa using hb) e) f0 f1 f3 f4 f5;refine⟨_,rfl,qfvz (s:={ s with heap:=h',toks:=tk }) (n:="range_iterator") st' rfl rfl (by decide) ⟨.int (lo+i),H,I1,⟨t,?_⟩,⟨rfl,rfl⟩,st',fun b hb=>(hf b hb).1⟩⟩;rw[Int.mul_one]
 done:=by
  intro X hP hw hK hc i pins s σ H E I hf st hg;subst hP hw hK;obtain⟨f0,f1,f2,f3,f4,f5⟩:=hf it (by simp);exact wpAny_pyNext_range_end (I.ok.hd hc) st (by have:n≤i:=hg;omega) fun h' eb=>⟨rfl,I.turned (t':=s.toks) (fun b o hb e=>eb b o hb e) f0 f1 f3 f4 f5⟩
 self:=fun _ _ _ _ _ st h=>wpAny_pyIter_rangeiter st h
end L2
namespace L2
open PySem PySem.Spec PyProof.Rows
section
variable {X:Cx} {tg:Expr}
theorem qiqz{pins:List (Addr×Obj)}{σ:St}{H:Hp}{s:Shared}{R:It->Hp->Prop}{E:Value->Shared->Prop}{lo hi:Int}{t u v:Tok}{tk:Nat}(I:Inv X pins σ H s)(h1:-(2^62)≤lo)(h2:lo<2^62)(h3:-(2^62)≤hi)(h4:hi<2^62)
  (q:R (Itr lo (hi-lo).toNat) H):wpAny (model X.prog X.w) X.A (pyIter (.ref s.heap.objs.size)) (PIE X pins σ tg R) E { s with heap:=s.heap.push { cls:=.type "range",data:=.fields #[.int lo t,.int hi u,.int 1 v]},toks:=tk }:=by
 refine wpAny_pyIter_range (IsRange.new ..) (small_one h1 h2 h3 h4) ?_;have I1:Inv X pins σ H { s with heap:=s.heap.push { cls:=.type "range",data:=.fields #[.int lo t,.int hi u,.int 1 v]},toks:=tk }:=I.kept fun b o e=>Heap.get?_push_of_some _ e;refine⟨(s.heap.push { cls:=.type "range",data:=.fields #[.int lo t,.int hi u,.int 1 v]}).objs.size,[(s.heap.push { cls:=.type "range",data:=.fields #[.int lo t,.int hi u,.int 1 v]}).objs.size],_,_,H,rfl,
  I1.kept (t':=tk) fun b o e=>Heap.get?_push_of_some _ e,qqbz _ lo (hi-lo).toNat,?_,fun b hb=>?_,q⟩
 ·have e1:lo+((0:Nat):Int)*1=lo:=by simp
  have e2:(((hi-lo).toNat:Nat):Int)-((0:Nat):Int)=Builtin.Range.rangeSize lo hi 1:=by rw[rangeSize_one];split<;>omega
  show IsRangeIter _ _ (lo+((0:Nat):Int)*1) ((((hi-lo).toNat:Nat):Int)-((0:Nat):Int)) 1;rw[e1,e2];exact Heap.get?_push_size _ rfl
 ·have e:b=(s.heap.push { cls:=.type "range",data:=.fields #[.int lo t,.int hi u,.int 1 v]}).objs.size:=by simpa using hb
  subst e;exact I1.fpOk (Nat.le_refl _) (I1.hok.fresh (Nat.le_refl _))
def iRng1(ta:TA):TI:=fun σ H R=>ta σ H fun vs H1=>∃j:Int,vs=[.int j]/\-(2^62)≤j/\j<2^62/\R (Itr 0 j.toNat) H1
def iRng2(ta:TA):TI:=fun σ H R=>ta σ H fun vs H1=>∃i j:Int,vs=[.int i,.int j]/\(-(2^62)≤i/\i<2^62/\-(2^62)≤j/\j<2^62)/\R (Itr i (j-i).toNat) H1
theorem qqcz{a:Expr}{ta:TA}{p pos:Pos}(hg:Gl X "range")(hm:X.mg "range" = none)(ha:PA X [a] ta)(hs:starEach [a] X.env=[(false,eval a X.env)]:=by rfl):PI X tg (.Call (.Name "range" p) [a] [] pos) (iRng1 ta):=by
 intro pins s σ H R I h;refine Call_ (qbgz I hg hm boot_range (PyProof.Rows.callWith_type1 (thn (ha pos pins s σ H _ I h) fun us s1 ⟨vs,H1,I1,r1,q1⟩=>?_) hs rfl));obtain⟨j,e,q1,q2,q⟩:=q1;subst e;cases r1 with
 |cons r rr=>
  cases rr;obtain⟨t,rfl⟩:=r;exact call_range_1 (qiqz I1 (by omega) (by omega) q1 q2 (by simpa using q))
theorem qqdz{a b:Expr}{ta:TA}{p pos:Pos}(hg:Gl X "range")(hm:X.mg "range" = none)(ha:PA X [a,b] ta)(hs:starEach [a,b] X.env=[(false,eval a X.env),(false,eval b X.env)]:=by rfl)(hs2:starEach [b] X.env=[(false,eval b X.env)]:=by rfl):
  PI X tg (.Call (.Name "range" p) [a,b] [] pos) (iRng2 ta):=by
 intro pins s σ H R I h;refine Call_ (qbgz I hg hm boot_range (PyProof.Rows.callWith_type1 (thn (ha pos pins s σ H _ I h) fun us s1 ⟨vs,H1,I1,r1,q1⟩=>?_) (by rw[hs,hs2]) (by rw[hs2];rfl)));obtain⟨i,j,e,⟨q1,q2,q3,q4⟩,q⟩:=q1;subst e;cases r1 with
 |cons r rr=>
  cases rr with
  |cons r' rr=>
   cases rr;obtain⟨t,rfl⟩:=r;obtain⟨t',rfl⟩:=r';exact call_range_2 (qiqz I1 q1 q2 q3 q4 q)
def tFor(wi:TI)(g:TG)(tb:TS):TS:=fun D σ H=>wi σ H fun J H1=>∃W:Nat->Nat->St->Hp->Prop,(∃m,W 0 m σ H1)/\∀i m σ H,W i m σ H ->
 (J.stop i H/\D.nx σ H)∨(J.go i H/\∃N:St->Hp->Prop,(∀σ' H',N σ' H'->∃m',m' < m/\W (i+1) m' σ' H')/\∀x H',J.yld i H x H'->g x σ H' fun σ2 H2=>tb { D with nx:=N,ct:=N,bk:=D.nx } σ2 H2)
def pinsAt(fp:List Addr)(h:Heap):List (Addr×Obj):=fp.filterMap fun b=>(h.get? b).map fun o=>(b,o)
theorem qedz{fp:List Addr}{h:Heap}{b:Addr}{o:Obj}(hb:b∈fp)(e:h.get? b=some o):(b,o)∈pinsAt fp h:=List.mem_filterMap.mpr ⟨b,hb,by rw[e];rfl⟩
theorem qqez{fp:List Addr}{h:Heap}{p:Addr×Obj}(hp:p∈pinsAt fp h):p.1∈fp/\h.get? p.1=some p.2:=by
 obtain⟨b,hb,e⟩:=List.mem_filterMap.mp hp;cases q:h.get? b with
 |none=>rw[q] at e;cases e
 |some o=>
  rw[q] at e;have e':(b,o)=p:=Option.some.inj e;subst e';exact⟨hb,q⟩
theorem Inv.pinned{pins:List (Addr×Obj)}{σ:St}{H:Hp}{s:Shared}{fp:List Addr}(I:Inv X pins σ H s)(hf:∀b∈fp,FpOk X pins H b)(ho:∀b∈fp,∃o,s.heap.get? b=some o/\∀v,o.data≠.cell v):Inv X (pins++pinsAt fp s.heap) σ H s:=
 I.pins_of fun p hp=>(List.mem_append.mp hp).elim (fun z=>I.pin p (List.mem_append_right _ z)) fun z=>by
  obtain⟨hb,e⟩:=qqez z;obtain⟨f0,f1,f2,_⟩:=hf p.1 hb;obtain⟨o,e',d⟩:=ho p.1 hb;rw[e] at e';cases e';exact⟨e,f0,f1,f2,d⟩
theorem Inv.unpinned{pins pl:List (Addr×Obj)}{σ:St}{H:Hp}{s:Shared}(I:Inv X (pins++pl) σ H s):Inv X pins σ H s:=I.pins_of fun p hp=>I.pin p (List.mem_append_right _ (List.mem_append_left _ hp))
theorem qqfz{iter:Expr}{body:List Stmt}{wi:TI}{g:TG}{tb:TS}{pos:Pos}(hp:PassesOwn (model X.prog X.w) X.A X.env X.xe)(hc:X.calm=true)(hi:PI X tg iter wi)(hg:PG X tg g)(hb:PSs X body tb)
  (hs:∀x,foldedSetIterable iter X.env x=pure x:=by intro _;rfl):PS X (.For tg iter body [] pos) (tFor wi g tb):=by
 intro pins s σ H D I h;refine wpAny_For (thn (hi pins s σ H _ I h) fun v s1 h1=>thn h1 fun itv s2 h2=>?_) hs;obtain⟨it,fp,tn,J,H2,e,I2,T,st2,f2,W,⟨m0,w0⟩,turn⟩:=h2;subst e
 -- what stays true of the iterator's objects through the loop
 have stat:∀{H':Hp},(∀b∈fp,H' b=none)->∀b∈fp,FpOk X pins H' b:=fun hn b hb=>⟨hn b hb,(f2 b hb).2⟩;refine codeAny_forLoop_any (fun n s'=>∃i σ' H',Inv X pins σ' H' s'/\tn i s'.heap/\(∀b∈fp,H' b=none)/\W i n σ' H') ?_ m0 ⟨0,σ,H2,I2,st2,fun b hb=>(f2 b hb).1,w0⟩;rintro n s3 ⟨i,σ3,H3,I3,st3,fr3,w3⟩;rcases turn i n σ3 H3 w3 with⟨stop,qn⟩|⟨go,N,hN,step⟩
 ·refine wpAny_passesOwn hp (thn (T.done X rfl rfl rfl hc i pins s3 σ3 H3 X.xe I3 (stat fr3) st3 stop) fun r s4 ⟨hr,I4⟩=>?_);subst hr;exact wpAny_execs_nil ⟨σ3,H3,I4,qn⟩
 ·refine wpAny_passesOwn hp (thn (T.item X rfl rfl rfl hc i pins s3 σ3 H3 X.xe I3 (stat fr3) st3 go) fun r s4 ⟨u,hr,h4⟩=>?_);subst hr;refine wpAny_passesOwn hp (thn h4 fun _ s5 ⟨x,H5,I5,r5,y5,st5,fr5⟩=>?_);have I5':=I5.pinned (stat fr5) (T.obj _ _ st5);refine wpAny_passesOwn hp (thn (hg _ s5 σ3 H5 x u _ I5' r5 (step x H5 y5)) fun _ s6 ⟨σ6,H6,I6,q6⟩=>?_);refine wpAny_passesOwn hp (thn (hb _ s6 σ6 H6 _ I6 q6) fun f s7 q7=>?_);have again:∀{σ7:St} {H7:Hp},Inv X (pins++pinsAt fp s5.heap) σ7 H7 s7->N σ7 H7->∃m,m<n/\∃i σ' H',Inv X pins σ' H' s7/\tn i s7.heap/\(∀b∈fp,H' b=none)/\W i m σ' H':=fun {σ7 H7} I7 n7=>by
   obtain⟨m',hm,w7⟩:=hN σ7 H7 n7;refine⟨m',hm,i+1,σ7,H7,I7.unpinned,T.keep _ _ _ st5 fun b hb o e=>(I7.pin (b,o) (List.mem_append_right _ (List.mem_append_right _ (qedz hb e)))).1,fun b hb=>?_,w7⟩;obtain⟨o,e,d⟩:=T.obj _ _ st5 b hb;exact (I7.pin (b,o) (List.mem_append_right _ (List.mem_append_right _ (qedz hb e)))).2.1
  cases f with
  |next=>obtain⟨σ7,H7,I7,n7⟩:=q7;exact again I7 n7
  |cont=>obtain⟨σ7,H7,I7,n7⟩:=q7;exact again I7 n7
  |brk=>obtain⟨σ7,H7,I7,q7⟩:=q7;exact⟨σ7,H7,I7.unpinned,q7⟩
  |ret v=>obtain⟨x7,σ7,H7,I7,r7,q7⟩:=q7;exact⟨x7,σ7,H7,I7.unpinned,r7,q7⟩
end
end L2
namespace L2
open PySem PySem.Spec PyProof.Rows
abbrev R2:=V->V->Hp->VK->Prop
def OpR(X:Cx)(f:Value->Value->Sem Value)(r:R2):Prop:=
 ∀(pins:List (Addr×Obj)) (s:Shared) (σ:St) (H:Hp) (x y:V) (v u:Value) (Q:VK),Inv X pins σ H s->RelV x v->RelV y u->r x y H Q ->
  wpAny (model X.prog X.w) X.A (f v u) (EP X pins σ Q) X.xe s
def UnR(X:Cx)(f:Value->Sem Value)(r:V->Hp->VK->Prop):Prop:=
 ∀(pins:List (Addr×Obj)) (s:Shared) (σ:St) (H:Hp) (x:V) (v:Value) (Q:VK),Inv X pins σ H s->RelV x v->r x H Q ->
  wpAny (model X.prog X.w) X.A (f v) (EP X pins σ Q) X.xe s
def CallR(X:Cx)(f:Value)(r:List V->Hp->VK->Prop):Prop:=
 ∀(pins:List (Addr×Obj)) (s:Shared) (σ:St) (H:Hp) (xs:List V) (us:List Value) (Q:VK),Inv X pins σ H s->Vals xs us->r xs H Q ->
  wpAny (model X.prog X.w) X.A (call f us) (EP X pins σ Q) X.xe s
def TruR(X:Cx)(r:V->Hp->(Bool->Hp->Prop)->Prop):Prop:=
 ∀(pins:List (Addr×Obj)) (s:Shared) (σ:St) (H:Hp) (x:V) (v:Value) (Q:Bool->Hp->Prop),Inv X pins σ H s->RelV x v->r x H Q ->
  wpAny (model X.prog X.w) X.A (truthy v) (TP X pins σ Q) X.xe s
def tOp(r:R2)(ta tb:TE):TE:=fun σ H Q=>ta σ H fun x H1=>tb σ H1 fun y H2=>r x y H2 Q
def tUn(r:V->Hp->VK->Prop)(ta:TE):TE:=fun σ H Q=>ta σ H fun x H1=>r x H1 Q
def rI(C:Int->Int->Prop)(g:Int->Int->V):R2:=fun x y H Q=>∃i j,x=.int i/\y=.int j/\C i j/\Q (g i j) H
def rI0(g:Int->Int->V):R2:=fun x y H Q=>∃i j,x=.int i/\y=.int j/\Q (g i j) H
def rU(g:Int->V):V->Hp->VK->Prop:=fun x H Q=>∃i,x=.int i/\Q (g i) H
section
variable {X:Cx} {a b c:Expr} {ta tb tc:TE} {pos:Pos}
theorem binT(ha:PE X a ta)(hb:PE X b tb){pins:List (Addr×Obj)}{s:Shared}{σ:St}{H:Hp}{R:V->V->Hp->Prop}(I:Inv X pins σ H s)
  (h:ta σ H fun x H1=>tb σ H1 fun y H2=>R x y H2) {Q:Value->Shared->Prop} {f:Value->Value->Sem Value}
  (hf:∀v u s2 x y H2,Inv X pins σ H2 s2->RelV x v->RelV y u->R x y H2->wpAny (model X.prog X.w) X.A (f v u) Q X.xe s2):
  wpAny (model X.prog X.w) X.A (eval a X.env) (fun v s₁=>wpAny (model X.prog X.w) X.A (eval b X.env) (fun u s₂=>wpAny (model X.prog X.w) X.A (f v u) Q X.xe s₂) X.xe s₁) X.xe s:=by
 refine thn (ha pins s σ H _ I h) fun v s1 ⟨x,H1,I1,r1,q1⟩=>?_;refine thn (hb pins s1 σ H1 _ I1 q1) fun u s2 ⟨y,H2,I2,r2,q2⟩=>?_;exact hf v u s2 x y H2 I2 r1 r2 q2
theorem qqgz{op:Operator}{r:R2}(ho:OpR X (binaryOp op) r)(ha:PE X a ta)(hb:PE X b tb):PE X (.BinOp a op b pos) (tOp r ta tb):=by
 intro pins s σ H Q I h;exact wpAny_BinOp (binT ha hb I h fun v u s2 x y H2 I2 rx ry q=>ho pins s2 σ H2 x y v u Q I2 rx ry q)
theorem qqhz{op:UnaryOp}{r:V->Hp->VK->Prop}(ho:UnR X (unaryOp op) r)(ha:PE X a ta):PE X (.UnaryOp op a pos) (tUn r ta):=by
 intro pins s σ H Q I h;exact UnaryOp_ (thn (ha pins s σ H _ I h) fun v s1 ⟨x,H1,I1,r1,q1⟩=>ho pins s1 σ H1 x v Q I1 r1 q1)
theorem opI{f:Value->Value->Sem Value}{C:Int->Int->Prop}{g:Int->Int->Int}
  (rule:∀(i j:Int) (t u:Tok) (s:Shared) (Q:Value->Shared->Prop) (E:Value->Shared->Prop),C i j->Q (.int (g i j) s.toks) { s with toks:=s.toks+1 }->wpAny (model X.prog X.w) X.A (f (.int i t) (.int j u)) Q E s):
  OpR X f (rI C fun i j=>.int (g i j)):=by
 intro pins s σ H x y v u Q I rx ry h;obtain⟨i,j,rfl,rfl,hc,q⟩:=h;obtain⟨t,rfl⟩:=rx;obtain⟨t',rfl⟩:=ry;exact rule i j t t' s _ _ hc ⟨.int (g i j),H,I.tok _,⟨_,rfl⟩,q⟩
theorem opI0{f:Value->Value->Sem Value}{g:Int->Int->Int}
  (rule:∀(i j:Int) (t u:Tok) (s:Shared) (Q:Value->Shared->Prop) (E:Value->Shared->Prop),Q (.int (g i j) s.toks) { s with toks:=s.toks+1 }->wpAny (model X.prog X.w) X.A (f (.int i t) (.int j u)) Q E s):
  OpR X f (rI0 fun i j=>.int (g i j)):=by
 intro pins s σ H x y v u Q I rx ry h;obtain⟨i,j,rfl,rfl,q⟩:=h;obtain⟨t,rfl⟩:=rx;obtain⟨t',rfl⟩:=ry;exact rule i j t t' s _ _ ⟨.int (g i j),H,I.tok _,⟨_,rfl⟩,q⟩
theorem opB0{f:Value->Value->Sem Value}{g:Int->Int->Bool}
  (rule:∀(i j:Int) (t u:Tok) (s:Shared) (Q:Value->Shared->Prop) (E:Value->Shared->Prop),Q (.bool (g i j)) s->wpAny (model X.prog X.w) X.A (f (.int i t) (.int j u)) Q E s):
  OpR X f (rI0 fun i j=>.bl (g i j)):=by
 intro pins s σ H x y v u Q I rx ry h;obtain⟨i,j,rfl,rfl,q⟩:=h;obtain⟨t,rfl⟩:=rx;obtain⟨t',rfl⟩:=ry;exact rule i j t t' s _ _ ⟨.bl (g i j),H,I,rfl,q⟩
def CPow(i j:Int):Prop:=0≤j/\j≤1000000/\i.natAbs<2^64
theorem op_add:OpR X (binaryOp .Add) (rI0 fun i j=>.int (i+j)):=opI0 fun _ _ _ _ _ _ _ q=>add_int q
theorem qbhz:OpR X (binaryOp .Sub) (rI0 fun i j=>.int (i-j)):=opI0 fun _ _ _ _ _ _ _ q=>sub_int q
theorem qaiz:OpR X (binaryOp .Mod) (rI (fun _ j=>0<j) fun i j=>.int (i%j)):=opI fun i j _ _ _ _ _ hc q=>by
 have h1:(0:Int)<j:=hc;exact mod_int' (by omega) (by rw[Int.fmod_eq_emod_of_nonneg i (by omega)];exact q)
theorem qirz:OpR X (binaryOp .Pow) (rI CPow fun i j=>.int (i^j.toNat)):=opI fun _ _ _ _ _ _ _ hc q=>pow_int_small hc.1 hc.2.1 hc.2.2 q
theorem unI{f:Value->Sem Value}{g:Int->Int}
  (rule:∀(i:Int) (t:Tok) (s:Shared) (Q:Value->Shared->Prop) (E:Value->Shared->Prop),Q (.int (g i) s.toks) { s with toks:=s.toks+1 }->wpAny (model X.prog X.w) X.A (f (.int i t)) Q E s):
  UnR X f (rU fun i=>.int (g i)):=by
 intro pins s σ H x v Q I rx h;obtain⟨i,rfl,q⟩:=h;obtain⟨t,rfl⟩:=rx;exact rule i t s _ _ ⟨.int (g i),H,I.tok _,⟨_,rfl⟩,q⟩
theorem qqiz:UnR X (unaryOp .USub) (rU fun i=>.int (-i)):=unI fun _ _ _ _ _ q=>neg_int q
end
section
variable {X:Cx} {a b c:Expr} {ta tb tc:TE} {pos:Pos}
theorem qfwz{pins:List (Addr×Obj)}{σ:St}{H:Hp}{s:Shared}{Q:VK}{k k':Bool}(I:Inv X pins σ H s)(q:Q (.bl k) H)(e:k=k'):EP X pins σ Q (.bool k') s:=by
 subst e;exact⟨.bl k,H,I,rfl,q⟩
theorem op_lt:OpR X (compareOp .Lt) (rI0 fun i j=>.bl (decide (i<j))):=opB0 fun _ _ _ _ _ _ _ q=>lt_int q
theorem qisz:OpR X (compareOp .LtE) (rI0 fun i j=>.bl (decide (i≤j))):=opB0 fun _ _ _ _ _ _ _ q=>le_int q
theorem qfxz:OpR X (compareOp .Gt) (rI0 fun i j=>.bl (decide (j<i))):=opB0 fun _ _ _ _ _ _ _ q=>gt_int q
theorem qitz:OpR X (compareOp .GtE) (rI0 fun i j=>.bl (decide (j≤i))):=opB0 fun _ _ _ _ _ _ _ q=>ge_int q
theorem qcdz:OpR X (compareOp .Is) (fun x y H Q=>y=.non/\Q (.bl (decide (x=.non))) H):=by
 intro pins s σ H x y v u Q I rx ry h;obtain⟨rfl,q⟩:=h;cases ry;refine is_none_gen (qfwz I q ?_);cases x<;>first
  | (cases rx;rfl)
  | (obtain⟨t,rfl⟩:=rx;rfl)
theorem qfyz:OpR X (compareOp .IsNot) (fun x y H Q=>y=.non/\Q (.bl (!decide (x=.non))) H):=by
 intro pins s σ H x y v u Q I rx ry h;obtain⟨rfl,q⟩:=h;cases ry;refine isnot_none_gen (qfwz I q ?_);cases x<;>first
  | (cases rx;rfl)
  | (obtain⟨t,rfl⟩:=rx;rfl)
theorem OpR.or{f:Value->Value->Sem Value}{r r':R2}(h:OpR X f r)(h':OpR X f r'):OpR X f (fun x y H Q=>r x y H Q∨r' x y H Q):=by
 intro pins s σ H x y v u Q I rx ry q;rcases q with q|q
 ·exact h pins s σ H x y v u Q I rx ry q
 ·exact h' pins s σ H x y v u Q I rx ry q
theorem nomark(b:Expr){op:CmpOp}(h:op≠.In:=by decide)(h2:op≠.NotIn:=by decide):behindInMarks op b=false:=by
 have e1:(op==CmpOp.In)=false:=by cases op<;>first|rfl|exact absurd rfl h
 have e2:(op==CmpOp.NotIn)=false:=by cases op<;>first|rfl|exact absurd rfl h2
 cases b<;>simp[behindInMarks,e1,e2]
theorem qqjz{op:CmpOp}{r:R2}(ho:OpR X (compareOp op) r)(ha:PE X a ta)(hb:PE X b tb)(hm:behindInMarks op b=false):PE X (.Compare a [op] [b] pos) (tOp r ta tb):=by
 intro pins s σ H Q I h;exact wpAny_Compare1 (binT ha hb I h fun v u s2 x y H2 I2 rx ry q=>ho pins s2 σ H2 x y v u Q I2 rx ry q) hm
def tTest(t:TE):TT:=fun σ H Q=>t σ H fun x H'=>∃k,x=.bl k/\Q k H'
theorem qqkz{op:CmpOp}{r:R2}(ho:OpR X (compareOp op) r)(ha:PE X a ta)(hb:PE X b tb)(hm:behindInMarks op b=false):PT X (.Compare a [op] [b] pos) (tTest (tOp r ta tb)):=by
 intro pins s σ H Q I h;refine wpAny_isTrue_Compare1 (thn (ha pins s σ H _ I h) fun v s1 ⟨x,H1,I1,r1,q1⟩=>thn (hb pins s1 σ H1 _ I1 q1) fun u s2 ⟨y,H2,I2,r2,q2⟩=>
  thn (ho pins s2 σ H2 x y v u _ I2 r1 r2 q2) fun c s3 ⟨z,H3,I3,r3,k,e,q3⟩=>?_) hm
 subst e;cases r3;exact wpAny_truthy_bool ⟨H3,I3,q3⟩
def tChain(r r':R2)(ta tb tc:TE):TE:=fun σ H Q=>ta σ H fun x H1=>tb σ H1 fun y H2=>r x y H2 fun z H3=>∃k,z=.bl k ∧
 (if k=true then tc σ H3 fun w' H4=>r' y w' H4 Q else Q (.bl false) H3)
theorem qqlz{op op':CmpOp}{r r':R2}(ho:OpR X (compareOp op) r)(ho':OpR X (compareOp op') r')(ha:PE X a ta)(hb:PE X b tb)(hc:PE X c tc)
  (hm:lastMarks [op,op'] [b,c]=false:=by with_unfolding_all rfl):PE X (.Compare a [op,op'] [b,c] pos) (tChain r r' ta tb tc):=by
 intro pins s σ H Q I h;refine Compare_chain (thn (ha pins s σ H _ I h) fun v s1 ⟨x,H1,I1,r1,q1⟩=>chain_link (thn (hb pins s1 σ H1 _ I1 q1) fun u s2 ⟨y,H2,I2,r2,q2⟩=>
  thn (ho pins s2 σ H2 x y v u _ I2 r1 r2 q2) fun d s3 ⟨z,H3,I3,r3,k,e,q3⟩=>?_)) hm
 subst e;cases r3;refine wpAny_truthy_bool ?_;cases k with
 |false=>exact ite_ff ⟨.bl false,H3,I3,rfl,q3⟩
 |true=>exact ite_tt (chain_last (thn (hc pins s3 σ H3 _ I3 q3) fun w' s4 ⟨z',H4,I4,r4,q4⟩=>ho' pins s4 σ H4 y z' u w' Q I4 r2 r4 q4))
def TruV(K:PySem.W.Frag)(x:V)(H:Hp)(k:Bool):Prop:=
 match x with
 |.non=>k=false
 |.bl b=>k=b
 |.int i=>k=(i != 0)
 |.str y=>y.length≤sizeLine/\k=((y.length:Int) != 0)
 |.byt y=>y.size≤sizeLine/\k=((y.size:Int) != 0)
 |.ref p=>(∃xs,SqL K H p xs/\k = !xs.isEmpty)∨(∃xs,SqT K H p xs/\k = !xs.isEmpty)∨∃kvs,H p=some (.dK kvs)/\k = !kvs.isEmpty
 |_=>False
theorem qqmz{κ:Type}{kvs:List (κ×V)}{vs:List (κ×Value)}(r:KV kvs vs):(!vs.isEmpty) = !kvs.isEmpty:=by
 cases r<;>rfl
theorem qiuz{xs:List V}{its:List Value}(r:Vals xs its):(!its.toArray.isEmpty) = !xs.isEmpty:=by
 cases r<;>simp
theorem line63:(sizeLine:Nat)<2^63:=by rw[sizeLine_eq];decide
theorem qqnz:TruR X (fun x H Q=>∃k,TruV X.K x H k/\Q k H):=by
 intro pins s σ H x v Q I rx h;obtain⟨k,e,q⟩:=h;have hl:=line63;have hs:sizeLine=16777216:=sizeLine_eq;cases x with
 |non=>
  cases rx;have e':k=false:=e;subst e';exact truthy_none ⟨H,I,q⟩
 |bl b=>
  cases rx;have e':k=b:=e;subst e';exact wpAny_truthy_bool ⟨H,I,q⟩
 |int i=>
  obtain⟨t,rfl⟩:=rx;have e':k=(i != 0):=e;subst e';exact PySem.P.truthy_int ⟨H,I,q⟩
 |str y=>
  obtain⟨t,rfl⟩:=rx;obtain⟨hy,e'⟩:y.length≤sizeLine/\k=((y.length:Int) != 0):=e;subst e';exact PySem.P.truthy_str (by omega) ⟨H,I.tok _,q⟩
 |byt y=>
  obtain⟨t,rfl⟩:=rx;obtain⟨hy,e'⟩:y.size≤sizeLine/\k=((y.size:Int) != 0):=e;subst e';exact PySem.W.truthy_bytes (by omega) ⟨H,I.tok _,q⟩
 |ref p=>
  cases rx;have e':(∃xs,SqL X.K H p xs/\k = !xs.isEmpty)∨(∃xs,SqT X.K H p xs/\k = !xs.isEmpty)∨∃kvs,H p=some (.dK kvs)/\k = !kvs.isEmpty:=e;rcases e' with⟨xs,hx,e'⟩|⟨xs,hx,e'⟩|⟨kvs,hx,e'⟩
  ·subst e';obtain⟨its,r,pl,hz⟩:=I.list hx;have hlen:=r.length;exact wpAny_truthy_list pl.isList (by simp only[List.size_toArray];omega) ⟨H,I.tok _,by rw[qiuz r];exact q⟩
  ·subst e';obtain⟨its,r,pl,hz⟩:=I.tuple hx;have hlen:=r.length;exact truthy_tuple pl (by simp only[List.size_toArray];omega) ⟨H,I.tok _,by rw[qiuz r];exact q⟩
  ·subst e';obtain⟨hz,hS,vs,r,m⟩:kvs.length≤sizeLine/\(p==sysModules)=false/\∃vs,KV kvs vs/\s.heap.DictOf (mixKind X.prog X.w) p vs:=I.hok p _ hx;have hlen:kvs.length=vs.length:=Paired.length r;exact wpAny_truthy_dict hS m (by omega) ⟨H,I.tok _,by rw[qqmz r];exact q⟩
 |_=>exact (show False from e).elim
theorem qqoz(ha:PE X a ta)(he:∀whole,isTrue a X.env whole=(do let v ←whole;standAt a.pos;holding [v] (truthy v))):
  PT X a (fun σ H Q=>ta σ H fun x H'=>∃k,TruV X.K x H' k/\Q k H'):=by
 intro pins s σ H Q I h;exact isTrue_plain (thn (ha pins s σ H _ I h) fun v s1 ⟨x,H1,I1,r1,q1⟩=>qqnz pins s1 σ H1 x v Q I1 r1 q1) (he _)
theorem vals1{x:V}{us:List Value}(r:Vals [x] us):∃u,us=[u]/\RelV x u:=by
 cases r with
 |cons r1 r2=>cases r2;exact⟨_,rfl,r1⟩
theorem vals2{x y:V}{us:List Value}(r:Vals [x,y] us):∃u w',us=[u,w']/\RelV x u/\RelV y w':=by
 cases r with
 |cons r1 r2=>
  cases r2 with
  |cons r3 r4=>cases r4;exact⟨_,_,rfl,r1,r3⟩
theorem qqpz(hc:X.calm=true):CallR X (.builtin "max") (fun xs H Q=>∃i j,xs=[.int i,.int j]/\Q (.int (if j > i then j else i)) H):=by
 intro pins s σ H xs us Q I r h;obtain⟨i,j,rfl,q⟩:=h;obtain⟨u,w',rfl,⟨t,rfl⟩,⟨t',rfl⟩⟩:=vals2 r;refine max_two_ints (I.ok.hd hc) fun h' tk k=>⟨_,H,I.kept k,?_,q⟩;by_cases hj:j > i
 ·rw[if_pos hj,if_pos hj];exact⟨_,rfl⟩
 ·rw[if_neg hj,if_neg hj];exact⟨_,rfl⟩
theorem qqqz(hc:X.calm=true):CallR X (.builtin "min") (fun xs H Q=>∃i j,xs=[.int i,.int j]/\Q (.int (if j<i then j else i)) H):=by
 intro pins s σ H xs us Q I r h;obtain⟨i,j,rfl,q⟩:=h;obtain⟨u,w',rfl,⟨t,rfl⟩,⟨t',rfl⟩⟩:=vals2 r;refine min_two_ints (I.ok.hd hc) fun h' tk k=>⟨_,H,I.kept k,?_,q⟩;by_cases hj:j<i
 ·rw[if_pos hj,if_pos hj];exact⟨_,rfl⟩
 ·rw[if_neg hj,if_neg hj];exact⟨_,rfl⟩
theorem qqrz:CallR X (.type "int") (fun xs H Q=>(∃i,xs=[.int i]/\Q (.int i) H)∨∃k,xs=[.bl k]/\Q (.int (if k then 1 else 0)) H):=by
 intro pins s σ H xs us Q I r h;rcases h with⟨i,rfl,q⟩|⟨k,rfl,q⟩
 ·obtain⟨u,rfl,t,rfl⟩:=vals1 r;exact call_int_int ⟨.int i,H,I,⟨_,rfl⟩,q⟩
 ·obtain⟨u,rfl,r1⟩:=vals1 r;cases r1;exact call_int_bool ⟨.int (if k then 1 else 0),H,I.tok _,⟨_,rfl⟩,q⟩
end
end L2
namespace L2
open PySem PySem.Spec PyProof.Rows
structure Room(k:Nat)(A:Around):Prop where
 hd:A.handled=none
 dp:A.depth+3*k+5<recursionLimit
 un:A.units+16*k+200<cLine
theorem Room.mono{j k:Nat}{A:Around}(r:Room k A)(h:j≤k):Room j A:=⟨r.hd,by have:=r.dp;omega,by have:=r.un;omega⟩
theorem Room.deeper{k:Nat}{A:Around}(r:Room (k+1) A)(env:Env):Room k (A.deeper env):=
 ⟨r.hd,by have:=r.dp;show A.depth+1+3*k+5<_;omega,by have:=r.un;show A.units+3+16*k+200<_;omega⟩
theorem Room.depth{k:Nat}{A:Around}(r:Room k A):A.depth<recursionLimit:=by have:=r.dp;omega
theorem Room.units{k:Nat}{A:Around}(r:Room k A):A.units+64<cLine:=by have:=r.un;omega
theorem Room.units0{k:Nat}{A:Around}(r:Room k A):A.units<cLine:=by have:=r.un;omega
def tNil:TA:=fun _ H Q=>Q [] H
def tCons(ta:TE)(tr:TA):TA:=fun σ H Q=>ta σ H fun x H1=>tr σ H1 fun xs H2=>Q (x::xs) H2
section
variable {X:Cx} {e:Expr} {es:List Expr} {te:TE} {t:TA} {pos:Pos}
theorem qbvz:PA X [] tNil:=fun _ _ _ _ H Q I h=>Calls.spliced_nil ⟨[],H,I,.nil,h⟩
theorem qbiz(ha:PE X e te)(hr:PA X es t)(hs:starEach (e::es) X.env=(false,eval e X.env)::starEach es X.env:=by rfl):PA X (e::es) (tCons te t):=by
 intro pos pins s σ H Q I h;rw[hs];show wpAny _ _ (spliced ((false,eval e X.env)::backTo pos (starEach es X.env))) _ _ s;refine Calls.spliced_cons (thn (ha pins s σ H _ I h) fun u s1 ⟨x,H1,I1,r1,q1⟩=>?_);exact thn (hr pos pins s1 σ H1 _ I1 q1) fun us s2 ⟨xs,H2,I2,r2,q2⟩=>⟨x::xs,H2,I2,.cons r1 r2,q2⟩
def tTup(t:TA):TE:=fun σ H Q=>t σ H fun xs H1=>xs.length≤sizeLine/\∀p,H1 p=none->Q (.ref p) (upd H1 p (.tup xs))
def tLst(t:TA):TE:=fun σ H Q=>t σ H fun xs H1=>xs.length≤sizeLine/\∀p,H1 p=none->Q (.ref p) (upd H1 p (.lst xs))
theorem qqsz{x1}(h:PA X es t):PE X (.Tuple es x1 pos) (tTup t):=by
 intro pins s σ H Q I hq;refine wpAny_Tuple_spliced (thn (h pos pins s σ H _ I hq) fun us s1 ⟨xs,H1,I1,r,z,q⟩=>⟨by rw[←r.length];exact z,?_⟩);have hf:H1 s1.heap.objs.size=none:=I1.hok.fresh (Nat.le_refl _);refine⟨.ref s1.heap.objs.size,upd H1 s1.heap.objs.size (.tup xs),I1.laid (t':=s1.toks) (fun b u e=>Heap.get?_push_of_some _ e) (Nat.le_refl _) ?_,rfl,q _ hf⟩;exact⟨z,us,r,⟨_,Heap.get?_push_size _ rfl,rfl,⟨_,rfl⟩,rfl⟩⟩
theorem qivz(h:PA X es t):PE X (.List es pos) (tLst t):=by
 intro pins s σ H Q I hq;refine wpAny_List_spliced (thn (h pos pins s σ H _ I hq) fun us s1 ⟨xs,H1,I1,r,z,q⟩=>⟨by rw[←r.length];exact z,?_⟩);have hf:H1 s1.heap.objs.size=none:=I1.hok.fresh (Nat.le_refl _);refine⟨.ref s1.heap.objs.size,upd H1 s1.heap.objs.size (.lst xs),I1.laid (t':=s1.toks) (fun b u e=>Heap.get?_push_of_some _ e) (Nat.le_refl _) ?_,rfl,q _ hf⟩;exact⟨z,us,0,r,Heap.get?_push_size _ rfl⟩
end
abbrev Sp:=List V->Hp->VK->XK->Prop
abbrev CXT:=List Env->Hp->Shared->XK->Value->Shared->Prop
structure Env0(P:Program)(w:World)(K:PySem.W.Frag)(mg:Str->Option Value)(base:Heap)(A:Around)(outer:List Env)(s:Shared)(H:Hp):Prop where
 frames:A.frames=some outer
 mod:Mod K mg base
 bs:∀b o,base.get? b=some o->s.heap.get? b=some o/\H b=none
 bsz:base.objs.size≤s.heap.objs.size
 funs:s.heap.FunFrames base outer
 frf:∀b∈frs outer,H b=none
 hok:HOk P w H s.heap
 bare:AllBare s.gens
def CE(outer:List Env)(P:Program)(w:World)(H:Hp)(s:Shared)(Q:VK)(u:Value)(s':Shared):Prop:=
 ∃v H',s'.os=s.os/\AllBare s'.gens/\Un (frs outer) [] H H' s.heap s'.heap/\HOk P w H' s'.heap/\RelV v u/\Q v H'
def CR(CX:CXT)(outer:List Env)(P:Program)(w:World)(H:Hp)(s:Shared)(Q:VK)(E:XK)(r:Result)(s':Shared):Prop:=
 match r with
 |.ok (.ret u)=>CE outer P w H s Q u s'
 |.ok _=>False
 |.error e=>CX outer H s E e s'
structure FnOk(P:Program)(w:World)(K:PySem.W.Frag)(mg:Str->Option Value)(base:Heap)(CX:CXT)(k:Nat)(f:Addr)(fd:FuncData)(ps:List Str)(sp:Sp):Prop where
 len:∀vs H Q E,sp vs H Q E->vs.length=ps.length
 run:∀(A:Around) (outer:List Env) (s:Shared) (H:Hp) (args:Args) (us:List Value) (vs:List V) (Q:VK) (E:XK),Room k A->Env0 P w K mg base A outer s H->BindsTo s fd args (ps.zip us)->Vals vs us->sp vs H Q E ->
  codeAny (model P w) A (.call (.ref f) args) (CR CX outer P w H s Q E) s
theorem FnOk.mono{P:Program}{w:World}{K:PySem.W.Frag}{mg:Str->Option Value}{base:Heap}{CX:CXT}{j k:Nat}{f:Addr}{fd:FuncData}{ps:List Str}{sp:Sp}(F:FnOk P w K mg base CX j f fd ps sp)(h:j≤k):
  FnOk P w K mg base CX k f fd ps sp:=⟨F.len,fun A outer s H args us vs Q E hr=>F.run A outer s H args us vs Q E (hr.mono h)⟩
theorem FnOk.imp{P:Program}{w:World}{K:PySem.W.Frag}{mg:Str->Option Value}{base:Heap}{CX:CXT}{k:Nat}{f:Addr}{fd:FuncData}{ps:List Str}{sp sp':Sp}(F:FnOk P w K mg base CX k f fd ps sp)
  (h:∀vs H Q E,sp' vs H Q E->sp vs H Q E):FnOk P w K mg base CX k f fd ps sp':=
 ⟨fun vs H Q E q=>F.len vs H Q E (h _ _ _ _ q),fun A outer s H args us vs Q E hr he hb hv hs=>F.run A outer s H args us vs Q E hr he hb hv (h _ _ _ _ hs)⟩
section
variable {X:Cx} {pins:List (Addr×Obj)} {σ:St} {H:Hp} {s s':Shared}
theorem Inv.env0(I:Inv X pins σ H s):Env0 X.prog X.w X.K X.mg X.base X.A X.stack s H:=
 ⟨I.ok.frames,I.ok.mod,I.bs,Nat.le_trans I.ok.bsz I.sz,I.stack,I.stkFree,I.hok,I.bare⟩
theorem Inv.after{Q:VK}{u:Value}(I:Inv X pins σ H s)(h:CE X.stack X.prog X.w H s Q u s'):EP X pins σ Q u s':=by
 obtain⟨v,H',os,bare,un,hok,r,q⟩:=h;obtain⟨hh,g,d,t,os'⟩:=s';obtain rfl:os'=s.os:=os;exact⟨v,H',I.call (h':=hh) (g':=g) (d':=d) (t':=t) (ch:=[]) un hok bare (fun b z=>absurd z (by simp)),r,q⟩
end
def tCall(sp:Sp)(dvs:List V)(E:XK)(t:TA):TE:=fun σ H Q=>t σ H fun vs H1=>sp (vs++dvs) H1 Q E
def Binds(K:PySem.W.Frag)(fd:FuncData)(ps:List Str)(ds:List Value):Prop:=
 ∀(s:Shared) (us:List Value),K.In s.heap->(us++ds).length=ps.length->BindsTo s fd ⟨us,[]⟩ (ps.zip (us++ds))
theorem Binds.all{K:PySem.W.Frag}{fd:FuncData}{ps:List Str}(h:∀us:List Value,us.length=ps.length->bindArgs fd ⟨us,[]⟩=pure (ps.zip us)):Binds K fd ps []:=fun s us _ hl=>by
 rw[List.append_nil] at hl ⊢;exact .of_eq (h us hl)
def Passes(CX:CXT)(X:Cx)(E:XK):Prop:=∀(pins:List (Addr×Obj)) (σ:St) (H:Hp) (s:Shared) (e:Value) (s':Shared),Inv X pins σ H s->CX X.stack H s E e s'->X.xe e s'
section
variable {X:Cx} {CX:CXT} {k:Nat} {f C:Addr} {fd:FuncData} {ps:List Str} {sp:Sp} {dvs:List V} {ds:List Value} {E:XK} {x m:Str} {p pos apos:Pos} {e o:Expr} {es:List Expr} {ta:TE} {t:TA}
theorem qqtz{pins:List (Addr×Obj)}{σ:St}{H:Hp}{s:Shared}{Q:VK}{us:List Value}{vs:List V}(F:FnOk X.prog X.w X.K X.mg X.base CX k f fd ps sp)(hr:Room k X.A)(hb:Binds X.K fd ps ds)(hd:Vals dvs ds)(hx:Passes CX X E)
  (I:Inv X pins σ H s) (r:Vals vs us) (h:sp (vs++dvs) H Q E):wpAny (model X.prog X.w) X.A (call (.ref f) us) (EP X pins σ Q) X.xe s:=by
 have r2:Vals (vs++dvs) (us++ds):=r.append hd;have hl:(us++ds).length=ps.length:=by rw[←r2.length];exact F.len _ _ _ _ h
 refine wpAny_call (codeAny_mono (F.run X.A X.stack s H ⟨us,[]⟩ (us++ds) (vs++dvs) Q E hr I.env0 (hb s us I.kIn hl) r2 h) fun r s' hq=>?_);cases r with
 |error e=>exact hx pins σ H s e s' I hq
 |ok fl=>
  cases fl with
  |ret u=>exact I.after hq
  |next=>exact False.elim hq
  |brk=>exact False.elim hq
  |cont=>exact False.elim hq
theorem qquz(F:FnOk X.prog X.w X.K X.mg X.base CX k f fd ps sp)(hr:Room k X.A)(hg:Gl X x)(hm:X.mg x=some (.ref f))(hk:PySem.W.keepIn X.K (.ref f)=true)(hb:Binds X.K fd ps ds)(hd:Vals dvs ds)(hx:Passes CX X E)
  (ha:PA X (e::es) t) (hdb:(x==("__debug__":Str))=false:=by decide) (he:starEach (e::es) X.env=(false,eval e X.env)::starEach es X.env:=by rfl) (hpl:(backTo pos (starEach es X.env)).any (·.1)=false:=by rfl):
  PE X (.Call (.Name x p) (e::es) [] pos) (tCall sp dvs E t):=by
 intro pins s σ H Q I h;refine wpAny_Call_Name_kw (qipz I hg hm ?_ hdb);refine PySem.W.callWith_K (h₀:=X.base) I.ok.mod.kin hk (thn (ha pos pins s σ H _ I h) fun us s1 ⟨vs,H1,I1,r,q⟩=>⟨I1.kIn,?_⟩) he hpl;exact qqtz F hr hb hd hx I1 r q
end
structure FnScope(N P:List Str)(sc:Scope):Prop where
 kind:sc.kind=.function
 co:sc.isCoroutine=false
 gen:sc.isGenerator=false
 nd:N.Nodup
 pre:N.take P.length=P
 par:∀x∈P,sc.names.lookup x=some .local∨sc.names.lookup x=some .cell
 nofree:∀y∈sc.names,y.2≠.free
theorem qiwz{kindOf:Str->Option NameKind}{x:Str}:∀{binds:List (Str×Value)} {m:Str->Option Value},(∀v,(x,v)∉binds)->bindL kindOf binds m x=m x
 |[],_,_=>rfl
 | (n,v)::r,m,h=>by
  unfold bindL;rw[qiwz fun w hw=>h w (List.mem_cons_of_mem _ hw)];split
  ·have:x≠n:=by rintro rfl;exact h v List.mem_cons_self
   simp[this]
  ·rfl
theorem qixz{kindOf:Str->Option NameKind}{x:Str}:∀{binds:List (Str×Value)} {m:Str->Option Value},(∀v,(x,v)∉binds)->bindC kindOf binds m x=m x
 |[],_,_=>rfl
 | (n,v)::r,m,h=>by
  unfold bindC;rw[qixz fun w hw=>h w (List.mem_cons_of_mem _ hw)];split
  ·rfl
  ·have:x≠n:=by rintro rfl;exact h v List.mem_cons_self
   simp[this]
theorem qiyz{kindOf:Str->Option NameKind}{x:Str}{v:Value}:∀{P:List Str} {vs:List Value} {i:Nat} {m:Str->Option Value},P.Nodup->P[i]?=some x->vs[i]?=some v->kindOf x=some .local ->
  bindL kindOf (P.zip vs) m x=some v
 |[],_,_,_,_,h,_,_=>by simp at h
 |_::_,[],_,_,_,_,h,_=>by simp at h
 |p::P,w::vs,0,m,nd,h1,h2,hk=>by
  simp at h1 h2;subst h1;subst h2;show bindL kindOf ((p,w)::P.zip vs) m p=_;unfold bindL;rw[qiwz fun v hv=>(List.nodup_cons.mp nd).1 (List.of_mem_zip hv).1,if_pos hk];simp
 |p::P,w::vs,i+1,m,nd,h1,h2,hk=>by
  show bindL kindOf ((p,w)::P.zip vs) m x=_;unfold bindL;exact qiyz (i:=i) (List.nodup_cons.mp nd).2 (by simpa using h1) (by simpa using h2) hk
theorem qizz{kindOf:Str->Option NameKind}{x:Str}{v:Value}:∀{P:List Str} {vs:List Value} {i:Nat} {m:Str->Option Value},P.Nodup->P[i]?=some x->vs[i]?=some v->kindOf x≠some .local ->
  bindC kindOf (P.zip vs) m x=some v
 |[],_,_,_,_,h,_,_=>by simp at h
 |_::_,[],_,_,_,_,h,_=>by simp at h
 |p::P,w::vs,0,m,nd,h1,h2,hk=>by
  simp at h1 h2;subst h1;subst h2;show bindC kindOf ((p,w)::P.zip vs) m p=_;unfold bindC;rw[qixz fun v hv=>(List.nodup_cons.mp nd).1 (List.of_mem_zip hv).1,if_neg hk];simp
 |p::P,w::vs,i+1,m,nd,h1,h2,hk=>by
  show bindC kindOf ((p,w)::P.zip vs) m x=_;unfold bindC;exact qizz (i:=i) (List.nodup_cons.mp nd).2 (by simpa using h1) (by simpa using h2) hk
def start(N:List Str)(vs:List V):St:=vs.map some++List.replicate (N.length-vs.length) none
def cxOf(CX:CXT)(P:Program)(w:World)(K:PySem.W.Frag)(mg:Str->Option Value)(base:Heap)(N:List Str)(qual:Str)(scope:Scope)(f:Addr)(cd:Value)(A:Around)(outer:List Env)(s:Shared)(H:Hp)(E:XK):Cx where
 prog:=P
 w:=w
 K:=K
 mg:=mg
 base:=base
 A:=A.deeper (envOfC qual scope s.heap.objs.size f cd)
 N:=N
 s₀:=s
 H₀:=H
 env:=envOfC qual scope s.heap.objs.size f cd
 outer:=outer
 stack:=envOfC qual scope s.heap.objs.size f cd::outer
 ex:=[]
 calm:=true
 fn:=fun _=>true
 pn:=[]
 xe:=fun e s'=>wpAny (model P w) (A.deeper (envOfC qual scope s.heap.objs.size f cd)) (leaving (envOfC qual scope s.heap.objs.size f cd) e) (fun _ s''=>CX outer H s E e s'') (fun e' s''=>CX outer H s E e' s'') s'
theorem qi0z{sc:Scope}{n:Nat}{x:Str}(h:sc.names.lookup x=some .cell):∃c,(cellsFrom n sc.names []).lookup x=some c:=by
 have q:=PySem.W.cellsFrom_some sc.names n [] (.inl h);exact Option.isSome_iff_exists.mp q
theorem qqvz{CX:CXT}{P:Program}{w:World}{K:PySem.W.Frag}{mg:Str->Option Value}{base:Heap}{N ps:List Str}{qual:Str}{scope:Scope}{f:Addr}{cd:Value}{A:Around}{outer:List Env}{s s1:Shared}{H:Hp}{E:XK}{us:List Value}{vs:List V}
  (S:FnScope N ps scope) (hd:A.handled=none) (e0:Env0 P w K mg base A outer s H) (hl:vs.length=ps.length) (r:Vals vs us)
  (x:InCallC s s.heap.objs.size (bindL (envOfC qual scope s.heap.objs.size f cd).kindOf (ps.zip us) fun _=>none) (cellsFrom (s.heap.objs.size+1) scope.names []) (bindC (envOfC qual scope s.heap.objs.size f cd).kindOf (ps.zip us) fun _=>none) s1):
  Inv (cxOf CX P w K mg base N qual scope f cd A outer s H E) [] (start N vs) H s1:=by
 have hpl:ps.length≤N.length:=by have:=congrArg List.length S.pre;rw[List.length_take] at this;omega
 obtain⟨h1,tk,rfl,hk⟩:=x.done;have noA:∀b:Addr,b∉(cxOf CX P w K mg base N qual scope f cd A outer s H E).ex:=fun b z=>absurd (show b∈([]:List Addr) from z) (by simp);refine⟨⟨e0.mod,S.kind,rfl,rfl,Nat.le_refl _,fun y z c h1 h2=>?_,fun y hy=>?_,fun y c _ h=>?_,fun _=>hd,Around.frames_deeper e0.frames,.inr ⟨rfl,rfl⟩,fun b z=>absurd z (noA b),e0.bs,e0.bsz,fun b _ _=>noA b,fun b z=>absurd z (noA b),e0.funs,e0.frf⟩,
  rfl,e0.bare,Un.kept hk,⟨_,x.toInCall.ns,fun i y v h1 h2 h3=>?_⟩,fun y c h=>⟨_,x.cell y c h⟩,e0.hok.fresh (Nat.le_refl _),fun y c h=>?_,fun p hp=>absurd (show p∈([]:List (Addr×Obj)) from hp) (by simp),e0.hok.kept hk,?_⟩
 ·exact name_of_addr x.apart (PySem.mem_of_lookup h1) (PySem.mem_of_lookup h2)
 ·have hy:scope.names.lookup y=some .cell∨scope.names.lookup y=some .free:=hy;rcases hy with hy|hy
  ·exact qi0z hy
  ·exact absurd rfl (S.nofree _ (PySem.mem_of_lookup hy))
 ·exact Nat.le_of_lt (x.above y c (PySem.mem_of_lookup h))
 ·have hi:i<vs.length:=by
   unfold start at h2;by_cases hi:i<vs.length
   ·exact hi
   ·rw[List.getElem?_append_right (by simpa using hi)] at h2;rw[List.getElem?_replicate] at h2;split at h2<;>cases h2
  have ha:vs[i]?=some v:=by
   unfold start at h2;rw[List.getElem?_append_left (by simpa using hi),List.getElem?_map] at h2;cases e:vs[i]? with
   |none=>rw[e] at h2;cases h2
   |some a=>rw[e] at h2;cases h2;rfl
  obtain⟨u,hu,rv⟩:=r.get ha;have hp:ps[i]?=some y:=by
   rw[←S.pre,List.getElem?_take_of_lt (by omega)];exact h1
  have ndP:ps.Nodup:=by rw[←S.pre];exact S.nd.sublist (List.take_sublist _ _)
  refine⟨u,rv,?_⟩;rcases S.par y (List.mem_of_getElem? hp) with k|k
  ·exact .inl ⟨k,qiyz ndP hp hu k⟩
  ·obtain⟨c,e⟩:=qi0z (n:=s.heap.objs.size+1) k;refine .inr ⟨.inl k,c,e,?_⟩;have q:=x.cell y c e;rw[qizz ndP hp hu (by show scope.names.lookup y≠_;rw[k];decide)] at q;exact q
 ·exact e0.hok.fresh (Nat.le_of_lt (x.above y c (PySem.mem_of_lookup h)))
 ·unfold start;show _=N.length;rw[List.length_append,List.length_map,List.length_replicate];omega
theorem qqwz{CX:CXT}{P:Program}{w:World}{K:PySem.W.Frag}{mg:Str->Option Value}{base:Heap}{k:Nat}{f:Addr}{name qual:Str}{params:Arguments}{body:List Stmt}{scope:Scope}{dV kV doc pm cdv ct oc:Value}{an od:Option Addr}
  {osl:Array (Option Value)} {N ps:List Str} {sp:Sp} (lk:K.lookup f=some ⟨oc,od,.func (PySem.W.fnOf name qual params body scope dV kV doc pm an cdv ct),osl⟩) (hcd:PySem.W.codeIn K cdv qual=true) (S:FnScope N ps scope)
  (len:∀vs H Q E,sp vs H Q E->vs.length=ps.length)
  (hbody:∀(A:Around) (outer:List Env) (s:Shared) (H:Hp) (vs:List V) (Q:VK) (E:XK),Room k (A.deeper (envOfC qual scope s.heap.objs.size f cdv))->sp vs H Q E ->
   ∃t,PSs (cxOf CX P w K mg base N qual scope f cdv A outer s H E) body t/\t { nx:=fun _ H'=>Q .non H',rt:=Q } (start N vs) H):
  FnOk P w K mg base CX (k+1) f (PySem.W.fnOf name qual params body scope dV kV doc pm an cdv ct) ps sp:=by
 refine⟨len,fun A outer s H args us vs Q E hr e0 hb r hsp=>?_⟩;have hl:=len _ _ _ _ hsp;have KX:K.In s.heap:=e0.mod.kin.keeps fun b o e=>(e0.bs b o e).1;have lim:s.heap.NoLimit:=e0.mod.nolimit.keeps fun b o e=>(e0.bs b o e).1;have hkind:∀y∈ps.zip us,scope.names.lookup y.1=some .local∨(scope.names.lookup y.1=some .cell/\((cellsFrom (s.heap.objs.size+1) scope.names []).lookup y.1).isSome=true):=fun⟨n,v⟩ hy=>by
  rcases S.par n (List.of_mem_zip hy).1 with q|q
  ·exact .inl q
  ·exact .inr ⟨q,PySem.W.cellsFrom_some _ _ _ (.inl q)⟩
 refine codeAny_call_function hr.depth (KX _ _ lk) rfl S.co S.gen rfl (PySem.W.codeRec_of KX hcd) (hb _ _ _ _ ?_);refine wpAny_newFunctionEnv_cells S.kind hkind fun env he s1 x=>?_;subst he;refine⟨lim.keeps x.toInCall.keep,codeAny_func ?_⟩;obtain⟨t,ht,hq⟩:=hbody A outer s H vs Q E (hr.deeper _) hsp;have I:Inv (cxOf CX P w K mg base N qual scope f cdv A outer s H E) [] (start N vs) H s1:=qqvz S hr.hd e0 hl r x;refine wpAny_mono (ht [] s1 (start N vs) H _ I hq) (fun fl s' hs=>?_) fun e s' hs=>hs;have fin:∀{σ':St} {H':Hp} {v:V} {u:Value},Inv (cxOf CX P w K mg base N qual scope f cdv A outer s H E) [] σ' H' s'->RelV v u->Q v H'->CE outer P w H s Q u s':=
  fun {σ' H' v u} J rv q=>⟨v,H',J.os,J.bare,J.base,J.hok,rv,q⟩
 cases fl with
 |ret u=>
  obtain⟨v,σ',H',J,rv,q⟩:=hs;exact fin J rv q
 |next=>
  obtain⟨σ',H',J,q⟩:=hs;exact fin (v:=V.non) (u:=Value.none) J rfl q
 |brk=>
  obtain⟨_,_,_,q⟩:=hs;exact False.elim q
 |cont=>
  obtain⟨_,_,_,q⟩:=hs;exact False.elim q
end L2
namespace L2
open PySem PySem.Spec PyProof.Rows
section
variable {X:Cx} {x:Str} {p pos:Pos} {e:Expr} {es:List Expr} {t:TA} {id T:String} {r:List V->Hp->VK->Prop}
def tCB(r:List V->Hp->VK->Prop)(t:TA):TE:=fun σ H Q=>t σ H fun vs H1=>r vs H1 Q
theorem qa6z(hc:CallR X (.builtin id) r)(hg:Gl X x)(hm:X.mg x=none)(hv:bootBuiltins x=some (.builtin id))(ha:PA X (e::es) t)(hn:x≠"__name__":=by decide)(hdb:(x==("__debug__":Str))=false:=by decide)
  (he:starEach (e::es) X.env=(false,eval e X.env)::starEach es X.env:=by rfl) (hpl:(backTo pos (starEach es X.env)).any (·.1)=false:=by rfl):PE X (.Call (.Name x p) (e::es) [] pos) (tCB r t):=by
 intro pins s σ H Q I h;refine wpAny_Call_Name_kw (qbgz I hg hm hv ?_ hn hdb);exact PyProof.Rows.callWith_builtin1 (thn (ha pos pins s σ H _ I h) fun us s1 ⟨vs,H1,I1,r1,q1⟩=>hc pins s1 σ H1 vs us Q I1 r1 q1) he hpl
theorem qcez(hc:CallR X (.type T) r)(hg:Gl X x)(hm:X.mg x=none)(hv:bootBuiltins x=some (.type T))(ha:PA X (e::es) t)(hn:x≠"__name__":=by decide)(hdb:(x==("__debug__":Str))=false:=by decide)
  (he:starEach (e::es) X.env=(false,eval e X.env)::starEach es X.env:=by rfl) (hpl:(backTo pos (starEach es X.env)).any (·.1)=false:=by rfl):PE X (.Call (.Name x p) (e::es) [] pos) (tCB r t):=by
 intro pins s σ H Q I h;refine wpAny_Call_Name_kw (qbgz I hg hm hv ?_ hn hdb);exact PyProof.Rows.callWith_type1 (thn (ha pos pins s σ H _ I h) fun us s1 ⟨vs,H1,I1,r1,q1⟩=>hc pins s1 σ H1 vs us Q I1 r1 q1) he hpl
end
end L2
namespace HT
open PySem PyProof.Rows
def lexLt:List Int->List Int->Bool
 |[],[]=>false
 |[],_::_=>true
 |_::_,[]=>false
 |x::xs,y::ys=>if x=y then lexLt xs ys else decide (x<y)
theorem qqxz(x y:Int)(xs ys:List Int):lexLt (x::xs) (y::ys)=if x=y then lexLt xs ys else decide (x<y):=rfl
theorem qqyz:lexLt [] []=false:=rfl
theorem qqzz(y:Int)(ys:List Int):lexLt [] (y::ys)=true:=rfl
theorem qq0z(x:Int)(xs:List Int):lexLt (x::xs) []=false:=rfl
theorem qq1z(A:Around)(s:Shared)(a:Int)(t:Tok)(c:Int)(u:Tok):∃e,SeqAt.EqAt A s (.int a t) (.int c u) e/\(e=true↔a=c):=
 ⟨(a==c),SeqAt.EqAt.int_int a t c u,by simp⟩
theorem qq2z(A:Around)(s:Shared)(a:Int)(t:Tok)(c:Int)(u:Tok)(prog:Program)(w:World)(E:Value->Shared->Prop)(Q:Value->Shared->Prop)(h:Q (.bool (decide (a<c))) s):
  wpAny (model prog w) A (richCompare .Lt (.int a t) (.int c u)) Q E s:=
 (PyProof.Rows.lt_int h:wpAny (model prog w) A (compareOp .Lt (.int a t) (.int c u)) Q E s)
section
open PySem.SeqAt
open PySem.AutoSeq1 (wpAny_loadPart')
open PySem.MeetsSeq PySem.MeetsSeq2 PySem.MeetsSeq3
theorem qq3z(l b:Addr)(items items2:Array Value)(n n2:Nat)(dd dd2:Option Addr)(sl sl2:Array (Option Value))(ns ms:List Int)(hi:IntsAre items.toList ns)(hj:IntsAre items2.toList ms):
  Meets (Builtin.«tuple.__lt__» ⟨[.ref l,.ref b],[]⟩)
   (fun _ R s=>s.heap.get? l=some { cls:=.type "tuple",dict:=dd,data:=.seq items n,slots:=sl }/\s.heap.get? b=some { cls:=.type "tuple",dict:=dd2,data:=.seq items2 n2,slots:=sl2 } ∧
    R (.ok (.ret (.bool (lexLt ns ms)))) s):=
 .of_wp fun prog w A R s h=>by
  obtain⟨hp,g,d,tk,os⟩:=s;obtain⟨hl,hb,h⟩:=h;have f2:=AutoSeq1.sub_tuple_tuple;have z1:items.size=ns.length:=by rw[←hi.length];simp
  have z2:items2.size=ms.length:=by rw[←hj.length];simp
  wp_walk using wpAny_loadPart' hl,wpAny_loadPart' hb,wpAny_forIn_list _ (fun rest b s'=>b.1=none/\s'=⟨hp,g,d,tk,os⟩/\∃(vs ws:List Value) (ns' ms':List Int),rest=vs.zip ws ∧
   IntsAre vs ns'/\IntsAre ws ms'/\ns'.length+items2.size=ms'.length+items.size/\R (.ok (.ret (.bool (lexLt ns' ms')))) ⟨hp,g,d,tk,os⟩) _
  case turn=>
   rintro⟨y,x⟩ rest b s' ⟨hb',rfl,vs,ws,ns',ms',hz,hvi,hwi,hlen,hR⟩;cases hvi with
   |nil=>rw[List.zip_nil_left] at hz;cases hz
   |cons a t hvi'=>
    cases hwi with
    |nil=>rw[List.zip_nil_right] at hz;cases hz
    |cons c u hwi'=>
     rw[List.zip_cons_cons] at hz;injection hz with hyx hrest;injection hyx with hy hx;subst hy hx;rw[qqxz] at hR;simp only[List.length_cons] at hlen;obtain⟨e,he,hiff⟩:=qq1z A.in1 ⟨hp,g,d,tk,os⟩ a t c u;refine wpAny_bind (he prog w _ _ ?_);cases e with
     |true=>
      rw[if_pos (hiff.mp rfl)] at hR;wp_walk;exact⟨rfl,rfl,_,_,_,_,hrest,hvi',hwi',by omega,hR⟩
     |false=>
      rw[if_neg (fun q=>absurd (hiff.mpr q) Bool.false_ne_true)] at hR;have hri:=qq2z A.in1 ⟨hp,g,d,tk,os⟩ a t c u prog w;wp_walk using hri;exact⟨_,rfl,by simpa using hR⟩
  case fin=>
   rintro⟨b1,b2⟩ s' ⟨hb',rfl,vs,ws,ns',ms',hz,hvi,hwi,hlen,hR⟩;simp only at hb';subst hb';have hv:lexLt ns' ms'=decide (items.size<items2.size):=by
    cases hvi with
    |nil=>
     cases hwi with
     |nil=>
      simp only[List.length_nil] at hlen;rw[qqyz];exact (decide_eq_false (by omega)).symm
     |cons c u hw=>
      simp only[List.length_nil,List.length_cons] at hlen;rw[qqzz];exact (decide_eq_true (by omega)).symm
    |cons a t hv=>
     cases hwi with
     |nil=>
      simp only[List.length_nil,List.length_cons] at hlen;rw[qq0z];exact (decide_eq_false (by omega)).symm
     |cons c u hw=>
      rw[List.zip_cons_cons] at hz;cases hz
   rw[hv] at hR;wp_walk;exact⟨_,rfl,by simpa [Builtin.Tuple.tupleCompareSizes] using hR⟩
  case h=>
   exact⟨rfl,rfl,items.toList,items2.toList,ns,ms,rfl,hi,hj,by omega,h⟩
end
section
variable {prog:Program} {w:World} {A:Around} {E:Value->Shared->Prop} {s:Shared}
theorem lt_tupInts{l b:Addr}{items items2:Array Value}{ns ms:List Int}{Q:Value->Shared->Prop}(hl:IsTup s.heap l items)(hb:IsTup s.heap b items2)(hi:IntsAre items.toList ns)(hj:IntsAre items2.toList ms)
  (hu:A.units<cLine) (h:Q (.bool (lexLt ns ms)) s):wpAny (model prog w) A (compareOp .Lt (.ref l) (.ref b)) Q E s:=by
 obtain⟨⟨cls,dd,data,sl⟩,ho,hc,n,hd⟩:=id hl;obtain⟨⟨cls2,dd2,data2,sl2⟩,ho2,hc2,n2,hd2⟩:=id hb;simp only at hc hd hc2 hd2;subst hc hd hc2 hd2;exact richCompare_meets_room (op:=.Lt) ⟨_,ho,rfl⟩ ⟨_,ho2,rfl⟩ PySem.F.slot_tuple_lt PySem.F.entry_tuple_lt (PySem.F.args_tuple_lt_2 _ _) (qq3z l b items items2 n n2 dd dd2 sl sl2 ns ms hi hj)
  ⟨ho,ho2,show Value.bool (lexLt ns ms)≠Value.notImplemented/\Q (.bool (lexLt ns ms)) s from⟨(fun x=>nomatch x),h⟩⟩ hu
theorem cat_tup{t b:Addr}{vs ws:List Value}{Q:Value->Shared->Prop}(ht:IsTup s.heap t vs.toArray)(hb:IsTup s.heap b ws.toArray)(hv:vs≠[])
  (h1:ws=[]->Q (.ref t) s) (h2:ws≠[]->Q (.ref s.heap.objs.size) { s with heap:=s.heap.push { cls:=.type "tuple",data:=.seq (vs++ws).toArray }})
  (hsz:vs.length+ws.length≤sizeLine):wpAny (model prog w) A (binaryOp .Add (.ref t) (.ref b)) Q E s:=by
 obtain⟨⟨cls,dd,data,sl⟩,ho,hc,n,hd⟩:=id ht;obtain⟨⟨cls2,dd2,data2,sl2⟩,ho2,hc2,n2,hd2⟩:=id hb;simp only at hc hd hc2 hd2;subst hc hd hc2 hd2;have e:vs.toArray++ws.toArray=(vs++ws).toArray:=by simp
 by_cases hw:ws=[]
 ·exact concat_meets ⟨_,ho,rfl⟩ ⟨_,ho2,rfl⟩ noFill_tuple_add seq_tuple_add PySem.F.slot_tuple_add PySem.F.entry_tuple_add (PySem.F.args_tuple_add_2 _ _)
   (tuple_addW1 t b vs.toArray ws.toArray n n2 dd dd2 sl sl2 (by simpa using hv) (by simp[hw])) ⟨ho,ho2,h1 hw⟩
 ·refine concat_meets ⟨_,ho,rfl⟩ ⟨_,ho2,rfl⟩ noFill_tuple_add seq_tuple_add PySem.F.slot_tuple_add PySem.F.entry_tuple_add (PySem.F.args_tuple_add_2 _ _)
   (tuple_addW2 t b vs.toArray ws.toArray n n2 dd dd2 sl sl2 (by simpa using hv) (by simpa using hw) (by rw[List.size_toArray,List.size_toArray];exact hsz)) ⟨ho,ho2,?_⟩
  rw[e];exact h2 hw
def sIx(n d:Nat):Option Int->Nat
 |none=>d
 |some v=>if v<0 then (v+(n:Int)).toNat else min v.toNat n
theorem sIx_none(n d:Nat):sIx n d none=d:=rfl
theorem sIx_nat(n d k:Nat):sIx n d (some (k:Int))=min k n:=by
 show (if (k:Int)<0 then ((k:Int)+(n:Int)).toNat else min (k:Int).toNat n)=min k n;rw[if_neg (by omega),Int.toNat_natCast]
theorem qq4z(n d:Nat)(hd:d≤n)(o:Option Int):sIx n d o≤n:=by
 cases o with
 |none=>exact hd
 |some v=>
  show (if v<0 then (v+(n:Int)).toNat else min v.toNat n)≤n;by_cases hv:v<0
  ·rw[if_pos hv];omega
  ·rw[if_neg hv];exact Nat.min_le_right _ _
theorem qi1z(v:Int)(n d:Nat):(if v<0 then max (v+(n:Int)) 0 else min v (n:Int))=((sIx n d (some v):Nat):Int):=by
 show (if v<0 then max (v+(n:Int)) 0 else min v (n:Int))=(((if v<0 then (v+(n:Int)).toNat else min v.toNat n):Nat):Int);by_cases hv:v<0
 ·simp only[if_pos hv];omega
 ·simp only[if_neg hv];omega
theorem qq5z(lo hi:Option Int)(n:Nat):Builtin.Slice.sliceAdjust lo hi 1 (n:Int)=(((sIx n 0 lo:Nat):Int),((sIx n n hi:Nat):Int)):=by
 have h1:¬((1:Int)<0):=by omega
 unfold Builtin.Slice.sliceAdjust;simp only[h1,if_false];refine Prod.ext ?_ ?_
 ·cases lo with
  |none=>rfl
  |some v=>exact qi1z v n 0
 ·cases hi with
  |none=>rfl
  |some v=>exact qi1z v n n
theorem qq6z(i j:Nat):Builtin.Slice.slicePlaces (i:Int) (j:Int) 1=j-i:=by
 unfold Builtin.Slice.slicePlaces;have h1:(1:Int) > 0:=by omega
 simp only[h1,if_true,Int.ediv_one];split<;>omega
theorem qi2z{v:Value}{o:Option Int}{Q:Option Int->Shared->Prop}(p:IsPart v o)(h:Q o s):wpAny (model prog w) A (Builtin.Slice.slicePartIndex v) Q E s:=by
 cases p with
 |none=>exact slicePart_none h
 |int i t=>exact slicePart_int h
theorem sliceApplied_gen{sl:Addr}{vl vu:Value}{lo hi:Option Int}{n:Nat}{Q:Int×Int×Nat->Shared->Prop}(hs:s.heap.IsSliceOf sl vl vu .none)(pl:IsPart vl lo)(pu:IsPart vu hi)
  (h:Q (((sIx n 0 lo:Nat):Int),1,sIx n n hi-sIx n 0 lo) s):wpAny (model prog w) A (Builtin.Slice.sliceApplied (.ref sl) (pure (n:Int))) Q E s:=by
 obtain⟨os,hos,hcs,hds⟩:=id hs;unfold Builtin.Slice.sliceApplied Builtin.Slice.sliceFields;refine wpAny_bind (wpAny_bind (wpAny_field hos hds (x:=vl) rfl (wpAny_bind (wpAny_field hos hds (x:=vu) rfl (wpAny_bind (wpAny_field hos hds (x:=.none) rfl (wpAny_pure ?_)))))));refine wpAny_bind (slicePart_none ?_);show wpAny _ _ (if ((1:Int)==0)=true then _ else _) _ _ s;rw[if_neg (by decide)];refine wpAny_bind (qi2z pl (wpAny_bind (qi2z pu (wpAny_bind (wpAny_pure ?_)))));show wpAny _ _ (match Builtin.Slice.sliceAdjust lo hi 1 (n:Int) with|(lo,hi)=>pure (lo,(1:Int),Builtin.Slice.slicePlaces lo hi 1)) _ _ s
 rw[qq5z lo hi n];show wpAny _ _ (pure (((sIx n 0 lo:Nat):Int),(1:Int),Builtin.Slice.slicePlaces ((sIx n 0 lo:Nat):Int) ((sIx n n hi:Nat):Int) 1)) _ _ s;rw[qq6z];exact wpAny_pure h
theorem qq7z(xs:Array Value)(i k:Nat):((List.range k).filterMap fun (m:Nat)=>xs[((i:Int)+(m:Int)*1).toNat]?).toArray=((xs.toList.drop i).take k).toArray:=by
 have e:(fun (m:Nat)=>xs[((i:Int)+(m:Int)*1).toNat]?)=fun m=>xs[i+m]?:=by
  funext m;have:((i:Int)+(m:Int)*1).toNat=i+m:=by omega
  rw[this]
 rw[e];have:=pick_run xs i k;rw[List.filterMap_map] at this;have e2:((fun x=>xs[x]?) ∘ fun x=>i+x)=fun m=>xs[i+m]?:=rfl;rw[e2] at this;rw[this]
theorem getItem_tuple_cut{t sl:Addr}{items:Array Value}{vl vu:Value}{lo hi:Option Int}{Q:Value->Shared->Prop}(ht:IsTup s.heap t items)(hs:s.heap.IsSliceOf sl vl vu .none)(pl:IsPart vl lo)(pu:IsPart vu hi)
  (hw:¬(sIx items.size 0 lo=0/\sIx items.size items.size hi=items.size))
  (h:Q (.ref s.heap.objs.size) { s with heap:=s.heap.push { cls:=.type "tuple",data:=.seq ((items.toList.drop (sIx items.size 0 lo)).take (sIx items.size items.size hi-sIx items.size 0 lo)).toArray }})
  (hsz:items.size≤sizeLine):wpAny (model prog w) A (getItem (.ref t) (.ref sl)) Q E s:=by
 have htake:sizeOk (.seq ((items.toList.drop (sIx items.size 0 lo)).take (sIx items.size items.size hi-sIx items.size 0 lo)).toArray):=by
  show ((items.toList.drop (sIx items.size 0 lo)).take (sIx items.size items.size hi-sIx items.size 0 lo)).toArray.size≤sizeLine;rw[List.size_toArray,List.length_take,List.length_drop,Array.length_toList];omega
 have hj:sIx items.size items.size hi≤items.size:=qq4z _ _ (Nat.le_refl _) hi;obtain⟨os,hos,hcs,hds⟩:=id hs;have hTs:s.TypeIs (.ref sl) "slice":=⟨os,hos,hcs⟩;unfold getItem
 try with_reducible refine wpAny_holding ?_
 first|refine wpAny_bind (wpAny_pure ?_)|skip
 refine wpAny_bind (wpAny_sequenceKey ht.typeIs (by decide) ?_);refine wpAny_bind (wpAny_callSpecial?_slot (name:=Str.ofString "__getitem__") ht.typeIs PyProof.Rows.slot_tuple_getitem
  (wpAny_call_entry PyProof.Rows.slot_tuple_getitem ht.typeIs entry_tuple_getitem ?_ (args_tuple_getitem _ _)))
 show wpAny _ _ (Builtin.Tuple.tupleItemsOf (.ref t) >>= _) _ _ s;refine wpAny_bind (tupleItemsOf_ ht ?_);refine wpAny_bind (wpAny_typeOf hTs ?_);rw[if_pos (by decide)];refine wpAny_bind (sliceApplied_gen hs pl pu ?_);have hno:¬((((sIx items.size 0 lo:Nat):Int)==0&&(1:Int)==1&&(sIx items.size items.size hi-sIx items.size 0 lo)==items.size)=true):=by
  intro q;rw[Bool.and_eq_true,Bool.and_eq_true] at q;have q1:((sIx items.size 0 lo:Nat):Int)=0:=eq_of_beq q.1.1;have q2:sIx items.size items.size hi-sIx items.size 0 lo=items.size:=eq_of_beq q.2;exact hw ⟨by omega,by omega⟩
 show wpAny _ _ (if (((sIx items.size 0 lo:Nat):Int)==0&&(1:Int)==1&&(sIx items.size items.size hi-sIx items.size 0 lo)==items.size)=true then _ else _) _ _ s;rw[if_neg hno,qq7z]
 first
  |exact wpAny_bind (m:=Builtin.Tuple.tupleExact _) (wpAny_newObj_type (wpAny_pure ⟨_,rfl,wpAny_pure h⟩) htake)
  |exact wpAny_bind (m:=Builtin.Tuple.tupleExact _) (wpAny_newObj_type (wpAny_bind (wpAny_pure (wpAny_pure ⟨_,rfl,wpAny_pure h⟩))) htake)
  |exact wpAny_bind (wpAny_bind (m:=Builtin.Tuple.tupleExact _) (wpAny_newObj_type (wpAny_pure (wpAny_pure ⟨_,rfl,wpAny_pure h⟩)) htake))
  |exact wpAny_bind (wpAny_bind (m:=Builtin.Tuple.tupleExact _) (wpAny_newObj_type (wpAny_pure ⟨_,rfl,wpAny_pure h⟩) htake))
end
end HT
namespace L2
open PySem PySem.Spec PyProof.Rows
abbrev TO:=St->Hp->(Option Int->Hp->Prop)->Prop
def PO(X:Cx)(e:Option Expr)(t:TO):Prop:=
 ∀(pins:List (Addr×Obj)) (s:Shared) (σ:St) (H:Hp) (Q:Option Int->Hp->Prop),Inv X pins σ H s->t σ H Q ->
  wpAny (model X.prog X.w) X.A (evalPart e X.env) (fun u s'=>∃o H',Inv X pins σ H' s'/\IsPart u o/\Q o H') X.xe s
def tNoPart:TO:=fun _ H Q=>Q none H
def tPart(t:TE):TO:=fun σ H Q=>t σ H fun x H1=>∃i,x=.int i/\Q (some i) H1
theorem intsAre_of{ns:List Int}:∀{us:List Value},Vals (ns.map V.int) us->IntsAre us ns:=by
 induction ns with
 |nil=>intro us r;rw[List.map_nil] at r;cases r;exact .nil
 |cons n ns ih=>
  intro us r;rw[List.map_cons] at r;cases r with
  |cons r1 r2=>
   obtain⟨t,e⟩:=r1;subst e;exact .cons n t (ih r2)
section
variable {X:Cx} {e:Expr} {te:TE} {lo hi:Option Expr} {tl th:TO} {pos p2:Pos}
theorem qq8z:PO X none tNoPart:=by
 intro pins s σ H Q I h;rw[evalPart_none];exact wpAny_pure ⟨none,H,I,.none,h⟩
theorem qq9z(h:PE X e te):PO X (some e) (tPart te):=by
 intro pins s σ H Q I hw;rw[evalPart_some];refine thn (h pins s σ H _ I hw) fun u s1 ⟨x,H1,I1,r1,q1⟩=>?_;obtain⟨i,rfl,q⟩:=q1;obtain⟨t,rfl⟩:=r1;exact⟨some i,H1,I1,.int i t,q⟩
def SlR(X:Cx)(r:V->Option Int->Option Int->Hp->VK->Prop):Prop:=
 ∀(pins:List (Addr×Obj)) (s:Shared) (σ:St) (H:Hp) (x:V) (v vl vu:Value) (lo hi:Option Int) (sl:Addr) (Q:VK),Inv X pins σ H s->RelV x v->s.heap.IsSliceOf sl vl vu .none->IsPart vl lo->IsPart vu hi->r x lo hi H Q ->
  ∃T id,typeLookup (.type T) "__getitem__" = pure (some (.builtin id))/\s.TypeIs v T/\wpAny (model X.prog X.w) X.A (getItem v (.ref sl)) (EP X pins σ Q) X.xe s
theorem SlR.or{r r':V->Option Int->Option Int->Hp->VK->Prop}(h:SlR X r)(h':SlR X r'):SlR X (fun x lo hi H Q=>r x lo hi H Q∨r' x lo hi H Q):=by
 intro pins s σ H x v vl vu lo hi sl Q I rx hs pl pu q;rcases q with q|q
 ·exact h pins s σ H x v vl vu lo hi sl Q I rx hs pl pu q
 ·exact h' pins s σ H x v vl vu lo hi sl Q I rx hs pl pu q
def tSl(r:V->Option Int->Option Int->Hp->VK->Prop)(te:TE)(tl th:TO):TE:=fun σ H Q=>te σ H fun x H1=>tl σ H1 fun l H2=>th σ H2 fun u H3=>r x l u H3 Q
theorem qraz{r:V->Option Int->Option Int->Hp->VK->Prop}(hr:SlR X r)(he:PE X e te)(hl:PO X lo tl)(hu:PO X hi th):PE X (.Subscript e (.Slice lo hi none p2) pos) (tSl r te tl th):=by
 intro pins s σ H Q I h;refine Subscript_ (thn (he pins s σ H _ I h) fun v s1 ⟨x,H1,I1,r1,q1⟩=>?_);refine wpAny_Slice (thn (hl pins s1 σ H1 _ I1 q1) fun vl s2 ⟨l,H2,I2,pl,q2⟩=>thn (hu pins s2 σ H2 _ I2 q2) fun vu s3 ⟨u,H3,I3,pu,q3⟩=>?_);rw[evalPart_none];refine wpAny_pure ?_;have I4:Inv X pins σ H3 { s3 with heap:=s3.heap.push { cls:=.type "slice",data:=.fields #[vl,vu,.none]}}:=I3.kept (t':=s3.toks) fun b ob q=>Heap.get?_push_of_some _ q;obtain⟨T,id,hT,ht,hg⟩:=hr pins { s3 with heap:=s3.heap.push { cls:=.type "slice",data:=.fields #[vl,vu,.none]}} σ H3 x v vl vu l u s3.heap.objs.size Q I4 r1 (Heap.IsSliceOf.new ..) pl pu q3;show wpAny (model X.prog X.w) X.A (subscriptTail e (.Slice lo hi none p2) v (.ref s3.heap.objs.size)) (EP X pins σ Q) X.xe { s3 with heap:=s3.heap.push { cls:=.type "slice",data:=.fields #[vl,vu,.none]}};exact tail_any (ops:=[.ref s3.heap.objs.size,v]) ht hT hg (by with_unfolding_all rfl)
def cutV(xs:List V)(lo hi:Option Int):List V:=(xs.drop (HT.sIx xs.length 0 lo)).take (HT.sIx xs.length xs.length hi-HT.sIx xs.length 0 lo)
theorem qi3z(xs:List V)(lo hi:Option Int):(cutV xs lo hi).length≤xs.length:=by
 unfold cutV;rw[List.length_take,List.length_drop];omega
def rSlT(K:PySem.W.Frag):V->Option Int->Option Int->Hp->VK->Prop:=fun x lo hi H Q=>∃a xs,x=.ref a/\SqT K H a xs ∧
 ¬(HT.sIx xs.length 0 lo=0/\HT.sIx xs.length xs.length hi=xs.length)/\∀p,H p=none->Q (.ref p) (upd H p (.tup (cutV xs lo hi)))
theorem sl_tup:SlR X (rSlT X.K):=by
 intro pins s σ H x v vl vu lo hi sl Q I rx hs pl pu h;obtain⟨a,xs,rfl,hx,hw,q⟩:=h;cases rx;obtain⟨its,r,ht,hz⟩:=I.tuple hx;have hlen:its.toArray.size=xs.length:=by rw[List.size_toArray];exact r.length.symm
 refine⟨"tuple",_,PyProof.Rows.slot_tuple_getitem.lookup,ht.typeIs,?_⟩;refine HT.getItem_tuple_cut ht hs pl pu (by rw[hlen];exact hw) ?_ (by rw[hlen];exact hz);rw[hlen];refine⟨.ref s.heap.objs.size,_,I.laid (t':=s.toks) (o:=.tup (cutV xs lo hi)) (fun b ob q=>Heap.get?_push_of_some _ q) (Nat.le_refl _) ?_,rfl,q _ (I.hok.fresh (Nat.le_refl _))⟩;exact⟨Nat.le_trans (qi3z xs lo hi) hz,_,(r.drop (HT.sIx xs.length 0 lo)).take (HT.sIx xs.length xs.length hi-HT.sIx xs.length 0 lo),IsTup2.new _ _⟩
def rLtT(K:PySem.W.Frag):R2:=fun x y H Q=>∃a b ns ms,x=.ref a/\y=.ref b/\SqT K H a (ns.map V.int)/\SqT K H b (ms.map V.int)/\Q (.bl (HT.lexLt ns ms)) H
theorem qrbz(hu:X.A.units<cLine):OpR X (compareOp .Lt) (rLtT X.K):=by
 intro pins s σ H x y v u Q I rx ry h;obtain⟨a,b,ns,ms,rfl,rfl,ha,hb,q⟩:=h;cases rx;cases ry;obtain⟨its,r1,p1,_⟩:=I.tuple ha;obtain⟨its2,r2,p2,_⟩:=I.tuple hb;have i1:IntsAre its.toArray.toList ns:=intsAre_of r1;have i2:IntsAre its2.toArray.toList ms:=intsAre_of r2;exact HT.lt_tupInts p1 p2 i1 i2 hu ⟨.bl (HT.lexLt ns ms),H,I,rfl,q⟩
def rCatT(K:PySem.W.Frag):R2:=fun x y H Q=>∃a b xs ys,x=.ref a/\y=.ref b/\SqT K H a xs/\SqT K H b ys/\xs≠[]/\xs.length+ys.length≤sizeLine ∧
 (ys=[]->Q (.ref a) H)/\(ys≠[]->∀p,H p=none->Q (.ref p) (upd H p (.tup (xs++ys))))
theorem Vals.nil_iff{xs:List V}{us:List Value}(r:Vals xs us):us=[]↔xs=[]:=by
 cases r with
 |nil=>simp
 |cons _ _=>simp
theorem op_catT:OpR X (binaryOp .Add) (rCatT X.K):=by
 intro pins s σ H x y v u Q I rx ry h;obtain⟨a,b,xs,ys,rfl,rfl,ha,hb,hx,hz,q1,q2⟩:=h;cases rx;cases ry;obtain⟨its,r1,p1,_⟩:=I.tuple ha;obtain⟨its2,r2,p2,_⟩:=I.tuple hb;refine HT.cat_tup p1 p2 (fun z=>hx (r1.nil_iff.mp z)) (fun z=>⟨.ref a,H,I,rfl,q1 (r2.nil_iff.mp z)⟩) (fun z=>?_) (by rw[←r1.length,←r2.length];exact hz);refine⟨.ref s.heap.objs.size,_,I.laid (t':=s.toks) (o:=.tup (xs++ys)) (fun b ob q=>Heap.get?_push_of_some _ q) (Nat.le_refl _) ?_,rfl,q2 (fun w=>z (r2.nil_iff.mpr w)) _ (I.hok.fresh (Nat.le_refl _))⟩;exact⟨by rw[List.length_append];exact hz,_,r1.append r2,IsTup2.new _ _⟩
end
end L2
namespace L2
open PySem PySem.Spec PyProof.Rows
def ixN(n:Nat)(i:Int):Option Nat:=if 0≤i then (if i<n then some i.toNat else none) else if -(n:Int)≤i then some (i+n).toNat else none
def atI{α:Type}(xs:List α)(i:Int):Option α:=(ixN xs.length i).bind fun j=>xs[j]?
theorem qi4z{n:Nat}{i:Int}{j:Nat}(h:ixN n i=some j):seqIndex? i n=some j/\j<n/\-(n:Int)≤i/\i<n:=by
 unfold ixN at h;by_cases h0:0≤i
 ·rw[if_pos h0] at h;by_cases h1:i<n
  ·rw[if_pos h1] at h;have e:i.toNat=j:=Option.some.inj h;exact⟨by rw[seqIndex_of h0 h1,e],by omega,by omega,h1⟩
  ·rw[if_neg h1] at h;cases h
 ·rw[if_neg h0] at h;by_cases h1:-(n:Int)≤i
  ·rw[if_pos h1] at h;have e:(i+n).toNat=j:=Option.some.inj h;exact⟨by rw[seqIndex_neg (by omega) h1,e],by omega,h1,by omega⟩
  ·rw[if_neg h1] at h;cases h
theorem qfzz{α:Type}{xs:List α}{i:Int}{v:α}(h:atI xs i=some v):∃j,seqIndex? i xs.length=some j/\xs[j]?=some v/\j<xs.length/\-(xs.length:Int)≤i/\i<xs.length:=by
 unfold atI at h;cases e:ixN xs.length i with
 |none=>rw[e] at h;cases h
 |some j=>
  rw[e] at h;obtain⟨h1,h2,h3,h4⟩:=qi4z e;exact⟨j,h1,h,h2,h3,h4⟩
theorem qbjz{α:Type}{xs:List α}{j:Nat}{v:α}(h:xs[j]?=some v):atI xs (j:Int)=some v:=by
 have hj:j<xs.length:=(List.getElem?_eq_some_iff.mp h).1;have e:ixN xs.length (j:Int)=some j:=by
  unfold ixN;rw[if_pos (by omega),if_pos (by omega)];simp
 unfold atI;rw[e];exact h
def PlainIx(b:Expr):Prop:=∀o i,subscripted b false o i=operate [o,i] (getItem o i)
def IxR(X:Cx)(r:R2):Prop:=
 ∀(value slice:Expr) (pins:List (Addr×Obj)) (s:Shared) (σ:St) (H:Hp) (x y:V) (v u:Value) (Q:VK),Inv X pins σ H s->RelV x v->RelV y u->r x y H Q ->
  subscripted slice false v u=operate [v,u] (getItem v u)->wpAny (model X.prog X.w) X.A (subscriptTail value slice v u) (EP X pins σ Q) X.xe s
def MtR(X:Cx)(id:String)(r:V->List V->Hp->VK->Prop):Prop:=
 ∀(pins:List (Addr×Obj)) (s:Shared) (σ:St) (H:Hp) (x:V) (xs:List V) (v:Value) (us:List Value) (Q:VK),Inv X pins σ H s->RelV x v->Vals xs us->r x xs H Q ->
  wpAny (model X.prog X.w) X.A (call (.builtin id) (v::us)) (EP X pins σ Q) X.xe s
section
variable {X:Cx} {a b:Expr} {ta tb:TE} {pos:Pos}
theorem IxR.or{r r':R2}(h:IxR X r)(h':IxR X r'):IxR X (fun x y H Q=>r x y H Q∨r' x y H Q):=by
 intro value slice pins s σ H x y v u Q I rx ry q hs;rcases q with q|q
 ·exact h value slice pins s σ H x y v u Q I rx ry q hs
 ·exact h' value slice pins s σ H x y v u Q I rx ry q hs
theorem qi5z{r:R2}(hr:IxR X r)(ha:PE X a ta)(hb:PE X b tb)(hs:PlainIx b):PE X (.Subscript a b pos) (tOp r ta tb):=by
 intro pins s σ H Q I h;exact Subscript_ (binT ha hb I h fun v u s2 x y H2 I2 rx ry q=>hr a b pins s2 σ H2 x y v u Q I2 rx ry q (hs _ _))
def rIxL(K:PySem.W.Frag):R2:=fun x y H Q=>∃p xs i v,x=.ref p/\y=.int i/\SqL K H p xs/\atI xs i=some v/\Q v H
def rIxT(K:PySem.W.Frag):R2:=fun x y H Q=>∃p xs i v,x=.ref p/\y=.int i/\SqT K H p xs/\atI xs i=some v/\Q v H
def rIxS:R2:=fun x y H Q=>∃z i c,x=.str z/\y=.int i/\z.length≤sizeLine/\atI z.cps.toList i=some c/\Q (.str ⟨#[c]⟩) H
theorem ix_list:IxR X (rIxL X.K):=by
 intro value slice pins s σ H x y v u Q I rx ry h hs;obtain⟨p,xs,i,z,rfl,rfl,hq,he,q⟩:=h;cases rx;obtain⟨t,rfl⟩:=ry;obtain⟨its,r,pl,hz⟩:=I.list hq;obtain⟨j,h1,h2,h3,h4,h5⟩:=qfzz he;obtain⟨w,ew,rw'⟩:=r.get h2;have hl:=r.length;have hn:=line63;have fin:EP X pins σ Q w s:=⟨z,H,I,rw',q⟩;by_cases h0:0≤i
 ·have hj:i.toNat=j:=by
   rw[seqIndex_of h0 h5] at h1;exact Option.some.inj h1
  exact item_listR pl.isList h0 (by omega) (by rw[hj];simpa using ew) fin hs
 ·have hj:(i+(its.toArray.size:Int)).toNat=j:=by
   rw[seqIndex_neg (by omega) h4] at h1;rw[List.size_toArray,←hl];exact Option.some.inj h1
  exact subscriptTail_builtinR (x:=w) pl.isList.typeIs slot_list_getitem.lookup
   (wpAny_getItem_list_neg (Q:=fun r s'=>r=w/\EP X pins σ Q r s') pl.isList (by omega) (by rw[List.size_toArray]<;>omega) (by omega) (by rw[hj];simpa using ew) ⟨rfl,fin⟩) hs
theorem ix_tup:IxR X (rIxT X.K):=by
 intro value slice pins s σ H x y v u Q I rx ry h hs;obtain⟨p,xs,i,z,rfl,rfl,hq,he,q⟩:=h;cases rx;obtain⟨t,rfl⟩:=ry;obtain⟨its,r,pl,hz⟩:=I.tuple hq;obtain⟨j,h1,h2,h3,h4,h5⟩:=qfzz he;obtain⟨w,ew,rw'⟩:=r.get h2;have hl:=r.length;have hn:=line63;have fin:EP X pins σ Q w s:=⟨z,H,I,rw',q⟩;exact subscriptTail_builtinR (x:=w) pl.typeIs slot_tuple_getitem.lookup
  (getItem_tuple (j:=j) (Q:=fun r s'=>r=w/\EP X pins σ Q r s') pl (by omega) (by omega) (by rw[List.size_toArray,←hl];exact h1) (by simpa using ew) ⟨rfl,fin⟩) hs
theorem qrcz:IxR X rIxS:=by
 intro value slice pins s σ H x y v u Q I rx ry h hs;obtain⟨z,i,c,rfl,rfl,hz,he,q⟩:=h;obtain⟨t,rfl⟩:=rx;obtain⟨t',rfl⟩:=ry;obtain⟨j,h1,h2,h3,h4,h5⟩:=qfzz he;have hl:z.cps.toList.length=z.length:=by simp[Str.length]
 rw[hl] at h1 h4 h5;have hn:=line63;exact tail_any (typeIs_str s z t) slot_str_getitem.lookup (getItem_str (c:=c) (by
  have e1:decide (i < -(2^63:Int))=false:=decide_eq_false (by omega);have e2:decide (i≥2^63)=false:=decide_eq_false (by omega);rw[e1,e2,Bool.or_false]) (by rw[h1];simpa using h2) ⟨.str ⟨#[c]⟩,H,I.tok _,⟨_,rfl⟩,q⟩) hs
def rIx(K:PySem.W.Frag):R2:=fun x y H Q=>rIxL K x y H Q∨rIxT K x y H Q∨rIxS x y H Q
theorem qi6z:IxR X (rIx X.K):=ix_list.or (ix_tup.or qrcz)
theorem qrdz(its:List Value)(n j:Nat)(u:Value):Obj.mapSeq (·.setIfInBounds j u) { cls:=.type "list",data:=.seq its.toArray n }={ cls:=.type "list",data:=.seq (its.set j u).toArray n }:=by
 simp[Obj.mapSeq]
theorem Inv.lst{pins:List (Addr×Obj)}{σ:St}{H:Hp}{s:Shared}{p:Addr}{xs:List V}(I:Inv X pins σ H s)(h:H p=some (.lst xs)):
  ∃(its:List Value) (n:Nat),Vals xs its/\s.heap.get? p=some { cls:=.type "list",data:=.seq its.toArray n }/\xs.length≤sizeLine:=by
 obtain⟨z,its,n,r,e⟩:=I.hok p _ h;exact⟨its,n,r,e,z⟩
theorem Inv.lstUpd{pins:List (Addr×Obj)}{σ:St}{H:Hp}{s:Shared}{p:Addr}{xs ys:List V}{its its':List Value}{n n':Nat}{f:Obj->Obj}(I:Inv X pins σ H s)(h:H p=some (.lst xs))
  (ho:s.heap.get? p=some { cls:=.type "list",data:=.seq its.toArray n }) (hf:f { cls:=.type "list",data:=.seq its.toArray n }={ cls:=.type "list",data:=.seq its'.toArray n' }) (r:Vals ys its') (hz:ys.length≤sizeLine) (t:Nat):
  Inv X pins σ (upd H p (.lst ys)) { s with heap:=s.heap.update p f,toks:=t }:=by
 have e:(s.heap.update p f).get? p=some { cls:=.type "list",data:=.seq its'.toArray n' }:=by
  rw[Heap.get?_update_self f ho (by rw[hf]<;>rfl),hf]
 refine I.write (x:=p) (e:=p) (by rw[h];trivial) (.inl rfl) (fun b u hb q=>(Heap.get?_update_other _ _ (Ne.symm hb)).trans q) ⟨_,e⟩ ?_;exact⟨hz,its',n',r,e⟩
def rSetL:V->V->V->Hp->(Hp->Prop)->Prop:=fun o i v H Q=>∃p xs k j,o=.ref p/\i=.int k/\H p=some (.lst xs)/\ixN xs.length k=some j/\Q (upd H p (.lst (xs.set j v)))
theorem set_list:PSet X rSetL:=by
 intro pins s σ H o i v ov iv u Q I ro ri rv h;obtain⟨p,xs,k,j,rfl,rfl,hp,hj,q⟩:=h;cases ro;obtain⟨t,rfl⟩:=ri;obtain⟨its,n,r,ho,hz⟩:=I.lst hp;obtain⟨h1,h2,h3,h4⟩:=qi4z hj;have hl:=r.length;have hn:=line63;have I':Inv X pins σ (upd H p (.lst (xs.set j v))) { s with heap:=s.heap.update p (Obj.mapSeq (·.setIfInBounds j u))}:=
  I.lstUpd hp ho (qrdz its n j u) (r.set rv j) (by rw[List.length_set];exact hz) s.toks
 by_cases h0:0≤k
 ·have hk:k.toNat=j:=by
   rw[seqIndex_of h0 h4] at h1;exact Option.some.inj h1
  exact PySem.W.ki_setAt ho h0 (by omega) (by rw[List.size_toArray,←hl];exact h4) (by rw[hk];exact⟨_,I',q⟩)
 ·have hk:(k+(its.toArray.size:Int)).toNat=j:=by
   rw[seqIndex_neg (by omega) h3] at h1;rw[List.size_toArray,←hl];exact Option.some.inj h1
  exact PySem.W.ki_setBack ho (by omega) (by rw[List.size_toArray,←hl];exact h3) (by omega) (by rw[hk];exact⟨_,I',q⟩)
theorem qrez(lo hi:Option Int)(n:Nat):(sliceBounds lo hi none n).1=((HT.sIx n 0 lo:Nat):Int)/\(sliceBounds lo hi none n).2.1=((HT.sIx n n hi:Nat):Int)/\(sliceBounds lo hi none n).2.2=1:=by
 refine⟨?_,?_,rfl⟩
 ·cases lo with
  |none=>simp[sliceBounds,HT.sIx]
  |some i=>
   simp only[sliceBounds,HT.sIx,Option.getD_none,show (1:Int) > 0 by decide,if_true];by_cases h:i<0
   ·simp only[h,if_true]<;>omega
   ·simp only[h,if_false]<;>omega
 ·cases hi with
  |none=>simp[sliceBounds,HT.sIx]
  |some i=>
   simp only[sliceBounds,HT.sIx,Option.getD_none,show (1:Int) > 0 by decide,if_true];by_cases h:i<0
   ·simp only[h,if_true]<;>omega
   ·simp only[h,if_false]<;>omega
theorem qrfz(its:List Value)(lo hi:Option Int):slicePick its.toArray lo hi none=((its.drop (HT.sIx its.length 0 lo)).take (HT.sIx its.length its.length hi-HT.sIx its.length 0 lo)).toArray:=by
 obtain⟨h1,h2,h3⟩:=qrez lo hi its.toArray.size;unfold slicePick;rw[h1,h2,h3];simp only[sliceRange_one,pick_run,List.size_toArray]<;>rfl
def rSlL(K:PySem.W.Frag):V->Option Int->Option Int->Hp->VK->Prop:=fun x lo hi H Q=>∃a xs,x=.ref a/\SqL K H a xs/\∀p,H p=none->Q (.ref p) (upd H p (.lst (cutV xs lo hi)))
theorem qrgz:SlR X (rSlL X.K):=by
 intro pins s σ H x v vl vu lo hi sl Q I rx hs pl pu h;obtain⟨a,xs,rfl,hx,q⟩:=h;cases rx;obtain⟨its,r,ht,hz⟩:=I.list hx;have hlen:=r.length;refine⟨"list",_,slot_list_getitem.lookup,ht.isList.typeIs,?_⟩;refine wpAny_getItem_list_slice ht.isList hs pl pu .none (by simp) ?_ (by rw[List.size_toArray]<;>omega)
 rw[qrfz,←hlen];refine⟨.ref s.heap.objs.size,_,I.laid (t':=s.toks) (o:=.lst (cutV xs lo hi)) (fun b ob q=>Heap.get?_push_of_some _ q) (Nat.le_refl _) ?_,rfl,q _ (I.hok.fresh (Nat.le_refl _))⟩;exact⟨Nat.le_trans (qi3z xs lo hi) hz,_,0,(r.drop (HT.sIx xs.length 0 lo)).take (HT.sIx xs.length xs.length hi-HT.sIx xs.length 0 lo),Heap.get?_push_size _ rfl⟩
theorem qrhz:CallR X (.builtin "len") (fun xs H Q=>∃p ys,xs=[.ref p]/\(SqL X.K H p ys∨SqT X.K H p ys)/\Q (.int ys.length) H):=by
 intro pins s σ H xs us Q I r h;obtain⟨p,ys,rfl,hq,q⟩:=h;obtain⟨u,rfl,rx⟩:=vals1 r;cases rx;have hn:=line63;rcases hq with hq|hq
 ·obtain⟨its,r',pl,hz⟩:=I.list hq;have hlen:=r'.length;exact Calls.call_len_list pl.isList (by simp only[List.size_toArray]<;>omega) ⟨.int ys.length,H,I.tok _,⟨s.toks+1,by rw[List.size_toArray,hlen]⟩,q⟩
 ·obtain⟨its,r',pl,hz⟩:=I.tuple hq;have hlen:=r'.length;exact len_tuple pl (by simp only[List.size_toArray]<;>omega) ⟨.int ys.length,H,I.tok _,⟨s.toks+1,by rw[List.size_toArray,hlen]⟩,q⟩
theorem qriz:CallR X (.type "list") (fun xs H Q=>∃p ys,xs=[.ref p]/\(SqL X.K H p ys∨SqT X.K H p ys)/\∀l,H l=none->Q (.ref l) (upd H l (.lst ys))):=by
 intro pins s σ H xs us Q I r h;obtain⟨p,ys,rfl,hq,q⟩:=h;obtain⟨u,rfl,rx⟩:=vals1 r;cases rx;have fin:∀(its:List Value),Vals ys its->ys.length≤sizeLine->∀(h':Heap) (c':Nat),(∀b o',s.heap.get? b=some o'->h'.get? b=some o') ->
   h'.get? s.heap.objs.size=some { cls:=.type "list",dict:=none,data:=.seq its.toArray c',slots:=#[]}->EP X pins σ Q (.ref s.heap.objs.size) { s with heap:=h' }:=fun its r' hz h' c' kp e=>
  ⟨.ref s.heap.objs.size,_,I.laid (t':=s.toks) kp (Nat.le_refl _) (show ObjOk X.prog X.w _ h' _ (.lst ys) from⟨hz,its,c',r',e⟩),rfl,q _ (I.hok.fresh (Nat.le_refl _))⟩
 rcases hq with hq|hq
 ·obtain⟨its,r',pl,hz⟩:=I.list hq;have hlen:=r'.length;obtain⟨o,ho,hc,n,hd⟩:=pl.isList;exact call_list_seq p (.inl rfl) ho hc hd (fun h' c' kp e=>fin its r' hz h' c' kp e) (by simp only[List.size_toArray]<;>omega)
 ·obtain⟨its,r',pl,hz⟩:=I.tuple hq;have hlen:=r'.length;obtain⟨o,ho,hc,n,hd⟩:=pl;exact call_list_seq p (.inr rfl) ho hc hd (fun h' c' kp e=>fin its r' hz h' c' kp e) (by simp only[List.size_toArray]<;>omega)
theorem qrjz:CallR X (.type "tuple") (fun xs H Q=>∃p ys,xs=[.ref p]/\((SqL X.K H p ys/\∀l,H l=none->Q (.ref l) (upd H l (.tup ys)))∨(SqT X.K H p ys/\Q (.ref p) H))):=by
 intro pins s σ H xs us Q I r h;obtain⟨p,ys,rfl,h⟩:=h;obtain⟨u,rfl,rx⟩:=vals1 r;cases rx;rcases h with⟨hq,q⟩|⟨hq,q⟩
 ·obtain⟨its,r',pl,hz⟩:=I.list hq;have hlen:=r'.length;refine call_tuple_list pl.isList (fun h' kp=>?_) (by simp only[List.size_toArray]<;>omega)
  have I1:Inv X pins σ H { s with heap:=h' }:=I.kept (t':=s.toks) kp;have I2:Inv X pins σ (upd H h'.objs.size (.tup ys)) { s with heap:=h'.push { cls:=.type "tuple",data:=.seq its.toArray }}:=
   I1.laid (t':=s.toks) (fun b o e=>Heap.get?_push_of_some _ e) (Nat.le_refl _) (show ObjOk X.prog X.w _ _ _ (.tup ys) from⟨hz,its,r',IsTup2.new _ _⟩)
  exact⟨.ref h'.objs.size,_,I2,rfl,q _ (I1.hok.fresh (Nat.le_refl _))⟩
 ·obtain⟨its,r',pl,hz⟩:=I.tuple hq;exact call_tuple_same pl ⟨.ref p,H,I,rfl,q⟩
def tyV(K:PySem.W.Frag)(T:String)(x:V)(H:Hp):Prop:=match x with
 |.str _=>T="str"
 |.int _=>T="int"
 |.ref p=>(T="list"/\∃xs,SqL K H p xs)∨(T="tuple"/\∃o,K.lookup p=some o/\o.cls=.type "tuple"/\o.dict=none) ∨
   (T="dict"/\((∃kvs,H p=some (.dK kvs))∨∃kvs,H p=some (.dT kvs)))∨(T="set"/\∃S n,H p=some (.set S n))
 |_=>False
theorem qrkz{pins:List (Addr×Obj)}{σ:St}{H:Hp}{s:Shared}{T:String}{x:V}{v:Value}(I:Inv X pins σ H s)(r:RelV x v)(ty:tyV X.K T x H):
  s.TypeIs v T/\∀a,v=.ref a->∃ob,s.heap.get? a=some ob/\ob.dict=none:=by
 cases x with
 |str z=>
  obtain⟨t,rfl⟩:=r;cases (show T="str" from ty);exact⟨typeIs_str s z t,fun _ e=>nomatch e⟩
 |int i=>
  obtain⟨t,rfl⟩:=r;cases (show T="int" from ty);exact⟨typeIs_int s i t,fun _ e=>nomatch e⟩
 |ref p=>
  cases r;rcases ty with⟨rfl,xs,hq⟩|⟨rfl,o,hk,hc,hd⟩|⟨rfl,hk⟩|⟨rfl,S,n,hk⟩
  ·obtain⟨its,_,pl,_⟩:=I.list hq;refine⟨pl.isList.typeIs,fun a e=>?_⟩;cases e;obtain⟨o,n,e,c,hd,_⟩:=pl;exact⟨o,e,hd⟩
  ·refine⟨⟨o,I.kIn p o hk,hc⟩,fun a e=>?_⟩;cases e;exact⟨o,I.kIn _ o hk,hd⟩
  ·have z:∃o,s.heap.get? p=some o/\o.ExactDict:=by
    rcases hk with⟨kvs,hk⟩|⟨kvs,hk⟩
    ·obtain⟨_,_,_,_,o,_,_,e,ex,_⟩:=I.hok p _ hk;exact⟨o,e,ex⟩
    ·obtain⟨_,_,_,_,o,_,_,e,ex,_⟩:=I.hok p _ hk;exact⟨o,e,ex⟩
   obtain⟨o,e,ex⟩:=z;refine⟨⟨o,e,ex.1⟩,fun a e2=>?_⟩;cases e2;exact⟨o,e,ex.2.1⟩
  ·obtain⟨o,_,_,_,e,ex,_⟩:=I.hok p _ hk;refine⟨⟨o,e,ex.1⟩,fun a e2=>?_⟩;cases e2;exact⟨o,e,ex.2.1⟩
 |_=>exact False.elim ty
def tBM(K:PySem.W.Frag)(T:String)(r:V->List V->Hp->VK->Prop)(to:TE)(t:TA):TE:=fun σ H Q=>to σ H fun x H1=>tyV K T x H1/\t σ H1 fun xs H2=>r x xs H2 Q
variable {o e:Expr} {es:List Expr} {to:TE} {t:TA} {name:Str} {apos cpos:Pos} {T id:String} {r:V->List V->Hp->VK->Prop}
theorem qrlz(pa:PlainAttrs T)(slot:Slot T name id)(hty:typeOf (.builtin id)=pure (.type "method_descriptor"))(hm:MtR X id r)(ho:PE X o to)(ha:PA X (e::es) t)
  (hbase:attributeBase o name X.env (eval o X.env)=eval o X.env:=by rfl)
  (hfew:((backTo cpos (starEach (e::es) X.env)).all (fun x=>!x.1)&&(backToKw cpos (keywordEach [] X.env)).all (fun x=>x.1.isSome)
   && decide ((e::es).length+([]:List Keyword).length+(if ([]:List Keyword).isEmpty then 0 else 1)<30))=true:=by rfl)
  (hline:(apos.endLine==cpos.line)=true:=by rfl) (hs:starEach (e::es) X.env=(false,eval e X.env)::starEach es X.env:=by rfl) (hplain:(backTo cpos (starEach es X.env)).any (·.1)=false:=by rfl):
  PE X (.Call (.Attribute o name apos) (e::es) [] cpos) (tBM X.K T r to t):=by
 intro pins s σ H Q I h;refine wpAny_Call_method_late hbase hfew hline rfl (thn (ho pins s σ H _ I h) fun v s1 ⟨x,H1,I1,r1,ty,q1⟩=>?_);obtain⟨h1,h2⟩:=qrkz I1 r1 ty;refine⟨T,id,pa,slot,hty,h1,h2,?_⟩;have hA:=ha cpos pins s1 σ H1 _ I1 q1;rw[hs] at hA ⊢;refine Calls.callWith_builtin (by show (false||(backTo cpos (starEach es X.env)).any (·.1))=false;rw[hplain]<;>rfl) (Calls.evalArgs_plain ?_)
 exact thn hA fun us s2 ⟨vs,H2,I2,r2,q2⟩=>hm pins s2 σ H2 x vs v us Q I2 r1 r2 q2
/- xs.append(e),list.index on a module's tuple .. are MtR facts of 06m -/
end
end L2
namespace L2
open PySem PySem.Spec PyProof.Rows
def MtM(X:Cx)(id:String)(r:V->List V->Hp->VK->Prop):Prop:=
 ∀(pins:List (Addr×Obj)) (s:Shared) (σ:St) (H:Hp) (x:V) (xs:List V) (v:Value) (us:List Value) (Q:VK),Inv X pins σ H s->RelV x v->Vals xs us->r x xs H Q ->
  wpAny (model X.prog X.w) X.A (call (.builtin id) (v::us)) (EP X pins σ Q) X.xe s
theorem Vals.one:∀{x:V} {us:List Value},Vals [x] us->∃u,us=[u]/\RelV x u
 |_,_,.cons r .nil=>⟨_,rfl,r⟩
theorem Vals.eraseIdx:∀{xs:List V} {us:List Value} (i:Nat),Vals xs us->Vals (xs.eraseIdx i) (us.eraseIdx i)
 |_,_,_,.nil=>.nil
 |_,_,0,.cons _ t=>t
 |_,_,i+1,.cons r t=>.cons r (Vals.eraseIdx i t)
theorem Vals.rep{xs:List V}{us:List Value}(h:Vals xs us):∀k:Nat,Vals (List.replicate k xs).flatten (List.replicate k us).flatten
 |0=>.nil
 |k+1=>by
  rw[List.replicate_succ,List.replicate_succ,List.flatten_cons,List.flatten_cons];exact Vals.append h (Vals.rep h k)
theorem qf0z{α:Type}:∀(l:List α) (i:Nat),(l.eraseIdx i).length≤l.length
 |[],_=>Nat.le_refl _
 |_::_,0=>Nat.le_succ _
 |_::r,i+1=>Nat.succ_le_succ (qf0z r i)
theorem foldl_rep(its:List Value):∀(k:Nat) (acc:List Value),
  List.foldl (fun x1 x2=>x1++x2) acc.toArray (List.replicate k its.toArray)=(acc++(List.replicate k its).flatten).toArray
 |0,acc=>by simp
 |k+1,acc=>by
  have e:acc.toArray++its.toArray=(acc++its).toArray:=by simp
  have e2:(acc++its)++(List.replicate k its).flatten=acc++(List.replicate (k+1) its).flatten:=by
   rw[List.replicate_succ,List.flatten_cons,List.append_assoc]
  rw[←e2,←foldl_rep its k (acc++its),←e,List.replicate_succ,List.foldl_cons]
section
variable {X:Cx} {pins:List (Addr×Obj)} {σ:St} {H:Hp} {s:Shared} {l b:Addr} {xs ys zs:List V}
theorem Inv.lset{its its':List Value}{n:Nat}{f:Array Value->Array Value}{t':Nat}(I:Inv X pins σ H s)(hH:H l=some (.lst xs))
  (e:s.heap.get? l=some { cls:=.type "list",data:=.seq its.toArray n }) (hf:f its.toArray=its'.toArray) (hv:Vals ys its') (hz:ys.length≤sizeLine):
  Inv X pins σ (upd H l (.lst ys)) { s with heap:=s.heap.update l (Obj.mapSeq f),toks:=t' }:=by
 have q:=PySem.IsL.update e f;rw[hf] at q;refine I.write (x:=l) (e:=l) (by rw[hH];exact trivial) (.inl rfl) (fun b' u hb hu=>(Heap.get?_update_other s.heap (Obj.mapSeq f) (Ne.symm hb)).trans hu) ⟨_,q⟩ ?_;exact⟨hz,its',_,hv,q⟩
theorem Inv.lnew{its:List Value}{t':Nat}(I:Inv X pins σ H s)(hv:Vals ys its)(hz:ys.length≤sizeLine):
  Inv X pins σ (upd H s.heap.objs.size (.lst ys)) { s with heap:=s.heap.push { cls:=.type "list",data:=.seq its.toArray },toks:=t' }:=
 I.laid (fun _ _ q=>Heap.get?_push_of_some _ q) (Nat.le_refl _) ⟨hz,its,0,hv,Heap.get?_push_size _ rfl⟩
theorem Inv.fresh(I:Inv X pins σ H s):H s.heap.objs.size=none:=I.hok.fresh (Nat.le_refl _)
theorem Inv.lstM(I:Inv X pins σ H s)(hH:H l=some (.lst xs)):xs.length≤sizeLine/\∃(its:List Value) (n:Nat),Vals xs its/\xs.length=its.length/\s.heap.get? l=some { cls:=.type "list",data:=.seq its.toArray n }:=by
 obtain⟨z,its,n,r,e⟩:=I.hok l _ hH;exact⟨z,its,n,r,r.length,e⟩
theorem notLongL{n:Nat}(h:n≤sizeLine):Builtin.List.listTooLong n=false:=by
 unfold Builtin.List.listTooLong;exact decide_eq_false (by omega)
end
section
variable {X:Cx}
def rAppend:V->List V->Hp->VK->Prop:=fun x vs H Q=>∃l xs y,x=.ref l/\vs=[y]/\H l=some (.lst xs)/\xs.length<sizeLine/\Q .non (upd H l (.lst (xs++[y])))
theorem qeez:MtM X "list.append" rAppend:=by
 intro pins s σ H x vs v us Q I rx rv h;obtain⟨l,xs,y,rfl,rfl,hH,hz,q⟩:=h;cases rx;obtain⟨u,rfl,ru⟩:=rv.one;obtain⟨z,its,n,r,hl,e⟩:=I.lstM hH;refine call_meets F.slot_list_append ⟨_,e,rfl⟩ F.entry_list_append (F.args_list_append_2 _ _) (PySem.list_append l its.toArray n u (by rw[List.size_toArray];omega)) ⟨e,?_⟩;refine⟨.non,_,I.lset (its':=its++[u]) hH e (by simp) (r.append (.cons ru .nil)) ?_,rfl,q⟩;rw[List.length_append,List.length_singleton];omega
def rExtend:V->List V->Hp->VK->Prop:=fun x vs H Q=>∃l b xs zs,x=.ref l/\vs=[.ref b]/\H l=some (.lst xs)/\H b=some (.lst zs)/\xs.length+zs.length≤sizeLine/\Q .non (upd H l (.lst (xs++zs)))
theorem qrmz:MtM X "list.extend" rExtend:=by
 intro pins s σ H x vs v us Q I rx rv h;obtain⟨l,b,xs,zs,rfl,rfl,hH,hB,hz,q⟩:=h;cases rx;obtain⟨u,rfl,ru⟩:=rv.one;cases ru;obtain⟨z,its,n,r,hl,e⟩:=I.lstM hH;obtain⟨z2,its2,n2,r2,hl2,e2⟩:=I.lstM hB;have hsz:its.toArray.size+its2.toArray.size≤sizeLine:=by rw[List.size_toArray,List.size_toArray];omega
 have hlong:¬(!its.toArray.isEmpty&&Builtin.List.listTooLong (its.toArray.size+its2.toArray.size))=true:=by
  rw[notLongL hsz,Bool.and_false];exact Bool.false_ne_true
 refine call_meets F.slot_list_extend ⟨_,e,rfl⟩ F.entry_list_extend (F.args_list_extend_2 _ _)
  (AutoSeq1.list_extend_list_list_0 l its.toArray n b its2.toArray n2 hlong (by rw[List.size_toArray];omega) (by omega)) ⟨e,e2,?_⟩
 refine⟨.non,_,I.lset (its':=its++its2) hH e (by simp) (r.append r2) ?_,rfl,q⟩;rw[List.length_append];omega
def rPopAt:V->List V->Hp->VK->Prop:=fun x vs H Q=>∃l xs i k y,x=.ref l/\vs=[.int i]/\H l=some (.lst xs)/\-(2^63)≤i/\i<2^63/\seqIndex? i xs.length=some k/\xs[k]?=some y/\Q y (upd H l (.lst (xs.eraseIdx k)))
theorem qi7z:MtM X "list.pop" rPopAt:=by
 intro pins s σ H x vs v us Q I rx rv h;obtain⟨l,xs,i,k,y,rfl,rfl,hH,h1,h2,hk,hy,q⟩:=h;cases rx;obtain⟨u,rfl,ru⟩:=rv.one;obtain⟨t,rfl⟩:=ru;obtain⟨z,its,n,r,hl,e⟩:=I.lstM hH;obtain⟨w,hw,rw'⟩:=r.get hy;refine call_meets F.slot_list_pop ⟨_,e,rfl⟩ F.entry_list_pop (F.args_list_pop_2 _ _)
  (MeetsSeq.list_pop_at l its.toArray n i t k w (fitsIndex_both h1 h2) (by rw[List.size_toArray,←hl];exact hk) (by rw[←Array.getElem?_toList];exact hw) (by rw[List.size_toArray];omega)) ⟨e,?_⟩
 refine⟨y,_,I.lset (its':=its.eraseIdx k) hH e ?_ (r.eraseIdx k) ?_,rw',q⟩
 ·show its.toArray.eraseIdxIfInBounds k=(its.eraseIdx k).toArray;rw[List.eraseIdxIfInBounds_toArray]
 ·have:=qf0z xs k;omega
def rCat:R2:=fun x y H Q=>∃l b xs zs,x=.ref l/\y=.ref b/\H l=some (.lst xs)/\H b=some (.lst zs)/\xs.length+zs.length≤sizeLine/\∀p,H p=none->Q (.ref p) (upd H p (.lst (xs++zs)))
theorem op_cat:OpR X (binaryOp .Add) rCat:=by
 intro pins s σ H x y v u Q I rx ry h;obtain⟨l,b,xs,zs,rfl,rfl,hH,hB,hz,q⟩:=h;cases rx;cases ry;obtain⟨z,its,n,r,hl,e⟩:=I.lstM hH;obtain⟨z2,its2,n2,r2,hl2,e2⟩:=I.lstM hB;refine PySem.P.add_list e e2 ?_ (by rw[List.size_toArray,List.size_toArray];omega);have ea:its.toArray++its2.toArray=(its++its2).toArray:=by simp
 rw[ea];exact⟨.ref _,_,I.lnew (t':=s.toks) (r.append r2) (by rw[List.length_append];omega),rfl,q _ I.fresh⟩
def rRep:R2:=fun x y H Q=>∃l k xs,x=.ref l/\y=.int k/\H l=some (.lst xs)/\-(2^63)≤k/\k<2^63/\xs.length*k.toNat≤sizeLine ∧
 ∀p,H p=none->Q (.ref p) (upd H p (.lst (List.replicate k.toNat xs).flatten))
theorem len_rep{α:Type}(xs:List α)(k:Nat):(List.replicate k xs).flatten.length=k*xs.length:=by
 induction k with
 |zero=>simp
 |succ k ih=>rw[List.replicate_succ,List.flatten_cons,List.length_append,ih,Nat.succ_mul,Nat.add_comm]
theorem qrnz:OpR X (binaryOp .Mult) rRep:=by
 intro pins s σ H x y v u Q I rx ry h;obtain⟨l,k,xs,rfl,rfl,hH,h1,h2,hz,q⟩:=h;cases rx;obtain⟨t,rfl⟩:=ry;obtain⟨z,its,n,r,hl,e⟩:=I.lstM hH;have hlen:its.toArray.size*k.toNat≤sizeLine:=by rw[List.size_toArray,←hl];exact hz
 have hcap:¬its.toArray.size*k.toNat > (2^63-1) / 8:=by
  have:(sizeLine:Nat)≤(2^63-1) / 8:=by decide
  omega
 have hfit:¬(!Builtin.List.listFitsIndex k)=true:=by
  rw[fitsIndex_both h1 h2];exact Bool.false_ne_true
 have hlong:¬Builtin.List.listTooLong (its.toArray.size*k.toNat)=true:=by
  rw[notLongL hlen];exact Bool.false_ne_true
 have hnew:List.foldl (fun x1 x2=>x1++x2) #[] (List.replicate (if its.toArray.isEmpty=true then 0 else k.toNat) its.toArray)=(List.replicate k.toNat its).flatten.toArray:=by
  have f0:∀m:Nat,List.foldl (fun x1 x2=>x1++x2) #[] (List.replicate m its.toArray)=(List.replicate m its).flatten.toArray:=fun m=>by
   have:=foldl_rep its m [];rw[List.nil_append] at this;exact this
  rw[f0];cases its with
  |nil=>simp
  |cons a r'=>rw[if_neg (by simp)]
 refine wpAny_binaryOp_repeat_ref (T:="list") (U:="int") (by decide) ⟨_,e,rfl⟩ (fun s'=>typeIs_int s' k t) noFill_list_mul F.fills_int_mul F.slot_int_rmul repeat_list F.slot_int_index.lookup
  (call_meets F.slot_int_rmul (typeIs_int s k t) F.entry_int_rmul (F.args_int_rmul_2 _ _) (int___rmul___int_list k t l its.toArray n)
   ⟨e,rfl,⟨_,e,rfl⟩,call_meets F.slot_list_mul ⟨_,e,rfl⟩ F.entry_list_mul (F.args_list_mul_2 _ _) (AutoListH.list___mul___list_int_3 l its.toArray n k t hfit hcap hlong) ⟨e,?_⟩⟩)
 rw[hnew];exact⟨.ref _,_,I.lnew (t':=s.toks) (r.rep k.toNat) (by rw[len_rep,Nat.mul_comm];exact hz),rfl,q _ I.fresh⟩
end
end L2
namespace Att
open PySem PySem.W PySem.Calls PyProof.Rows
theorem qroz{P:Params}{h:Heap}:∀(ns:List Int) (vs:List Value),WellAll P h vs (ns.map WData.int)->IntsAre vs ns:=by
 intro ns
 induction ns with
 |nil=>
  intro vs w;rw[List.map_nil] at w;cases w;exact .nil
 |cons n ns ih=>
  intro vs w;rw[List.map_cons] at w;cases w with
  |cons a b=>
   cases a;exact .cons _ _ (ih _ b)
theorem qrpz{l:OpenLaw}{n:Nat}(hn:l.most=some n){P:Params}{h:Heap}{args:List WData}{vals:List Value}
  (hpre:l.row.toRowW.claim.pre args=true) (hwl:WellAll P h vals args):
  ∃a vs ns,vals=[Value.ref a]/\args=[WData.list (ns.map WData.int)]/\h.get? a=some { cls:=.type "list",data:=.seq vs.toArray }/\IntsAre vs ns/\ns.length≤n:=by
 have hsh:WShape.hasAll [] args [.list .int]=true:=(pre_splitW hpre).1;have hc:l.pre.holds [] { args:=args }=true:=(pre_splitW hpre).2;obtain⟨d,r,rfl,h1,h2⟩:=hasAllW_cons hsh;obtain rfl:=hasAllW_nil h2;obtain⟨xs,rfl,h3⟩:=hasW_list h1;obtain⟨ns,rfl⟩:=items_int h3;have hlen:ns.length≤n:=by
  unfold OpenLaw.pre at hc;have h4:(WTm.not (.lt (.lit (.int (n:Int))) (.len (.arg 0)))).holds [] { args:=[.list (ns.map .int)]}=true:=by
   have h4:=(holds_andW hc).1;rw[hn] at h4;exact h4
  have h5:=condW_of h4 (w_not (w_lt w_lit (w_len_list (w_arg rfl))));rw[List.length_map] at h5;refine Nat.le_of_not_lt fun q=>?_;have q':(n:Int)<((ns.length:Nat):Int):=by omega
  first
   | (rw[decide_eq_true q'] at h5;exact absurd h5 (by decide))
   | (simp at h5;omega)
 cases hwl with
 |cons w1 w2=>
  cases w2;cases w1 with
  |list ho hall=>exact⟨_,_,ns,rfl,rfl,ho,qroz ns _ hall,hlen⟩
theorem qrqz(l:OpenLaw)(args:List WData):l.row.toRowW.claim.post args (.bool true) args=true:=
 postW_of (r:=l.row.toRowW) (X:=(true==true))
  (show WShape.has [] (.bool true) .bool=true by first|rfl|decide|simp[WShape.has,WShape.arms,WShape.armsAll])
  (show (WTm.eq .res (.lit (.bool true))).value [] { args:=args,res:=some (.bool true),after:=args }=some (.bool (true==true)) from w_eq_bool (w_res rfl) w_lit) rfl
theorem attach_call{l:OpenLaw}{n:Nat}{q:Program}{loose:List Str}{XP:(Str->Option Value)->Heap->Prop}{YP:World->Heap->Prop}{d:DefRec}
  (hn:l.most=some n) (hdf:d.params.defaults=[])
  (call:∀(w:World) (s₀ s₁:Shared) (mg mb:Str->Option Value) (fa:Addr) (o:Obj) (pm cd doc:Value) (a:Addr) (vs:List Value) (ns:List Int),
   Ground q loose [] XP w s₀ mg mb s₁.heap->YP w s₁.heap ->
   s₁.heap.get? fa=some o->o.data=.func (docDef d.name d.params d.body d.scope pm cd doc)->s₁.heap.CodeRec cd d.name->mg d.name=some (.ref fa) ->
   s₁.heap.get? a=some { cls:=.type "list",data:=.seq vs.toArray }->IntsAre vs ns->ns.length≤n->s₁.gens = #[] ->
   codeAny (model l.prog w) callerA (.call (.ref fa) ⟨[.ref a],[]⟩) (fun r s'=>r=.ok (.ret (.bool true))/\OldK s₁.heap s'.heap/\s'.os=s₁.os/\AllBare s'.gens) s₁):
  WalkO q loose XP YP l.row.toRowW d [] (fun f vs=>PySem.call f vs):=by
 intro w s₀ s₁ mg mb G Y fa o pm cd doc dV kV ho hd hcd hD hmg hg args vals as hpre hlay hrd hwl hlo;obtain rfl:dV=.none:=Dflts.none hD hdf;obtain rfl:kV=.none:=Dflts.noKw hD;obtain⟨a,vs,ns,rfl,rfl,hobj,hints,hlen⟩:=qrpz hn hpre hwl;refine enter_call (codeAny_mono (call w s₀ s₁ mg mb fa o pm cd doc a vs ns G Y ho (fd_plain hd) hcd hmg hobj hints hlen hg) fun r s' hq=>?_);obtain⟨rfl,h2,h3,h4⟩:=hq;exact⟨.inl ⟨.bool true,.bool true,[],rfl,fun _=>rfl,.bool true,qrqz l _,fun _=>⟨List.Pairwise.nil,fun _ hm=>(nomatch hm)⟩⟩,h2,h3,h4⟩
end Att
namespace L2
open PySem PySem.Spec PyProof.Rows
theorem qi8z:∀{vs:List Value} {ns:List Int},IntsAre vs ns->Vals (ns.map V.int) vs
 |_,_,.nil=>.nil
 |_,_,.cons n t h=>.cons ⟨t,rfl⟩ (qi8z h)
def Only(H:Hp):Prop:=∀b,H b=none∨∃o xs,H b=some (.frz o (.lst xs))
theorem qrrz{P:Program}{w:World}{K:PySem.W.Frag}{mg mb:Str->Option Value}{CX:CXT}{k:Nat}{fa a:Addr}{fd:FuncData}{x:Str}{sp:Sp}{s₁:Shared}{vs:List Value}{ns:List Int}
  (KX:K.In s₁.heap) (hns:s₁.heap.Ns mainGlobals mg) (hb:s₁.heap.Ns builtinsNs mb) (hbb:∀x:Str,x≠"__name__"->mb x=bootBuiltins x) (hlim:s₁.heap.NoLimit) (hg:s₁.gens = #[])
  (ha:s₁.heap.get? a=some { cls:=.type "list",data:=.seq vs.toArray }) (hi:IntsAre vs ns) (hl:ns.length≤sizeLine) (hr:Room k callerA)
  (F:∀base:Heap,K.In base->base.Ns mainGlobals mg->FnOk P w K mg base CX k fa fd [x] sp) (hbind:∀(s:Shared) (u:Value),BindsTo s fd ⟨[u],[]⟩ [(x,u)])
  (hsp:∀H:Hp,Only H->SqL K H a (ns.map V.int)->sp [.ref a] H (fun v _=>v=.bl true) fun _ _ _=>False)
  (hCX:∀H e s',CX [] H s₁ (fun _ _ _=>False) e s'->False):
  codeAny (model P w) callerA (.call (.ref fa) ⟨[.ref a],[]⟩) (fun r s'=>r=.ok (.ret (.bool true))/\OldK s₁.heap s'.heap/\s'.os=s₁.os/\AllBare s'.gens) s₁:=by
 have rv:=qi8z hi;have lenV:=hi.length
 -- from an abstract heap in which nothing but the script may be tracked
 have core:∀H:Hp,Only H->SqL K H a (ns.map V.int)->HOk P w H s₁.heap->(∀b,H b≠none->b=a)->(H a≠none->K.lookup a=none) ->
   codeAny (model P w) callerA (.call (.ref fa) ⟨[.ref a],[]⟩) (fun r s'=>r=.ok (.ret (.bool true))/\OldK s₁.heap s'.heap/\s'.os=s₁.os/\AllBare s'.gens) s₁:=by
  intro H hO hS hok hA hK;have base_of:∀{b:Addr} {o:Obj},s₁.heap.get? b=some o->H b=none->(hidT s₁.heap H).get? b=some o:=fun e n=>qphz e n;have noA:∀{b:Addr} {o:Obj} {es:Array DictEntry} {ep:Nat},s₁.heap.get? b=some o->o.data=.dict es ep->H b=none:=fun {b o es ep} e d=>by
   cases q:H b with
   |none=>rfl
   |some u=>
    have e':b=a:=hA b (by rw[q];simp);subst e';rw[ha] at e;cases e;have d':Data.seq vs.toArray _=Data.dict es ep:=d;cases d'
  have nsK:∀{b:Addr} {m:Str->Option Value},s₁.heap.Ns b m->(hidT s₁.heap H).Ns b m:=fun {b m} ⟨o,es,ep,e,d,r⟩=>⟨o,es,ep,base_of e (noA e d),d,r⟩;have hKb:K.In (hidT s₁.heap H):=fun b o e=>base_of (KX b o e) (by
   cases q:H b with
   |none=>rfl
   |some u=>
    have e':b=a:=hA b (by rw[q];simp);subst e';rw[hK (by rw[q];simp)] at e;cases e)
  have hM:Mod K mg (hidT s₁.heap H):=⟨hKb,nsK hns,⟨mb,nsK hb,hbb⟩,let ⟨mc,h1,h2⟩:=hlim;⟨mc,nsK h1,h2⟩⟩
  have e0:Env0 P w K mg (hidT s₁.heap H) callerA [] s₁ H:=⟨rfl,hM,fun b o e=>qpiz e,Nat.le_of_eq (qpgz _ _),trivial,fun b hb=>absurd (show b∈([]:List Addr) from hb) (by simp),hok,.of_eq hg⟩;refine codeAny_mono ((F _ hKb (nsK hns)).run callerA [] s₁ H ⟨[.ref a],[]⟩ [.ref a] [.ref a] _ _ hr e0 (hbind s₁ (.ref a)) (.cons rfl .nil) (hsp H hO hS)) fun r s' h=>?_;cases r with
  |error e=>exact (hCX H e s' h).elim
  |ok fl=>
   cases fl with
   |next=>exact False.elim h
   |brk=>exact False.elim h
   |cont=>exact False.elim h
   |ret u=>
    obtain⟨v,H',os,bare,un,hok',r',q⟩:=h;have q':v=.bl true:=q;subst q';obtain rfl:u=Value.bool true:=r';refine⟨rfl,OldK.of_keep fun b o e=>?_,os,bare⟩;cases q:H b with
    |none=>exact un.keep b o e q (by intro z;exact absurd (show b∈([]:List Addr) from z) (by simp)) (by simp)
    |some u=>
     rcases hO b with z|⟨ob,xs,z⟩
     ·rw[q] at z;cases z
     ·have z2:=un.frzs b ob _ z;obtain⟨e1,_⟩:=hok b _ z;obtain⟨e2,_⟩:=hok' b _ z2;rw[e] at e1;cases e1;exact e2
 cases hk:K.lookup a with
 |some o=>
  -- the script is one of the module's own objects
  have e:=KX a o hk;rw[ha] at e;cases e;refine core (fun _=>none) (fun _=>.inl rfl) (.inr ⟨_,vs.toArray,_,hk,rfl,rfl,rfl,by rw[List.size_toArray,lenV];exact hl,by simpa using rv⟩) (fun b u z=>by have z':(none:Option HO)=some u:=z;cases z') (fun b z=>absurd rfl z) fun z=>absurd rfl z
 |none=>
  refine core (fun b=>if b=a then some (.frz { cls:=.type "list",data:=.seq vs.toArray } (.lst (ns.map V.int))) else none) (fun b=>?_) (.inl (.inr ⟨{ cls:=.type "list",data:=.seq vs.toArray },if_pos rfl⟩)) (fun b u z=>?_) (fun b z=>?_) fun _=>hk
  ·by_cases hb:b=a
   ·exact .inr ⟨_,_,if_pos hb⟩
   ·exact .inl (if_neg hb)
  ·by_cases hb:b=a
   ·have z':=(if_pos hb).symm.trans z;cases z';subst hb;exact⟨ha,by rw[List.length_map];exact hl,vs,_,rv,ha⟩
   ·have z':=(if_neg hb).symm.trans z;cases z'
  ·by_cases hb:b=a
   ·exact hb
   ·exact absurd (if_neg hb) z
end L2
namespace L2
open PySem PySem.Spec PyProof.Rows
theorem walk_of{l:PySem.W.OpenLaw}{n k:Nat}{q:Program}{loose:List Str}{XP:(Str->Option Value)->Heap->Prop}{YP:World->Heap->Prop}{d:DefRec}{K:Params->PySem.W.Frag}{CX:World->CXT}{sp:World->Sp}{x:Str}
  (hn:l.most=some n) (hn2:n≤sizeLine) (hdf:d.params.defaults=[]) (hr:Room k callerA)
  (hY:∀(w:World) (h:Heap),YP w h->(K w.params).In h)
  (F:∀(w:World) (mg:Str->Option Value) (fa:Addr) (h:Heap),(K w.params).In h->h.Ns mainGlobals mg->mg d.name=some (.ref fa) ->
   ∃fd:FuncData,(∀(s:Shared) (u:Value),BindsTo s fd ⟨[u],[]⟩ [(x,u)]) ∧
    ∀base:Heap,(K w.params).In base->base.Ns mainGlobals mg->FnOk l.prog w (K w.params) mg base (CX w) k fa fd [x] (sp w))
  (hsp:∀(w:World) (H:Hp) (a:Addr) (ns:List Int),ns.length≤n->Only H->SqL (K w.params) H a (ns.map V.int)->sp w [.ref a] H (fun v _=>v=.bl true) fun _ _ _=>False)
  (hCX:∀(w:World) (H:Hp) (s:Shared) (e:Value) (s':Shared),CX w [] H s (fun _ _ _=>False) e s'->False):
  PySem.W.WalkO q loose XP YP l.row.toRowW d [] (fun f vs=>PySem.call f vs):=by
 refine Att.attach_call hn hdf fun w s₀ s₁ mg mb fa o pm cd doc a vs ns G Y ho hd hcd hmg hobj hints hlen hg=>?_;have KX:=hY w _ Y;obtain⟨fd,hb,hF⟩:=F w mg fa _ KX G.T.g hmg;exact qrrz KX G.T.g G.T.b G.T.builtins G.T.nolimit hg hobj hints (Nat.le_trans hlen hn2) hr hF hb (fun H hO hS=>hsp w H a ns hlen hO hS) fun H e s'=>hCX w H s₁ e s'
end L2
/- THE LAST THEOREM (shape;LID,My.* are yours):
  My.Adr: a structure of the addresses that your layer names (classes,functions);My.Txt K t: a structure (Prop) of the equations over K;
  My.txt_mk:{K} {implicit addresses ..} (e1:nsIn K mainGlobals "law" = some (some (.ref f))) (e2:K.lookup f=some ⟨oc,od,.func (fnOf "law" "law" params body scope dV kV doc pm an cdv ct),sl⟩) (e3:codeIn K cdv "law" = true) ..:∃t,My.Txt K t
set_option maxRecDepth 100000 in
set_option maxHeartbeats 0 in
theorem PySem.Challenge.cw_LID_holds : PySem.Challenge.rw_LID.Holds := by
 w_on;o_law;k_head;(case hw=>w_witness2)
 k_fill
 refine L2.walk_of (l:=PySem.Challenge.rw_LID) (n:=63) (k:=40) (x:="script") (CX:=fun w=>..) (sp:=fun _=>My.sp_law) rfl (by decide) rfl ⟨rfl,by decide,by decide⟩ (fun w h Y=>PySem.W.kIn_of Y) ?F ?S ?C
 case F=>
  intro w mg fa h KX G hmg
  have T:∃t,My.Txt (L2.KOf KX) t:=by
   dsimp only[L2.KOf]                          -- K must stand as «<heap const> w.params» for k_is
   refine' My.txt_mk ?e1 ?e2 ?e3 ..
   (case e1=>PySem.W.k_is)                    -- in the order: a name -> its address -> its object -> its parts
   (case e2=>PySem.W.k_is)
   ..
  obtain⟨t,T⟩:=T
  have e0:=hmg.symm.trans (PySem.W.mg_of KX G T.law)
  cases e0                                       -- fa is the law's own address
  exact⟨_,fun s u=>.of_eq rfl,fun base kb nb=>My.law_fn T kb nb⟩     -- if «.of_eq rfl» comes too early: refine' ⟨_,?b,fun base kb nb=>My.law_fn T kb nb⟩;exact fun s u=>.of_eq rfl
 case S=>exact fun w H a ns hl hO hS=>..
 case C=>exact ..
(the tactic k_is has no namespace: write k_is) -/
namespace L2
open PySem PySem.Spec PyProof.Rows
def defArgs(s:Stmt):Arguments:=match s with
 |.FunctionDef _ a _ _ _ _ _ _ _ _=>a
 |_=>{ posonlyargs:=[],args:=[],vararg:=none,kwonlyargs:=[],kw_defaults:=[],kwarg:=none,defaults:=[]}
def defBody(s:Stmt):List Stmt:=match s with
 |.FunctionDef _ _ b _ _ _ _ _ _ _=>b
 |_=>[]
def defScope(s:Stmt):Scope:=match s with
 |.FunctionDef _ _ _ _ _ _ sc _ _ _=>sc
 |_=>{ kind:=.function,names:=[],isGenerator:=false,isCoroutine:=false }
abbrev CX0:CXT:=fun _ _ _ _ _ _=>False
abbrev E0:XK:=fun _ _ _=>False
theorem pass0{X:Cx}:Passes CX0 X E0:=fun _ _ _ _ _ _ _ h=>h.elim
structure Fun(K:PySem.W.Frag)(x qual:Str)(st:Stmt)(f:Addr)(fd:FuncData):Prop where
 ex:∃(oc:Value) (od:Option Addr) (kV doc pm:Value) (an:Option Addr) (cdv ct:Value) (osl:Array (Option Value)),
  fd=PySem.W.fnOf x qual (defArgs st) (defBody st) (defScope st) .none kV doc pm an cdv ct/\K.lookup f=some ⟨oc,od,.func fd,osl⟩/\PySem.W.codeIn K cdv qual=true
 kp:PySem.W.keepIn K (.ref f)=true
section
variable {P:Program} {w:World} {K:PySem.W.Frag} {mg:Str->Option Value} {base:Heap}
theorem Fun.ok{x qual:Str}{st:Stmt}{f:Addr}{fd:FuncData}{N ps:List Str}{k:Nat}{sp:Sp}(F:Fun K x qual st f fd)(S:FnScope N ps (defScope st))(len:∀vs H Q E,sp vs H Q E->vs.length=ps.length)
  (hbody:∀(cdv:Value) (A:Around) (outer:List Env) (s:Shared) (H:Hp) (vs:List V) (Q:VK) (E:XK),Room k (A.deeper (envOfC qual (defScope st) s.heap.objs.size f cdv))->sp vs H Q E ->
   ∃t,PSs (cxOf CX0 P w K mg base N qual (defScope st) f cdv A outer s H E).nox (defBody st) t/\t { nx:=fun _ H'=>Q .non H',rt:=Q } (start N vs) H):FnOk P w K mg base CX0 (k+1) f fd ps sp:=by
 obtain⟨oc,od,kV,doc,pm,an,cdv,ct,osl,rfl,lk,hcd⟩:=F.ex;refine qqwz lk hcd S len fun A outer s H vs Q E hr hsp=>?_;obtain⟨t,h,q⟩:=hbody cdv A outer s H vs Q E hr hsp;exact⟨t,h.nox,q⟩
theorem Fun.binds{x qual:Str}{st:Stmt}{f:Addr}{fd:FuncData}{ps:List Str}(F:Fun K x qual st f fd)
  (h:∀(kV doc pm:Value) (an:Option Addr) (cdv ct:Value) (us:List Value),us.length=ps.length->bindArgs (PySem.W.fnOf x qual (defArgs st) (defBody st) (defScope st) .none kV doc pm an cdv ct) ⟨us,[]⟩=pure (ps.zip us)):Binds K fd ps []:=by
 obtain⟨oc,od,kV,doc,pm,an,cdv,ct,osl,rfl,lk,hcd⟩:=F.ex;exact .all (h kV doc pm an cdv ct)
theorem qrsz{x qual:Str}{st:Stmt}{f:Addr}{oc:Value}{od an:Option Addr}{osl:Array (Option Value)}{kV doc pm cdv ct:Value}(l:K.lookup f=some ⟨oc,od,.func (PySem.W.fnOf x qual (defArgs st) (defBody st) (defScope st) .none kV doc pm an cdv ct),osl⟩)
  (c:PySem.W.codeIn K cdv qual=true) (k:PySem.W.keepIn K (.ref f)=true):Fun K x qual st f (PySem.W.fnOf x qual (defArgs st) (defBody st) (defScope st) .none kV doc pm an cdv ct):=⟨⟨oc,od,kV,doc,pm,an,cdv,ct,osl,rfl,l,c⟩,k⟩
end
section
variable {X:Cx}
theorem pv(i:Nat){x:Str}{pos:Pos}(hN:X.N[i]?=some x:=by rfl)(hv:Vis X.env.scope x:=by first|exact Or.inl rfl|exact Or.inr (Or.inl rfl)|exact Or.inr (Or.inr rfl))(hd:(x==("__debug__":Str))=false:=by decide)
  (hcd:(x==("__classdict__":Str))=false:=by decide):PE X (.Name x pos) (tVar i):=qpjz hN hv hd hcd
end
end L2
namespace L3
open PySem PySem.Spec PyProof.Rows L2
inductive D where
 |non|bl (b:Bool)|int (i:Int)|str (x:Str)|tup (xs:List D)|scr (xs:List D)|obj (a:Addr)|dc (a:Addr)
def SqF(K:PySem.W.Frag)(H:Hp)(a:Addr)(xs:List V):Prop:=
 (∃o,H a=some (.frz o (.lst xs))) ∨
  ∃(o:Obj) (its:Array Value) (n:Nat),K.lookup a=some o/\o.cls=.type "list"/\o.dict=none/\o.data=.seq its n/\its.size≤sizeLine/\Vals xs its.toList
theorem SqF.l{K:PySem.W.Frag}{H:Hp}{a:Addr}{xs:List V}(h:SqF K H a xs):SqL K H a xs:=by
 rcases h with h|h
 ·exact .inl (.inr h)
 ·exact .inr h
mutual
def Hv(K:PySem.W.Frag)(H:Hp):D->V->Prop
 |.non,v=>v=.non
 |.bl b,v=>v=.bl b
 |.int i,v=>v=.int i
 |.str x,v=>v=.str x
 |.tup ds,v=>∃a vs,v=.ref a/\SqT K H a vs/\Hvs K H ds vs
 |.scr ds,v=>∃a vs,v=.ref a/\SqF K H a vs/\Hvs K H ds vs
 |.obj a,v=>v=.ref a
 |.dc a,v=>v=.ref a/\∃ob φ,H a=some (.frz ob (.ext φ))/\ob.cls=.type "dict"
def Hvs(K:PySem.W.Frag)(H:Hp):List D->List V->Prop
 |[],vs=>vs=[]
 |d::ds,vs=>∃v r,vs=v::r/\Hv K H d v/\Hvs K H ds r
end
inductive GO where
 |lst (ds:List D)|pen|dct
 |gen (R:PySem.W.Frag->Addr->Hp->Prop)
def GO.plain:GO->Prop
 |.gen _=>False
 |_=>True
abbrev Gp:=Addr->Option GO
def upd3(G:Gp)(a:Addr)(o:GO):Gp:=fun b=>if b=a then some o else G b
theorem qajz{G:Gp}{a:Addr}{o:GO}:upd3 G a o a=some o:=by simp[upd3]
theorem qabz{G:Gp}{a b:Addr}{o:GO}(h:b≠a):upd3 G a o b=G b:=by simp[upd3,h]
theorem qrtz{G:Gp}{a b:Addr}{o u:GO}(hn:G a=none)(h:G b=some u):upd3 G a o b=some u:=by
 rw[qabz]
 ·exact h
 ·intro e;rw[e,hn] at h;cases h
theorem qruz{G:Gp}{a:Addr}{o u:GO}:upd3 (upd3 G a o) a u=upd3 G a u:=by
 funext b;unfold upd3;by_cases h:b=a
 ·rw[if_pos h,if_pos h]
 ·rw[if_neg h,if_neg h,if_neg h]
def PenOk(a b c:Int):Prop:=0≤a/\0≤c/\c<2147483647
def GOk(K:PySem.W.Frag)(H:Hp)(a:Addr):GO->Prop
 |.lst ds=>∃vs,H a=some (.lst vs)/\Hvs K H ds vs
 |.pen=>∃i j k,H a=some (.lst [.int i,.int j,.int k])/\PenOk i j k
 |.dct=>H a=some (.ext fun h=>∃o,h.get? a=some o/\o.cls=.type "dict")
 |.gen R=>R K a H/\(∃o,H a=some o/\(∀xs,o≠.tup xs)/\∀ob u,o≠.frz ob u)/\∀H1 H2:Hp,(∀b xs,H1 b=some (.tup xs)->H2 b=some (.tup xs))->(∀b o u,H1 b=some (.frz o u)->H2 b=some (.frz o u))->H2 a=H1 a->R K a H1->R K a H2
def RepG(K:PySem.W.Frag)(G:Gp)(H:Hp):Prop:=∀a o,G a=some o->GOk K H a o
structure Ext(H H':Hp):Prop where
 tup:∀b xs,H b=some (.tup xs)->H' b=some (.tup xs)
 frz:∀b o u,H b=some (.frz o u)->H' b=some (.frz o u)
theorem Ext.refl(H:Hp):Ext H H:=⟨fun _ _ h=>h,fun _ _ _ h=>h⟩
theorem Ext.trans{H H1 H2:Hp}(a:Ext H H1)(b:Ext H1 H2):Ext H H2:=⟨fun c x h=>b.tup c x (a.tup c x h),fun c o u h=>b.frz c o u (a.frz c o u h)⟩
structure Step(H:Hp)(G:Gp)(H':Hp)(G':Gp):Prop where
 fr:∀a o,H a=some o->G a=none->H' a=some o
 trk:∀a,H a≠none->H' a≠none
 new:∀a,G a=none->G' a≠none->H a=none
theorem Step.refl(H:Hp)(G:Gp):Step H G H G:=⟨fun _ _ h _=>h,fun _ h=>h,fun _ h1 h2=>absurd h1 h2⟩
theorem Step.trans{H H1 H2:Hp}{G G1 G2:Gp}(a:Step H G H1 G1)(b:Step H1 G1 H2 G2):Step H G H2 G2 where
 fr:=fun c o h n=>b.fr c o (a.fr c o h n) (by
  refine Classical.byContradiction fun q=>?_;rw[a.new c n q] at h;cases h)
 trk:=fun c h=>b.trk c (a.trk c h)
 new:=fun c n q=>by
  by_cases h1:G1 c=none
  ·have h2:=b.new c h1 q;refine Classical.byContradiction fun z=>?_;exact a.trk c z h2
  ·exact a.new c n h1
def Sub(G' G:Gp):Prop:=∀a o,G' a=some o->G a=some o
theorem Sub.refl(G:Gp):Sub G G:=fun _ _ h=>h
theorem Sub.trans{A B C:Gp}(a:Sub A B)(b:Sub B C):Sub A C:=fun x o h=>b x o (a x o h)
theorem Sub.upd{G:Gp}{a:Addr}{o:GO}(h:G a=none):Sub G (upd3 G a o):=fun _ _ e=>qrtz h e
theorem Sub.of_none{G' G:Gp}(s:Sub G' G){a:Addr}(h:G a=none):G' a=none:=by
 cases e:G' a with
 |none=>rfl
 |some o=>
  rw[s a o e] at h;cases h
structure New(G:Gp)(p:Addr)(o:GO)(G':Gp):Prop where
 non:G p=none
 sub:Sub G G'
 at_:G' p=some o
theorem New.mk'{G:Gp}{p:Addr}{o:GO}(h:G p=none):New G p o (upd3 G p o):=⟨h,Sub.upd h,qajz⟩
theorem Step.sub{H:Hp}{G G':Gp}(s:Sub G' G):Step H G H G':=⟨fun _ _ h _=>h,fun _ h=>h,fun a n q=>by
 exact absurd (s.of_none n) q⟩
section
variable {K:PySem.W.Frag} {H H':Hp} {G G':Gp}
theorem RepG.sub(R:RepG K G H)(s:Sub G' G):RepG K G' H:=fun a o e=>R a o (s a o e)
theorem GOk.mut{a:Addr}{o:GO}(h:GOk K H a o):∃o,H a=some o/\(∀xs,o≠.tup xs)/\∀ob u,o≠.frz ob u:=by
 cases o with
 |lst ds=>obtain⟨vs,e,_⟩:=h;exact⟨_,e,fun _=>nofun,fun _ _=>nofun⟩
 |pen=>obtain⟨i,j,k,e,_⟩:=h;exact⟨_,e,fun _=>nofun,fun _ _=>nofun⟩
 |dct=>exact⟨_,h,fun _=>nofun,fun _ _=>nofun⟩
 |gen R=>exact h.2.1
theorem RepG.outT(R:RepG K G H){a:Addr}{xs:List V}(e:H a=some (.tup xs)):G a=none:=by
 cases q:G a with
 |none=>rfl
 |some u=>
  obtain⟨o,z,h1,_⟩:=(R a u q).mut;rw[e] at z;exact absurd (Option.some.inj z).symm (h1 xs)
theorem RepG.outF(R:RepG K G H){a:Addr}{ob:Obj}{u:HO}(e:H a=some (.frz ob u)):G a=none:=by
 cases q:G a with
 |none=>rfl
 |some g=>
  obtain⟨o,z,_,h1⟩:=(R a g q).mut;rw[e] at z;exact absurd (Option.some.inj z).symm (h1 ob u)
theorem RepG.free(R:RepG K G H){a:Addr}(e:H a=none):G a=none:=by
 cases q:G a with
 |none=>rfl
 |some u=>
  obtain⟨o,z,_⟩:=(R a u q).mut;rw[e] at z;cases z
theorem Step.ext(S:Step H G H' G')(R:RepG K G H):Ext H H':=⟨fun b xs h=>S.fr b _ h (R.outT h),fun b o u h=>S.fr b _ h (R.outF h)⟩
theorem SqT.ext{a:Addr}{xs:List V}(E:Ext H H')(h:SqT K H a xs):SqT K H' a xs:=by
 rcases h with (h|⟨o,h⟩)|h
 ·exact .inl (.inl (E.tup _ _ h))
 ·exact .inl (.inr ⟨o,E.frz _ _ _ h⟩)
 ·exact .inr h
theorem SqF.ext{a:Addr}{xs:List V}(E:Ext H H')(h:SqF K H a xs):SqF K H' a xs:=by
 rcases h with⟨o,h⟩|h
 ·exact .inl ⟨o,E.frz _ _ _ h⟩
 ·exact .inr h
mutual
theorem Hv.ext(E:Ext H H'):∀{d:D} {v:V},Hv K H d v->Hv K H' d v
 |.non,_,h=>by simpa [Hv] using h
 |.bl _,_,h=>by simpa [Hv] using h
 |.int _,_,h=>by simpa [Hv] using h
 |.str _,_,h=>by simpa [Hv] using h
 |.obj _,_,h=>by simpa [Hv] using h
 |.dc a,v,h=>by
  unfold Hv at h ⊢;obtain⟨e,ob,φ,q,c⟩:=h;exact⟨e,ob,φ,E.frz _ _ _ q,c⟩
 |.tup ds,v,h=>by
  unfold Hv at h ⊢;obtain⟨a,vs,e,q,r⟩:=h;exact⟨a,vs,e,SqT.ext E q,Hvs.ext E r⟩
 |.scr ds,v,h=>by
  unfold Hv at h ⊢;obtain⟨a,vs,e,q,r⟩:=h;exact⟨a,vs,e,SqF.ext E q,Hvs.ext E r⟩
theorem Hvs.ext(E:Ext H H'):∀{ds:List D} {vs:List V},Hvs K H ds vs->Hvs K H' ds vs
 |[],_,h=>by simpa [Hvs] using h
 |d::ds,vs,h=>by
  unfold Hvs at h ⊢;obtain⟨v,r,e,q,z⟩:=h;exact⟨v,r,e,Hv.ext E q,Hvs.ext E z⟩
end
theorem Hvs.nil:Hvs K H [] []:=by simp[Hvs]
theorem Hvs.cons{d:D}{v:V}{ds:List D}{vs:List V}(h:Hv K H d v)(r:Hvs K H ds vs):Hvs K H (d::ds) (v::vs):=by
 unfold Hvs;exact⟨v,vs,rfl,h,r⟩
theorem Hvs.inv{d:D}{ds:List D}{vs:List V}(h:Hvs K H (d::ds) vs):∃v r,vs=v::r/\Hv K H d v/\Hvs K H ds r:=by
 unfold Hvs at h;exact h
theorem Hvs.inv0{vs:List V}(h:Hvs K H [] vs):vs=[]:=by
 unfold Hvs at h;exact h
theorem Hvs.length:∀{ds:List D} {vs:List V},Hvs K H ds vs->ds.length=vs.length
 |[],_,h=>by rw[h.inv0];rfl
 |d::ds,vs,h=>by
  obtain⟨v,r,rfl,_,q⟩:=h.inv;simp[q.length]
theorem Hvs.get:∀{ds:List D} {vs:List V} {i:Nat} {d:D},Hvs K H ds vs->ds[i]?=some d->∃v,vs[i]?=some v/\Hv K H d v
 |[],_,_,_,_,e=>by simp at e
 |x::ds,vs,0,d,h,e=>by
  obtain⟨v,r,rfl,q,_⟩:=h.inv;simp at e;subst e;exact⟨v,rfl,q⟩
 |x::ds,vs,i+1,d,h,e=>by
  obtain⟨v,r,rfl,_,q⟩:=h.inv;simp at e;obtain⟨u,e2,q2⟩:=q.get e;exact⟨u,by simpa using e2,q2⟩
theorem Hvs.append:∀{ds es:List D} {vs us:List V},Hvs K H ds vs->Hvs K H es us->Hvs K H (ds++es) (vs++us)
 |[],es,_,_,h,q=>by rw[h.inv0];exact q
 |d::ds,es,vs,us,h,q=>by
  obtain⟨v,r,rfl,z,w⟩:=h.inv;exact .cons z (w.append q)
theorem Hvs.drop:∀{ds:List D} {vs:List V} (n:Nat),Hvs K H ds vs->Hvs K H (ds.drop n) (vs.drop n)
 |ds,vs,0,h=>h
 |[],_,n+1,h=>by rw[h.inv0];exact .nil
 |d::ds,vs,n+1,h=>by
  obtain⟨v,r,rfl,_,q⟩:=h.inv;exact q.drop n
theorem Hvs.take:∀{ds:List D} {vs:List V} (n:Nat),Hvs K H ds vs->Hvs K H (ds.take n) (vs.take n)
 |ds,vs,0,h=>by simpa using Hvs.nil
 |[],_,n+1,h=>by rw[h.inv0];exact .nil
 |d::ds,vs,n+1,h=>by
  obtain⟨v,r,rfl,q,z⟩:=h.inv;exact .cons q (z.take n)
theorem Hvs.set:∀{ds:List D} {vs:List V} (i:Nat) {d:D} {v:V},Hvs K H ds vs->Hv K H d v->Hvs K H (ds.set i d) (vs.set i v)
 |[],_,i,d,v,h,_=>by rw[h.inv0];exact .nil
 |x::ds,vs,0,d,v,h,q=>by
  obtain⟨u,r,rfl,_,z⟩:=h.inv;exact .cons q z
 |x::ds,vs,i+1,d,v,h,q=>by
  obtain⟨u,r,rfl,y,z⟩:=h.inv;exact .cons y (z.set i q)
theorem Hvs.erase:∀{ds:List D} {vs:List V} (i:Nat),Hvs K H ds vs->Hvs K H (ds.eraseIdx i) (vs.eraseIdx i)
 |[],_,i,h=>by rw[h.inv0];exact .nil
 |x::ds,vs,0,h=>by
  obtain⟨u,r,rfl,_,z⟩:=h.inv;exact z
 |x::ds,vs,i+1,h=>by
  obtain⟨u,r,rfl,y,z⟩:=h.inv;exact .cons y (z.erase i)
theorem Hvs.rep{ds:List D}{vs:List V}(h:Hvs K H ds vs):∀k:Nat,Hvs K H (List.replicate k ds).flatten (List.replicate k vs).flatten
 |0=>.nil
 |k+1=>by
  simp only[List.replicate_succ,List.flatten_cons];exact h.append (h.rep k)
theorem Hvs.ints:∀(ns:List Int),Hvs K H (ns.map D.int) (ns.map V.int)
 |[]=>.nil
 |n::ns=>.cons (by simp[Hv]) (Hvs.ints ns)
theorem Ext.laid{p:Addr}{o:HO}(h:H p=none):Ext H (upd H p o):=⟨fun b xs e=>by rw[qoz (qaqz e h)];exact e,fun b x u e=>by rw[qoz (qaqz e h)];exact e⟩
theorem GOk.ext{a:Addr}{o:GO}(h:GOk K H a o)(E:Ext H H')(e:H' a=H a):GOk K H' a o:=by
 cases o with
 |lst ds=>
  obtain⟨vs,z,q⟩:=h;exact⟨vs,e.trans z,q.ext E⟩
 |pen=>
  obtain⟨i,j,k,z,q⟩:=h;exact⟨i,j,k,e.trans z,q⟩
 |dct=>exact e.trans h
 |gen R=>
  obtain⟨h1,h2,h3⟩:=h;exact⟨h3 H H' E.tup E.frz e h1,by rw[e];exact h2,h3⟩
theorem RepG.laid{p:Addr}{o:HO}(R:RepG K G H)(h:H p=none):RepG K G (upd H p o):=fun a u e=>by
 have hne:a≠p:=fun z=>by
  rw[z,R.free h] at e;cases e
 exact (R a u e).ext (Ext.laid h) (qoz hne)
theorem RepG.laidG{p:Addr}{o:HO}{g:GO}(R:RepG K G H)(h:H p=none)(new:GOk K (upd H p o) p g):RepG K (upd3 G p g) (upd H p o):=fun a u e=>by
 by_cases z:a=p
 ·subst z;rw[qajz] at e;cases e;exact new
 ·rw[qabz z] at e;exact (R.laid h) a u e
theorem Step.laid{p:Addr}{o:HO}(h:H p=none):Step H G (upd H p o) G:=⟨fun a u e _=>by rw[qoz (qaqz e h)];exact e,fun a q=>by
 by_cases z:a=p
 ·rw[z,qwz];simp
 ·rw[qoz z];exact q,fun a n q=>absurd n q⟩
theorem Step.laidG{p:Addr}{o:HO}{g:GO}(h:H p=none):Step H G (upd H p o) (upd3 G p g):=⟨(Step.laid (G:=G) h).fr,(Step.laid (G:=G) h).trk,fun a n q=>by
 by_cases z:a=p
 ·rw[z];exact h
 ·rw[qabz z] at q;exact absurd n q⟩
theorem qrvz{p b:Addr}{xs ys:List V}(h:H p=some (.lst xs))(e:H b=some (.tup ys)):b≠p:=fun z=>by
 rw[z,h] at e;cases e
theorem qrwz{p b:Addr}{xs:List V}{o:Obj}{u:HO}(h:H p=some (.lst xs))(e:H b=some (.frz o u)):b≠p:=fun z=>by
 rw[z,h] at e;cases e
theorem Ext.wrote{p:Addr}{xs:List V}{o:HO}(h:H p=some (.lst xs)):Ext H (upd H p o):=
 ⟨fun b ys e=>by rw[qoz (qrvz h e)];exact e,fun b x u e=>by rw[qoz (qrwz h e)];exact e⟩
theorem RepG.wrote{p:Addr}{xs:List V}{o:HO}{g:GO}(R:RepG K G H)(h:H p=some (.lst xs))(new:GOk K (upd H p o) p g):RepG K (upd3 G p g) (upd H p o):=fun a u e=>by
 by_cases z:a=p
 ·subst z;rw[qajz] at e;cases e;exact new
 ·rw[qabz z] at e;exact (R a u e).ext (Ext.wrote h) (qoz z)
theorem RepG.newL{p:Addr}{xs:List V}{ds:List D}(R:RepG K G H)(h:H p=none)(hv:Hvs K H ds xs):RepG K (upd3 G p (.lst ds)) (upd H p (.lst xs)):=R.laidG h ⟨xs,qwz,hv.ext (.laid h)⟩
theorem RepG.wroteL{p:Addr}{xs ys:List V}{ds:List D}(R:RepG K G H)(e:H p=some (.lst xs))(hv:Hvs K H ds ys):RepG K (upd3 G p (.lst ds)) (upd H p (.lst ys)):=R.wrote e ⟨ys,qwz,hv.ext (.wrote e)⟩
theorem Step.wrote{p:Addr}{o:HO}{g u:GO}(h:G p=some u):Step H G (upd H p o) (upd3 G p g):=⟨fun a x e n=>by
 have hne:a≠p:=fun z=>by
  rw[z,h] at n;cases n
 rw[qoz hne];exact e,fun a q=>by
 by_cases z:a=p
 ·rw[z,qwz];simp
 ·rw[qoz z];exact q,fun a n q=>by
 have hne:a≠p:=fun z=>by
  rw[z,h] at n;cases n
 rw[qabz hne] at q;exact absurd n q⟩
end
abbrev S3:=List (Option D)
def at3:S3->Nat->Option D
 |[],_=>none
 |x::_,0=>x
 |_::r,n+1=>at3 r n
def set3:S3->Nat->D->S3
 |[],_,_=>[]
 |_::r,0,d=>some d::r
 |x::r,n+1,d=>x::set3 r n d
structure RepS(K:PySem.W.Frag)(τ:S3)(σ:L2.St)(H:Hp):Prop where
 len:τ.length=σ.length
 at_:∀(i:Nat) d,at3 τ i=some d->∃v,σ[i]?=some (some v)/\Hv K H d v
theorem qi9z:∀(τ:S3) (i:Nat) (d:D),(set3 τ i d).length=τ.length
 |[],_,_=>rfl
 |_::r,0,d=>rfl
 |x::r,n+1,d=>by simp[set3,qi9z r n d]
theorem qjaz:∀(τ:S3) (i j:Nat) (d:D),at3 (set3 τ i d) j=if j=i/\i<τ.length then some d else at3 τ j
 |[],i,j,d=>by simp[set3,at3]
 |x::r,0,0,d=>by simp[set3,at3]
 |x::r,0,j+1,d=>by simp[set3,at3]
 |x::r,i+1,0,d=>by simp[set3,at3]
 |x::r,i+1,j+1,d=>by
  simp only[set3,at3,qjaz r i j d,List.length_cons];by_cases h:j=i/\i<r.length
  ·rw[if_pos h,if_pos (by omega)]
  ·rw[if_neg h,if_neg (by omega)]
section
variable {K:PySem.W.Frag} {τ:S3} {σ:L2.St} {H H':Hp}
theorem RepS.ext(R:RepS K τ σ H)(E:Ext H H'):RepS K τ σ H':=⟨R.len,fun i d h=>by
 obtain⟨v,e,q⟩:=R.at_ i d h;exact⟨v,e,q.ext E⟩⟩
theorem RepS.set(R:RepS K τ σ H){i:Nat}{d:D}{v:V}(h:Hv K H d v):RepS K (set3 τ i d) (σ.set i (some v)) H:=⟨by rw[qi9z,List.length_set];exact R.len,fun j e q=>by
 rw[qjaz] at q;by_cases c:j=i/\i<τ.length
 ·rw[if_pos c] at q;cases q;refine⟨v,?_,h⟩;rw[c.1,List.getElem?_set_self (by rw[←R.len];exact c.2)]
 ·rw[if_neg c] at q;obtain⟨u,e1,e2⟩:=R.at_ j e q;refine⟨u,?_,e2⟩;by_cases hij:i=j
  ·subst hij;have:σ.length≤i:=by
    have:=R.len;have:¬i<τ.length:=fun z=>c ⟨rfl,z⟩;omega
   rw[List.getElem?_eq_none_iff.mpr this] at e1;cases e1
  ·rw[List.getElem?_set_ne hij];exact e1⟩
end
def start3:List Str->List D->S3
 |[],_=>[]
 |_::N,[]=>none::start3 N []
 |_::N,d::ds=>some d::start3 N ds
theorem qf1z:∀(N:List Str) (ds:List D),(start3 N ds).length=N.length
 |[],_=>rfl
 |_::N,[]=>by simp[start3,qf1z N []]
 |_::N,d::ds=>by simp[start3,qf1z N ds]
theorem qjbz:∀(N:List Str) (i:Nat),at3 (start3 N []) i=none
 |[],i=>rfl
 |_::N,0=>rfl
 |_::N,i+1=>qjbz N i
theorem qjcz:∀(N:List Str) (ds:List D) (i:Nat) (d:D),at3 (start3 N ds) i=some d->ds[i]?=some d
 |[],_,_,_,h=>by cases h
 |_::N,[],i,d,h=>by
  rw[qjbz] at h;cases h
 |_::N,x::ds,0,d,h=>by
  simp only[start3,at3] at h;simpa using h
 |_::N,x::ds,i+1,d,h=>by
  simp only[start3,at3] at h;simpa using qjcz N ds i d h
theorem RepS.start{K:PySem.W.Frag}{N:List Str}{ds:List D}{vs:List V}{H:Hp}(h:Hvs K H ds vs)(hl:vs.length≤N.length):RepS K (start3 N ds) (L2.start N vs) H:=⟨by
 rw[qf1z];simp[L2.start];omega,fun i d e=>by
 obtain⟨v,e1,q⟩:=h.get (qjcz N ds i d e);refine⟨v,?_,q⟩;unfold L2.start;have hi:i<vs.length:=(List.getElem?_eq_some_iff.mp e1).1;rw[List.getElem?_append_left (by simpa using hi),List.getElem?_map,e1];rfl⟩
abbrev V3:=D->Gp->Prop
abbrev TE3:=S3->Gp->V3->Prop
abbrev TT3:=S3->Gp->(Bool->Gp->Prop)->Prop
abbrev TA3:=S3->Gp->(List D->Gp->Prop)->Prop
structure Ends3 where
 nx:S3->Gp->Prop
 rt:V3
 bk:S3->Gp->Prop:=fun _ _=>False
 ct:S3->Gp->Prop:=fun _ _=>False
abbrev TS3:=Ends3->S3->Gp->Prop
def low(K:PySem.W.Frag)(t:TE3):TE:=fun σ H Q=>∃τ G Q3,RepS K τ σ H/\RepG K G H/\t τ G Q3/\∀v H' d G',Hv K H' d v->Step H G H' G'->RepG K G' H'->Q3 d G'->Q v H'
def lowT(K:PySem.W.Frag)(t:TT3):TT:=fun σ H Q=>∃τ G Q3,RepS K τ σ H/\RepG K G H/\t τ G Q3/\∀b H' G',Step H G H' G'->RepG K G' H'->Q3 b G'->Q b H'
def lowA(K:PySem.W.Frag)(t:TA3):TA:=fun σ H Q=>∃τ G Q3,RepS K τ σ H/\RepG K G H/\t τ G Q3/\∀vs H' ds G',Hvs K H' ds vs->Step H G H' G'->RepG K G' H'->Q3 ds G'->Q vs H'
structure EndsLow(K:PySem.W.Frag)(H:Hp)(G:Gp)(D3:Ends3)(D2:Ends):Prop where
 nx:∀τ σ G' H',RepS K τ σ H'->Step H G H' G'->RepG K G' H'->D3.nx τ G'->D2.nx σ H'
 bk:∀τ σ G' H',RepS K τ σ H'->Step H G H' G'->RepG K G' H'->D3.bk τ G'->D2.bk σ H'
 ct:∀τ σ G' H',RepS K τ σ H'->Step H G H' G'->RepG K G' H'->D3.ct τ G'->D2.ct σ H'
 rt:∀d v G' H',Hv K H' d v->Step H G H' G'->RepG K G' H'->D3.rt d G'->D2.rt v H'
theorem EndsLow.step{K:PySem.W.Frag}{H H1:Hp}{G G1:Gp}{D3:Ends3}{D2:Ends}(E:EndsLow K H G D3 D2)(S:Step H G H1 G1):EndsLow K H1 G1 D3 D2:=
 ⟨fun τ σ G' H' a b c q=>E.nx τ σ G' H' a (S.trans b) c q,fun τ σ G' H' a b c q=>E.bk τ σ G' H' a (S.trans b) c q,fun τ σ G' H' a b c q=>E.ct τ σ G' H' a (S.trans b) c q,fun d v G' H' a b c q=>E.rt d v G' H' a (S.trans b) c q⟩
def lowS(K:PySem.W.Frag)(t:TS3):TS:=fun D2 σ H=>∃τ G D3,RepS K τ σ H/\RepG K G H/\t D3 τ G/\EndsLow K H G D3 D2
abbrev PE3(X:Cx)(e:Expr)(t:TE3):Prop:=PE X e (low X.K t)
abbrev PT3(X:Cx)(e:Expr)(t:TT3):Prop:=PT X e (lowT X.K t)
abbrev PW3(X:Cx)(e:Expr)(t:TT3):Prop:=PW X e (lowT X.K t)
abbrev PA3(X:Cx)(es:List Expr)(t:TA3):Prop:=PA X es (lowA X.K t)
abbrev PS3(X:Cx)(st:Stmt)(t:TS3):Prop:=PS X st (lowS X.K t)
abbrev PSs3(X:Cx)(st:List Stmt)(t:TS3):Prop:=PSs X st (lowS X.K t)
section
variable {X:Cx} {e:Expr}
theorem qyz{t t':TE}(h:PE X e t)(f:∀σ H Q,t' σ H Q->t σ H Q):PE X e t':=fun pins s σ H Q I q=>h pins s σ H Q I (f σ H Q q)
theorem qf2z{t t':TT}(h:PT X e t)(f:∀σ H Q,t' σ H Q->t σ H Q):PT X e t':=fun pins s σ H Q I q=>h pins s σ H Q I (f σ H Q q)
theorem pw_of{t t':TT}(h:PW X e t)(f:∀σ H Q,t' σ H Q->t σ H Q):PW X e t':=fun w pins s σ H Q I q=>h w pins s σ H Q I (f σ H Q q)
theorem qjdz{es:List Expr}{t t':TA}(h:PA X es t)(f:∀σ H Q,t' σ H Q->t σ H Q):PA X es t':=fun p pins s σ H Q I q=>h p pins s σ H Q I (f σ H Q q)
theorem qa7z{st:Stmt}{t t':TS}(h:PS X st t)(f:∀D σ H,t' D σ H->t D σ H):PS X st t':=fun pins s σ H Q I q=>h pins s σ H Q I (f Q σ H q)
theorem qjez{st:List Stmt}{t t':TS}(h:PSs X st t)(f:∀D σ H,t' D σ H->t D σ H):PSs X st t':=fun pins s σ H Q I q=>h pins s σ H Q I (f Q σ H q)
end
def Br(b:Bool)(A B:Prop):Prop:=(b=true->A)/\(b=false->B)
theorem Br.ite{b:Bool}{A B A' B':Prop}(h:Br b A B)(f:A->A')(g:B->B'):if b=true then A' else B':=by
 cases b with
 |true=>rw[if_pos rfl];exact f (h.1 rfl)
 |false=>rw[if_neg Bool.false_ne_true];exact g (h.2 rfl)
section
variable {X:Cx} {a b e c:Expr} {ta tb te:TE3} {tA tB:TT3} {pos:Pos} {es rest:List Expr}
def eC(d:D):TE3:=fun _ G Q=>Q d G
def eVar(i:Nat):TE3:=fun τ G Q=>match at3 τ i with
 |some d=>Q d G
 |none=>False
theorem qrxz{i:Nat}{x:Str}(h:PE X (.Name x pos) (tVar i)):PE3 X (.Name x pos) (eVar i):=qyz h fun σ H Q ⟨τ,G,Q3,RS,RG,h,k⟩=>by
 unfold eVar at h;cases hd:at3 τ i with
 |none=>rw[hd] at h;exact h.elim
 |some d=>
  rw[hd] at h;obtain⟨v,e1,e2⟩:=RS.at_ i d hd;exact⟨v,e1,k v H d G e2 (.refl H G) RG h⟩
theorem qefz{v:V}{d:D}(h:PE X e (tC v))(r:∀H,Hv X.K H d v):PE3 X e (eC d):=qyz h fun σ H Q ⟨τ,G,Q3,RS,RG,h,k⟩=>k v H d G (r H) (.refl H G) RG h
theorem qryz{i:Int}{j}:PE3 X (.Constant (.int i) j pos) (eC (.int i)):=qefz qpkz fun H=>by simp[Hv]
theorem e_bl{i:Bool}{j}:PE3 X (.Constant (.bool i) j pos) (eC (.bl i)):=qefz qplz fun H=>by simp[Hv]
theorem qrzz{j}:PE3 X (.Constant .none j pos) (eC .non):=qefz qpmz fun H=>by simp[Hv]
theorem qr0z{x:Str}{i:Int}{u:Tok}(hm:X.mg x=some (.int i u))(hg:Gl X x:=by rfl)(hd:(x==("__debug__":Str))=false:=by decide):PE3 X (.Name x pos) (eC (.int i)):=qefz (v:=.int i) (qpnz hg hm ⟨u,rfl⟩ hd) fun H=>by simp[Hv]
abbrev R3:=D->D->Gp->V3->Prop
def eOp(r:R3)(ta tb:TE3):TE3:=fun τ G Q=>ta τ G fun x G1=>tb τ G1 fun y G2=>r x y G2 Q
def LowR(K:PySem.W.Frag)(r:R3)(r2:R2):Prop:=∀x y vx vy G H Q3 Q,Hv K H x vx->Hv K H y vy->RepG K G H->r x y G Q3->(∀v H' d G',Hv K H' d v->Step H G H' G'->RepG K G' H'->Q3 d G'->Q v H')->r2 vx vy H Q
theorem qegz{K:PySem.W.Frag}{r:R3}{r2:R2}(L:LowR K r r2){σ:L2.St}{H:Hp}{Q:VK}(h:low K (eOp r ta tb) σ H Q):tOp r2 (low K ta) (low K tb) σ H Q:=by
 obtain⟨τ,G,Q3,RS,RG,h,k⟩:=h;refine⟨τ,G,_,RS,RG,h,fun v1 H1 d1 G1 h1 S1 R1 q1=>?_⟩;refine⟨τ,G1,_,RS.ext (S1.ext RG),R1,q1,fun v2 H2 d2 G2 h2 S2 R2 q2=>?_⟩;exact L _ _ _ _ _ _ _ _ (h1.ext (S2.ext R1)) h2 R2 q2 fun v H' d G' z1 z2 z3 z4=>k v H' d G' z1 ((S1.trans S2).trans z2) z3 z4
theorem e_op{op:Operator}{r:R3}{r2:R2}(L:LowR X.K r r2)(ho:OpR X (binaryOp op) r2)(ha:PE3 X a ta)(hb:PE3 X b tb):PE3 X (.BinOp a op b pos) (eOp r ta tb):=
 qyz (qqgz ho ha hb) fun _ _ _ h=>qegz L h
theorem qr1z{op:CmpOp}{r:R3}{r2:R2}(L:LowR X.K r r2)(ho:OpR X (compareOp op) r2)(ha:PE3 X a ta)(hb:PE3 X b tb)(hm:behindInMarks op b=false):PE3 X (.Compare a [op] [b] pos) (eOp r ta tb):=
 qyz (qqjz ho ha hb hm) fun _ _ _ h=>qegz L h
def eTest(t:TE3):TT3:=fun τ G Q=>t τ G fun x G1=>match x with
 |.bl k=>Q k G1
 |_=>False
theorem qjfz{K:PySem.W.Frag}{t:TE3}{σ:L2.St}{H:Hp}{Q:Bool->Hp->Prop}(h:lowT K (eTest t) σ H Q):tTest (low K t) σ H Q:=by
 obtain⟨τ,G,Q3,RS,RG,h,k⟩:=h;refine⟨τ,G,_,RS,RG,h,fun v H' d G' h1 h2 h3 h4=>?_⟩;cases d with
 |bl c=>
  unfold Hv at h1;exact⟨c,h1,k c H' G' h2 h3 h4⟩
 |_=>exact h4.elim
theorem qr2z{op:CmpOp}{r:R3}{r2:R2}(L:LowR X.K r r2)(ho:OpR X (compareOp op) r2)(ha:PE3 X a ta)(hb:PE3 X b tb)(hm:behindInMarks op b=false):PT3 X (.Compare a [op] [b] pos) (eTest (eOp r ta tb)):=
 qf2z (qqkz ho ha hb hm) fun σ H Q h=>by
  obtain⟨τ,G,Q3,RS,RG,h,k⟩:=qjfz h;exact qegz L ⟨τ,G,Q3,RS,RG,h,k⟩
theorem qr3z(h:PE3 X a ta)(he:∀whole,isTrue a X.env whole=(do let v ←whole;standAt a.pos;holding [v] (truthy v)):=by intro _;rfl):PT3 X a (eTest ta):=
 qf2z (qqoz h he) fun σ H Q h=>by
  obtain⟨τ,G,Q3,RS,RG,h,k⟩:=qjfz h;refine⟨τ,G,Q3,RS,RG,h,fun v H' d G' h1 h2 h3 h4=>?_⟩;obtain⟨c,rfl,q⟩:=k v H' d G' h1 h2 h3 h4;exact⟨c,rfl,q⟩
def eChain(r r':R3)(ta tb tc:TE3):TE3:=fun τ G Q=>ta τ G fun x G1=>tb τ G1 fun y G2=>r x y G2 fun z G3=>match z with
 |.bl k=>Br k (tc τ G3 fun w G4=>r' y w G4 Q) (Q (.bl false) G3)
 |_=>False
theorem qr4z{K:PySem.W.Frag}{r r':R3}{r2 r2':R2}(L:LowR K r r2)(L':LowR K r' r2'){tc:TE3}{σ:L2.St}{H:Hp}{Q:VK}(h:low K (eChain r r' ta tb tc) σ H Q):tChain r2 r2' (low K ta) (low K tb) (low K tc) σ H Q:=by
 obtain⟨τ,G,Q3,RS,RG,h,k⟩:=h;refine⟨τ,G,_,RS,RG,h,fun v1 H1 d1 G1 h1 S1 R1 q1=>?_⟩;refine⟨τ,G1,_,RS.ext (S1.ext RG),R1,q1,fun v2 H2 d2 G2 h2 S2 R2 q2=>?_⟩;refine L _ _ _ _ _ _ _ _ (h1.ext (S2.ext R1)) h2 R2 q2 fun v H3 d G3 z1 S3 R3 z4=>?_;cases d with
 |bl c=>
  unfold Hv at z1;refine⟨c,z1,Br.ite z4 (fun q=>?_) fun q=>?_⟩
  ·refine⟨τ,G3,_,((RS.ext (S1.ext RG)).ext (S2.ext R1)).ext (S3.ext R2),R3,q,fun v4 H4 d4 G4 h4 S4 R4 q4=>?_⟩;exact L' _ _ _ _ _ _ _ _ ((h2.ext (S3.ext R2)).ext (S4.ext R3)) h4 R4 q4 fun v H' d G' y1 y2 y3 y4=>k v H' d G' y1 ((((S1.trans S2).trans S3).trans S4).trans y2) y3 y4
  ·exact k _ H3 (.bl false) G3 (by simp[Hv]) ((S1.trans S2).trans S3) R3 q
 |_=>exact z4.elim
theorem qr5z{op op':CmpOp}{r r':R3}{r2 r2':R2}{tc:TE3}(L:LowR X.K r r2)(L':LowR X.K r' r2')(h:PE X e (tChain r2 r2' (low X.K ta) (low X.K tb) (low X.K tc))):PE3 X e (eChain r r' ta tb tc):=
 qyz h fun _ _ _ h=>qr4z L L' h
def eUn(r:D->Gp->V3->Prop)(ta:TE3):TE3:=fun τ G Q=>ta τ G fun x G1=>r x G1 Q
def rNeg3:D->Gp->V3->Prop:=fun x G Q=>match x with
 |.int i=>Q (.int (-i)) G
 |_=>False
theorem qr6z(ha:PE3 X a ta):PE3 X (.UnaryOp .USub a pos) (eUn rNeg3 ta):=qyz (qqhz qqiz ha) fun σ H Q h=>by
 obtain⟨τ,G,Q3,RS,RG,h,k⟩:=h;refine⟨τ,G,_,RS,RG,h,fun v H' d G' h1 h2 h3 h4=>?_⟩;cases d with
 |int i=>
  unfold Hv at h1;exact⟨i,h1,k _ H' (.int (-i)) G' (by simp[Hv]) h2 h3 h4⟩
 |_=>exact h4.elim
def eAnd(t u:TT3):TT3:=fun τ G Q=>t τ G fun c G1=>Br c (u τ G1 Q) (Q false G1)
def eOr(t u:TT3):TT3:=fun τ G Q=>t τ G fun c G1=>Br c (Q true G1) (u τ G1 Q)
def eNot(t:TT3):TT3:=fun τ G Q=>t τ G fun c G1=>Q (!c) G1
theorem qr7z(ha:PT3 X a tA):PW3 X (.BoolOp .And [a] pos) tA:=pw_and1 ha
theorem qr8z(ha:PT3 X a tA):PW3 X (.BoolOp .Or [a] pos) tA:=pw_or1 ha
theorem qr9z(ha:PT3 X a tA)(hb:PW3 X (.BoolOp .And (b::rest) pos) tB):PW3 X (.BoolOp .And (a::b::rest) pos) (eAnd tA tB):=pw_of (pw_and ha hb) fun σ H Q h=>by
 obtain⟨τ,G,Q3,RS,RG,h,k⟩:=h;refine⟨τ,G,_,RS,RG,h,fun c H1 G1 S1 R1 q1=>?_⟩;exact Br.ite q1 (fun q=>⟨τ,G1,Q3,RS.ext (S1.ext RG),R1,q,fun b' H' G' y1 y2 y3=>k b' H' G' (S1.trans y1) y2 y3⟩) fun q=>k false H1 G1 S1 R1 q
theorem qsaz(ha:PT3 X a tA)(hb:PW3 X (.BoolOp .Or (b::rest) pos) tB):PW3 X (.BoolOp .Or (a::b::rest) pos) (eOr tA tB):=pw_of (pw_or ha hb) fun σ H Q h=>by
 obtain⟨τ,G,Q3,RS,RG,h,k⟩:=h;refine⟨τ,G,_,RS,RG,h,fun c H1 G1 S1 R1 q1=>?_⟩;exact Br.ite q1 (fun q=>k true H1 G1 S1 R1 q) fun q=>⟨τ,G1,Q3,RS.ext (S1.ext RG),R1,q,fun b' H' G' y1 y2 y3=>k b' H' G' (S1.trans y1) y2 y3⟩
theorem tt_w(h:PW3 X a tA):PT3 X a tA:=h.pt
theorem qsbz(ha:PT3 X a tA):PT3 X (.UnaryOp .Not a pos) (eNot tA):=qf2z (qppz ha) fun σ H Q h=>by
 obtain⟨τ,G,Q3,RS,RG,h,k⟩:=h;exact⟨τ,G,_,RS,RG,h,fun c H1 G1 S1 R1 q1=>k _ H1 G1 S1 R1 q1⟩
def eAndV(ta tb:TE3):TE3:=fun τ G Q=>ta τ G fun x G1=>match x with
 |.bl c=>Br c (tb τ G1 Q) (Q (.bl false) G1)
 |_=>False
def eNotV(ta:TE3):TE3:=fun τ G Q=>ta τ G fun x G1=>match x with
 |.bl c=>Q (.bl (!c)) G1
 |_=>False
theorem qscz{op}(h:PE3 X a ta):PE3 X (.BoolOp op [a] pos) ta:=qpqz h
theorem qsdz(ha:PE3 X a ta)(hb:PE3 X (.BoolOp .And (b::rest) pos) tb):PE3 X (.BoolOp .And (a::b::rest) pos) (eAndV ta tb):=qyz (qprz ha hb) fun σ H Q h=>by
 obtain⟨τ,G,Q3,RS,RG,h,k⟩:=h;refine⟨τ,G,_,RS,RG,h,fun v H1 d G1 h1 S1 R1 q1=>?_⟩;cases d with
 |bl c=>
  unfold Hv at h1;exact⟨c,h1,Br.ite q1 (fun q=>⟨τ,G1,Q3,RS.ext (S1.ext RG),R1,q,fun b' H' d' G' y0 y1 y2 y3=>k b' H' d' G' y0 (S1.trans y1) y2 y3⟩) fun q=>k _ H1 (.bl false) G1 (by simp[Hv]) S1 R1 q⟩
 |_=>exact q1.elim
theorem qsez(ha:PE3 X a ta):PE3 X (.UnaryOp .Not a pos) (eNotV ta):=qyz (qpsz ha) fun σ H Q h=>by
 obtain⟨τ,G,Q3,RS,RG,h,k⟩:=h;refine⟨τ,G,_,RS,RG,h,fun v H1 d G1 h1 S1 R1 q1=>?_⟩;cases d with
 |bl c=>
  unfold Hv at h1;exact⟨c,h1,k _ H1 (.bl (!c)) G1 (by simp[Hv]) S1 R1 q1⟩
 |_=>exact q1.elim
def eIf(t:TT3)(ta tb:TE3):TE3:=fun τ G Q=>t τ G fun c G1=>Br c (ta τ G1 Q) (tb τ G1 Q)
theorem qsfz(hc:PT3 X c tA)(ha:PE3 X a ta)(hb:PE3 X b tb):PE3 X (.IfExp c a b pos) (eIf tA ta tb):=qyz (qptz hc ha hb) fun σ H Q h=>by
 obtain⟨τ,G,Q3,RS,RG,h,k⟩:=h;refine⟨τ,G,_,RS,RG,h,fun c H1 G1 S1 R1 q1=>?_⟩;exact Br.ite q1 (fun q=>⟨τ,G1,Q3,RS.ext (S1.ext RG),R1,q,fun b' H' d' G' y0 y1 y2 y3=>k b' H' d' G' y0 (S1.trans y1) y2 y3⟩) fun q=>⟨τ,G1,Q3,RS.ext (S1.ext RG),R1,q,fun b' H' d' G' y0 y1 y2 y3=>k b' H' d' G' y0 (S1.trans y1) y2 y3⟩
def notStar:Expr->Bool
 |.Starred ..=>false
 |_=>true
theorem qpz{e:Expr}{es:List Expr}{env:Env}(h:notStar e=true):starEach (e::es) env=(false,eval e env)::starEach es env:=by
 cases e<;>first|rfl|(simp[notStar] at h)
theorem q4z{pos:Pos}{env:Env}:∀{es:List Expr},es.all notStar=true->(backTo pos (starEach es env)).any (·.1)=false
 |[],_=>rfl
 |e::es,h=>by
  rw[List.all_cons,Bool.and_eq_true] at h;rw[qpz h.1];show (false||(backTo pos (starEach es env)).any (·.1))=false;rw[q4z h.2];rfl
def aNil:TA3:=fun _ G Q=>Q [] G
def aCons(ta:TE3)(tr:TA3):TA3:=fun τ G Q=>ta τ G fun x G1=>tr τ G1 fun xs G2=>Q (x::xs) G2
theorem qsgz:PA3 X [] aNil:=qjdz qbvz fun σ H Q ⟨τ,G,Q3,RS,RG,h,k⟩=>k [] H [] G .nil (.refl H G) RG h
theorem qshz{tr:TA3}(ha:PE3 X a ta)(hr:PA3 X es tr)(hs:notStar a=true:=by rfl):PA3 X (a::es) (aCons ta tr):=qjdz (qbiz ha hr (qpz hs)) fun σ H Q h=>by
 obtain⟨τ,G,Q3,RS,RG,h,k⟩:=h;refine⟨τ,G,_,RS,RG,h,fun v1 H1 d1 G1 h1 S1 R1 q1=>?_⟩;refine⟨τ,G1,_,RS.ext (S1.ext RG),R1,q1,fun vs H2 ds G2 h2 S2 R2 q2=>?_⟩;exact k _ H2 _ G2 (.cons (h1.ext (S2.ext R1)) h2) (S1.trans S2) R2 q2
def smallL{α:Type}(P:Prop):List α->Nat->Prop
 |[],_=>P
 |_::_,0=>False
 |_::xs,n+1=>smallL P xs n
theorem qehz{α:Type}{P:Prop}:∀{xs:List α} {n:Nat},smallL P xs n->xs.length≤n/\P
 |[],n,h=>⟨Nat.zero_le _,h⟩
 |_::_,0,h=>h.elim
 |_::xs,n+1,h=>by
  obtain⟨h1,h2⟩:=qehz (xs:=xs) (n:=n) h;exact⟨Nat.succ_le_succ h1,h2⟩
theorem line64{n:Nat}(h:n≤64):n≤sizeLine:=Nat.le_trans h (by decide)
def eTup(t:TA3):TE3:=fun τ G Q=>t τ G fun ds G1=>smallL (Q (.tup ds) G1) ds 64
def eLst(t:TA3):TE3:=fun τ G Q=>t τ G fun ds G1=>smallL (∀p G2,New G1 p (.lst ds) G2->Q (.obj p) G2) ds 64
theorem qsiz{t:TA3}{x1}(h:PA3 X es t):PE3 X (.Tuple es x1 pos) (eTup t):=qyz (qqsz h) fun σ H Q h=>by
 obtain⟨τ,G,Q3,RS,RG,h,k⟩:=h;refine⟨τ,G,_,RS,RG,h,fun vs H1 ds G1 h1 S1 R1 q1=>?_⟩;obtain⟨z,q1⟩:=qehz q1;refine⟨by rw[←h1.length];exact line64 z,fun p hp=>?_⟩;refine k _ _ (.tup ds) G1 ?_ (S1.trans (.laid hp)) (R1.laid hp) q1;unfold Hv;exact⟨p,vs,rfl,.of qwz,h1.ext (.laid hp)⟩
theorem qsjz{t:TA3}(h:PA3 X es t):PE3 X (.List es pos) (eLst t):=qyz (qivz h) fun σ H Q h=>by
 obtain⟨τ,G,Q3,RS,RG,h,k⟩:=h;refine⟨τ,G,_,RS,RG,h,fun vs H1 ds G1 h1 S1 R1 q1=>?_⟩;obtain⟨z,q1⟩:=qehz q1;refine⟨by rw[←h1.length];exact line64 z,fun p hp=>?_⟩;exact k _ _ (.obj p) (upd3 G1 p (.lst ds)) (by simp[Hv]) (S1.trans (.laidG hp)) (R1.laidG hp ⟨vs,qwz,h1.ext (.laid hp)⟩) (q1 p _ (.mk' (R1.free hp)))
end
end L3
namespace L2
open PySem PySem.Spec PyProof.Rows
def clos(env:Env):List (Str×NameKind)->List (Str×Addr)->List (Str×Addr)
 |[],acc=>acc
 | (n,k)::r,acc=>clos env r (if k=.free then (n,(env.cells.lookup n).getD 0)::acc else acc)
theorem qjgz{scope:Scope}{env:Env}(h:∀y∈scope.names,y.2=.free->∃c,env.cells.lookup y.1=some c):closureFor scope env=pure (clos env scope.names []):=by
 have key:∀(l:List (Str×NameKind)) (acc:List (Str×Addr)),(∀y∈l,y.2=.free->∃c,env.cells.lookup y.1=some c) ->
   (forIn l acc fun (x:Str×NameKind) (r:List (Str×Addr))=>(do
    if (x.2==NameKind.free)=true then do
     let a ←cellOf env x.1
     pure (ForInStep.yield ((x.1,a)::r))
    else pure (ForInStep.yield r):Sem (ForInStep (List (Str×Addr)))))=pure (clos env l acc):=by
  intro l
  induction l with
  |nil=>intro acc _;rfl
  |cons y r ih=>
   intro acc hy;obtain⟨n,k⟩:=y;rw[List.forIn_cons];by_cases hk:k=.free
   ·obtain⟨c,hc⟩:=hy (n,k) List.mem_cons_self hk;have e1:cellOf env n=pure c:=by unfold cellOf;rw[show env.cells.lookup n=some c from hc]
    subst hk;simp only[beq_self_eq_true,if_true,e1,pure_bind];rw[ih _ fun y hy'=>hy y (List.mem_cons_of_mem _ hy')];show _=pure (clos env r (if NameKind.free=NameKind.free then (n,(env.cells.lookup n).getD 0)::acc else acc));rw[if_pos rfl,show env.cells.lookup n=some c from hc];rfl
   ·have hb:(k==NameKind.free)=false:=by simpa using hk
    simp only[hb,Bool.false_eq_true,if_false,pure_bind];rw[ih _ fun y hy'=>hy y (List.mem_cons_of_mem _ hy')];show _=pure (clos env r (if k=NameKind.free then (n,(env.cells.lookup n).getD 0)::acc else acc));rw[if_neg hk]
 have:=key scope.names [] h;unfold closureFor
 first
  |exact (by simpa using this)
  | (simp only[bind_pure];exact this)
theorem qjhz{env:Env}{x:Str}{c:Addr}:∀(l:List (Str×NameKind)) (acc:List (Str×Addr)),(clos env l acc).lookup x=some c ->
  acc.lookup x=some c∨((x,NameKind.free)∈l/\c=(env.cells.lookup x).getD 0)
 |[],_,h=>.inl h
 | (n,k)::r,acc,h=>by
  rcases qjhz r _ h with q|⟨q1,q2⟩
  ·by_cases hk:k=.free
   ·rw[if_pos hk,List.lookup_cons] at q;by_cases hx:(x==n)=true
    ·rw[hx] at q;have hx':x=n:=by simpa using hx
     subst hx' hk;exact .inr ⟨List.mem_cons_self,(Option.some.inj q).symm⟩
    ·have hx2:(x==n)=false:=by simpa using hx
     rw[hx2] at q;exact .inl q
   ·rw[if_neg hk] at q;exact .inl q
  ·exact .inr ⟨List.mem_cons_of_mem _ q1,q2⟩
theorem qjiz{env:Env}{x:Str}:∀(l:List (Str×NameKind)) (acc:List (Str×Addr)),acc.lookup x=some ((env.cells.lookup x).getD 0)->(clos env l acc).lookup x=some ((env.cells.lookup x).getD 0)
 |[],_,h=>h
 | (n,k)::r,acc,h=>by
  refine qjiz r _ ?_;by_cases hk:k=.free
  ·rw[if_pos hk,List.lookup_cons];by_cases hx:(x==n)=true
   ·rw[hx];have hx':x=n:=by simpa using hx
    rw[hx']
   ·have hx2:(x==n)=false:=by simpa using hx
    rw[hx2];exact h
  ·rw[if_neg hk];exact h
theorem qjjz{env:Env}{x:Str}:∀(l:List (Str×NameKind)) (acc:List (Str×Addr)),(x,NameKind.free)∈l->(clos env l acc).lookup x=some ((env.cells.lookup x).getD 0)
 |[],_,h=>by cases h
 | (n,k)::r,acc,h=>by
  rcases List.mem_cons.mp h with e|e
  ·cases e;refine qjiz r _ ?_;rw[if_pos rfl,List.lookup_cons,beq_self_eq_true]
  ·exact qjjz r _ e
structure CmpOk(N:List Str)(sc scope:Scope)(own:List Str)(js:List Nat):Prop where
 kind:scope.kind=.function
 nocell:∀y∈scope.names,y.2≠.cell
 names:∀y∈scope.names,y.2=.local->scope.names.lookup y.1=some .local
 free:∀y∈scope.names,y.2=.free->sc.names.lookup y.1=some .cell/\own.contains y.1=false
 only:∀y∈scope.names,y.2=.free->scope.names.lookup y.1=some .free
 js:∀j∈js,j<N.length/\(N.getD j Str.empty,NameKind.free)∈scope.names
def cmpN(N own:List Str)(js:List Nat):List Str:=own++js.map fun j=>N.getD j Str.empty
def cmpSt(own:List Str)(js:List Nat)(σ:St):St:=List.replicate own.length none++js.map fun j=>(σ[j]?).getD none
def Cx.cmp(X:Cx)(scope:Scope)(own:List Str)(js:List Nat)(s:Shared)(H:Hp)(fp:List Addr):Cx:=
 { X with N:=cmpN X.N own js,s₀:=s,H₀:=H,env:=compEnvC scope (clos X.env scope.names []) s.heap.objs.size X.env,outer:=X.stack,ex:=fp,fn:=fun x=>own.contains x,pn:=[],xe:=fun _ _=>False }
theorem qeiz{sc:Scope}{env:Env}{x:Str}{k:NameKind}:∀(names:List (Str×NameKind)),
  (names.map fun (n,k)=>if (k==NameKind.free&&env.scope.kind==.function&&env.kindOf n==some .cell) then (n,NameKind.cell) else (n,k)).lookup x=some k ->
  (names.lookup x=some k/\(k≠.free∨k=.free))∨(k=.cell/\names.lookup x=some .free)
 |[],h=>by simp at h
 | (n,k')::r,h=>by
  have ih:=@qeiz sc env x k r;have h':List.lookup x ((if (k'==NameKind.free&&env.scope.kind==.function&&env.kindOf n==some .cell)=true then (n,NameKind.cell) else (n,k'))::_)=some k:=h;rw[List.lookup_cons];by_cases hc:(k'==NameKind.free&&env.scope.kind==.function&&env.kindOf n==some .cell)=true
  ·rw[if_pos hc,List.lookup_cons] at h';cases hx:x==n with
   |true=>
    rw[hx] at h';have e:NameKind.cell=k:=Option.some.inj h';have hk':k'=.free:=by
     rw[Bool.and_eq_true,Bool.and_eq_true] at hc;simpa using hc.1.1
    exact .inr ⟨e.symm,by rw[hk']⟩
   |false=>
    rw[hx] at h';exact ih h'
  ·rw[if_neg hc,List.lookup_cons] at h';cases hx:x==n with
   |true=>
    rw[hx] at h';have e:k'=k:=Option.some.inj h';subst e;exact .inl ⟨rfl,by by_cases z:k'=.free;exact .inr z;exact .inl z⟩
   |false=>
    rw[hx] at h';exact ih h'
theorem qf3z{x:Str}{k:NameKind}{l:List (Str×NameKind)}(h:l.lookup x=some k):(x,k)∈l:=PySem.mem_of_lookup h
section
variable {X:Cx} {pins:List (Addr×Obj)} {σ:St} {H:Hp} {s:Shared} {scope:Scope} {own:List Str} {js:List Nat} {fp:List Addr}
theorem CmpOk.cells(C:CmpOk X.N X.env.scope scope own js)(ok:X.Ok):∀y∈scope.names,y.2=.free->∃c,X.env.cells.lookup y.1=some c:=fun y hy e=>
 ok.has y.1 (.inl (C.free y hy e).1)
theorem CmpOk.cl_of(C:CmpOk X.N X.env.scope scope own js)(ok:X.Ok){x:Str}{c:Addr}(h:(clos X.env scope.names []).lookup x=some c):(x,NameKind.free)∈scope.names/\X.env.cells.lookup x=some c:=by
 rcases qjhz scope.names [] h with q|⟨q1,q2⟩
 ·cases q
 ·obtain⟨c',e⟩:=C.cells ok _ q1 rfl;refine⟨q1,?_⟩;rw[q2,show X.env.cells.lookup x=some c' from e];rfl
theorem CmpOk.cl_has(C:CmpOk X.N X.env.scope scope own js)(ok:X.Ok){x:Str}(h:(x,NameKind.free)∈scope.names):∃c,(clos X.env scope.names []).lookup x=some c/\X.env.cells.lookup x=some c:=by
 obtain⟨c,e⟩:=C.cells ok _ h rfl;refine⟨c,?_,e⟩;rw[qjjz scope.names [] h,show X.env.cells.lookup x=some c from e];rfl
theorem Inv.cmpOk(I:Inv X pins σ H s)(C:CmpOk X.N X.env.scope scope own js)(hf:∀b∈fp,FpOk X pins H b/\b<s.heap.objs.size):(X.cmp scope own js s H fp).Ok where
 mod:=I.ok.mod
 kind:=C.kind
 glob:=I.ok.glob
 blt:=I.ok.blt
 above:=Nat.le_refl _
 inj:=fun x y c h1 h2=>I.ok.inj x y c (C.cl_of I.ok h1).2 (C.cl_of I.ok h2).2
 has:=fun x h=>by
  have hfree:(x,NameKind.free)∈scope.names:=by
   rcases h with h|h
   ·rcases qeiz (sc:=scope) (env:=X.env) scope.names h with⟨q,_⟩|⟨_,q⟩
    ·exact absurd rfl (C.nocell _ (qf3z q))
    ·exact qf3z q
   ·rcases qeiz (sc:=scope) (env:=X.env) scope.names h with⟨q,_⟩|⟨q,_⟩
    ·exact qf3z q
    ·cases q
  obtain⟨c,e,_⟩:=C.cl_has I.ok hfree;exact⟨c,e⟩
 cab:=fun x c h1 h2=>by
  have q:=(C.free _ (C.cl_of I.ok h2).1 rfl).2;have h1':own.contains x=true:=h1;rw[q] at h1';cases h1'
 hd:=I.ok.hd
 frames:=I.ok.frames
 stk:=.inl rfl
 exf:=fun b hb=>⟨Nat.ne_of_lt (hf b hb).2,fun x c e=>(hf b hb).1.2.2.2.2.1 x c (C.cl_of I.ok e).2⟩
 bs:=I.bs
 bsz:=Nat.le_trans I.ok.bsz I.sz
 noex:=fun b o e hb=>by
  rcases (hf b hb).1.2.2.2.1 with z|z
  ·exact I.ok.noex b o e z
  ·exact absurd (Nat.lt_of_lt_of_le (Heap.lt_size e) (Nat.le_trans I.ok.bsz z)) (Nat.lt_irrefl _)
 exfs:=fun b hb z=>by
  rcases List.mem_cons.mp (I.stkSub b z) with e|e
  ·exact (hf b hb).1.2.1 e
  ·exact (hf b hb).1.2.2.1 e
 funs:=I.stack
 frf:=I.stkFree
theorem qskz{N:List Str}{js:List Nat}{i:Nat}{x:Str}(h:(js.map fun j=>N.getD j Str.empty)[i]?=some x):∃j,js[i]?=some j/\x=N.getD j Str.empty:=by
 rw[List.getElem?_map] at h;cases e:js[i]? with
 |none=>rw[e] at h;cases h
 |some j=>rw[e] at h;exact⟨j,rfl,(Option.some.inj h).symm⟩
theorem Inv.cmp(I:Inv X pins σ H s)(C:CmpOk X.N X.env.scope scope own js)(hf:∀b∈fp,FpOk X pins H b/\b<s.heap.objs.size){h':Heap}{tk:Nat}(hn:h'.Ns s.heap.objs.size fun _=>none)
  (kept:∀b o,s.heap.get? b=some o->h'.get? b=some o):Inv (X.cmp scope own js s H fp) [] (cmpSt own js σ) H { s with heap:=h',toks:=tk }:=by
 have ok:=I.cmpOk C hf;refine⟨ok,rfl,I.bare,Un.kept kept,⟨_,hn,fun i x v h1 h2 h3=>?_⟩,fun x c e=>?_,I.hok.fresh (Nat.le_refl _),fun x c e=>I.freeC x c (C.cl_of I.ok e).2,fun p hp=>?_,I.hok.kept kept,?_⟩
 ·have h1':(own++js.map fun j=>X.N.getD j Str.empty)[i]?=some x:=h1;have h2':(List.replicate own.length none++js.map fun j=>(σ[j]?).getD none)[i]?=some (some v):=h2;by_cases hi:i<own.length
  ·rw[List.getElem?_append_left (by simpa using hi),List.getElem?_replicate,if_pos hi] at h2';cases h2'
  ·rw[List.getElem?_append_right (by omega)] at h1';rw[List.getElem?_append_right (by simp;omega),List.length_replicate] at h2';obtain⟨j,hj,rfl⟩:=qskz h1';rw[List.getElem?_map,hj] at h2';have h2'':(σ[j]?).getD none=some v:=Option.some.inj h2';have hσ:σ[j]?=some (some v):=by
    cases e:σ[j]? with
    |none=>rw[e] at h2'';cases h2''
    |some o=>
     rw[e] at h2'';have:o=some v:=h2'';rw[this]
   obtain⟨jl,jf⟩:=C.js j (List.mem_of_getElem? hj);have hN:X.N[j]?=some (X.N.getD j Str.empty):=by
    rw[List.getD_eq_getElem?_getD,List.getElem?_eq_getElem jl];rfl
   have hcell:=(C.free _ jf rfl).1;obtain⟨m,hm,hl⟩:=I.loc;obtain⟨u,ru,lk⟩:=hl j _ v hN hσ (.inr (.inl hcell));refine⟨u,ru,?_⟩;obtain⟨c,e1,e2⟩:=C.cl_has I.ok jf;rcases lk with⟨z,_⟩|⟨_,c',z1,z2⟩
   ·have z':X.env.scope.names.lookup (X.N.getD j Str.empty)=some .local:=z;rw[show X.env.scope.names.lookup (X.N.getD j Str.empty)=some .cell from hcell] at z';cases z'
   ·rw[e2] at z1;cases z1;have ic:h'.IsCell c (some u):=by
     obtain⟨o,q1,q2⟩:=z2;exact⟨o,kept _ _ q1,q2⟩
    rcases h3 with h3|h3|h3
    ·exfalso;rcases qeiz (sc:=scope) (env:=X.env) scope.names h3 with⟨q,_⟩|⟨q,_⟩
     ·have z:=C.only _ jf rfl;rw[q] at z;cases z
     ·cases q
    ·exact .inr ⟨.inl h3,c,e1,ic⟩
    ·exact .inr ⟨.inr h3,c,e1,ic⟩
 ·obtain⟨v,o,q1,q2⟩:=I.cell x c (C.cl_of I.ok e).2;exact⟨v,o,kept _ _ q1,q2⟩
 ·exact absurd (show p∈([]:List (Addr×Obj)) from hp) (by simp)
 ·show (List.replicate own.length none++js.map fun j=>(σ[j]?).getD none).length=(own++js.map fun j=>X.N.getD j Str.empty).length;simp
theorem Inv.uncmp{σ':St}{H':Hp}{s':Shared}{pl:List (Addr×Obj)}(I:Inv X pins σ H s)(hf:∀b∈fp,FpOk X pins H b/\b<s.heap.objs.size)(J:Inv (X.cmp scope own js s H fp) pl σ' H' s'):Inv X pins σ H' s':=by
 refine I.call' (ch:=fp) J.os J.base J.hok J.bare fun b hb=>?_;obtain⟨f0,f1,f2,f3,f4,f5⟩:=(hf b hb).1;exact⟨f3,f1,f4,f5⟩
theorem Inv.other{H':Hp}{s':Shared}{h':Heap}{b:Addr}(I0:Inv X pins σ H s)(I:Inv X pins σ H' s')(hb:s.heap.objs.size≤b)(hn:H' b=none)(sb:Heap.SameBut b s'.heap h'):Inv X pins σ H' { s' with heap:=h' }:=by
 obtain⟨f0,f1,f2,f3,f4,f5⟩:=I0.fpOk hb hn;exact I.turned (t':=s'.toks) (fun c o hc e=>(sb.2 c hc).trans e) f0 f1 f3 f4 f5
end
def PCt(X:Cx)(ifs:List Expr)(t:TT):Prop:=
 ∀(pins:List (Addr×Obj)) (s:Shared) (σ:St) (H:Hp) (Q:Bool->Hp->Prop),Inv X pins σ H s->t σ H Q ->
  wpAny (model X.prog X.w) X.A (forIn ifs true fun c r=>if r=true then do let ok ←isTrue c X.env (eval c X.env);pure (ForInStep.yield ok) else pure (ForInStep.yield r)) (TP X pins σ Q) X.xe s
def tNoTest:TT:=fun _ H Q=>Q true H
theorem qslz{X:Cx}:PCt X [] tNoTest:=fun _ _ _ H _ I h=>wpAny_tests_nil ⟨H,I,h⟩
theorem qsmz{X:Cx}{c:Expr}{t:TT}(h:PT X c t):PCt X [c] t:=fun pins s σ H Q I hq=>wpAny_tests_one (h pins s σ H Q I hq)
section
variable {prog:Program} {w:World} {A:Around} {R:Result->Shared->Prop} {s:Shared}
theorem qsnz{elt target iter:Expr}{ifs:List Expr}{scope:Scope}{pos:Pos}{it acc:Value}{env:Env}(I:Nat->Shared->Prop)
  (turn:∀n s,I n s->wpAny (model prog w) A (pyNext it) (fun r s₁=>match r with
   |none=>R (.ok .next) s₁
   | some v=>wpAny (model prog w) A (letOwnedTupleGo target it v) (fun _ s₁'=>wpAny (model prog w) A (assign target env v) (fun _ s₂=>
     wpAny (model prog w) A (forIn ifs true fun c r=>if r=true then do let ok ←isTrue c env (eval c env);pure (ForInStep.yield ok) else pure (ForInStep.yield r)) (fun ok s₃=>
      if ok=true then wpAny (model prog w) A (eval elt env) (fun x s₄=>
       wpAny (model prog w) A (call (.builtin "list.append") [acc,x]) (fun _ s₅=>∃m,m<n/\I m s₅) (fun _ _=>False) s₄) (fun _ _=>False) s₃
      else ∃m,m<n/\I m s₃) (fun _ _=>False) s₂) (fun _ _=>False) s₁') (fun _ _=>False) s₁) (fun _ _=>False) s)
  (n:Nat) (h:I n s):
  codeAny (model prog w) A (.compLoop (.ListComp elt [⟨target,iter,ifs,0⟩] scope pos) 0 it acc env) R s:=by
 refine codeAny_loop rfl I (fun n s hI=>?_) n h;show wpAny _ A ((compTurn (.ListComp elt [⟨target,iter,ifs,0⟩] scope pos) 0 it acc env).onRaise (fun x=>do noteFrame x env;theTreesLotGoes x)) _ _ s
 refine wpAny_noted ?_;rw[compTurn_list];refine wpAny_bind (wpAny_standAt (wpAny_bind (wpAny_mono (turn n s hI) (fun r s₁ h₁=>?_) fun _ _ h'=>h'.elim)));cases r with
 |none=>exact wpAny_pure h₁
 |some v=>
  refine wpAny_bind (wpAny_mono h₁ (fun _ s₁' h₁'=>?_) fun _ _ h'=>h'.elim);refine wpAny_bind (wpAny_mono h₁' (fun _ s₂ h₂=>wpAny_bind (wpAny_mono h₂ (fun ok s₃ h₃=>?_) fun _ _ h'=>h'.elim)) fun _ _ h'=>h'.elim);cases ok with
  |false=>exact wpAny_pure ⟨rfl,h₃⟩
  |true=>
   exact wpAny_bind (wpAny_bind (wpAny_mono h₃ (fun x s₄ h₄=>wpAny_bind (wpAny_mono h₄ (fun _ s₅ h₅=>wpAny_pure (wpAny_pure ⟨rfl,h₅⟩)) fun _ _ h'=>h'.elim)) fun _ _ h'=>h'.elim))
end
def LcRd(own:List Str)(js:List Nat)(g:TG)(tc:TT)(te:TE)(J:It)(σ:St)(H:Hp)(Q:VK):Prop:=
 ∀D,H D=none->∃W:Nat->Nat->List V->St->Hp->Prop,(∃m,W 0 m [] (cmpSt own js σ) (upd H D (.lst [])))/\∀i m ys σ' H',W i m ys σ' H'->H' D=some (.lst ys) ∧
  ((J.stop i H'/\Q (.ref D) H')∨(J.go i H'/\ys.length<sizeLine/\∀x H2,J.yld i H' x H2->g x σ' H2 fun σ2 H3=>tc σ2 H3 fun b H4=>
   if b=true then te σ2 H4 fun v H5=>H5 D=some (.lst ys)/\∃m',m' < m/\W (i+1) m' (ys++[v]) σ2 (upd H5 D (.lst (ys++[v]))) else ∃m',m' < m/\W (i+1) m' ys σ2 H4))
def tLc(own:List Str)(js:List Nat)(wi:TI)(g:TG)(tc:TT)(te:TE):TE:=fun σ H Q=>wi σ H fun J H1=>LcRd own js g tc te J σ H1 Q
section
variable {X:Cx} {tg iter elt:Expr} {ifs:List Expr} {scope:Scope} {pos:Pos} {own:List Str} {js:List Nat} {g:TG} {tc:TT} {te:TE}
theorem qjkz{pins:List (Addr×Obj)}{σ:St}{H:Hp}{s:Shared}{Q:VK}{it:Addr}{fp:List Addr}{tn:Nat->Heap->Prop}{J:It}{E:Value->Shared->Prop}{RR:Value->Addr->Result->Shared->Prop}
  (hc:X.calm=true) (C:CmpOk X.N X.env.scope scope own js)
  (hb:∀s H fp,PG (X.cmp scope own js s H fp) tg g/\PCt (X.cmp scope own js s H fp) ifs tc/\PE (X.cmp scope own js s H fp) elt te)
  (I:Inv X pins σ H s) (T:Turn X.prog X.w X.K tg J fp it tn) (st:tn 0 s.heap) (hf:∀b∈fp,FpOk X pins H b) (rd:LcRd own js g tc te J σ H Q)
  (hRR:∀D N s' H',Inv X pins σ H' s'->Q (.ref D) H'->s.heap.objs.size≤N->H' N=none->(∃m,s'.heap.Ns N m)->RR (.ref D) N (.ok .next) s'):
  wpAny (model X.prog X.w) X.A (newList []) (fun acc s₃=>wpAny (model X.prog X.w) X.A (newFunctionEnv scope X.env.globals (clos X.env scope.names []) [] X.env.qual none .none (some X.env)) (fun cenv s₄=>
   codeAny (model X.prog X.w) X.A (.compStart (.ListComp elt [⟨tg,iter,ifs,0⟩] scope pos) 0 (.ref it) acc { cenv with scope:=relabel scope X.env }) (RR acc cenv.locals) s₄) E s₃) E s:=by
 have hD:H s.heap.objs.size=none:=I.fresh;obtain⟨W,⟨m0,w0⟩,turn⟩:=rd s.heap.objs.size hD;refine wpAny_newObj_type ?_;have hI3:Inv X pins σ (upd H s.heap.objs.size (.lst [])) { s with heap:=s.heap.push { cls:=.type "list",data:=.seq ([]:List Value).toArray }}:=
  I.lnew (t':=s.toks) (its:=[]) (ys:=[]) .nil (Nat.zero_le _)
 have hlt:∀b∈fp,b<s.heap.objs.size:=fun b hb=>by
  obtain⟨o,e,_⟩:=T.obj 0 _ st b hb;exact Heap.lt_size e
 have st3:tn 0 (s.heap.push { cls:=.type "list",data:=.seq ([]:List Value).toArray }):=T.keep 0 _ _ st fun b _ o e=>Heap.get?_push_of_some _ e;generalize hs3:({ s with heap:=s.heap.push { cls:=.type "list",data:=.seq ([]:List Value).toArray }}:Shared)=s3 at hI3 ⊢;have hsz3:s3.heap.objs.size=s.heap.objs.size+1:=by rw[←hs3];exact Heap.size_push ..
 have st3':tn 0 s3.heap:=by rw[←hs3];exact st3
 have hf3:∀b∈fp,FpOk X pins (upd H s.heap.objs.size (.lst [])) b/\b<s3.heap.objs.size:=fun b hb=>by
  obtain⟨f0,f1⟩:=hf b hb;refine⟨⟨?_,f1⟩,by rw[hsz3];exact Nat.lt_succ_of_lt (hlt b hb)⟩;rw[qoz (Nat.ne_of_lt (hlt b hb))];exact f0
 refine wpAny_newFunctionEnv C.nocell (by intro y hy;simp at hy) (fun h₁ hns₁ hsb₁=>?_) C.kind;have kept1:∀b o,s3.heap.get? b=some o->h₁.get? b=some o:=fun b o e=>(hsb₁.2 b (Nat.ne_of_lt (Heap.lt_size e))).trans (Heap.get?_push_of_some _ e);have I4:Inv (X.cmp scope own js s3 (upd H s.heap.objs.size (.lst [])) fp) [] (cmpSt own js σ) (upd H s.heap.objs.size (.lst [])) { s3 with heap:=h₁,toks:=s3.toks+([]:List (Str×Value)).length }:=
  hI3.cmp C hf3 hns₁ kept1
 have st4:tn 0 h₁:=T.keep 0 _ _ st3' fun b _ o e=>kept1 b o e;obtain⟨hg,ht,he⟩:=hb s3 (upd H s.heap.objs.size (.lst [])) fp
 -- the iterator's objects in the block's context
 have stat:∀{H':Hp},(∀b∈fp,H' b=none)->∀b∈fp,FpOk (X.cmp scope own js s3 (upd H s.heap.objs.size (.lst [])) fp) [] H' b:=fun {H'} hn b hb=>by
  have q:=I4.ok;exact⟨hn b hb,(q.exf b hb).1,q.exfs b hb,.inl hb,(q.exf b hb).2,fun p hp=>absurd (show p∈([]:List (Addr×Obj)) from hp) (by simp)⟩
 have loop:codeAny (model X.prog X.w) X.A (.compLoop (.ListComp elt [⟨tg,iter,ifs,0⟩] scope pos) 0 (.ref it) (.ref s.heap.objs.size) (compEnvC scope (clos X.env scope.names []) s3.heap.objs.size X.env))
   (RR (.ref s.heap.objs.size) s3.heap.objs.size) { s3 with heap:=h₁,toks:=s3.toks+([]:List (Str×Value)).length }:=by
  refine qsnz (fun n s'=>∃i ys σ' H',Inv (X.cmp scope own js s3 (upd H s.heap.objs.size (.lst [])) fp) [] σ' H' s'/\tn i s'.heap/\(∀b∈fp,H' b=none)/\W i n ys σ' H') ?_ m0
   ⟨0,[],_,_,I4,st4,fun b hb=>(hf3 b hb).1.1,w0⟩
  rintro n s5 ⟨i,ys,σ5,H5,I5,st5,fr5,w5⟩;obtain⟨hacc,hcase⟩:=turn i n ys σ5 H5 w5;rcases hcase with⟨stop,qn⟩|⟨go,hys,step⟩
  ·refine thn (T.done (X.cmp scope own js s3 (upd H s.heap.objs.size (.lst [])) fp) rfl rfl rfl hc i [] s5 σ5 H5 (fun _ _=>False) I5 (stat fr5) st5 stop) fun r s6 ⟨hr,I6⟩=>?_;subst hr;have I7:=hI3.uncmp hf3 I6;obtain⟨m,hm,_⟩:=I6.loc;exact hRR _ _ _ _ I7 qn (by rw[hsz3];exact Nat.le_succ _) I6.free ⟨m,hm⟩
  ·refine thn (T.item (X.cmp scope own js s3 (upd H s.heap.objs.size (.lst [])) fp) rfl rfl rfl hc i [] s5 σ5 H5 (fun _ _=>False) I5 (stat fr5) st5 go) fun r s6 ⟨u,hr,h6⟩=>?_;subst hr;refine thn h6 fun _ s7 ⟨x,H7,I7,r7,y7,st7,fr7⟩=>?_;have I7':=I7.pinned (stat fr7) (T.obj _ _ st7);refine thn (hg _ s7 σ5 H7 x u _ I7' r7 (step x H7 y7)) fun _ s8 ⟨σ8,H8,I8,q8⟩=>?_;refine thn (ht _ s8 σ8 H8 _ I8 q8) fun ok s9 ⟨H9,I9,q9⟩=>?_;have back:∀{σ':St} {H':Hp} {s':Shared} {ys':List V},Inv (X.cmp scope own js s3 (upd H s.heap.objs.size (.lst [])) fp) ([]++pinsAt fp s7.heap) σ' H' s'->(∃m',m' < n/\W (i+1) m' ys' σ' H') ->
     ∃m',m' < n/\∃i ys σ' H',Inv (X.cmp scope own js s3 (upd H s.heap.objs.size (.lst [])) fp) [] σ' H' s'/\tn i s'.heap/\(∀b∈fp,H' b=none)/\W i m' ys σ' H':=fun {σ' H' s' ys'} I' ⟨m',hm,w'⟩=>by
    refine⟨m',hm,i+1,ys',σ',H',I'.unpinned,T.keep _ _ _ st7 fun b hb o e=>(I'.pin (b,o) (List.mem_append_right _ (List.mem_append_right _ (qedz hb e)))).1,fun b hb=>?_,w'⟩;obtain⟨o,e,d⟩:=T.obj _ _ st7 b hb;exact (I'.pin (b,o) (List.mem_append_right _ (List.mem_append_right _ (qedz hb e)))).2.1
   cases ok with
   |false=>
    rw[if_neg Bool.false_ne_true] at q9 ⊢;exact back I9 q9
   |true=>
    rw[if_pos rfl] at q9 ⊢;refine thn (he _ s9 σ8 H9 _ I9 q9) fun xv s10 ⟨v,H10,I10,r10,hD10,q10⟩=>?_;refine thn (qeez (X:=X.cmp scope own js s3 (upd H s.heap.objs.size (.lst [])) fp) _ s10 σ8 H10 (.ref s.heap.objs.size) [v] (.ref s.heap.objs.size) [xv] (fun _ H'=>H'=upd H10 s.heap.objs.size (.lst (ys++[v]))) I10 rfl (.cons r10 .nil)
     ⟨_,ys,v,rfl,rfl,hD10,hys,rfl⟩) fun _ s11 ⟨_,H11,I11,_,e11⟩=>?_
    subst e11;exact back I11 q10
 exact codeAny_compStart_list loop (T.self _ 0 _ _ _ st4 loop)
theorem qsoz{wi:TI}(hc:X.calm=true)(C:CmpOk X.N X.env.scope scope own js)(hi:PI X tg iter wi)
  (hb:∀s H fp,PG (X.cmp scope own js s H fp) tg g/\PCt (X.cmp scope own js s H fp) ifs tc/\PE (X.cmp scope own js s H fp) elt te)
  (hs:∀x,foldedSetIterable iter X.env x=pure x:=by intro _;rfl):PE X (.ListComp elt [⟨tg,iter,ifs,0⟩] scope pos) (tLc own js wi g tc te):=by
 intro pins s σ H Q I h;rw[eval_ListComp];refine wpAny_comprehension_free (use:=none) rfl hs (qjgz (C.cells I.ok)) C.kind C.names (thn (hi pins s σ H _ I h) fun xv s₁ h₁=>thn h₁ fun itv s₂ h₂=>?_);obtain⟨it,fp,tn,J,H2,e,I2,T,st2,f2,rd⟩:=h₂;subst e;refine qjkz (RR:=fun acc C'=>compPost (model X.prog X.w) X.A X.xe none (EP X pins σ Q) acc C') hc C hb I2 T st2 f2 rd fun D N s' H' I' q hN hHN ⟨m,hm⟩=>?_;exact⟨m,hm,fun h' sb=>⟨.ref D,H',I2.other I' hN hHN sb,rfl,q⟩⟩
theorem qspz{wi:TI}{i:Nat}{y:Str}{py spos:Pos}(hc:X.calm=true)(hN:X.N.Nodup)(hy:X.N[i]?=some y)(hyl:X.env.scope.names.lookup y=some .local)(C:CmpOk X.N X.env.scope scope own js)(hi:PI X tg iter wi)
  (hb:∀s H fp,PG (X.cmp scope own js s H fp) tg g/\PCt (X.cmp scope own js s H fp) ifs tc/\PE (X.cmp scope own js s H fp) elt te)
  (hsw:swapsWith (.ListComp elt [⟨tg,iter,ifs,0⟩] scope pos) (some (.Name y py)) spos.line X.env=pure true:=by rfl)
  (hs:∀x,foldedSetIterable iter X.env x=pure x:=by intro _;rfl):PS X (.Assign [.Name y py] (.ListComp elt [⟨tg,iter,ifs,0⟩] scope pos) spos) (tAsg (tLc own js wi g tc te) (gName i)):=by
 intro pins s σ H D I h;rw[exec_Assign_Name_used _ _ _ _ hsw];refine wpAny_bind (wpAny_standAt (wpAny_bind ?_));show wpAny _ X.A (do let _ ←comprehension (.ListComp elt [⟨tg,iter,ifs,0⟩] scope pos) scope X.env _ (newList []) false (eval iter X.env) (some (assign (.Name y py) X.env))) _ _ s;refine wpAny_bind (wpAny_mono (wpAny_comprehension_free (use:=some (assign (.Name y py) X.env)) (Q:=fun _ s'=>SP X pins D .next s') rfl hs (qjgz (C.cells I.ok)) C.kind C.names
  (thn (hi pins s σ H _ I h) fun xv s₁ h₁=>thn h₁ fun itv s₂ h₂=>?_)) (fun _ s' hq=>wpAny_pure (wpAny_pure hq)) fun _ _ e=>e)
 obtain⟨it,fp,tn,J,H2,e,I2,T,st2,f2,rd⟩:=h₂;subst e;refine qjkz (RR:=fun acc C'=>compPost (model X.prog X.w) X.A X.xe (some (assign (.Name y py) X.env)) (fun _ s'=>SP X pins D .next s') acc C') hc C hb I2 T st2 f2 rd fun L N s' H' I' q hN' hHN ⟨m,hm⟩=>?_
 show wpAny _ _ (assign (.Name y py) X.env (.ref L)) _ _ _;refine wpAny_assign_Name (qinz I' hN hy (.inl hyl) (v:=.ref L) rfl (fun s'' I'' ⟨a,sb,ha⟩=>?_) (.inr hyl));have hNa:N≠a:=by
  obtain⟨f0,f1,f2,f3,f4,f5⟩:=I2.fpOk hN' hHN;rcases ha with rfl|ha
  ·exact f1
  ·exact Ne.symm (f4 _ _ ha)
 refine⟨m,hm.sameBut sb hNa,fun h'' sb''=>?_⟩;refine⟨σ.set i (some (.ref L)),H',?_,q⟩;obtain⟨f0,f1,f2,f3,f4,f5⟩:=I2.fpOk hN' hHN;exact I''.turned (t':=s''.toks) (fun c o hc e=>(sb''.2 c hc).trans e) f0 f1 f3 f4 f5
end
end L2
namespace L3
open PySem PySem.Spec PyProof.Rows L2
section
variable {X:Cx} {st:Stmt} {rest:List Stmt} {t u:TS3} {e c:Expr} {te:TE3} {tc:TT3} {pos:Pos}
def sNext:TS3:=fun D τ G=>D.nx τ G
def sSeq(t u:TS3):TS3:=fun D τ G=>t { D with nx:=u D } τ G
theorem qsqz:PSs3 X [] sNext:=qjez qpuz fun D σ H ⟨τ,G,D3,RS,RG,h,k⟩=>k.nx τ σ G H RS (.refl H G) RG h
theorem qsrz(h1:PS3 X st t)(h2:PSs3 X rest u):PSs3 X (st::rest) (sSeq t u):=qjez (qpvz h1 h2) fun D σ H ⟨τ,G,D3,RS,RG,h,k⟩=>
 ⟨τ,G,{ D3 with nx:=u D3 },RS,RG,h,⟨fun τ' σ' G' H' a b c q=>⟨τ',G',D3,a,c,q,k.step b⟩,k.bk,k.ct,k.rt⟩⟩
theorem qssz(h1:PS3 X st t):PSs3 X [st] t:=qpwz h1
def sDrop(te:TE3):TS3:=fun D τ G=>te τ G fun _ G1=>D.nx τ G1
theorem qstz(he:PE3 X e te)(hs:swapsWith e none pos.line X.env=pure false:=by rfl):PS3 X (.Expr e pos) (sDrop te):=qa7z (qpxz he hs) fun D σ H ⟨τ,G,D3,RS,RG,h,k⟩=>
 ⟨τ,G,_,RS,RG,h,fun v H1 d G1 h1 S1 R1 q1=>k.nx τ σ G1 H1 (RS.ext (S1.ext RG)) S1 R1 q1⟩
def sRet(te:TE3):TS3:=fun D τ G=>te τ G D.rt
theorem qsuz(he:PE3 X e te):PS3 X (.Return (some e) pos) (sRet te):=qa7z (qpyz he) fun D σ H ⟨τ,G,D3,RS,RG,h,k⟩=>
 ⟨τ,G,D3.rt,RS,RG,h,fun v H1 d G1 h1 S1 R1 q1=>k.rt d v G1 H1 h1 S1 R1 q1⟩
def sIf(c:TT3)(t u:TS3):TS3:=fun D τ G=>c τ G fun b G1=>Br b (t D τ G1) (u D τ G1)
theorem s_if{a b:List Stmt}(hc:PT3 X c tc)(ha:PSs3 X a t)(hb:PSs3 X b u):PS3 X (.If c a b pos) (sIf tc t u):=qa7z (qpzz hc ha hb) fun D σ H ⟨τ,G,D3,RS,RG,h,k⟩=>
 ⟨τ,G,_,RS,RG,h,fun b H1 G1 S1 R1 q1=>Br.ite q1 (fun q=>⟨τ,G1,D3,RS.ext (S1.ext RG),R1,q,k.step S1⟩) fun q=>⟨τ,G1,D3,RS.ext (S1.ext RG),R1,q,k.step S1⟩⟩
def sNever:TS3:=fun _ _ _=>False
theorem qsvz:PS3 X st sNever:=qa7z qp0z fun D σ H ⟨τ,G,D3,RS,RG,h,k⟩=>h
end
abbrev TG3:=D->S3->Gp->(S3->Gp->Prop)->Prop
abbrev TGs3:=List D->S3->Gp->(S3->Gp->Prop)->Prop
def lowG(K:PySem.W.Frag)(t:TG3):TG:=fun v σ H Q=>∃d τ G Q3,Hv K H d v/\RepS K τ σ H/\RepG K G H/\t d τ G Q3/\∀τ' σ' G' H',RepS K τ' σ' H'->Step H G H' G'->RepG K G' H'->Q3 τ' G'->Q σ' H'
def lowGs(K:PySem.W.Frag)(t:TGs3):TGs:=fun vs σ H Q=>∃ds τ G Q3,Hvs K H ds vs/\RepS K τ σ H/\RepG K G H/\t ds τ G Q3/\∀τ' σ' G' H',RepS K τ' σ' H'->Step H G H' G'->RepG K G' H'->Q3 τ' G'->Q σ' H'
abbrev PG3(X:Cx)(tg:Expr)(t:TG3):Prop:=PG X tg (lowG X.K t)
abbrev PGs3(X:Cx)(tgs:List Expr)(t:TGs3):Prop:=PGs X tgs (lowGs X.K t)
section
variable {X:Cx} {pos:Pos} {e:Expr} {es:List Expr}
theorem qf4z{t t':TG}(h:PG X e t)(f:∀v σ H Q,t' v σ H Q->t v σ H Q):PG X e t':=fun pins s σ H v u Q I r q=>h pins s σ H v u Q I r (f v σ H Q q)
theorem qjlz{t t':TGs}(h:PGs X es t)(f:∀v σ H Q,t' v σ H Q->t v σ H Q):PGs X es t':=fun pins s σ H v u Q I r q=>h pins s σ H v u Q I r (f v σ H Q q)
def hName(i:Nat):TG3:=fun d τ G Q=>Q (set3 τ i d) G
theorem qswz{i:Nat}{x:Str}(hN:X.N.Nodup)(hi:X.N[i]?=some x:=by rfl)(hx:Loc X.env.scope x:=by first|exact Or.inl rfl|exact Or.inr rfl)(hf:X.fn x=true∨X.env.scope.names.lookup x=some .local:=by first|exact .inl rfl|exact .inr rfl|assumption):PG3 X (.Name x pos) (hName i):=
 qf4z (qp1z hN hi hx hf) fun v σ H Q ⟨d,τ,G,Q3,hd,RS,RG,h,k⟩=>k _ _ G H (RS.set hd) (.refl H G) RG h
def hNil:TGs3:=fun ds τ G Q=>match ds with
 |[]=>Q τ G
 |_::_=>False
def hCons(t:TG3)(u:TGs3):TGs3:=fun ds τ G Q=>match ds with
 |[]=>False
 |d::r=>t d τ G fun τ' G'=>u r τ' G' Q
theorem qsxz:PGs3 X [] hNil:=qjlz qp2z fun vs σ H Q ⟨ds,τ,G,Q3,hd,RS,RG,h,k⟩=>by
 cases ds with
 |nil=>exact⟨hd.inv0,k _ _ G H RS (.refl H G) RG h⟩
 |cons d r=>exact h.elim
theorem qsyz{t:TG3}{u:TGs3}(h1:PG3 X e t)(h2:PGs3 X es u)(hs:(assignEach (e::es) X.env).map (·.2)=assign e X.env::(assignEach es X.env).map (·.2):=by rfl):PGs3 X (e::es) (hCons t u):=
 qjlz (qp3z h1 h2 hs) fun vs σ H Q ⟨ds,τ,G,Q3,hd,RS,RG,h,k⟩=>by
  cases ds with
  |nil=>exact h.elim
  |cons d r=>
   obtain⟨v,vr,rfl,q1,q2⟩:=hd.inv;refine⟨v,vr,rfl,d,τ,G,_,q1,RS,RG,h,fun τ' σ' G' H' a b c q=>?_⟩;exact⟨r,τ',G',Q3,q2.ext (b.ext RG),a,c,q,fun τ2 σ2 G2 H2 a2 b2 c2=>k τ2 σ2 G2 H2 a2 (b.trans b2) c2⟩
def hTup(n:Nat)(t:TGs3):TG3:=fun d τ G Q=>match d with
 |.tup ds=>ds.length=n/\t ds τ G Q
 |_=>False
theorem qszz{k:Nat}{t:TGs3}{n:Nat}(hc:X.calm=true)(h:PGs3 X es t)(hn:(assignEach es X.env).length=n:=by rfl)(hst:(assignEach es X.env).findIdx? (·.1)=none:=by rfl):PG3 X (.Tuple es k pos) (hTup n t):=
 qf4z (qp4z hc h hn hst) fun v σ H Q ⟨d,τ,G,Q3,hd,RS,RG,h,k⟩=>by
  cases d with
  |tup ds=>
   unfold Hv at hd;obtain⟨a,vs,e1,e2,e3⟩:=hd;exact⟨a,vs,e1,e2,by rw[←e3.length];exact h.1,ds,τ,G,Q3,e3,RS,RG,h.2,k⟩
  |_=>exact h.elim
def sAsg(te:TE3)(g:TG3):TS3:=fun D τ G=>te τ G fun x G1=>g x τ G1 D.nx
theorem qs0z{tg:Expr}{te:TE3}{g:TG3}(he:PE3 X e te)(hg:PG3 X tg g)(hs:swapsWithSole [tg] e pos.line X.env=pure false:=by rfl)(hw:swappedStores [tg] e X.env=pure none:=by rfl)
  (h1:(assignEach [tg] X.env).map (·.2)=[assign tg X.env]:=by rfl):PS3 X (.Assign [tg] e pos) (sAsg te g):=qa7z (qp6z he hg hs hw h1) fun D σ H ⟨τ,G,D3,RS,RG,h,k⟩=>
 ⟨τ,G,_,RS,RG,h,fun v H1 d G1 h1 S1 R1 q1=>⟨d,τ,G1,D3.nx,h1,RS.ext (S1.ext RG),R1,q1,fun τ' σ' G' H' a b c q=>k.nx τ' σ' G' H' a (S1.trans b) c q⟩⟩
theorem qs1z{i:Nat}{x:Str}{te:TE3}{pos':Pos}(hN:X.N.Nodup)(he:PE3 X e te)(hi:X.N[i]?=some x:=by rfl)(hx:Loc X.env.scope x:=by first|exact Or.inl rfl|exact Or.inr rfl)(hs:swapsWith e (some (.Name x pos')) pos.line X.env=pure false:=by rfl)
  (hf:X.fn x=true∨X.env.scope.names.lookup x=some .local:=by first|exact .inl rfl|exact .inr rfl|assumption):PS3 X (.Assign [.Name x pos'] e pos) (sAsg te (hName i)):=qa7z (qp7z hN hi hx he hs hf) fun D σ H ⟨τ,G,D3,RS,RG,h,k⟩=>
 ⟨τ,G,_,RS,RG,h,fun v H1 d G1 h1 S1 R1 q1=>k.nx _ _ G1 H1 ((RS.ext (S1.ext RG)).set h1) S1 R1 q1⟩
def rSet3:D->D->D->Gp->(Gp->Prop)->Prop:=fun o i v G Q=>match o,i with
 |.obj p,.int k=>∃ds j,G p=some (.lst ds)/\ixN ds.length k=some j/\Q (upd3 G p (.lst (ds.set j v)))
 |_,_=>False
def hSub(to ti:TE3):TG3:=fun v τ G Q=>to τ G fun o G1=>ti τ G1 fun i G2=>rSet3 o i v G2 fun G3=>Q τ G3
theorem qs2z{K:PySem.W.Frag}{o i v:D}{vo vi vv:V}{G:Gp}{H:Hp}{Q3:Gp->Prop}{Q:Hp->Prop}(ho:Hv K H o vo)(hi:Hv K H i vi)(hv:Hv K H v vv)(RG:RepG K G H)(h:rSet3 o i v G Q3)
  (k:∀H' G',Step H G H' G'->RepG K G' H'->Q3 G'->Q H'):rSetL vo vi vv H Q:=by
 match o,i,ho,hi,h with
 |.obj p,.int j,ho,hi,h=>
  unfold Hv at ho hi;obtain⟨ds,n,e1,e2,q⟩:=h;obtain⟨vs,e3,e4⟩:=RG p _ e1;refine⟨p,vs,j,n,ho,hi,e3,by rw[←e4.length];exact e2,k _ _ (Step.wrote (g:=.lst (ds.set n v)) e1) (RG.wrote e3 ⟨_,qwz,?_⟩) q⟩;exact (e4.ext (Ext.wrote e3)).set n (hv.ext (Ext.wrote e3))
 |.obj _,.non,_,_,h=>exact h.elim
 |.obj _,.bl _,_,_,h=>exact h.elim
 |.obj _,.str _,_,_,h=>exact h.elim
 |.obj _,.tup _,_,_,h=>exact h.elim
 |.obj _,.scr _,_,_,h=>exact h.elim
 |.obj _,.obj _,_,_,h=>exact h.elim
 |.obj _,.dc _,_,_,h=>exact h.elim
 |.dc _,_,_,_,h=>exact h.elim
 |.non,_,_,_,h=>exact h.elim
 |.bl _,_,_,_,h=>exact h.elim
 |.int _,_,_,_,h=>exact h.elim
 |.str _,_,_,_,h=>exact h.elim
 |.tup _,_,_,_,h=>exact h.elim
 |.scr _,_,_,_,h=>exact h.elim
theorem qs3z{o i:Expr}{to ti:TE3}(ho:PE3 X o to)(hi:PE3 X i ti)
  (ha:∀v,assign (.Subscript o i pos) X.env v=(do
   let ov ←holding [v] (eval o X.env)
   let iv ←holding [v,ov] (eval i X.env)
   standAt pos
   holding [v,ov,iv] (setItem ov iv v)
   release [v,ov,iv] []):=by intro _;rfl):PG3 X (.Subscript o i pos) (hSub to ti):=qf4z (qp5z ho hi set_list ha) fun v σ H Q ⟨d,τ,G,Q3,hd,RS,RG,h,k⟩=>
 ⟨τ,G,_,RS,RG,h,fun v1 H1 d1 G1 h1 S1 R1 q1=>⟨τ,G1,_,RS.ext (S1.ext RG),R1,q1,fun v2 H2 d2 G2 h2 S2 R2 q2=>
  qs2z (h1.ext (S2.ext R1)) h2 ((hd.ext (S1.ext RG)).ext (S2.ext R1)) R2 q2 fun H' G' y1 y2 y3=>k _ _ G' H' (((RS.ext (S1.ext RG)).ext (S2.ext R1)).ext (y1.ext R2)) ((S1.trans S2).trans y1) y2 y3⟩⟩
def sWhile(c:TT3)(tb:TS3):TS3:=fun D τ G=>∃W:Nat->S3->Gp->Prop,(∃m,W m τ G)/\∀m τ G,W m τ G ->
 c τ G fun b G1=>Br b (tb { D with nx:=fun τ' G'=>∃m',m' < m/\W m' τ' G',ct:=fun τ' G'=>∃m',m' < m/\W m' τ' G',bk:=D.nx } τ G1) (D.nx τ G1)
theorem qs4z{c:Expr}{body:List Stmt}{tc:TT3}{tb:TS3}(hp:PassesOwn (model X.prog X.w) X.A X.env X.xe)(hc:PT3 X c tc)(hb:PSs3 X body tb):PS3 X (.While c body [] pos) (sWhile tc tb):=
 qa7z (qp8z hp hc hb) fun D σ H ⟨τ,G,D3,RS,RG,⟨W,⟨m0,w0⟩,turn⟩,k⟩=>by
  refine⟨fun m σ' H'=>∃τ' G',W m τ' G'/\RepS X.K τ' σ' H'/\RepG X.K G' H'/\Step H G H' G',⟨m0,τ,G,w0,RS,RG,.refl H G⟩,fun m σ1 H1 ⟨τ1,G1,w1,RS1,RG1,S1⟩=>?_⟩;refine⟨τ1,G1,_,RS1,RG1,turn m τ1 G1 w1,fun b H2 G2 S2 R2 q2=>Br.ite q2 (fun q=>?_) fun q=>k.nx _ _ G2 H2 (RS1.ext (S2.ext RG1)) (S1.trans S2) R2 q⟩;refine⟨fun σ' H'=>∃τ' G',(∃m',m' < m/\W m' τ' G')/\RepS X.K τ' σ' H'/\RepG X.K G' H'/\Step H G H' G',fun σ' H' ⟨τ',G',⟨m',hm,w'⟩,a,b,c⟩=>⟨m',hm,τ',G',w',a,b,c⟩,?_⟩;refine⟨τ1,G2,_,RS1.ext (S2.ext RG1),R2,q,⟨?_,?_,?_,?_⟩⟩
  ·exact fun τ' σ' G' H' a b c q=>⟨τ',G',q,a,c,(S1.trans S2).trans b⟩
  ·exact fun τ' σ' G' H' a b c q=>k.nx τ' σ' G' H' a ((S1.trans S2).trans b) c q
  ·exact fun τ' σ' G' H' a b c q=>⟨τ',G',q,a,c,(S1.trans S2).trans b⟩
  ·exact fun d v G' H' a b c q=>k.rt d v G' H' a ((S1.trans S2).trans b) c q
end
abbrev Sp3:=List D->Gp->V3->Prop
def lowSp(K:PySem.W.Frag)(sp:Sp3):Sp:=fun vs H Q _=>∃ds G Q3,Hvs K H ds vs/\RepG K G H/\sp ds G Q3/\∀v H' d G',Hv K H' d v->Step H G H' G'->RepG K G' H'->Q3 d G'->Q v H'
abbrev FnOk3(P:Program)(w:World)(K:PySem.W.Frag)(mg:Str->Option Value)(base:Heap)(k:Nat)(f:Addr)(fd:FuncData)(ps:List Str)(sp:Sp3):Prop:=FnOk P w K mg base CX0 k f fd ps (lowSp K sp)
def eCall(sp:Sp3)(t:TA3):TE3:=fun τ G Q=>t τ G fun ds G1=>sp ds G1 Q
section
variable {X:Cx} {k:Nat} {f:Addr} {fd:FuncData} {ps:List Str} {sp:Sp3} {x:Str} {p pos:Pos} {e:Expr} {es:List Expr} {t:TA3}
theorem qs5z{K:PySem.W.Frag}{σ:L2.St}{H:Hp}{Q:VK}{E:XK}(h:low K (eCall sp t) σ H Q):tCall (lowSp K sp) [] E (lowA K t) σ H Q:=by
 obtain⟨τ,G,Q3,RS,RG,h,k⟩:=h;refine⟨τ,G,_,RS,RG,h,fun vs H1 ds G1 h1 S1 R1 q1=>?_⟩;refine⟨ds,G1,Q3,by rw[List.append_nil];exact h1,R1,q1,fun v H' d G' z1 z2 z3 z4=>k v H' d G' z1 (S1.trans z2) z3 z4⟩
theorem qs6z(F:FnOk3 X.prog X.w X.K X.mg X.base k f fd ps sp)(hr:Room k X.A)(hm:X.mg x=some (.ref f))(hk:PySem.W.keepIn X.K (.ref f)=true)(hb:Binds X.K fd ps [])(ha:PA3 X (e::es) t)(hg:Gl X x:=by rfl)
  (hdb:(x==("__debug__":Str))=false:=by decide) (he:notStar e=true:=by rfl) (hpl:es.all notStar=true:=by rfl):
  PE3 X (.Call (.Name x p) (e::es) [] pos) (eCall sp t):=qyz (qquz (E:=E0) F hr hg hm hk hb .nil pass0 ha hdb (qpz he) (q4z hpl)) fun σ H Q h=>qs5z h
end
section
variable {P:Program} {w:World} {K:PySem.W.Frag} {mg:Str->Option Value} {base:Heap}
def endsOf(Q:V3):Ends3:={ nx:=fun _ G'=>∃G0,Sub G0 G'/\Q .non G0,rt:=fun d G'=>∃G0,Sub G0 G'/\Q d G0 }
theorem fn3{x qual:Str}{st:Stmt}{f:Addr}{fd:FuncData}{N ps:List Str}{k:Nat}{sp:Sp3}(F:Fun K x qual st f fd)(S:FnScope N ps (defScope st))(hN:ps.length≤N.length)(len:∀ds G Q,sp ds G Q->ds.length=ps.length)(tb:TS3)
  (hbody:∀(cdv:Value) (A:Around) (outer:List Env) (s:Shared) (H:Hp) (E:XK),Room k (A.deeper (envOfC qual (defScope st) s.heap.objs.size f cdv)) ->
   PSs3 (cxOf CX0 P w K mg base N qual (defScope st) f cdv A outer s H E).nox (defBody st) tb)
  (hrd:∀ds G Q,sp ds G Q->tb (endsOf Q) (start3 N ds) G):FnOk3 P w K mg base (k+1) f fd ps sp:=by
 refine F.ok S (fun vs H Q E h=>?_) (fun cdv A outer s H vs Q E hr h=>?_)
 ·obtain⟨ds,G,Q3,h1,h2,h3,h4⟩:=h;rw[←h1.length];exact len _ _ _ h3
 ·obtain⟨ds,G,Q3,h1,h2,h3,h4⟩:=h;refine⟨_,hbody cdv A outer s H E hr,start3 N ds,G,endsOf Q3,.start h1 ?_,h2,hrd _ _ _ h3,⟨?_,?_,?_,?_⟩⟩
  ·rw[←h1.length,len _ _ _ h3];exact hN
  ·exact fun τ σ G' H' a b c ⟨G0,s0,q⟩=>h4 _ H' .non G0 (by simp[Hv]) (b.trans (.sub s0)) (c.sub s0) q
  ·exact fun τ σ G' H' a b c q=>q.elim
  ·exact fun τ σ G' H' a b c q=>q.elim
  ·exact fun d v G' H' a b c ⟨G0,s0,q⟩=>h4 _ H' d G0 a (b.trans (.sub s0)) (c.sub s0) q
end
end L3
namespace L3
open PySem PySem.Spec PyProof.Rows L2
structure Src where
 items:List D
 guard:Gp->Prop
structure SrcOk(K:PySem.W.Frag)(H0:Hp)(J:It)(S:Src):Prop where
 go:∀(i:Nat) d H G,Ext H0 H->RepG K G H->S.guard G->S.items[i]?=some d->J.go i H/\∀x H',J.yld i H x H'->Hv K H' d x/\Step H G H' G/\RepG K G H'
 stop:∀(i:Nat) H G,Ext H0 H->RepG K G H->S.guard G->S.items.length≤i->J.stop i H
abbrev TI3:=S3->Gp->(Src->Gp->Prop)->Prop
def lowI(K:PySem.W.Frag)(ti:TI3):TI:=fun σ H R=>∃τ G R3,RepS K τ σ H/\RepG K G H/\ti τ G R3/\∀J H' S G',SrcOk K H' J S->Step H G H' G'->RepG K G' H'->R3 S G'->R J H'
abbrev PI3(X:Cx)(tg iter:Expr)(ti:TI3):Prop:=PI X tg iter (lowI X.K ti)
section
variable {X:Cx} {tg iter:Expr} {pos p:Pos}
theorem qejz{t t':TI}(h:PI X tg iter t)(f:∀σ H R,t' σ H R->t σ H R):PI X tg iter t':=fun pins s σ H R I q=>h pins s σ H R I (f σ H R q)
def iSeq(te:TE3):TI3:=fun τ G R=>te τ G fun x G1=>match x with
 |.obj p=>∃ds,G1 p=some (.lst ds)/\R ⟨ds,fun G=>G p=some (.lst ds)⟩ G1
 |.tup ds=>R ⟨ds,fun _=>True⟩ G1
 |.scr ds=>R ⟨ds,fun _=>True⟩ G1
 |_=>False
theorem qs7z{l:Expr}{te:TE3}(hl:PE3 X l te):PI3 X tg l (iSeq te):=by
 intro pins s σ H R I h;obtain⟨τ,G,R3,RS,RG,h,k⟩:=h
 -- the state carries what a list of the heap is
 refine thn (hl pins s σ H (fun v H'=>∃d G',Hv X.K H' d v/\Step H G H' G'/\RepG X.K G' H'/\(match d with
  |.obj p=>∃ds,G' p=some (.lst ds)/\R3 ⟨ds,fun G=>G p=some (.lst ds)⟩ G'
  |.tup ds=>R3 ⟨ds,fun _=>True⟩ G'
  |.scr ds=>R3 ⟨ds,fun _=>True⟩ G'
  | _=>False)) I ⟨τ,G,_,RS,RG,h,fun v H' d G' a b c q=>⟨d,G',a,b,c,q⟩⟩) fun v s1 ⟨x,H1,I1,r1,d,G1,hv,S1,R1,q⟩=>?_
 have hlist:∀(a:Addr) (its:List Value) (xs:List V),Vals xs its->PlainL s1.heap a its.toArray->R (Itl X.K a) H1->wpAny (model X.prog X.w) X.A (pyIter (.ref a)) (PIE X pins σ tg R) X.xe s1:=by
  intro a its xs rv p q;refine wpAny_pyIter_list p.isList ?_;refine⟨s1.heap.objs.size,[s1.heap.objs.size],_,_,H1,rfl,I1.kept (t':=s1.toks) fun b o e=>Heap.get?_push_of_some _ e,qp9z a _,⟨_,Heap.get?_push_size _ rfl,rfl,rfl⟩,fun b hb=>?_,q⟩;have e:b=s1.heap.objs.size:=by simpa using hb
  subst e;exact I1.fpOk (Nat.le_refl _) (I1.hok.fresh (Nat.le_refl _))
 cases d with
 |obj a=>
  unfold Hv at hv;subst hv;cases r1;obtain⟨ds,e1,q⟩:=q;obtain⟨vs,e2,e3⟩:=R1 a _ e1;obtain⟨its,rv,p,hz⟩:=I1.list (SqL.of e2);refine hlist a its vs rv p (k _ _ _ _ ⟨?_,?_⟩ S1 R1 q)
  ·intro i d H' G' E' RG' hg hi;obtain⟨vs',z1,z2⟩:=RG' a _ hg;obtain⟨v',y1,y2⟩:=z2.get hi;refine⟨⟨vs',v',.of z1,y1⟩,fun x H'' hy=>?_⟩;obtain⟨rfl,hy⟩:=hy;have:=hy vs' (.of z1);rw[y1] at this;cases this;exact⟨y2,.refl _ _,RG'⟩
  ·intro i H' G' E' RG' hg hi;obtain⟨vs',z1,z2⟩:=RG' a _ hg;exact⟨vs',.of z1,by rw[←z2.length];exact hi⟩
 |tup ds=>
  unfold Hv at hv;obtain⟨a,vs,rfl,e2,e3⟩:=hv;cases r1;obtain⟨its,rv,p,hz⟩:=I1.tuple e2;have hq:R (Itt X.K a) H1:=by
   refine k _ _ _ _ ⟨?_,?_⟩ S1 R1 q
   ·intro i d H' G' E' RG' hg hi;obtain⟨v',y1,y2⟩:=e3.get hi;refine⟨⟨vs,v',SqT.ext E' e2,y1⟩,fun x H'' hy=>?_⟩;obtain⟨rfl,hy⟩:=hy;have:=hy vs (SqT.ext E' e2);rw[y1] at this;cases this;exact⟨y2.ext E',.refl _ _,RG'⟩
   ·intro i H' G' E' RG' hg hi;exact⟨vs,SqT.ext E' e2,by rw[←e3.length];exact hi⟩
  refine wpAny_pyIter_tuple (show s1.heap.IsTuple a its.toArray from p) ?_;refine⟨s1.heap.objs.size,[s1.heap.objs.size],_,_,H1,rfl,I1.kept (t':=s1.toks) fun b o e=>Heap.get?_push_of_some _ e,qqaz a _,⟨_,Heap.get?_push_size _ rfl,rfl,rfl⟩,fun b hb=>?_,hq⟩;have e:b=s1.heap.objs.size:=by simpa using hb
  subst e;exact I1.fpOk (Nat.le_refl _) (I1.hok.fresh (Nat.le_refl _))
 |scr ds=>
  unfold Hv at hv;obtain⟨a,vs,rfl,e2,e3⟩:=hv;cases r1;obtain⟨its,rv,p,hz⟩:=I1.list e2.l;refine hlist a its vs rv p (k _ _ _ _ ⟨?_,?_⟩ S1 R1 q)
  ·intro i d H' G' E' RG' hg hi;obtain⟨v',y1,y2⟩:=e3.get hi;refine⟨⟨vs,v',(SqF.ext E' e2).l,y1⟩,fun x H'' hy=>?_⟩;obtain⟨rfl,hy⟩:=hy;have:=hy vs (SqF.ext E' e2).l;rw[y1] at this;cases this;exact⟨y2.ext E',.refl _ _,RG'⟩
  ·intro i H' G' E' RG' hg hi;exact⟨vs,(SqF.ext E' e2).l,by rw[←e3.length];exact hi⟩
 |non=>exact q.elim
 |bl _=>exact q.elim
 |int _=>exact q.elim
 |str _=>exact q.elim
 |dc _=>exact q.elim
def rngL(lo:Int)(n:Nat):List D:=(List.range n).map fun i:Nat=>.int (lo+(i:Int))
theorem qjmz{lo:Int}{n i:Nat}{d:D}(h:(rngL lo n)[i]?=some d):i<n/\d=.int (lo+(i:Int)):=by
 unfold rngL at h;rw[List.getElem?_map] at h;by_cases hi:i<n
 ·rw[List.getElem?_range hi] at h;simp at h;exact⟨hi,h.symm⟩
 ·rw[List.getElem?_eq_none_iff.mpr (by simpa using hi)] at h;cases h
theorem qbkz(lo:Int)(n:Nat):(rngL lo n).length=n:=by simp[rngL]
theorem qjnz{K:PySem.W.Frag}{H:Hp}(lo:Int)(n:Nat):SrcOk K H (Itr lo n) ⟨rngL lo n,fun _=>True⟩:=⟨by
 intro i d H' G' _ RG _ hi;obtain⟨h1,h2⟩:=qjmz hi;refine⟨h1,fun x H'' hy=>?_⟩;obtain⟨rfl,rfl⟩:=hy;exact⟨by rw[h2];simp[Hv],.refl _ _,RG⟩,by
 intro i H' G' _ RG _ hi;rw[qbkz] at hi;exact hi⟩
def iRng1(ta:TA3):TI3:=fun τ G R=>ta τ G fun ds G1=>match ds with
 |[.int j]=>(-(2^62)≤j/\j<2^62)/\R ⟨rngL 0 j.toNat,fun _=>True⟩ G1
 |_=>False
def iRng2(ta:TA3):TI3:=fun τ G R=>ta τ G fun ds G1=>match ds with
 |[.int i,.int j]=>(-(2^62)≤i/\i<2^62/\-(2^62)≤j/\j<2^62)/\R ⟨rngL i (j-i).toNat,fun _=>True⟩ G1
 |_=>False
theorem qs8z{a:Expr}{ta:TA3}(hm:X.mg "range" = none)(ha:PA3 X [a] ta)(hg:Gl X "range":=by rfl)(hs:notStar a=true:=by rfl):PI3 X tg (.Call (.Name "range" p) [a] [] pos) (iRng1 ta):=
 qejz (qqcz hg hm ha (qpz hs)) fun σ H R ⟨τ,G,R3,RS,RG,h,k⟩=>⟨τ,G,_,RS,RG,h,fun vs H1 ds G1 h1 S1 R1 q1=>by
  rcases ds with _|⟨d,_|⟨d2,ds⟩⟩
  ·exact q1.elim
  ·cases d with
   |int j=>
    obtain⟨v,r,rfl,z1,z2⟩:=h1.inv;cases z2.inv0;unfold Hv at z1;exact⟨j,by rw[z1],q1.1.1,q1.1.2,k _ _ _ _ (qjnz 0 _) S1 R1 q1.2⟩
   |_=>exact q1.elim
  ·cases d<;>exact q1.elim⟩
theorem qs9z{a b:Expr}{ta:TA3}(hm:X.mg "range" = none)(ha:PA3 X [a,b] ta)(hg:Gl X "range":=by rfl)(hs:notStar a=true:=by rfl)(hs2:notStar b=true:=by rfl):
  PI3 X tg (.Call (.Name "range" p) [a,b] [] pos) (iRng2 ta):=
 qejz (qqdz hg hm ha (by rw[qpz hs,qpz hs2];rfl) (qpz hs2)) fun σ H R ⟨τ,G,R3,RS,RG,h,k⟩=>⟨τ,G,_,RS,RG,h,fun vs H1 ds G1 h1 S1 R1 q1=>by
  rcases ds with _|⟨d,_|⟨d2,_|⟨d3,ds⟩⟩⟩
  ·exact q1.elim
  ·cases d<;>exact q1.elim
  ·cases d with
   |int i=>
    cases d2 with
    |int j=>
     obtain⟨v,r,rfl,z1,z2⟩:=h1.inv;obtain⟨v',r',rfl,z3,z4⟩:=z2.inv;cases z4.inv0;unfold Hv at z1 z3;exact⟨i,j,by rw[z1,z3],q1.1,k _ _ _ _ (qjnz i _) S1 R1 q1.2⟩
    |_=>exact q1.elim
   |_=>exact q1.elim
  ·cases d with
   |int i=>cases d2<;>exact q1.elim
   |_=>exact q1.elim⟩
def forGo(guard:Gp->Prop)(g:TG3)(tb:TS3)(D3:Ends3):List D->S3->Gp->Prop
 |[],τ,G=>guard G/\D3.nx τ G
 |d::ds,τ,G=>guard G/\g d τ G fun τ2 G2=>tb { D3 with nx:=forGo guard g tb D3 ds,ct:=forGo guard g tb D3 ds,bk:=D3.nx } τ2 G2
def sFor(ti:TI3)(g:TG3)(tb:TS3):TS3:=fun D3 τ G=>ti τ G fun S G1=>forGo S.guard g tb D3 S.items τ G1
theorem qtaz{body:List Stmt}{ti:TI3}{g:TG3}{tb:TS3}(hp:PassesOwn (model X.prog X.w) X.A X.env X.xe)(hc:X.calm=true)(hi:PI3 X tg iter ti)(hg:PG3 X tg g)(hb:PSs3 X body tb)
  (hs:∀x,foldedSetIterable iter X.env x=pure x:=by intro _;rfl):PS3 X (.For tg iter body [] pos) (sFor ti g tb):=qa7z (qqfz hp hc hi hg hb hs) fun D2 σ H ⟨τ,G,D3,RS,RG,h,k⟩=>by
 refine⟨τ,G,_,RS,RG,h,fun J H1 S G1 ok S1 R1 q1=>?_⟩;refine⟨fun i m σ' H'=>∃τ' G',RepS X.K τ' σ' H'/\RepG X.K G' H'/\Step H G H' G'/\Ext H1 H'/\forGo S.guard g tb D3 (S.items.drop i) τ' G'/\m+i=S.items.length,⟨S.items.length,τ,G1,RS.ext (S1.ext RG),R1,S1,.refl H1,by simpa using q1,by omega⟩,?_⟩;rintro i m σ' H' ⟨τ',G',RS',RG',S',E',q,hm⟩;by_cases hlt:i<S.items.length
 ·have hd:S.items.drop i=S.items[i]::S.items.drop (i+1):=List.drop_eq_getElem_cons hlt;have hget:S.items[i]?=some S.items[i]:=List.getElem?_eq_getElem hlt;rw[hd] at q;obtain⟨hgd,q⟩:=q;obtain⟨z1,z2⟩:=ok.go i _ H' G' E' RG' hgd hget;refine .inr ⟨z1,fun σ2 H2=>∃τ2 G2,RepS X.K τ2 σ2 H2/\RepG X.K G2 H2/\Step H G H2 G2/\Ext H1 H2/\forGo S.guard g tb D3 (S.items.drop (i+1)) τ2 G2,fun σ2 H2 ⟨τ2,G2,a1,a2,a3,a4,a5⟩=>⟨m-1,by omega,τ2,G2,a1,a2,a3,a4,a5,by omega⟩,fun x H2 hy=>?_⟩;obtain⟨y1,y2,y3⟩:=z2 x H2 hy;refine⟨S.items[i],τ',G',_,y1,RS'.ext (y2.ext RG'),y3,q,fun τ3 σ3 G3 H3 b1 b2 b3 b4=>?_⟩;refine⟨τ3,G3,_,b1,b3,b4,⟨?_,?_,?_,?_⟩⟩
  ·exact fun τ4 σ4 G4 H4 c1 c2 c3 c4=>⟨τ4,G4,c1,c3,((S'.trans y2).trans b2).trans c2,((E'.trans (y2.ext RG')).trans (b2.ext y3)).trans (c2.ext b3),c4⟩
  ·exact fun τ4 σ4 G4 H4 c1 c2 c3 c4=>k.nx τ4 σ4 G4 H4 c1 (((S'.trans y2).trans b2).trans c2) c3 c4
  ·exact fun τ4 σ4 G4 H4 c1 c2 c3 c4=>⟨τ4,G4,c1,c3,((S'.trans y2).trans b2).trans c2,((E'.trans (y2.ext RG')).trans (b2.ext y3)).trans (c2.ext b3),c4⟩
  ·exact fun d v G4 H4 c1 c2 c3 c4=>k.rt d v G4 H4 c1 (((S'.trans y2).trans b2).trans c2) c3 c4
 ·have hd:S.items.drop i=[]:=List.drop_eq_nil_of_le (by omega);rw[hd] at q;exact .inl ⟨ok.stop i H' G' E' RG' q.1 (by omega),k.nx τ' σ' G' H' RS' S' RG' q.2⟩
def compGo(guard:Gp->Prop)(g:TG3)(tc:TT3)(te:TE3)(Q:List D->Gp->Prop):List D->List D->S3->Gp->Prop
 |[],acc,τ,G=>guard G/\Q acc G
 |d::ds,acc,τ,G=>guard G/\g d τ G fun τ2 G2=>tc τ2 G2 fun b G3=>Br b (te τ2 G3 fun v G4=>compGo guard g tc te Q ds (acc++[v]) τ2 G4) (compGo guard g tc te Q ds acc τ2 G3)
def cmp3(own:List Str)(js:List Nat)(τ:S3):S3:=(own.map fun _=>none)++js.map fun j=>at3 τ j
def eComp(own:List Str)(js:List Nat)(ti:TI3)(g:TG3)(tc:TT3)(te:TE3):TE3:=fun τ G Q=>ti τ G fun S G1=>S.items.length≤sizeLine ∧
 compGo S.guard g tc te (fun ds G2=>∀p G3,New G2 p (.lst ds) G3->Q (.obj p) G3) S.items [] (cmp3 own js τ) G1
theorem qjoz:∀(τ:S3) (i:Nat),at3 τ i=(τ[i]?).getD none
 |[],i=>by simp[at3]
 |x::r,0=>by simp[at3]
 |x::r,i+1=>by simp[at3,qjoz r i]
theorem RepS.cmp{K:PySem.W.Frag}{τ:S3}{σ:L2.St}{H:Hp}(own:List Str)(js:List Nat)(R:RepS K τ σ H):RepS K (cmp3 own js τ) (cmpSt own js σ) H:=⟨by simp[cmp3,cmpSt],fun i d h=>by
 rw[qjoz] at h;unfold cmp3 at h;by_cases hi:i<own.length
 ·rw[List.getElem?_append_left (by simpa using hi)] at h;rw[List.getElem?_map,List.getElem?_eq_getElem hi] at h;cases h
 ·rw[List.getElem?_append_right (by simpa using hi),List.getElem?_map] at h;simp only[List.length_map] at h;cases hj:js[i-own.length]? with
  |none=>rw[hj] at h;cases h
  |some j=>
   rw[hj] at h;have h':at3 τ j=some d:=h;obtain⟨v,e1,e2⟩:=R.at_ j d h';refine⟨v,?_,e2⟩;unfold cmpSt;rw[List.getElem?_append_right (by simpa using hi),List.getElem?_map];simp only[List.length_replicate,hj,Option.map_some,e1,Option.getD_some]⟩
def tNoTest3:TT3:=fun _ G Q=>Q true G
theorem qtbz:PCt X [] (lowT X.K tNoTest3):=fun pins s σ H Q I ⟨τ,G,Q3,RS,RG,h,k⟩=>qslz pins s σ H Q I (k true H G (.refl H G) RG h)
theorem qtcz{c:Expr}{t:TT3}(h:PT3 X c t):PCt X [c] (lowT X.K t):=qsmz h
theorem qjpz{K:PySem.W.Frag}{own:List Str}{js:List Nat}{ti:TI3}{g:TG3}{tc:TT3}{te:TE3}{σ:L2.St}{H:Hp}{Q:VK}(h:low K (eComp own js ti g tc te) σ H Q):tLc own js (lowI K ti) (lowG K g) (lowT K tc) (low K te) σ H Q:=by
 obtain⟨τ,G,Q3,RS,RG,h,k⟩:=h;refine⟨τ,G,_,RS,RG,h,fun J H1 S G1 ok S1 R1 q1=>?_⟩;obtain⟨hz,q1⟩:=q1;intro p hp;have hGp:G1 p=none:=R1.free hp;refine⟨fun i m ys σ' H'=>∃τ' G' acc,RepS K τ' σ' H'/\RepG K G' H'/\Step H G H' G'/\Ext H1 H'/\H' p=some (.lst ys)/\G' p=none/\Hvs K H' acc ys ∧
  compGo S.guard g tc te (fun ds G2=>∀p G3,New G2 p (.lst ds) G3->Q3 (.obj p) G3) (S.items.drop i) acc τ' G'/\m+i=S.items.length/\ys.length≤i,?_,?_⟩
 ·have E1:Ext H1 (upd H1 p (.lst [])):=.laid hp;exact⟨S.items.length,cmp3 own js τ,G1,[],((RS.ext (S1.ext RG)).cmp own js).ext E1,R1.laid hp,S1.trans (.laid hp),E1,qwz,hGp,.nil,by simpa using q1,by omega,Nat.zero_le _⟩
 rintro i m ys σ' H' ⟨τ',G',acc,RS',RG',S',E',hpl,hG',hacc,q,hm,hy⟩;refine⟨hpl,?_⟩;by_cases hlt:i<S.items.length
 ·have hd:S.items.drop i=S.items[i]::S.items.drop (i+1):=List.drop_eq_getElem_cons hlt;have hget:S.items[i]?=some S.items[i]:=List.getElem?_eq_getElem hlt;rw[hd] at q;obtain⟨hgd,q⟩:=q;obtain⟨z1,z2⟩:=ok.go i _ H' G' E' RG' hgd hget;refine .inr ⟨z1,by omega,fun x H2 hyl=>?_⟩;obtain⟨y1,y2,y3⟩:=z2 x H2 hyl
  -- what is not in G stays
  have keep:∀{Ha Hb:Hp} {Ga Gb:Gp},Step Ha Ga Hb Gb->Ha p=some (.lst ys)->Ga p=none->Hb p=some (.lst ys)/\Gb p=none:=fun {Ha Hb Ga Gb} st e n=>by
   refine⟨st.fr p _ e n,?_⟩;refine Classical.byContradiction fun z=>?_;rw[st.new p n z] at e;cases e
  obtain⟨p2,n2⟩:=keep y2 hpl hG';refine⟨S.items[i],τ',G',_,y1,RS'.ext (y2.ext RG'),y3,q,fun τ3 σ3 G3 H3 b1 b2 b3 b4=>?_⟩;obtain⟨p3,n3⟩:=keep b2 p2 n2;refine⟨τ3,G3,_,b1,b3,b4,fun bb H4 G4 c1 c2 c3=>?_⟩;obtain⟨p4,n4⟩:=keep c1 p3 n3;have E4:Ext H' H4:=((y2.ext RG').trans (b2.ext y3)).trans (c1.ext b3);have S4:Step H G H4 G4:=((S'.trans y2).trans b2).trans c1;have RS4:=b1.ext (c1.ext b3);refine Br.ite c3 (fun c3=>?_) fun c3=>?_
  ·refine⟨τ3,G4,_,RS4,c2,c3,fun v H5 d G5 e1 e2 e3 e4=>?_⟩;obtain⟨p5,n5⟩:=keep e2 p4 n4;refine⟨p5,m-1,by omega,τ3,G5,acc++[d],?_,?_,?_,?_,qwz,n5,?_,e4,by omega,by rw[List.length_append];simp;omega⟩
   ·exact (RS4.ext (e2.ext c2)).ext (.wrote p5)
   ·intro a o e;have hne:a≠p:=fun z=>by
     rw[z,n5] at e;cases e
    exact (e3 a o e).ext (.wrote p5) (qoz hne)
   ·refine⟨fun a o e n=>?_,fun a q=>?_,fun a n q=>((S4.trans e2).new a n q)⟩
    ·by_cases hne:a=p
     ·exfalso;rw[hne] at e n;have hh:=S1.fr p o e n;rw[hp] at hh;cases hh
     ·rw[qoz hne];exact (S4.trans e2).fr a o e n
    ·by_cases hne:a=p
     ·rw[hne,qwz];simp
     ·rw[qoz hne];exact (S4.trans e2).trk a q
   ·exact ((E'.trans E4).trans (e2.ext c2)).trans (.wrote p5)
   ·have E5:Ext H' (upd H5 p (.lst (ys++[v]))):=(E4.trans (e2.ext c2)).trans (.wrote p5);exact (hacc.ext E5).append (.cons (e1.ext (.wrote p5)) .nil)
  ·exact⟨m-1,by omega,τ3,G4,acc,RS4,c2,S4,E'.trans E4,p4,n4,hacc.ext E4,c3,by omega,by omega⟩
 ·have hd:S.items.drop i=[]:=List.drop_eq_nil_of_le (by omega);rw[hd] at q;refine .inl ⟨ok.stop i H' G' E' RG' q.1 (by omega),?_⟩;refine k _ H' (.obj p) (upd3 G' p (.lst acc)) (by simp[Hv]) ?_ ?_ (q.2 p _ (.mk' hG'))
  ·refine⟨S'.fr,S'.trk,fun a n z=>?_⟩;by_cases hne:a=p
   ·rw[hne];cases hh:H p with
    |none=>rfl
    |some o=>
     exfalso;rw[hne] at n;have:=S1.fr p o hh n;rw[hp] at this;cases this
   ·rw[qabz hne] at z;exact S'.new a n z
  ·intro a o e;by_cases hne:a=p
   ·rw[hne,qajz] at e;cases e;rw[hne];exact⟨ys,hpl,hacc⟩
   ·rw[qabz hne] at e;exact RG' a o e
theorem qtdz{elt:Expr}{ifs:List Expr}{scope:Scope}{own:List Str}{js:List Nat}{ti:TI3}{g:TG3}{tc:TT3}{te:TE3}(hc:X.calm=true)(C:CmpOk X.N X.env.scope scope own js)(hi:PI3 X tg iter ti)
  (hb:∀s H fp,PG3 (X.cmp scope own js s H fp) tg g/\PCt (X.cmp scope own js s H fp) ifs (lowT X.K tc)/\PE3 (X.cmp scope own js s H fp) elt te)
  (hs:∀x,foldedSetIterable iter X.env x=pure x:=by intro _;rfl):PE3 X (.ListComp elt [⟨tg,iter,ifs,0⟩] scope pos) (eComp own js ti g tc te):=
 qyz (qsoz hc C hi hb hs) fun σ H Q h=>qjpz h
theorem qtez{elt:Expr}{ifs:List Expr}{scope:Scope}{own:List Str}{js:List Nat}{ti:TI3}{g:TG3}{tc:TT3}{te:TE3}{i:Nat}{y:Str}{py spos:Pos}(hc:X.calm=true)(hN:X.N.Nodup)(C:CmpOk X.N X.env.scope scope own js)(hi:PI3 X tg iter ti)
  (hb:∀s H fp,PG3 (X.cmp scope own js s H fp) tg g/\PCt (X.cmp scope own js s H fp) ifs (lowT X.K tc)/\PE3 (X.cmp scope own js s H fp) elt te) (hy:X.N[i]?=some y:=by rfl) (hyl:X.env.scope.names.lookup y=some .local:=by rfl)
  (hsw:swapsWith (.ListComp elt [⟨tg,iter,ifs,0⟩] scope pos) (some (.Name y py)) spos.line X.env=pure true:=by rfl)
  (hs:∀x,foldedSetIterable iter X.env x=pure x:=by intro _;rfl):PS3 X (.Assign [.Name y py] (.ListComp elt [⟨tg,iter,ifs,0⟩] scope pos) spos) (sAsg (eComp own js ti g tc te) (hName i)):=
 qa7z (qspz hc hN hy hyl C hi hb hsw hs) fun D2 σ H ⟨τ,G,D3,RS,RG,h,k⟩=>
  qjpz ⟨τ,G,_,RS,RG,h,fun v H1 d G1 h1 S1 R1 q1=>k.nx _ _ G1 H1 ((RS.ext (S1.ext RG)).set h1) S1 R1 q1⟩
theorem qtfz{guard:Gp->Prop}{g:TG3}{tb:TS3}{D3:Ends3}(I:List D->S3->Gp->Prop)(hg:∀ds τ G,I ds τ G->guard G)
  (step:∀d ds τ G,I (d::ds) τ G->g d τ G fun τ2 G2=>tb { D3 with nx:=I ds,ct:=I ds,bk:=D3.nx } τ2 G2) (hend:∀τ G,I [] τ G->D3.nx τ G)
  (mono:∀(N N':S3->Gp->Prop),(∀τ G,N τ G->N' τ G)->∀d τ G,(g d τ G fun τ2 G2=>tb { D3 with nx:=N,ct:=N,bk:=D3.nx } τ2 G2)->g d τ G fun τ2 G2=>tb { D3 with nx:=N',ct:=N',bk:=D3.nx } τ2 G2):
  ∀ds τ G,I ds τ G->forGo guard g tb D3 ds τ G
 |[],τ,G,h=>⟨hg _ _ _ h,hend _ _ h⟩
 |d::ds,τ,G,h=>⟨hg _ _ _ h,mono (I ds) _ (fun τ G q=>qtfz I hg step hend mono ds τ G q) d τ G (step d ds τ G h)⟩
theorem qafz{guard:Gp->Prop}{g:TG3}{tb:TS3}{D3:Ends3}(I:List D->S3->Gp->Prop)(hg:∀ds τ G,I ds τ G->guard G)
  (step:∀d ds τ G (N:S3->Gp->Prop),I (d::ds) τ G->(∀τ' G',I ds τ' G'->N τ' G')->g d τ G fun τ2 G2=>tb { D3 with nx:=N,ct:=N,bk:=D3.nx } τ2 G2) (hend:∀τ G,I [] τ G->D3.nx τ G):
  ∀ds τ G,I ds τ G->forGo guard g tb D3 ds τ G
 |[],τ,G,h=>⟨hg _ _ _ h,hend _ _ h⟩
 |d::ds,τ,G,h=>⟨hg _ _ _ h,step d ds τ G _ h fun τ' G' q=>qafz I hg step hend ds τ' G' q⟩
end
end L3
namespace Dat
open PySem PySem.SeqAt
inductive D where
 |non|bl (b:Bool)|int (i:Int)|str (x:Str)|tup (xs:List D)|lst (xs:List D)|dct
mutual
def D.eqb:D->D->Bool
 |.non,.non=>true
 |.bl a,.bl b=>a==b
 |.bl a,.int b=>(if a then 1 else 0)==b
 |.int a,.bl b=>a==(if b then 1 else 0)
 |.int a,.int b=>a==b
 |.str a,.str b=>a==b
 |.tup xs,.tup ys=>eqbs xs ys
 |.lst xs,.lst ys=>eqbs xs ys
 |_,_=>false
def eqbs:List D->List D->Bool
 |[],[]=>true
 |x::xs,y::ys=>x.eqb y&&eqbs xs ys
 |_,_=>false
end
mutual
def D.dep:D->Nat
 |.tup xs=>deps xs+1
 |.lst xs=>deps xs+1
 |_=>0
def deps:List D->Nat
 |[]=>0
 |x::xs=>max x.dep (deps xs)
end
theorem dep_mem{d:D}:∀{xs:List D},d∈xs->d.dep≤deps xs
 |x::xs,h=>by
  unfold deps;rcases List.mem_cons.mp h with e|e
  ·rw[e];exact Nat.le_max_left _ _
  ·exact Nat.le_trans (dep_mem e) (Nat.le_max_right _ _)
mutual
def Hv(h:Heap):D->Value->Prop
 |.non,u=>u=.none
 |.bl b,u=>u=.bool b
 |.int i,u=>∃t,u=.int i t
 |.str x,u=>∃t,u=.str x t
 |.tup ds,u=>∃(a:Addr) (its:List Value),u=.ref a/\h.IsTuple a its.toArray/\Hvs h ds its
 |.lst ds,u=>∃(a:Addr) (its:List Value),u=.ref a/\h.IsList a its.toArray/\Hvs h ds its
 |.dct,_=>False
def Hvs(h:Heap):List D->List Value->Prop
 |[],us=>us=[]
 |d::ds,us=>∃u r,us=u::r/\Hv h d u/\Hvs h ds r
end
theorem Hvs.length{h:Heap}:∀{ds:List D} {us:List Value},Hvs h ds us->us.length=ds.length
 |[],us,e=>by
  unfold Hvs at e;rw[e];rfl
 |d::ds,us,e=>by
  unfold Hvs at e;obtain⟨u,r,rfl,_,e2⟩:=e;rw[List.length_cons,List.length_cons,e2.length]
theorem Hvs.get{h:Heap}:∀{ds:List D} {us:List Value} {j:Nat} {d:D} {u:Value},Hvs h ds us->ds[j]?=some d->us[j]?=some u->Hv h d u
 |[],_,_,_,_,_,e,_=>by simp at e
 |d::ds,us,0,_,_,q,e1,e2=>by
  unfold Hvs at q;obtain⟨u,r,rfl,q1,_⟩:=q;simp at e1 e2;rw[←e1,←e2];exact q1
 |d::ds,us,j+1,_,_,q,e1,e2=>by
  unfold Hvs at q;obtain⟨u,r,rfl,_,q2⟩:=q;exact q2.get (j:=j) (by simpa using e1) (by simpa using e2)
theorem qjqz{h:Heap}{a:Addr}{xs ys:Array Value}(hl:h.IsList a xs)(ht:h.IsTuple a ys):False:=by
 obtain⟨o,ho,hc,_⟩:=hl;obtain⟨o',ho',hc',_⟩:=ht;rw[ho] at ho';cases ho';rw[hc] at hc';exact absurd hc' (by decide)
mutual
theorem Hv.inj{h:Heap}:∀{d e:D} {u:Value},Hv h d u->Hv h e u->d=e
 |d,e,u,p,q=>by
  cases d with
  |non=>unfold Hv at p;subst p;cases e<;>unfold Hv at q<;>first|rfl|(simp at q)
  |bl b=>unfold Hv at p;subst p;cases e<;>unfold Hv at q<;>first|(simp at q;rw[q])|(simp at q)
  |int b=>unfold Hv at p;obtain⟨t,rfl⟩:=p;cases e<;>unfold Hv at q<;>first|(simp at q;rw[q])|(simp at q)
  |str b=>unfold Hv at p;obtain⟨t,rfl⟩:=p;cases e<;>unfold Hv at q<;>first|(simp at q;rw[q])|(simp at q)
  |dct=>unfold Hv at p;exact p.elim
  |tup ds=>
   unfold Hv at p;obtain⟨a,its,rfl,ha,p⟩:=p;cases e with
   |tup es=>
    unfold Hv at q;obtain⟨a',its',e1,ha',q⟩:=q;cases e1;have e2:its=its':=by
     obtain⟨o,ho,_,n,hd⟩:=ha;obtain⟨o',ho',_,n',hd'⟩:=ha';rw[ho] at ho';cases ho';rw[hd] at hd';injection hd' with e3 _
     simpa using congrArg Array.toList e3
    subst e2;rw[Hvs.inj p q]
   |lst es=>
    unfold Hv at q;obtain⟨a',its',e1,ha',q⟩:=q;cases e1;exact (qjqz ha' ha).elim
   |_=>unfold Hv at q<;>simp at q
  |lst ds=>
   unfold Hv at p;obtain⟨a,its,rfl,ha,p⟩:=p;cases e with
   |lst es=>
    unfold Hv at q;obtain⟨a',its',e1,ha',q⟩:=q;cases e1;have e2:its=its':=by
     obtain⟨o,ho,_,n,hd⟩:=ha;obtain⟨o',ho',_,n',hd'⟩:=ha';rw[ho] at ho';cases ho';rw[hd] at hd';injection hd' with e3 _
     simpa using congrArg Array.toList e3
    subst e2;rw[Hvs.inj p q]
   |tup es=>
    unfold Hv at q;obtain⟨a',its',e1,ha',q⟩:=q;cases e1;exact (qjqz ha ha').elim
   |_=>unfold Hv at q<;>simp at q
theorem Hvs.inj{h:Heap}:∀{ds es:List D} {us:List Value},Hvs h ds us->Hvs h es us->ds=es
 |[],[],_,_,_=>rfl
 |[],e::es,us,p,q=>by
  unfold Hvs at p q;subst p;obtain⟨_,_,e1,_⟩:=q;cases e1
 |d::ds,[],us,p,q=>by
  unfold Hvs at p q;subst q;obtain⟨_,_,e1,_⟩:=p;cases e1
 |d::ds,e::es,us,p,q=>by
  unfold Hvs at p q;obtain⟨u,r,rfl,p1,p2⟩:=p;obtain⟨u',r',e1,q1,q2⟩:=q;cases e1;rw[Hv.inj p1 q1,Hvs.inj p2 q2]
end
theorem qbwz:∀(ds es:List D),((List.range (min ds.length es.length)).all (fun j=>(ds.getD j .non).eqb (es.getD j .non))&&ds.length==es.length)=eqbs ds es
 |[],[]=>by simp[eqbs]
 |[],e::es=>by simp[eqbs]
 |d::ds,[]=>by simp[eqbs]
 |d::ds,e::es=>by
  have ih:=qbwz ds es;unfold eqbs;rw[←ih];rw[List.length_cons,List.length_cons,show min (ds.length+1) (es.length+1)=min ds.length es.length+1 by omega,List.range_succ_eq_map,List.all_cons,List.all_map];have e1:((ds.length+1==es.length+1):Bool)=(ds.length==es.length):=by simp
  rw[e1,Bool.and_assoc];rfl
theorem qekz:∀(ds es:List D),ds.length≠es.length->eqbs ds es=false
 |[],[],h=>absurd rfl h
 |[],e::es,_=>rfl
 |d::ds,[],_=>rfl
 |d::ds,e::es,h=>by
  unfold eqbs;rw[qekz ds es (by simpa using h),Bool.and_false]
mutual
theorem Hv.refl{h:Heap}:∀{d:D} {u:Value},Hv h d u->d.eqb d=true
 |.non,_,_=>rfl
 |.bl b,_,_=>by unfold D.eqb;simp
 |.int b,_,_=>by unfold D.eqb;simp
 |.str b,_,_=>by unfold D.eqb;simp
 |.dct,_,p=>by unfold Hv at p;exact p.elim
 |.tup ds,_,p=>by
  unfold Hv at p;obtain⟨_,_,_,_,p⟩:=p;unfold D.eqb;exact Hvs.refl p
 |.lst ds,_,p=>by
  unfold Hv at p;obtain⟨_,_,_,_,p⟩:=p;unfold D.eqb;exact Hvs.refl p
theorem Hvs.refl{h:Heap}:∀{ds:List D} {us:List Value},Hvs h ds us->eqbs ds ds=true
 |[],_,_=>rfl
 |d::ds,us,p=>by
  unfold Hvs at p;obtain⟨u,r,_,p1,p2⟩:=p;unfold eqbs;rw[Hv.refl p1,Hvs.refl p2];rfl
end
theorem q1z{h:Heap}{ds:List D}{us:List Value}(p:Hvs h ds us){j:Nat}(hj:j<us.toArray.size):Hv h (ds.getD j .non) (us.toArray[j])/\ds.getD j .non∈ds:=by
 have hl:=p.length;have hj':j<ds.length:=by simp at hj;omega
 have e1:ds[j]?=some (ds.getD j .non):=by simp[hj']
 exact⟨p.get e1 (by simp at hj;simp[hj]),List.mem_of_getElem? e1⟩
theorem eqAt{s:Shared}:∀(d e:D) (u v:Value) (A:Around),Hv s.heap d u->Hv s.heap e v->A.units+d.dep+1<cLine->EqAt A s u v (d.eqb e)
 |.non,.non,u,v,A,p1,p2,hu=>by
  unfold Hv at p1;subst p1;unfold Hv at p2;subst p2;exact EqAt.same _
 |.non,.bl b2,u,v,A,p1,p2,hu=>by
  unfold Hv at p1;subst p1;unfold Hv at p2;subst p2;exact EqAt.none_bool  b2
 |.non,.int b2,u,v,A,p1,p2,hu=>by
  unfold Hv at p1;subst p1;unfold Hv at p2;obtain⟨t2,rfl⟩:=p2;exact EqAt.none_int  b2 t2
 |.non,.str b2,u,v,A,p1,p2,hu=>by
  unfold Hv at p1;subst p1;unfold Hv at p2;obtain⟨t2,rfl⟩:=p2;exact EqAt.none_str  b2 t2
 |.non,.tup ds2,u,v,A,p1,p2,hu=>by
  unfold Hv at p1;subst p1;unfold Hv at p2;obtain⟨a2,its2,rfl,l2,p2⟩:=p2;exact EqAt.none_tuple  l2 (by omega)
 |.non,.lst ds2,u,v,A,p1,p2,hu=>by
  unfold Hv at p1;subst p1;unfold Hv at p2;obtain⟨a2,its2,rfl,l2,p2⟩:=p2;exact EqAt.none_list  l2 (by omega)
 |.bl b1,.non,u,v,A,p1,p2,hu=>by
  unfold Hv at p1;subst p1;unfold Hv at p2;subst p2;exact EqAt.bool_none b1
 |.bl b1,.bl b2,u,v,A,p1,p2,hu=>by
  unfold Hv at p1;subst p1;unfold Hv at p2;subst p2;exact EqAt.bool_bool b1 b2
 |.bl b1,.int b2,u,v,A,p1,p2,hu=>by
  unfold Hv at p1;subst p1;unfold Hv at p2;obtain⟨t2,rfl⟩:=p2;exact EqAt.bool_int b1 b2 t2
 |.bl b1,.str b2,u,v,A,p1,p2,hu=>by
  unfold Hv at p1;subst p1;unfold Hv at p2;obtain⟨t2,rfl⟩:=p2;exact EqAt.bool_str b1 b2 t2
 |.bl b1,.tup ds2,u,v,A,p1,p2,hu=>by
  unfold Hv at p1;subst p1;unfold Hv at p2;obtain⟨a2,its2,rfl,l2,p2⟩:=p2;exact EqAt.bool_tuple b1 l2 (by omega)
 |.bl b1,.lst ds2,u,v,A,p1,p2,hu=>by
  unfold Hv at p1;subst p1;unfold Hv at p2;obtain⟨a2,its2,rfl,l2,p2⟩:=p2;exact EqAt.bool_list b1 l2 (by omega)
 |.int b1,.non,u,v,A,p1,p2,hu=>by
  unfold Hv at p1;obtain⟨t1,rfl⟩:=p1;unfold Hv at p2;subst p2;exact EqAt.int_none b1 t1
 |.int b1,.bl b2,u,v,A,p1,p2,hu=>by
  unfold Hv at p1;obtain⟨t1,rfl⟩:=p1;unfold Hv at p2;subst p2;exact EqAt.int_bool b1 t1 b2
 |.int b1,.int b2,u,v,A,p1,p2,hu=>by
  unfold Hv at p1;obtain⟨t1,rfl⟩:=p1;unfold Hv at p2;obtain⟨t2,rfl⟩:=p2;exact EqAt.int_int b1 t1 b2 t2
 |.int b1,.str b2,u,v,A,p1,p2,hu=>by
  unfold Hv at p1;obtain⟨t1,rfl⟩:=p1;unfold Hv at p2;obtain⟨t2,rfl⟩:=p2;exact EqAt.int_str b1 t1 b2 t2
 |.int b1,.tup ds2,u,v,A,p1,p2,hu=>by
  unfold Hv at p1;obtain⟨t1,rfl⟩:=p1;unfold Hv at p2;obtain⟨a2,its2,rfl,l2,p2⟩:=p2;exact EqAt.int_tuple b1 t1 l2 (by omega)
 |.int b1,.lst ds2,u,v,A,p1,p2,hu=>by
  unfold Hv at p1;obtain⟨t1,rfl⟩:=p1;unfold Hv at p2;obtain⟨a2,its2,rfl,l2,p2⟩:=p2;exact EqAt.int_list b1 t1 l2 (by omega)
 |.str b1,.non,u,v,A,p1,p2,hu=>by
  unfold Hv at p1;obtain⟨t1,rfl⟩:=p1;unfold Hv at p2;subst p2;exact EqAt.str_none b1 t1
 |.str b1,.bl b2,u,v,A,p1,p2,hu=>by
  unfold Hv at p1;obtain⟨t1,rfl⟩:=p1;unfold Hv at p2;subst p2;exact EqAt.str_bool b1 t1 b2
 |.str b1,.int b2,u,v,A,p1,p2,hu=>by
  unfold Hv at p1;obtain⟨t1,rfl⟩:=p1;unfold Hv at p2;obtain⟨t2,rfl⟩:=p2;exact EqAt.str_int b1 t1 b2 t2
 |.str b1,.str b2,u,v,A,p1,p2,hu=>by
  unfold Hv at p1;obtain⟨t1,rfl⟩:=p1;unfold Hv at p2;obtain⟨t2,rfl⟩:=p2;exact EqAt.str_str b1 t1 b2 t2
 |.str b1,.tup ds2,u,v,A,p1,p2,hu=>by
  unfold Hv at p1;obtain⟨t1,rfl⟩:=p1;unfold Hv at p2;obtain⟨a2,its2,rfl,l2,p2⟩:=p2;exact EqAt.str_tuple b1 t1 l2 (by omega)
 |.str b1,.lst ds2,u,v,A,p1,p2,hu=>by
  unfold Hv at p1;obtain⟨t1,rfl⟩:=p1;unfold Hv at p2;obtain⟨a2,its2,rfl,l2,p2⟩:=p2;exact EqAt.str_list b1 t1 l2 (by omega)
 |.tup ds1,.non,u,v,A,p1,p2,hu=>by
  unfold Hv at p1;obtain⟨a1,its1,rfl,l1,p1⟩:=p1;unfold Hv at p2;subst p2;exact EqAt.tuple_none  l1 (by omega)
 |.tup ds1,.bl b2,u,v,A,p1,p2,hu=>by
  unfold Hv at p1;obtain⟨a1,its1,rfl,l1,p1⟩:=p1;unfold Hv at p2;subst p2;exact EqAt.tuple_bool b2 l1 (by omega)
 |.tup ds1,.int b2,u,v,A,p1,p2,hu=>by
  unfold Hv at p1;obtain⟨a1,its1,rfl,l1,p1⟩:=p1;unfold Hv at p2;obtain⟨t2,rfl⟩:=p2;exact EqAt.tuple_int b2 t2 l1 (by omega)
 |.tup ds1,.str b2,u,v,A,p1,p2,hu=>by
  unfold Hv at p1;obtain⟨a1,its1,rfl,l1,p1⟩:=p1;unfold Hv at p2;obtain⟨t2,rfl⟩:=p2;exact EqAt.tuple_str b2 t2 l1 (by omega)
 |.tup ds1,.tup ds2,u,v,A,p1,p2,hu=>by
  unfold Hv at p1;obtain⟨a1,its1,rfl,l1,p1⟩:=p1;unfold Hv at p2;obtain⟨a2,its2,rfl,l2,p2⟩:=p2;unfold D.eqb;by_cases ha:a1=a2
  ·subst ha;have e0:(.tup ds1:D)=.tup ds2:=Hv.inj (h:=s.heap) (u:=.ref a1) (by unfold Hv;exact⟨a1,its1,rfl,l1,p1⟩) (by unfold Hv;exact⟨a1,its2,rfl,l2,p2⟩);injection e0 with e0;subst e0;rw[p1.refl];exact EqAt.same _
  ·refine EqAt.of_refs ha ?_;have hdep:A.units+deps ds1+1+1<cLine:=by
    have e9:(.tup ds1:D).dep=deps ds1+1:=by first|rfl|(unfold D.dep;rfl)
    omega
   have q:=RcAt.tuples (e:=fun j=>(ds1.getD j .non).eqb (ds2.getD j .non)) l1 l2 (by omega) fun j h1 h2=>
    have m:=(q1z p1 h1).2
    eqAt (ds1.getD j .non) (ds2.getD j .non) _ _ A.in1 (q1z p1 h1).1 (q1z p2 h2).1 (by
     have:=dep_mem m;show A.units+1+_+1<cLine;omega)
   rw[List.size_toArray,List.size_toArray,p1.length,p2.length,qbwz] at q;exact q
 |.tup ds1,.lst ds2,u,v,A,p1,p2,hu=>by
  unfold Hv at p1;obtain⟨a1,its1,rfl,l1,p1⟩:=p1;unfold Hv at p2;obtain⟨a2,its2,rfl,l2,p2⟩:=p2;exact EqAt.tuple_list l1 l2 (by omega)
 |.lst ds1,.non,u,v,A,p1,p2,hu=>by
  unfold Hv at p1;obtain⟨a1,its1,rfl,l1,p1⟩:=p1;unfold Hv at p2;subst p2;exact EqAt.list_none  l1 (by omega)
 |.lst ds1,.bl b2,u,v,A,p1,p2,hu=>by
  unfold Hv at p1;obtain⟨a1,its1,rfl,l1,p1⟩:=p1;unfold Hv at p2;subst p2;exact EqAt.list_bool b2 l1 (by omega)
 |.lst ds1,.int b2,u,v,A,p1,p2,hu=>by
  unfold Hv at p1;obtain⟨a1,its1,rfl,l1,p1⟩:=p1;unfold Hv at p2;obtain⟨t2,rfl⟩:=p2;exact EqAt.list_int b2 t2 l1 (by omega)
 |.lst ds1,.str b2,u,v,A,p1,p2,hu=>by
  unfold Hv at p1;obtain⟨a1,its1,rfl,l1,p1⟩:=p1;unfold Hv at p2;obtain⟨t2,rfl⟩:=p2;exact EqAt.list_str b2 t2 l1 (by omega)
 |.lst ds1,.tup ds2,u,v,A,p1,p2,hu=>by
  unfold Hv at p1;obtain⟨a1,its1,rfl,l1,p1⟩:=p1;unfold Hv at p2;obtain⟨a2,its2,rfl,l2,p2⟩:=p2;exact EqAt.list_tuple l1 l2 (by omega)
 |.lst ds1,.lst ds2,u,v,A,p1,p2,hu=>by
  unfold Hv at p1;obtain⟨a1,its1,rfl,l1,p1⟩:=p1;unfold Hv at p2;obtain⟨a2,its2,rfl,l2,p2⟩:=p2;unfold D.eqb;by_cases ha:a1=a2
  ·subst ha;have e0:(.lst ds1:D)=.lst ds2:=Hv.inj (h:=s.heap) (u:=.ref a1) (by unfold Hv;exact⟨a1,its1,rfl,l1,p1⟩) (by unfold Hv;exact⟨a1,its2,rfl,l2,p2⟩);injection e0 with e0;subst e0;rw[p1.refl];exact EqAt.same _
  ·refine EqAt.of_refs ha ?_;have hdep:A.units+deps ds1+1+1<cLine:=by
    have e9:(.lst ds1:D).dep=deps ds1+1:=by first|rfl|(unfold D.dep;rfl)
    omega
   by_cases hn:ds1.length=ds2.length
   ·have q:=RcAt.lists (e:=fun j=>(ds1.getD j .non).eqb (ds2.getD j .non)) l1 l2 (by simp[p1.length,p2.length,hn]) (by omega) fun j h1 h2=>
     have m:=(q1z p1 h1).2
     eqAt (ds1.getD j .non) (ds2.getD j .non) _ _ A.in1 (q1z p1 h1).1 (q1z p2 h2).1 (by
      have:=dep_mem m;show A.units+1+_+1<cLine;omega)
    have q2:=qbwz ds1 ds2;rw[hn,Nat.min_self,beq_self_eq_true,Bool.and_true] at q2;rw[List.size_toArray,p1.length,hn,q2] at q;exact q
   ·rw[qekz _ _ hn];exact RcAt.lists_lengths l1 l2 (by simp[p1.length,p2.length,hn]) (by omega)
 |.non,.dct,u,v,A,p1,p2,hu=>by
  unfold Hv at p2;exact p2.elim
 |.bl b1,.dct,u,v,A,p1,p2,hu=>by
  unfold Hv at p2;exact p2.elim
 |.int b1,.dct,u,v,A,p1,p2,hu=>by
  unfold Hv at p2;exact p2.elim
 |.str b1,.dct,u,v,A,p1,p2,hu=>by
  unfold Hv at p2;exact p2.elim
 |.tup ds1,.dct,u,v,A,p1,p2,hu=>by
  unfold Hv at p2;exact p2.elim
 |.lst ds1,.dct,u,v,A,p1,p2,hu=>by
  unfold Hv at p2;exact p2.elim
 |.dct,e,u,v,A,p1,p2,hu=>by
  unfold Hv at p1;exact p1.elim
termination_by d=>sizeOf d
decreasing_by
 all_goals (have:=List.sizeOf_lt_of_mem m;first|(rw[D.tup.sizeOf_spec];omega)|(rw[D.lst.sizeOf_spec];omega))
theorem rcAt{s:Shared}(d e:D)(u v:Value)(A:Around)(p1:Hv s.heap d u)(p2:Hv s.heap e v)(hu:A.units+d.dep+1<cLine):RcAt A s u v (d.eqb e):=
 match d,e,p1,p2,hu with
 |.non,.non,p1,p2,hu=>by
  unfold Hv at p1;subst p1;unfold Hv at p2;subst p2;exact RcAt.none_none
 |.non,.bl b2,p1,p2,hu=>by
  unfold Hv at p1;subst p1;unfold Hv at p2;subst p2;exact RcAt.none_bool  b2
 |.non,.int b2,p1,p2,hu=>by
  unfold Hv at p1;subst p1;unfold Hv at p2;obtain⟨t2,rfl⟩:=p2;exact RcAt.none_int  b2 t2
 |.non,.str b2,p1,p2,hu=>by
  unfold Hv at p1;subst p1;unfold Hv at p2;obtain⟨t2,rfl⟩:=p2;exact RcAt.none_str  b2 t2
 |.non,.tup ds2,p1,p2,hu=>by
  unfold Hv at p1;subst p1;unfold Hv at p2;obtain⟨a2,its2,rfl,l2,p2⟩:=p2;exact RcAt.none_tuple  l2 (by omega)
 |.non,.lst ds2,p1,p2,hu=>by
  unfold Hv at p1;subst p1;unfold Hv at p2;obtain⟨a2,its2,rfl,l2,p2⟩:=p2;exact RcAt.none_list  l2 (by omega)
 |.bl b1,.non,p1,p2,hu=>by
  unfold Hv at p1;subst p1;unfold Hv at p2;subst p2;exact RcAt.bool_none b1
 |.bl b1,.bl b2,p1,p2,hu=>by
  unfold Hv at p1;subst p1;unfold Hv at p2;subst p2;exact RcAt.bool_bool b1 b2
 |.bl b1,.int b2,p1,p2,hu=>by
  unfold Hv at p1;subst p1;unfold Hv at p2;obtain⟨t2,rfl⟩:=p2;exact RcAt.bool_int b1 b2 t2
 |.bl b1,.str b2,p1,p2,hu=>by
  unfold Hv at p1;subst p1;unfold Hv at p2;obtain⟨t2,rfl⟩:=p2;exact RcAt.bool_str b1 b2 t2
 |.bl b1,.tup ds2,p1,p2,hu=>by
  unfold Hv at p1;subst p1;unfold Hv at p2;obtain⟨a2,its2,rfl,l2,p2⟩:=p2;exact RcAt.bool_tuple b1 l2 (by omega)
 |.bl b1,.lst ds2,p1,p2,hu=>by
  unfold Hv at p1;subst p1;unfold Hv at p2;obtain⟨a2,its2,rfl,l2,p2⟩:=p2;exact RcAt.bool_list b1 l2 (by omega)
 |.int b1,.non,p1,p2,hu=>by
  unfold Hv at p1;obtain⟨t1,rfl⟩:=p1;unfold Hv at p2;subst p2;exact RcAt.int_none b1 t1
 |.int b1,.bl b2,p1,p2,hu=>by
  unfold Hv at p1;obtain⟨t1,rfl⟩:=p1;unfold Hv at p2;subst p2;exact RcAt.int_bool b1 t1 b2
 |.int b1,.int b2,p1,p2,hu=>by
  unfold Hv at p1;obtain⟨t1,rfl⟩:=p1;unfold Hv at p2;obtain⟨t2,rfl⟩:=p2;exact RcAt.int_int b1 t1 b2 t2
 |.int b1,.str b2,p1,p2,hu=>by
  unfold Hv at p1;obtain⟨t1,rfl⟩:=p1;unfold Hv at p2;obtain⟨t2,rfl⟩:=p2;exact RcAt.int_str b1 t1 b2 t2
 |.int b1,.tup ds2,p1,p2,hu=>by
  unfold Hv at p1;obtain⟨t1,rfl⟩:=p1;unfold Hv at p2;obtain⟨a2,its2,rfl,l2,p2⟩:=p2;exact RcAt.int_tuple b1 t1 l2 (by omega)
 |.int b1,.lst ds2,p1,p2,hu=>by
  unfold Hv at p1;obtain⟨t1,rfl⟩:=p1;unfold Hv at p2;obtain⟨a2,its2,rfl,l2,p2⟩:=p2;exact RcAt.int_list b1 t1 l2 (by omega)
 |.str b1,.non,p1,p2,hu=>by
  unfold Hv at p1;obtain⟨t1,rfl⟩:=p1;unfold Hv at p2;subst p2;exact RcAt.str_none b1 t1
 |.str b1,.bl b2,p1,p2,hu=>by
  unfold Hv at p1;obtain⟨t1,rfl⟩:=p1;unfold Hv at p2;subst p2;exact RcAt.str_bool b1 t1 b2
 |.str b1,.int b2,p1,p2,hu=>by
  unfold Hv at p1;obtain⟨t1,rfl⟩:=p1;unfold Hv at p2;obtain⟨t2,rfl⟩:=p2;exact RcAt.str_int b1 t1 b2 t2
 |.str b1,.str b2,p1,p2,hu=>by
  unfold Hv at p1;obtain⟨t1,rfl⟩:=p1;unfold Hv at p2;obtain⟨t2,rfl⟩:=p2;exact RcAt.str_str b1 t1 b2 t2
 |.str b1,.tup ds2,p1,p2,hu=>by
  unfold Hv at p1;obtain⟨t1,rfl⟩:=p1;unfold Hv at p2;obtain⟨a2,its2,rfl,l2,p2⟩:=p2;exact RcAt.str_tuple b1 t1 l2 (by omega)
 |.str b1,.lst ds2,p1,p2,hu=>by
  unfold Hv at p1;obtain⟨t1,rfl⟩:=p1;unfold Hv at p2;obtain⟨a2,its2,rfl,l2,p2⟩:=p2;exact RcAt.str_list b1 t1 l2 (by omega)
 |.tup ds1,.non,p1,p2,hu=>by
  unfold Hv at p1;obtain⟨a1,its1,rfl,l1,p1⟩:=p1;unfold Hv at p2;subst p2;exact RcAt.tuple_none  l1 (by omega)
 |.tup ds1,.bl b2,p1,p2,hu=>by
  unfold Hv at p1;obtain⟨a1,its1,rfl,l1,p1⟩:=p1;unfold Hv at p2;subst p2;exact RcAt.tuple_bool b2 l1 (by omega)
 |.tup ds1,.int b2,p1,p2,hu=>by
  unfold Hv at p1;obtain⟨a1,its1,rfl,l1,p1⟩:=p1;unfold Hv at p2;obtain⟨t2,rfl⟩:=p2;exact RcAt.tuple_int b2 t2 l1 (by omega)
 |.tup ds1,.str b2,p1,p2,hu=>by
  unfold Hv at p1;obtain⟨a1,its1,rfl,l1,p1⟩:=p1;unfold Hv at p2;obtain⟨t2,rfl⟩:=p2;exact RcAt.tuple_str b2 t2 l1 (by omega)
 |.tup ds1,.tup ds2,p1,p2,hu=>by
  unfold Hv at p1;obtain⟨a1,its1,rfl,l1,p1⟩:=p1;unfold Hv at p2;obtain⟨a2,its2,rfl,l2,p2⟩:=p2;unfold D.eqb;have hdep:A.units+deps ds1+1+1<cLine:=by
   have e9:(.tup ds1:D).dep=deps ds1+1:=by first|rfl|(unfold D.dep;rfl)
   omega
  have q:=RcAt.tuples (e:=fun j=>(ds1.getD j .non).eqb (ds2.getD j .non)) l1 l2 (by omega) fun j h1 h2=>
   eqAt (ds1.getD j .non) (ds2.getD j .non) _ _ A.in1 (q1z p1 h1).1 (q1z p2 h2).1 (by
    have:=dep_mem (q1z p1 h1).2;show A.units+1+_+1<cLine;omega)
  rw[List.size_toArray,List.size_toArray,p1.length,p2.length,qbwz] at q;exact q
 |.tup ds1,.lst ds2,p1,p2,hu=>by
  unfold Hv at p1;obtain⟨a1,its1,rfl,l1,p1⟩:=p1;unfold Hv at p2;obtain⟨a2,its2,rfl,l2,p2⟩:=p2;exact RcAt.tuple_list l1 l2 (by omega)
 |.lst ds1,.non,p1,p2,hu=>by
  unfold Hv at p1;obtain⟨a1,its1,rfl,l1,p1⟩:=p1;unfold Hv at p2;subst p2;exact RcAt.list_none  l1 (by omega)
 |.lst ds1,.bl b2,p1,p2,hu=>by
  unfold Hv at p1;obtain⟨a1,its1,rfl,l1,p1⟩:=p1;unfold Hv at p2;subst p2;exact RcAt.list_bool b2 l1 (by omega)
 |.lst ds1,.int b2,p1,p2,hu=>by
  unfold Hv at p1;obtain⟨a1,its1,rfl,l1,p1⟩:=p1;unfold Hv at p2;obtain⟨t2,rfl⟩:=p2;exact RcAt.list_int b2 t2 l1 (by omega)
 |.lst ds1,.str b2,p1,p2,hu=>by
  unfold Hv at p1;obtain⟨a1,its1,rfl,l1,p1⟩:=p1;unfold Hv at p2;obtain⟨t2,rfl⟩:=p2;exact RcAt.list_str b2 t2 l1 (by omega)
 |.lst ds1,.tup ds2,p1,p2,hu=>by
  unfold Hv at p1;obtain⟨a1,its1,rfl,l1,p1⟩:=p1;unfold Hv at p2;obtain⟨a2,its2,rfl,l2,p2⟩:=p2;exact RcAt.list_tuple l1 l2 (by omega)
 |.lst ds1,.lst ds2,p1,p2,hu=>by
  unfold Hv at p1;obtain⟨a1,its1,rfl,l1,p1⟩:=p1;unfold Hv at p2;obtain⟨a2,its2,rfl,l2,p2⟩:=p2;unfold D.eqb;have hdep:A.units+deps ds1+1+1<cLine:=by
   have e9:(.lst ds1:D).dep=deps ds1+1:=by first|rfl|(unfold D.dep;rfl)
   omega
  by_cases hn:ds1.length=ds2.length
  ·have q:=RcAt.lists (e:=fun j=>(ds1.getD j .non).eqb (ds2.getD j .non)) l1 l2 (by simp[p1.length,p2.length,hn]) (by omega) fun j h1 h2=>
    eqAt (ds1.getD j .non) (ds2.getD j .non) _ _ A.in1 (q1z p1 h1).1 (q1z p2 h2).1 (by
     have:=dep_mem (q1z p1 h1).2;show A.units+1+_+1<cLine;omega)
   have q2:=qbwz ds1 ds2;rw[hn,Nat.min_self,beq_self_eq_true,Bool.and_true] at q2;rw[List.size_toArray,p1.length,hn,q2] at q;exact q
  ·rw[qekz _ _ hn];exact RcAt.lists_lengths l1 l2 (by simp[p1.length,p2.length,hn]) (by omega)
 |d,.dct,p1,p2,hu=>by
  unfold Hv at p2;exact p2.elim
 |.dct,e,p1,p2,hu=>by
  unfold Hv at p1;exact p1.elim
theorem rcNe{s:Shared}(d e:D)(u v:Value)(A:Around)(p1:Hv s.heap d u)(p2:Hv s.heap e v)(hu:A.units+d.dep+1<cLine):RcNeAt A s u v (!d.eqb e):=
 match d,e,p1,p2,hu with
 |.non,.non,p1,p2,hu=>by
  unfold Hv at p1;subst p1;unfold Hv at p2;subst p2;exact RcNeAt.none_none
 |.non,.bl b2,p1,p2,hu=>by
  unfold Hv at p1;subst p1;unfold Hv at p2;subst p2;exact RcNeAt.none_bool  b2
 |.non,.int b2,p1,p2,hu=>by
  unfold Hv at p1;subst p1;unfold Hv at p2;obtain⟨t2,rfl⟩:=p2;exact RcNeAt.none_int  b2 t2
 |.non,.str b2,p1,p2,hu=>by
  unfold Hv at p1;subst p1;unfold Hv at p2;obtain⟨t2,rfl⟩:=p2;exact RcNeAt.none_str  b2 t2
 |.non,.tup ds2,p1,p2,hu=>by
  unfold Hv at p1;subst p1;unfold Hv at p2;obtain⟨a2,its2,rfl,l2,p2⟩:=p2;exact RcNeAt.none_tuple  l2 (by omega)
 |.non,.lst ds2,p1,p2,hu=>by
  unfold Hv at p1;subst p1;unfold Hv at p2;obtain⟨a2,its2,rfl,l2,p2⟩:=p2;exact RcNeAt.none_list  l2 (by omega)
 |.bl b1,.non,p1,p2,hu=>by
  unfold Hv at p1;subst p1;unfold Hv at p2;subst p2;exact RcNeAt.bool_none b1
 |.bl b1,.bl b2,p1,p2,hu=>by
  unfold Hv at p1;subst p1;unfold Hv at p2;subst p2;exact RcNeAt.bool_bool b1 b2
 |.bl b1,.int b2,p1,p2,hu=>by
  unfold Hv at p1;subst p1;unfold Hv at p2;obtain⟨t2,rfl⟩:=p2;exact RcNeAt.bool_int b1 b2 t2
 |.bl b1,.str b2,p1,p2,hu=>by
  unfold Hv at p1;subst p1;unfold Hv at p2;obtain⟨t2,rfl⟩:=p2;exact RcNeAt.bool_str b1 b2 t2
 |.bl b1,.tup ds2,p1,p2,hu=>by
  unfold Hv at p1;subst p1;unfold Hv at p2;obtain⟨a2,its2,rfl,l2,p2⟩:=p2;exact RcNeAt.bool_tuple b1 l2 (by omega)
 |.bl b1,.lst ds2,p1,p2,hu=>by
  unfold Hv at p1;subst p1;unfold Hv at p2;obtain⟨a2,its2,rfl,l2,p2⟩:=p2;exact RcNeAt.bool_list b1 l2 (by omega)
 |.int b1,.non,p1,p2,hu=>by
  unfold Hv at p1;obtain⟨t1,rfl⟩:=p1;unfold Hv at p2;subst p2;exact RcNeAt.int_none b1 t1
 |.int b1,.bl b2,p1,p2,hu=>by
  unfold Hv at p1;obtain⟨t1,rfl⟩:=p1;unfold Hv at p2;subst p2;exact RcNeAt.int_bool b1 t1 b2
 |.int b1,.int b2,p1,p2,hu=>by
  unfold Hv at p1;obtain⟨t1,rfl⟩:=p1;unfold Hv at p2;obtain⟨t2,rfl⟩:=p2;exact RcNeAt.int_int b1 t1 b2 t2
 |.int b1,.str b2,p1,p2,hu=>by
  unfold Hv at p1;obtain⟨t1,rfl⟩:=p1;unfold Hv at p2;obtain⟨t2,rfl⟩:=p2;exact RcNeAt.int_str b1 t1 b2 t2
 |.int b1,.tup ds2,p1,p2,hu=>by
  unfold Hv at p1;obtain⟨t1,rfl⟩:=p1;unfold Hv at p2;obtain⟨a2,its2,rfl,l2,p2⟩:=p2;exact RcNeAt.int_tuple b1 t1 l2 (by omega)
 |.int b1,.lst ds2,p1,p2,hu=>by
  unfold Hv at p1;obtain⟨t1,rfl⟩:=p1;unfold Hv at p2;obtain⟨a2,its2,rfl,l2,p2⟩:=p2;exact RcNeAt.int_list b1 t1 l2 (by omega)
 |.str b1,.non,p1,p2,hu=>by
  unfold Hv at p1;obtain⟨t1,rfl⟩:=p1;unfold Hv at p2;subst p2;exact RcNeAt.str_none b1 t1
 |.str b1,.bl b2,p1,p2,hu=>by
  unfold Hv at p1;obtain⟨t1,rfl⟩:=p1;unfold Hv at p2;subst p2;exact RcNeAt.str_bool b1 t1 b2
 |.str b1,.int b2,p1,p2,hu=>by
  unfold Hv at p1;obtain⟨t1,rfl⟩:=p1;unfold Hv at p2;obtain⟨t2,rfl⟩:=p2;exact RcNeAt.str_int b1 t1 b2 t2
 |.str b1,.str b2,p1,p2,hu=>by
  unfold Hv at p1;obtain⟨t1,rfl⟩:=p1;unfold Hv at p2;obtain⟨t2,rfl⟩:=p2;exact RcNeAt.str_str b1 t1 b2 t2
 |.str b1,.tup ds2,p1,p2,hu=>by
  unfold Hv at p1;obtain⟨t1,rfl⟩:=p1;unfold Hv at p2;obtain⟨a2,its2,rfl,l2,p2⟩:=p2;exact RcNeAt.str_tuple b1 t1 l2 (by omega)
 |.str b1,.lst ds2,p1,p2,hu=>by
  unfold Hv at p1;obtain⟨t1,rfl⟩:=p1;unfold Hv at p2;obtain⟨a2,its2,rfl,l2,p2⟩:=p2;exact RcNeAt.str_list b1 t1 l2 (by omega)
 |.tup ds1,.non,p1,p2,hu=>by
  unfold Hv at p1;obtain⟨a1,its1,rfl,l1,p1⟩:=p1;unfold Hv at p2;subst p2;exact RcNeAt.tuple_none  l1 (by omega)
 |.tup ds1,.bl b2,p1,p2,hu=>by
  unfold Hv at p1;obtain⟨a1,its1,rfl,l1,p1⟩:=p1;unfold Hv at p2;subst p2;exact RcNeAt.tuple_bool b2 l1 (by omega)
 |.tup ds1,.int b2,p1,p2,hu=>by
  unfold Hv at p1;obtain⟨a1,its1,rfl,l1,p1⟩:=p1;unfold Hv at p2;obtain⟨t2,rfl⟩:=p2;exact RcNeAt.tuple_int b2 t2 l1 (by omega)
 |.tup ds1,.str b2,p1,p2,hu=>by
  unfold Hv at p1;obtain⟨a1,its1,rfl,l1,p1⟩:=p1;unfold Hv at p2;obtain⟨t2,rfl⟩:=p2;exact RcNeAt.tuple_str b2 t2 l1 (by omega)
 |.tup ds1,.tup ds2,p1,p2,hu=>by
  unfold Hv at p1;obtain⟨a1,its1,rfl,l1,p1⟩:=p1;unfold Hv at p2;obtain⟨a2,its2,rfl,l2,p2⟩:=p2;unfold D.eqb;have hdep:A.units+deps ds1+1+1<cLine:=by
   have e9:(.tup ds1:D).dep=deps ds1+1:=by first|rfl|(unfold D.dep;rfl)
   omega
  have q:=RcNeAt.tuples (e:=fun j=>(ds1.getD j .non).eqb (ds2.getD j .non)) l1 l2 (by omega) fun j h1 h2=>
   eqAt (ds1.getD j .non) (ds2.getD j .non) _ _ A.in1 (q1z p1 h1).1 (q1z p2 h2).1 (by
    have:=dep_mem (q1z p1 h1).2;show A.units+1+_+1<cLine;omega)
  rw[List.size_toArray,List.size_toArray,p1.length,p2.length,qbwz] at q;exact q
 |.tup ds1,.lst ds2,p1,p2,hu=>by
  unfold Hv at p1;obtain⟨a1,its1,rfl,l1,p1⟩:=p1;unfold Hv at p2;obtain⟨a2,its2,rfl,l2,p2⟩:=p2;exact RcNeAt.tuple_list l1 l2 (by omega)
 |.lst ds1,.non,p1,p2,hu=>by
  unfold Hv at p1;obtain⟨a1,its1,rfl,l1,p1⟩:=p1;unfold Hv at p2;subst p2;exact RcNeAt.list_none  l1 (by omega)
 |.lst ds1,.bl b2,p1,p2,hu=>by
  unfold Hv at p1;obtain⟨a1,its1,rfl,l1,p1⟩:=p1;unfold Hv at p2;subst p2;exact RcNeAt.list_bool b2 l1 (by omega)
 |.lst ds1,.int b2,p1,p2,hu=>by
  unfold Hv at p1;obtain⟨a1,its1,rfl,l1,p1⟩:=p1;unfold Hv at p2;obtain⟨t2,rfl⟩:=p2;exact RcNeAt.list_int b2 t2 l1 (by omega)
 |.lst ds1,.str b2,p1,p2,hu=>by
  unfold Hv at p1;obtain⟨a1,its1,rfl,l1,p1⟩:=p1;unfold Hv at p2;obtain⟨t2,rfl⟩:=p2;exact RcNeAt.list_str b2 t2 l1 (by omega)
 |.lst ds1,.tup ds2,p1,p2,hu=>by
  unfold Hv at p1;obtain⟨a1,its1,rfl,l1,p1⟩:=p1;unfold Hv at p2;obtain⟨a2,its2,rfl,l2,p2⟩:=p2;exact RcNeAt.list_tuple l1 l2 (by omega)
 |.lst ds1,.lst ds2,p1,p2,hu=>by
  unfold Hv at p1;obtain⟨a1,its1,rfl,l1,p1⟩:=p1;unfold Hv at p2;obtain⟨a2,its2,rfl,l2,p2⟩:=p2;unfold D.eqb;have hdep:A.units+deps ds1+1+1<cLine:=by
   have e9:(.lst ds1:D).dep=deps ds1+1:=by first|rfl|(unfold D.dep;rfl)
   omega
  by_cases hn:ds1.length=ds2.length
  ·have q:=RcNeAt.lists (e:=fun j=>(ds1.getD j .non).eqb (ds2.getD j .non)) l1 l2 (by simp[p1.length,p2.length,hn]) (by omega) fun j h1 h2=>
    eqAt (ds1.getD j .non) (ds2.getD j .non) _ _ A.in1 (q1z p1 h1).1 (q1z p2 h2).1 (by
     have:=dep_mem (q1z p1 h1).2;show A.units+1+_+1<cLine;omega)
   have q2:=qbwz ds1 ds2;rw[hn,Nat.min_self,beq_self_eq_true,Bool.and_true] at q2;rw[List.size_toArray,p1.length,hn,q2] at q;exact q
  ·rw[qekz _ _ hn];exact RcNeAt.lists_lengths l1 l2 (by simp[p1.length,p2.length,hn]) (by omega)
 |d,.dct,p1,p2,hu=>by
  unfold Hv at p2;exact p2.elim
 |.dct,e,p1,p2,hu=>by
  unfold Hv at p1;exact p1.elim
end Dat
namespace L3
open PySem PySem.Spec PyProof.Rows L2
section
variable {X:Cx} {K:PySem.W.Frag}
def rI3(f:Int->Int->D):R3:=fun x y G Q=>match x,y with
 |.int i,.int j=>Q (f i j) G
 |_,_=>False
theorem qxz{H:Hp}{i:Int}{v:V}(h:Hv K H (.int i) v):v=.int i:=by unfold Hv at h;exact h
theorem qbxz{H:Hp}{i:Bool}{v:V}(h:Hv K H (.bl i) v):v=.bl i:=by unfold Hv at h;exact h
theorem qzz{H:Hp}{a:Addr}{v:V}(h:Hv K H (.obj a) v):v=.ref a:=by unfold Hv at h;exact h
theorem qagz{H:Hp}{ds:List D}{v:V}(h:Hv K H (.tup ds) v):∃a vs,v=.ref a/\SqT K H a vs/\Hvs K H ds vs:=by unfold Hv at h;exact h
theorem qblz{H:Hp}{ds:List D}{v:V}(h:Hv K H (.scr ds) v):∃a vs,v=.ref a/\SqF K H a vs/\Hvs K H ds vs:=by unfold Hv at h;exact h
theorem qakz{H:Hp}{i:Int}:Hv K H (.int i) (.int i):=by simp[Hv]
theorem qalz{H:Hp}{i:Bool}:Hv K H (.bl i) (.bl i):=by simp[Hv]
theorem qa8z{H:Hp}{a:Addr}:Hv K H (.obj a) (.ref a):=by simp[Hv]
theorem qa9z{H:Hp}{ds:List D}{a:Addr}{vs:List V}(h:SqT K H a vs)(q:Hvs K H ds vs):Hv K H (.tup ds) (.ref a):=by
 unfold Hv;exact⟨a,vs,rfl,h,q⟩
theorem low_ints{f:Int->Int->D}{g:Int->Int->V}(hf:∀i j H,Hv K H (f i j) (g i j)):LowR K (rI3 f) (rI0 g):=fun x y vx vy G H Q3 Q hx hy RG h k=>by
 cases x with
 |int i=>
  cases y with
  |int j=>
   rw[qxz hx,qxz hy];exact⟨i,j,rfl,rfl,k _ H _ G (hf i j H) (.refl H G) RG h⟩
  |_=>exact h.elim
 |_=>exact h.elim
abbrev rSub3:R3:=rI3 fun i j=>.int (i-j)
theorem qbmz:LowR K rSub3 (rI0 fun i j=>.int (i-j)):=low_ints fun _ _ _=>qakz
abbrev rLe3:R3:=rI3 fun i j=>.bl (decide (i≤j))
theorem l_le:LowR K rLe3 (rI0 fun i j=>.bl (decide (i≤j))):=low_ints fun _ _ _=>qalz
abbrev rGt3:R3:=rI3 fun i j=>.bl (decide (j<i))
theorem l_gt:LowR K rGt3 (rI0 fun i j=>.bl (decide (j<i))):=low_ints fun _ _ _=>qalz
abbrev rGe3:R3:=rI3 fun i j=>.bl (decide (j≤i))
theorem l_ge:LowR K rGe3 (rI0 fun i j=>.bl (decide (j≤i))):=low_ints fun _ _ _=>qalz
def Big(i:Int):Prop:=i.natAbs<2^4000
theorem qjrz{i:Int}(h:Big i):i.natAbs.log2<4000:=by
 by_cases h0:i.natAbs=0
 ·rw[h0];decide
 ·exact (Nat.log2_lt h0).mpr h
theorem qjsz{i:Int}(h:Big i):Builtin.Int.intBits i≤4000:=by
 unfold Builtin.Int.intBits;split
 ·exact Nat.zero_le _
 ·exact qjrz h
theorem qtgz{i j:Int}(h1:Big i)(h2:Big j):IntMulOk i j:=by
 unfold IntMulOk Builtin.Int.intTooBig;have b1:=qjsz h1;have b2:=qjsz h2;have:¬((Builtin.Int.intBits i:Int)+(Builtin.Int.intBits j:Int) > (bitsLine:Int)):=by
  have:(bitsLine:Int)=134217728:=by decide
  omega
 rw[decide_eq_false this];simp
theorem qatz:OpR X (binaryOp .FloorDiv) (rI (fun _ j=>0<j/\Big j) fun i j=>.int (i / j)):=opI fun i j _ _ _ _ _ hc q=>by
 have h1:(0:Int)<j:=hc.1;exact floordiv_int (by omega) (by rw[Int.fdiv_eq_ediv_of_nonneg i (by omega)];exact q) (.inl (PyProof.noPylong_of_log2 (Nat.lt_trans (qjrz hc.2) (by decide))))
theorem op_mulB:OpR X (binaryOp .Mult) (rI (fun i j=>Big i/\Big j) fun i j=>.int (i*j)):=opI fun _ _ _ _ _ _ _ hc q=>mul_int q (qtgz hc.1 hc.2)
def rIC3(C:Int->Int->Prop)(f:Int->Int->D):R3:=fun x y G Q=>match x,y with
 |.int i,.int j=>C i j/\Q (f i j) G
 |_,_=>False
theorem qf5z{C:Int->Int->Prop}{f:Int->Int->D}{g:Int->Int->V}(hf:∀i j H,Hv K H (f i j) (g i j)):LowR K (rIC3 C f) (rI C g):=fun x y vx vy G H Q3 Q hx hy RG h k=>by
 cases x with
 |int i=>
  cases y with
  |int j=>
   rw[qxz hx,qxz hy];exact⟨i,j,rfl,rfl,h.1,k _ H _ G (hf i j H) (.refl H G) RG h.2⟩
  |_=>exact h.elim
 |_=>exact h.elim
abbrev rDiv3:R3:=rIC3 (fun _ j=>0<j/\Big j) fun i j=>.int (i / j)
theorem qauz:LowR K rDiv3 (rI (fun _ j=>0<j/\Big j) fun i j=>.int (i / j)):=qf5z fun _ _ _=>qakz
abbrev rMod3:R3:=rIC3 (fun _ j=>0<j) fun i j=>.int (i%j)
theorem qamz:LowR K rMod3 (rI (fun _ j=>0<j) fun i j=>.int (i%j)):=qf5z fun _ _ _=>qakz
abbrev rPow3:R3:=rIC3 CPow fun i j=>.int (i^j.toNat)
theorem qjtz:LowR K rPow3 (rI CPow fun i j=>.int (i^j.toNat)):=qf5z fun _ _ _=>qakz
theorem qthz{prog:Program}{w:World}{A:Around}{E:Value->Shared->Prop}{s:Shared}{t b:Addr}{ws:List Value}{Q:Value->Shared->Prop}(ht:IsTup s.heap t #[])(hb:IsTup s.heap b ws.toArray)(h1:Q (.ref b) s):
  wpAny (model prog w) A (binaryOp .Add (.ref t) (.ref b)) Q E s:=by
 obtain⟨⟨cls,dd,data,sl⟩,ho,hc,n,hd⟩:=id ht;obtain⟨⟨cls2,dd2,data2,sl2⟩,ho2,hc2,n2,hd2⟩:=id hb;simp only at hc hd hc2 hd2;subst hc hd hc2 hd2;exact concat_meets ⟨_,ho,rfl⟩ ⟨_,ho2,rfl⟩ noFill_tuple_add seq_tuple_add PySem.F.slot_tuple_add PySem.F.entry_tuple_add (PySem.F.args_tuple_add_2 _ _)
   (tuple_addW0 t b #[] ws.toArray n n2 dd dd2 sl sl2 rfl) ⟨ho,ho2,h1⟩
def rCatT0(K:PySem.W.Frag):R2:=fun x y H Q=>∃a b ys,x=.ref a/\y=.ref b/\SqT K H a []/\SqT K H b ys/\Q (.ref b) H
theorem qtiz:OpR X (binaryOp .Add) (rCatT0 X.K):=by
 intro pins s σ H x y v u Q I rx ry h;obtain⟨a,b,ys,rfl,rfl,ha,hb,q⟩:=h;cases rx;cases ry;obtain⟨its,r1,p1,_⟩:=I.tuple ha;obtain⟨its2,r2,p2,_⟩:=I.tuple hb;cases r1;exact qthz p1 p2 ⟨.ref b,H,I,rfl,q⟩
def rAdd3:R3:=fun x y G Q=>match x,y with
 |.int i,.int j=>Q (.int (i+j)) G
 |.obj a,.obj b=>∃ds es,G a=some (.lst ds)/\G b=some (.lst es)/\ds.length+es.length≤sizeLine/\∀p G',New G p (.lst (ds++es)) G'->Q (.obj p) G'
 |.tup ds,.tup es=>ds.length+es.length≤sizeLine/\Q (.tup (ds++es)) G
 |_,_=>False
abbrev rAdd2(K:PySem.W.Frag):R2:=fun x y H Q=>rI0 (fun i j=>.int (i+j)) x y H Q∨(rCat x y H Q∨(rCatT K x y H Q∨rCatT0 K x y H Q))
theorem qtz:OpR X (binaryOp .Add) (rAdd2 X.K):=op_add.or (op_cat.or (op_catT.or qtiz))
theorem quz:LowR K rAdd3 (rAdd2 K):=fun x y vx vy G H Q3 Q hx hy RG h k=>by
 cases x with
 |int i=>
  cases y with
  |int j=>
   rw[qxz hx,qxz hy];exact .inl ⟨i,j,rfl,rfl,k _ H _ G qakz (.refl H G) RG h⟩
  |_=>exact h.elim
 |obj a=>
  cases y with
  |obj b=>
   rw[qzz hx,qzz hy];obtain⟨ds,es,e1,e2,hz,q⟩:=h;obtain⟨vs,z1,z2⟩:=RG a _ e1;obtain⟨us,y1,y2⟩:=RG b _ e2;refine .inr (.inl ⟨a,b,vs,us,rfl,rfl,z1,y1,by rw[←z2.length,←y2.length];exact hz,fun p hp=>?_⟩);exact k _ _ (.obj p) _ qa8z (.laidG hp) (RG.newL hp (z2.append y2)) (q p _ (.mk' (RG.free hp)))
  |_=>exact h.elim
 |tup ds=>
  cases y with
  |tup es=>
   obtain⟨a,vs,rfl,e1,e2⟩:=qagz hx;obtain⟨b,us,rfl,y1,y2⟩:=qagz hy;by_cases h0:vs=[]
   ·subst h0;have:ds=[]:=by
     have:=e2.length;exact List.eq_nil_of_length_eq_zero (by simpa using this)
    subst this;exact .inr (.inr (.inr ⟨a,b,us,rfl,rfl,e1,y1,k _ H (.tup es) G (qa9z y1 y2) (.refl H G) RG h.2⟩))
   ·refine .inr (.inr (.inl ⟨a,b,vs,us,rfl,rfl,e1,y1,h0,by rw[←e2.length,←y2.length];exact h.1,fun z=>?_,fun z p hp=>?_⟩))
    ·subst z;have:es=[]:=List.eq_nil_of_length_eq_zero (by simpa using y2.length);subst this;refine k _ H (.tup ds) G (qa9z e1 e2) (.refl H G) RG ?_;have:=h.2;rwa [List.append_nil] at this
    ·exact k _ _ (.tup (ds++es)) G (qa9z (.of qwz) ((e2.append y2).ext (.laid hp))) (.laid hp) (RG.laid hp) h.2
  |_=>exact h.elim
 |_=>exact h.elim
def rMul3:R3:=fun x y G Q=>match x,y with
 |.int i,.int j=>(Big i/\Big j)/\Q (.int (i*j)) G
 |.obj a,.int k=>∃ds,G a=some (.lst ds)/\(-(2^63)≤k/\k<2^63)/\ds.length*k.toNat≤sizeLine/\∀p G',New G p (.lst (List.replicate k.toNat ds).flatten) G'->Q (.obj p) G'
 |_,_=>False
abbrev rMul2:R2:=fun x y H Q=>rI (fun i j=>Big i/\Big j) (fun i j=>.int (i*j)) x y H Q∨rRep x y H Q
theorem q5z:OpR X (binaryOp .Mult) rMul2:=op_mulB.or qrnz
theorem q6z:LowR K rMul3 rMul2:=fun x y vx vy G H Q3 Q hx hy RG h k=>by
 cases x with
 |int i=>
  cases y with
  |int j=>
   rw[qxz hx,qxz hy];exact .inl ⟨i,j,rfl,rfl,h.1,k _ H _ G qakz (.refl H G) RG h.2⟩
  |_=>exact h.elim
 |obj a=>
  cases y with
  |int j=>
   rw[qzz hx,qxz hy];obtain⟨ds,e1,hk,hz,q⟩:=h;obtain⟨vs,z1,z2⟩:=RG a _ e1;refine .inr ⟨a,j,vs,rfl,rfl,z1,hk.1,hk.2,by rw[←z2.length];exact hz,fun p hp=>?_⟩;exact k _ _ (.obj p) _ qa8z (.laidG hp) (RG.newL hp (z2.rep _)) (q p _ (.mk' (RG.free hp)))
  |_=>exact h.elim
 |_=>exact h.elim
def isNon:D->Bool
 |.non=>true
 |_=>false
def rIs3(neg:Bool):R3:=fun x y G Q=>match y with
 |.non=>Q (.bl (if neg then !isNon x else isNon x)) G
 |_=>False
theorem qjuz{H:Hp}{x:D}{v:V}(h:Hv K H x v):decide (v=.non)=isNon x:=by
 cases x with
 |non=>unfold Hv at h;subst h;rfl
 |bl b=>rw[qbxz h];rfl
 |int b=>rw[qxz h];rfl
 |str b=>unfold Hv at h;subst h;rfl
 |obj b=>rw[qzz h];rfl
 |tup ds=>obtain⟨a,vs,rfl,_⟩:=qagz h;rfl
 |scr ds=>obtain⟨a,vs,rfl,_⟩:=qblz h;rfl
 |dc a=>unfold Hv at h;rw[h.1];rfl
theorem l_is:LowR K (rIs3 false) (fun x y H Q=>y=.non/\Q (.bl (decide (x=.non))) H):=fun x y vx vy G H Q3 Q hx hy RG h k=>by
 cases y with
 |non=>
  refine⟨by unfold Hv at hy;exact hy,?_⟩;rw[qjuz hx];exact k _ H _ G qalz (.refl H G) RG h
 |_=>exact h.elim
theorem qf6z:LowR K (rIs3 true) (fun x y H Q=>y=.non/\Q (.bl (!decide (x=.non))) H):=fun x y vx vy G H Q3 Q hx hy RG h k=>by
 cases y with
 |non=>
  refine⟨by unfold Hv at hy;exact hy,?_⟩;rw[qjuz hx];exact k _ H _ G qalz (.refl H G) RG h
 |_=>exact h.elim
def intsOf:List D->Option (List Int)
 |[]=>some []
 |.int i::r=>(intsOf r).map (i::·)
 |_::_=>none
theorem qbyz{H:Hp}:∀{ds:List D} {vs:List V} {ns:List Int},Hvs K H ds vs->intsOf ds=some ns->vs=ns.map V.int
 |[],vs,ns,h,e=>by
  cases e;exact h.inv0
 |d::ds,vs,ns,h,e=>by
  cases d with
  |int i=>
   obtain⟨v,r,rfl,z1,z2⟩:=h.inv;unfold intsOf at e;cases hm:intsOf ds with
   |none=>rw[hm] at e;cases e
   |some ms=>
    rw[hm] at e;cases e;rw[qxz z1,qbyz z2 hm];rfl
  |_=>cases e
def rLtT3:R3:=fun x y G Q=>match x,y with
 |.int i,.int j=>Q (.bl (decide (i<j))) G
 |.tup ds,.tup es=>∃ns ms,intsOf ds=some ns/\intsOf es=some ms/\Q (.bl (HT.lexLt ns ms)) G
 |_,_=>False
abbrev rLtA(K:PySem.W.Frag):R2:=fun x y H Q=>rI0 (fun i j=>.bl (decide (i<j))) x y H Q∨rLtT K x y H Q
theorem qc5z(hu:X.A.units<cLine):OpR X (compareOp .Lt) (rLtA X.K):=op_lt.or (qrbz hu)
theorem qc6z:LowR K rLtT3 (rLtA K):=fun x y vx vy G H Q3 Q hx hy RG h k=>by
 cases x with
 |int i=>
  cases y with
  |int j=>
   rw[qxz hx,qxz hy];exact .inl ⟨i,j,rfl,rfl,k _ H _ G qalz (.refl H G) RG h⟩
  |_=>exact h.elim
 |tup ds=>
  cases y with
  |tup es=>
   obtain⟨a,vs,rfl,e1,e2⟩:=qagz hx;obtain⟨b,us,rfl,y1,y2⟩:=qagz hy;obtain⟨ns,ms,z1,z2,q⟩:=h;have q1:=qbyz e2 z1;have q2:=qbyz y2 z2;subst q1 q2;exact .inr ⟨a,b,ns,ms,rfl,rfl,e1,y1,k _ H _ G qalz (.refl H G) RG q⟩
  |_=>exact h.elim
 |_=>exact h.elim
def rIx3:R3:=fun x y G Q=>match x,y with
 |.tup ds,.int i=>∃d,atI ds i=some d/\Q d G
 |.scr ds,.int i=>∃d,atI ds i=some d/\Q d G
 |.obj p,.int i=>∃ds d,G p=some (.lst ds)/\atI ds i=some d/\Q d G
 |_,_=>False
theorem qelz{H:Hp}{ds:List D}{vs:List V}{i:Int}{d:D}(h:Hvs K H ds vs)(e:atI ds i=some d):∃v,atI vs i=some v/\Hv K H d v:=by
 unfold atI at e ⊢;rw[←h.length];cases hx:ixN ds.length i with
 |none=>rw[hx] at e;cases e
 |some j=>
  rw[hx] at e;exact h.get e
theorem l_ix:LowR K rIx3 (rIx K):=fun x y vx vy G H Q3 Q hx hy RG h k=>by
 cases y with
 |int i=>
  rw[qxz hy];cases x with
  |tup ds=>
   obtain⟨d,e,q⟩:=h;obtain⟨a,vs,rfl,e1,e2⟩:=qagz hx;obtain⟨v,z1,z2⟩:=qelz e2 e;exact .inr (.inl ⟨a,vs,i,v,rfl,rfl,e1,z1,k _ H d G z2 (.refl H G) RG q⟩)
  |scr ds=>
   obtain⟨d,e,q⟩:=h;obtain⟨a,vs,rfl,e1,e2⟩:=qblz hx;obtain⟨v,z1,z2⟩:=qelz e2 e;exact .inl ⟨a,vs,i,v,rfl,rfl,e1.l,z1,k _ H d G z2 (.refl H G) RG q⟩
  |obj p=>
   obtain⟨ds,d,e0,e,q⟩:=h;rw[qzz hx];obtain⟨vs,e1,e2⟩:=RG p _ e0;obtain⟨v,z1,z2⟩:=qelz e2 e;exact .inl ⟨p,vs,i,v,rfl,rfl,.of e1,z1,k _ H d G z2 (.refl H G) RG q⟩
  |_=>exact h.elim
 |_=>cases x<;>exact h.elim
theorem e_ix{a b:Expr}{ta tb:TE3}{pos:Pos}(ha:PE3 X a ta)(hb:PE3 X b tb)(hs:PlainIx b:=by intro _ _;rfl):PE3 X (.Subscript a b pos) (eOp rIx3 ta tb):=qyz (qi5z qi6z ha hb hs) fun _ _ _ h=>qegz l_ix h
def eLstIx(ta:TA3)(tb:TE3):TE3:=fun τ G Q=>ta τ G fun ds G1=>smallL (tb τ G1 fun y G2=>match y with
 |.int i=>∃d,atI ds i=some d/\Q d G2
 | _=>False) ds 64
theorem qtjz{es:List Expr}{b:Expr}{ta:TA3}{tb:TE3}{pos pos':Pos}(ha:PA3 X es ta)(hb:PE3 X b tb)(hs:PlainIx b:=by intro _ _;rfl):PE3 X (.Subscript (.List es pos') b pos) (eLstIx ta tb):=
 qyz (qi5z qi6z (qivz ha) hb hs) fun σ H Q ⟨τ,G,Q3,RS,RG,h,k⟩=>by
  refine⟨τ,G,_,RS,RG,h,fun vs H1 ds G1 h1 S1 R1 q1=>?_⟩;obtain⟨z,q1⟩:=qehz q1;refine⟨by rw[←h1.length];exact line64 z,fun p hp=>?_⟩;refine⟨τ,G1,_,(RS.ext (S1.ext RG)).ext (.laid hp),R1.laid hp,q1,fun v2 H2 d2 G2 h2 S2 R2 q2=>?_⟩;have e2:H2 p=some (.lst vs):=S2.fr p _ qwz (R1.free hp);cases d2 with
  |int i=>
   obtain⟨d,e,q⟩:=q2;obtain⟨v,z1,z2⟩:=qelz ((h1.ext (.laid hp)).ext (S2.ext (R1.laid hp))) e;rw[qxz h2];exact .inl ⟨p,vs,i,v,rfl,rfl,.of e2,z1,k _ H2 d G2 z2 ((S1.trans (.laid hp)).trans S2) R2 q⟩
  |_=>exact q2.elim
end
end L3
namespace L3
open PySem PySem.Spec PyProof.Rows L2
mutual
def toDat0:D->Option Dat.D
 |.non=>some .non
 |.bl b=>some (.bl b)
 |.int i=>some (.int i)
 |.str x=>some (.str x)
 |.tup ds=>match toDats0 ds with
  |some xs=>some (.tup xs)
  |none=>none
 |.scr ds=>match toDats0 ds with
  |some xs=>some (.lst xs)
  |none=>none
 |.obj _=>none
 |.dc _=>none
def toDats0:List D->Option (List Dat.D)
 |[]=>some []
 |d::ds=>match toDat0 d with
  |some x=>match toDats0 ds with
   |some xs=>some (x::xs)
   |none=>none
  |none=>none
end
def toDat(G:Gp):D->Option Dat.D
 |.obj a=>match G a with
  |some (.lst ds)=>match toDats0 ds with
   |some xs=>some (.lst xs)
   |none=>none
  |_=>none
 |d=>toDat0 d
section
variable {X:Cx} {pins:List (Addr×Obj)} {σ:L2.St} {H:Hp} {s:Shared}
mutual
theorem qbnz(I:Inv X pins σ H s):∀{d:D} {v:V} {u:Value} {x:Dat.D},Hv X.K H d v->RelV v u->toDat0 d=some x->Dat.Hv s.heap x u
 |.non,v,u,x,h,r,e=>by
  unfold Hv at h;subst h;cases e;unfold Dat.Hv;exact r
 |.bl b,v,u,x,h,r,e=>by
  unfold Hv at h;subst h;cases e;unfold Dat.Hv;exact r
 |.int b,v,u,x,h,r,e=>by
  unfold Hv at h;subst h;cases e;unfold Dat.Hv;exact r
 |.str b,v,u,x,h,r,e=>by
  unfold Hv at h;subst h;cases e;unfold Dat.Hv;exact r
 |.obj a,v,u,x,h,r,e=>by cases e
 |.dc a,v,u,x,h,r,e=>by cases e
 |.tup ds,v,u,x,h,r,e=>by
  obtain⟨a,vs,rfl,q1,q2⟩:=qagz h;cases r;unfold toDat0 at e;cases hd:toDats0 ds with
  |none=>rw[hd] at e;cases e
  |some xs=>
   rw[hd] at e;cases e;obtain⟨its,rv,p,_⟩:=I.tuple q1;unfold Dat.Hv;exact⟨a,its,rfl,p,qemz I q2 rv hd⟩
 |.scr ds,v,u,x,h,r,e=>by
  obtain⟨a,vs,rfl,q1,q2⟩:=qblz h;cases r;unfold toDat0 at e;cases hd:toDats0 ds with
  |none=>rw[hd] at e;cases e
  |some xs=>
   rw[hd] at e;cases e;obtain⟨its,rv,p,_⟩:=I.list q1.l;unfold Dat.Hv;exact⟨a,its,rfl,p.isList,qemz I q2 rv hd⟩
theorem qemz(I:Inv X pins σ H s):∀{ds:List D} {vs:List V} {us:List Value} {xs:List Dat.D},Hvs X.K H ds vs->Vals vs us->toDats0 ds=some xs->Dat.Hvs s.heap xs us
 |[],vs,us,xs,h,r,e=>by
  cases h.inv0;cases r;cases e;unfold Dat.Hvs;rfl
 |d::ds,vs,us,xs,h,r,e=>by
  obtain⟨v,vr,rfl,q1,q2⟩:=h.inv;unfold toDats0 at e;cases hd:toDat0 d with
  |none=>rw[hd] at e;cases e
  |some x=>
   rw[hd] at e;cases hr:toDats0 ds with
   |none=>rw[hr] at e;cases e
   |some xr=>
    rw[hr] at e;cases e;cases r with
    |cons r1 r2=>
     unfold Dat.Hvs;exact⟨_,_,rfl,qbnz I q1 r1 hd,qemz I q2 r2 hr⟩
end
theorem qavz{G:Gp}(I:Inv X pins σ H s)(RG:RepG X.K G H){d:D}{v:V}{u:Value}{x:Dat.D}(h:Hv X.K H d v)(r:RelV v u)(e:toDat G d=some x):Dat.Hv s.heap x u:=by
 cases d with
 |obj a=>
  rw[qzz h] at r;cases r;unfold toDat at e;cases hG:G a with
  |none=>simp[hG] at e
  |some o=>
   cases o with
   |lst ds=>
    simp only[hG] at e;cases hr:toDats0 ds with
    |none=>rw[hr] at e;cases e
    |some xs=>
     rw[hr] at e;cases e;obtain⟨vs,e1,e2⟩:=RG a _ hG;obtain⟨its,rv,p,_⟩:=I.list (SqL.of e1);unfold Dat.Hv;exact⟨a,its,rfl,p.isList,qemz I e2 rv hr⟩
   |pen=>simp[hG] at e
   |dct=>simp[hG] at e
   |gen R=>simp[hG] at e
 |non=>exact qbnz I h r e
 |bl _=>exact qbnz I h r e
 |int _=>exact qbnz I h r e
 |str _=>exact qbnz I h r e
 |tup _=>exact qbnz I h r e
 |scr _=>exact qbnz I h r e
 |dc _=>exact qbnz I h r e
end
section
variable {X:Cx} {a b e:Expr} {ta tb:TE3} {pos:Pos}
def rEq3(neg:Bool):R3:=fun x y G Q=>∃u v,toDat G x=some u/\toDat G y=some v/\u.dep≤50/\Q (.bl (if neg then !u.eqb v else u.eqb v)) G
def CmpR(X:Cx)(f:Value->Value->Sem Value)(r:R3):Prop:=
 ∀(pins:List (Addr×Obj)) (s:Shared) (σ:L2.St) (H:Hp) (G:Gp) (x y:D) (vx vy:V) (u v:Value) (Q3:V3),Inv X pins σ H s->RepG X.K G H->Hv X.K H x vx->Hv X.K H y vy->RelV vx u->RelV vy v->r x y G Q3 ->
  wpAny (model X.prog X.w) X.A (f u v) (EP X pins σ fun w H'=>∃d G',Hv X.K H' d w/\Step H G H' G'/\RepG X.K G' H'/\Q3 d G') X.xe s
theorem eqR(hu:X.A.units+64<cLine):CmpR X (compareOp .Eq) (rEq3 false):=by
 intro pins s σ H G x y vx vy u v Q3 I RG hx hy rx ry ⟨p,q,e1,e2,hd,h⟩;have:=Dat.rcAt p q u v X.A (qavz I RG hx rx e1) (qavz I RG hy ry e2) (by omega);exact this _ _ _ _ ⟨.bl (p.eqb q),H,I,rfl,.bl (p.eqb q),G,qalz,.refl H G,RG,h⟩
theorem neR(hu:X.A.units+64<cLine):CmpR X (compareOp .NotEq) (rEq3 true):=by
 intro pins s σ H G x y vx vy u v Q3 I RG hx hy rx ry ⟨p,q,e1,e2,hd,h⟩;have:=Dat.rcNe p q u v X.A (qavz I RG hx rx e1) (qavz I RG hy ry e2) (by omega);exact this _ _ _ _ ⟨.bl (!p.eqb q),H,I,rfl,.bl (!p.eqb q),G,qalz,.refl H G,RG,h⟩
def cmpR2(K:PySem.W.Frag)(r:R3):R2:=fun vx vy H Q=>∃x y G Q3,RepG K G H/\Hv K H x vx/\Hv K H y vy/\r x y G Q3/\∀v H' d G',Hv K H' d v->Step H G H' G'->RepG K G' H'->Q3 d G'->Q v H'
theorem CmpR.op{f:Value->Value->Sem Value}{r:R3}(h:CmpR X f r):OpR X f (cmpR2 X.K r):=by
 intro pins s σ H vx vy u v Q I rx ry ⟨x,y,G,Q3,RG,hx,hy,q,k⟩;refine thn (h pins s σ H G x y vx vy u v Q3 I RG hx hy rx ry q) fun w s' ⟨v',H',I',r',d,G',z1,z2,z3,z4⟩=>⟨v',H',I',r',k v' H' d G' z1 z2 z3 z4⟩
theorem qenz{K:PySem.W.Frag}{r:R3}:LowR K r (cmpR2 K r):=fun x y vx vy G H Q3 Q hx hy RG h k=>⟨x,y,G,Q3,RG,hx,hy,h,k⟩
theorem q7z(hu:X.A.units+64<cLine):OpR X (compareOp .Eq) (cmpR2 X.K (rEq3 false)):=(eqR hu).op
theorem qawz(hu:X.A.units+64<cLine):OpR X (compareOp .NotEq) (cmpR2 X.K (rEq3 true)):=(neR hu).op
theorem l_eq{K:PySem.W.Frag}:LowR K (rEq3 false) (cmpR2 K (rEq3 false)):=qenz
theorem l_ne{K:PySem.W.Frag}:LowR K (rEq3 true) (cmpR2 K (rEq3 true)):=qenz
abbrev TO3:=S3->Gp->(Option Int->Gp->Prop)->Prop
def lowO(K:PySem.W.Frag)(t:TO3):TO:=fun σ H Q=>∃τ G Q3,RepS K τ σ H/\RepG K G H/\t τ G Q3/\∀o H' G',Step H G H' G'->RepG K G' H'->Q3 o G'->Q o H'
abbrev PO3(X:Cx)(e:Option Expr)(t:TO3):Prop:=PO X e (lowO X.K t)
theorem qjvz{o:Option Expr}{t t':TO}(h:PO X o t)(f:∀σ H Q,t' σ H Q->t σ H Q):PO X o t':=fun pins s σ H Q I q=>h pins s σ H Q I (f σ H Q q)
def oNone:TO3:=fun _ G Q=>Q none G
def oSome(t:TE3):TO3:=fun τ G Q=>t τ G fun x G1=>match x with
 |.int i=>Q (some i) G1
 |_=>False
theorem qtkz:PO3 X none oNone:=qjvz qq8z fun σ H Q ⟨τ,G,Q3,RS,RG,h,k⟩=>k none H G (.refl H G) RG h
theorem qtlz(h:PE3 X e ta):PO3 X (some e) (oSome ta):=qjvz (qq9z h) fun σ H Q ⟨τ,G,Q3,RS,RG,h,k⟩=>
 ⟨τ,G,_,RS,RG,h,fun v H1 d G1 h1 S1 R1 q1=>by
  cases d with
  |int i=>exact⟨i,qxz h1,k (some i) H1 G1 S1 R1 q1⟩
  |_=>exact q1.elim⟩
def cut3(ds:List D)(lo hi:Option Int):List D:=(ds.drop (HT.sIx ds.length 0 lo)).take (HT.sIx ds.length ds.length hi-HT.sIx ds.length 0 lo)
def eSl(ta:TE3)(tl th:TO3):TE3:=fun τ G Q=>ta τ G fun x G1=>tl τ G1 fun lo G2=>th τ G2 fun hi G3=>match x with
 |.tup ds=>Q (.tup (cut3 ds lo hi)) G3
 |.scr ds=>∀p G4,New G3 p (.lst (cut3 ds lo hi)) G4->Q (.obj p) G4
 |.obj a=>∃ds,G3 a=some (.lst ds)/\∀p G4,New G3 p (.lst (cut3 ds lo hi)) G4->Q (.obj p) G4
 |_=>False
theorem qf7z{K:PySem.W.Frag}{H:Hp}{ds:List D}{vs:List V}(h:Hvs K H ds vs)(lo hi:Option Int):Hvs K H (cut3 ds lo hi) (cutV vs lo hi):=by
 unfold cut3 cutV;rw[h.length];exact (h.drop _).take _
theorem qtmz{prog:Program}{w:World}{A:Around}{E:Value->Shared->Prop}{s:Shared}{t sl:Addr}{items:Array Value}{vl vu:Value}{lo hi:Option Int}{Q:Value->Shared->Prop}(ht:IsTup s.heap t items)(hs:s.heap.IsSliceOf sl vl vu .none)(pl:IsPart vl lo)(pu:IsPart vu hi)
  (hw:HT.sIx items.size 0 lo=0/\HT.sIx items.size items.size hi=items.size) (h:Q (.ref t) s):wpAny (model prog w) A (getItem (.ref t) (.ref sl)) Q E s:=by
 obtain⟨os,hos,hcs,hds⟩:=id hs;have hTs:s.TypeIs (.ref sl) "slice":=⟨os,hos,hcs⟩;unfold getItem
 try with_reducible refine wpAny_holding ?_
 first|refine wpAny_bind (wpAny_pure ?_)|skip
 refine wpAny_bind (wpAny_sequenceKey ht.typeIs (by decide) ?_);refine wpAny_bind (wpAny_callSpecial?_slot (name:=Str.ofString "__getitem__") ht.typeIs PyProof.Rows.slot_tuple_getitem
  (wpAny_call_entry PyProof.Rows.slot_tuple_getitem ht.typeIs entry_tuple_getitem ?_ (args_tuple_getitem _ _)))
 show wpAny _ _ (Builtin.Tuple.tupleItemsOf (.ref t) >>= _) _ _ s;refine wpAny_bind (tupleItemsOf_ ht ?_);refine wpAny_bind (wpAny_typeOf hTs ?_);rw[if_pos (by decide)];refine wpAny_bind (HT.sliceApplied_gen hs pl pu ?_);have hyes:(((HT.sIx items.size 0 lo:Nat):Int)==0&&(1:Int)==1&&(HT.sIx items.size items.size hi-HT.sIx items.size 0 lo)==items.size)=true:=by
  rw[hw.1,hw.2];simp
 show wpAny _ _ (if (((HT.sIx items.size 0 lo:Nat):Int)==0&&(1:Int)==1&&(HT.sIx items.size items.size hi-HT.sIx items.size 0 lo)==items.size)=true then _ else _) _ _ s;rw[if_pos hyes];unfold Builtin.Tuple.tupleIsExact;refine wpAny_bind (wpAny_bind (wpAny_typeOf ht.typeIs (wpAny_pure ?_)));rw[if_pos (by decide)];exact wpAny_bind (wpAny_rule (wpAny_pure ⟨_,rfl,wpAny_pure h⟩))
def rSlT3(K:PySem.W.Frag):V->Option Int->Option Int->Hp->VK->Prop:=fun x lo hi H Q=>∃a xs,x=.ref a/\SqT K H a xs ∧
 (HT.sIx xs.length 0 lo=0/\HT.sIx xs.length xs.length hi=xs.length)/\Q (.ref a) H
theorem sl_tupW:SlR X (rSlT3 X.K):=by
 intro pins s σ H x v vl vu lo hi sl Q I rx hs pl pu h;obtain⟨a,xs,rfl,hx,hw,q⟩:=h;cases rx;obtain⟨its,r,ht,hz⟩:=I.tuple hx;have hlen:its.toArray.size=xs.length:=by rw[List.size_toArray];exact r.length.symm
 refine⟨"tuple",_,PyProof.Rows.slot_tuple_getitem.lookup,ht.typeIs,?_⟩;exact qtmz ht hs pl pu (by rw[hlen];exact hw) ⟨.ref a,H,I,rfl,q⟩
theorem e_sl{lo hi:Option Expr}{tl th:TO3}{p2:Pos}(ha:PE3 X a ta)(hl:PO3 X lo tl)(hh:PO3 X hi th):PE3 X (.Subscript a (.Slice lo hi none p2) pos) (eSl ta tl th):=
 qyz (qraz (sl_tup.or (sl_tupW.or qrgz)) ha hl hh) fun σ H Q ⟨τ,G,Q3,RS,RG,h,k⟩=>by
  refine⟨τ,G,_,RS,RG,h,fun v1 H1 d1 G1 h1 S1 R1 q1=>?_⟩;have RS1:=RS.ext (S1.ext RG);refine⟨τ,G1,_,RS1,R1,q1,fun l H2 G2 S2 R2 q2=>?_⟩;have RS2:=RS1.ext (S2.ext R1);refine⟨τ,G2,_,RS2,R2,q2,fun u H3 G3 S3 R3 q3=>?_⟩;have S13:Step H G H3 G3:=(S1.trans S2).trans S3;have hv:=(h1.ext (S2.ext R1)).ext (S3.ext R2);cases d1 with
  |tup ds=>
   obtain⟨a',vs,rfl,e1,e2⟩:=qagz hv;by_cases hw:HT.sIx vs.length 0 l=0/\HT.sIx vs.length vs.length u=vs.length
   ·refine .inr (.inl ⟨a',vs,rfl,e1,hw,k _ H3 (.tup (cut3 ds l u)) G3 (qa9z e1 ?_) S13 R3 q3⟩);have:cut3 ds l u=ds:=by
     unfold cut3;rw[e2.length,hw.1,hw.2];simp[←e2.length]
    rw[this];exact e2
   ·refine .inl ⟨a',vs,rfl,e1,hw,fun p hp=>?_⟩;exact k _ _ (.tup (cut3 ds l u)) G3 (qa9z (.of qwz) ((qf7z e2 l u).ext (.laid hp))) (S13.trans (.laid hp)) (R3.laid hp) q3
  |scr ds=>
   obtain⟨a',vs,rfl,e1,e2⟩:=qblz hv;refine .inr (.inr ⟨a',vs,rfl,e1.l,fun p hp=>?_⟩);exact k _ _ (.obj p) _ qa8z (S13.trans (.laidG hp)) (R3.newL hp (qf7z e2 l u)) (q3 p _ (.mk' (R3.free hp)))
  |obj a'=>
   rw[qzz hv];obtain⟨ds,e0,q3⟩:=q3;obtain⟨vs,e1,e2⟩:=R3 a' _ e0;refine .inr (.inr ⟨a',vs,rfl,.of e1,fun p hp=>?_⟩);exact k _ _ (.obj p) _ qa8z (S13.trans (.laidG hp)) (R3.newL hp (qf7z e2 l u)) (q3 p _ (.mk' (R3.free hp)))
  |_=>exact q3.elim
end
end L3
namespace L3
open PySem PySem.Spec PyProof.Rows L2
abbrev C3:=List D->Gp->V3->Prop
def eCB(r:C3)(t:TA3):TE3:=fun τ G Q=>t τ G fun ds G1=>r ds G1 Q
def LowC(K:PySem.W.Frag)(r:C3)(r2:List V->Hp->VK->Prop):Prop:=∀ds vs G H Q3 Q,Hvs K H ds vs->RepG K G H->r ds G Q3->(∀v H' d G',Hv K H' d v->Step H G H' G'->RepG K G' H'->Q3 d G'->Q v H')->r2 vs H Q
section
variable {X:Cx} {K:PySem.W.Frag} {e:Expr} {es:List Expr} {t:TA3} {ta:TE3} {pos p:Pos}
theorem qtnz{r:C3}{r2:List V->Hp->VK->Prop}(L:LowC K r r2){σ:L2.St}{H:Hp}{Q:VK}(h:low K (eCB r t) σ H Q):tCB r2 (lowA K t) σ H Q:=by
 obtain⟨τ,G,Q3,RS,RG,h,k⟩:=h;refine⟨τ,G,_,RS,RG,h,fun vs H1 ds G1 h1 S1 R1 q1=>?_⟩;exact L _ _ _ _ _ _ h1 R1 q1 fun v H' d G' z1 z2 z3 z4=>k v H' d G' z1 (S1.trans z2) z3 z4
theorem e_cb{r:C3}{r2:List V->Hp->VK->Prop}(L:LowC X.K r r2)(h:PE X e (tCB r2 (lowA X.K t))):PE3 X e (eCB r t):=qyz h fun _ _ _ h=>qtnz L h
theorem hvs1{H:Hp}{d:D}{vs:List V}(h:Hvs K H [d] vs):∃v,vs=[v]/\Hv K H d v:=by
 obtain⟨v,r,rfl,z1,z2⟩:=h.inv;cases z2.inv0;exact⟨v,rfl,z1⟩
theorem hvs2{H:Hp}{d d':D}{vs:List V}(h:Hvs K H [d,d'] vs):∃v v',vs=[v,v']/\Hv K H d v/\Hv K H d' v':=by
 obtain⟨v,r,rfl,z1,z2⟩:=h.inv;obtain⟨v',rfl,z3⟩:=hvs1 z2;exact⟨v,v',rfl,z1,z3⟩
def q0z:C3:=fun ds G Q=>match ds with
 |[.obj a]=>∃xs,G a=some (.lst xs)/\Q (.int xs.length) G
 |[.tup xs]=>Q (.int xs.length) G
 |[.scr xs]=>Q (.int xs.length) G
 |_=>False
theorem qtoz:LowC K q0z (fun xs H Q=>∃p ys,xs=[.ref p]/\(SqL K H p ys∨SqT K H p ys)/\Q (.int ys.length) H):=fun ds vs G H Q3 Q h RG q k=>by
 rcases ds with _|⟨d,_|⟨d2,ds⟩⟩
 ·exact q.elim
 ·obtain⟨v,rfl,hv⟩:=hvs1 h;cases d with
  |obj a=>
   obtain⟨xs,e,q⟩:=q;obtain⟨us,e1,e2⟩:=RG a _ e;rw[qzz hv];exact⟨a,us,rfl,.inl (.of e1),by rw[←e2.length];exact k _ H _ G qakz (.refl H G) RG q⟩
  |tup xs=>
   obtain⟨a,us,rfl,e1,e2⟩:=qagz hv;exact⟨a,us,rfl,.inr e1,by rw[←e2.length];exact k _ H _ G qakz (.refl H G) RG q⟩
  |scr xs=>
   obtain⟨a,us,rfl,e1,e2⟩:=qblz hv;exact⟨a,us,rfl,.inl e1.l,by rw[←e2.length];exact k _ H _ G qakz (.refl H G) RG q⟩
  |_=>exact q.elim
 ·cases d<;>exact q.elim
theorem qtpz(hu:X.A.units+64<cLine)(hm:X.mg "len" = none)(ha:PA3 X (e::es) t)(hg:Gl X "len":=by rfl)(he:notStar e=true:=by rfl)(hpl:es.all notStar=true:=by rfl):
  PE3 X (.Call (.Name "len" p) (e::es) [] pos) (eCB q0z t):=e_cb qtoz (qa6z qrhz hg hm PySem.boot_len ha (he:=qpz he) (hpl:=q4z hpl))
def qeoz:C3:=fun ds G Q=>match ds with
 |[.bl b]=>Q (.int (if b then 1 else 0)) G
 |[.int i]=>Q (.int i) G
 |_=>False
theorem qtqz:LowC K qeoz (fun xs H Q=>(∃i,xs=[.int i]/\Q (.int i) H)∨∃k,xs=[.bl k]/\Q (.int (if k then 1 else 0)) H):=fun ds vs G H Q3 Q h RG q k=>by
 rcases ds with _|⟨d,_|⟨d2,ds⟩⟩
 ·exact q.elim
 ·obtain⟨v,rfl,hv⟩:=hvs1 h;cases d with
  |bl b=>
   rw[qbxz hv];exact .inr ⟨b,rfl,k _ H _ G qakz (.refl H G) RG q⟩
  |int b=>
   rw[qxz hv];exact .inl ⟨b,rfl,k _ H _ G qakz (.refl H G) RG q⟩
  |_=>exact q.elim
 ·cases d<;>exact q.elim
theorem qtrz(hu:X.A.units+64<cLine)(hm:X.mg "int" = none)(ha:PA3 X (e::es) t)(hg:Gl X "int":=by rfl)(he:notStar e=true:=by rfl)(hpl:es.all notStar=true:=by rfl):
  PE3 X (.Call (.Name "int" p) (e::es) [] pos) (eCB qeoz t):=e_cb qtqz (qcez qqrz hg hm rfl ha (he:=qpz he) (hpl:=q4z hpl))
def qc7z:C3:=fun ds G Q=>match ds with
 |[.int i,.int j]=>Q (.int (if j > i then j else i)) G
 |_=>False
def qf8z:C3:=fun ds G Q=>match ds with
 |[.int i,.int j]=>Q (.int (if j<i then j else i)) G
 |_=>False
theorem qjwz{f:Int->Int->Int}:LowC K (fun ds G Q=>match ds with
 |[.int i,.int j]=>Q (.int (f i j)) G
 | _=>False) (fun xs H Q=>∃i j,xs=[.int i,.int j]/\Q (.int (f i j)) H):=fun ds vs G H Q3 Q h RG q k=>by
 rcases ds with _|⟨d,_|⟨d2,_|⟨d3,ds⟩⟩⟩
 ·exact q.elim
 ·cases d<;>exact q.elim
 ·obtain⟨v,v',rfl,h1,h2⟩:=hvs2 h;cases d with
  |int i=>
   cases d2 with
   |int j=>
    rw[qxz h1,qxz h2];exact⟨i,j,rfl,k _ H _ G qakz (.refl H G) RG q⟩
   |_=>exact q.elim
  |_=>exact q.elim
 ·cases d with
  |int i=>cases d2<;>exact q.elim
  |_=>exact q.elim
theorem qtsz(hu:X.A.units+64<cLine)(hm:X.mg "max" = none)(ha:PA3 X (e::es) t)(hc:X.calm=true:=by rfl)(hg:Gl X "max":=by rfl)(he:notStar e=true:=by rfl)(hpl:es.all notStar=true:=by rfl):
  PE3 X (.Call (.Name "max" p) (e::es) [] pos) (eCB qc7z t):=e_cb (qjwz (f:=fun i j=>if j > i then j else i)) (qa6z (qqpz hc) hg hm rfl ha (he:=qpz he) (hpl:=q4z hpl))
theorem qttz(hu:X.A.units+64<cLine)(hm:X.mg "min" = none)(ha:PA3 X (e::es) t)(hc:X.calm=true:=by rfl)(hg:Gl X "min":=by rfl)(he:notStar e=true:=by rfl)(hpl:es.all notStar=true:=by rfl):
  PE3 X (.Call (.Name "min" p) (e::es) [] pos) (eCB qf8z t):=e_cb (qjwz (f:=fun i j=>if j<i then j else i)) (qa6z (qqqz hc) hg hm rfl ha (he:=qpz he) (hpl:=q4z hpl))
def qa3z:C3:=fun ds G Q=>match ds with
 |[.obj a]=>∃xs,G a=some (.lst xs)/\Q (.tup xs) G
 |[.tup xs]=>Q (.tup xs) G
 |[.scr xs]=>Q (.tup xs) G
 |_=>False
theorem qtuz:LowC K qa3z (fun xs H Q=>∃p ys,xs=[.ref p]/\((SqL K H p ys/\∀l,H l=none->Q (.ref l) (upd H l (.tup ys)))∨(SqT K H p ys/\Q (.ref p) H))):=fun ds vs G H Q3 Q h RG q k=>by
 rcases ds with _|⟨d,_|⟨d2,ds⟩⟩
 ·exact q.elim
 ·obtain⟨v,rfl,hv⟩:=hvs1 h;cases d with
  |obj a=>
   obtain⟨xs,e,q⟩:=q;obtain⟨us,e1,e2⟩:=RG a _ e;rw[qzz hv];exact⟨a,us,rfl,.inl ⟨.of e1,fun l hl=>k _ _ (.tup xs) G (qa9z (.of qwz) (e2.ext (.laid hl))) (.laid hl) (RG.laid hl) q⟩⟩
  |tup xs=>
   obtain⟨a,us,rfl,e1,e2⟩:=qagz hv;exact⟨a,us,rfl,.inr ⟨e1,k _ H _ G (qa9z e1 e2) (.refl H G) RG q⟩⟩
  |scr xs=>
   obtain⟨a,us,rfl,e1,e2⟩:=qblz hv;exact⟨a,us,rfl,.inl ⟨e1.l,fun l hl=>k _ _ (.tup xs) G (qa9z (.of qwz) (e2.ext (.laid hl))) (.laid hl) (RG.laid hl) q⟩⟩
  |_=>exact q.elim
 ·cases d<;>exact q.elim
theorem qtvz(hu:X.A.units+64<cLine)(hm:X.mg "tuple" = none)(ha:PA3 X (e::es) t)(hg:Gl X "tuple":=by rfl)(he:notStar e=true:=by rfl)(hpl:es.all notStar=true:=by rfl):
  PE3 X (.Call (.Name "tuple" p) (e::es) [] pos) (eCB qa3z t):=e_cb qtuz (qcez qrjz hg hm rfl ha (he:=qpz he) (hpl:=q4z hpl))
def qc8z:C3:=fun ds G Q=>match ds with
 |[.obj a]=>∃xs,G a=some (.lst xs)/\∀p G',New G p (.lst xs) G'->Q (.obj p) G'
 |[.tup xs]=>∀p G',New G p (.lst xs) G'->Q (.obj p) G'
 |[.scr xs]=>∀p G',New G p (.lst xs) G'->Q (.obj p) G'
 |_=>False
theorem qtwz:LowC K qc8z (fun xs H Q=>∃p ys,xs=[.ref p]/\(SqL K H p ys∨SqT K H p ys)/\∀l,H l=none->Q (.ref l) (upd H l (.lst ys))):=fun ds vs G H Q3 Q h RG q k=>by
 have fin:∀(xs:List D) (us:List V),Hvs K H xs us->(∀p G',New G p (.lst xs) G'->Q3 (.obj p) G')->∀l,H l=none->Q (.ref l) (upd H l (.lst us)):=fun xs us e2 q l hl=>
  k _ _ (.obj l) _ qa8z (.laidG hl) (RG.newL hl e2) (q l _ (.mk' (RG.free hl)))
 rcases ds with _|⟨d,_|⟨d2,ds⟩⟩
 ·exact q.elim
 ·obtain⟨v,rfl,hv⟩:=hvs1 h;cases d with
  |obj a=>
   obtain⟨xs,e,q⟩:=q;obtain⟨us,e1,e2⟩:=RG a _ e;rw[qzz hv];exact⟨a,us,rfl,.inl (.of e1),fin xs us e2 q⟩
  |tup xs=>
   obtain⟨a,us,rfl,e1,e2⟩:=qagz hv;exact⟨a,us,rfl,.inr e1,fin xs us e2 q⟩
  |scr xs=>
   obtain⟨a,us,rfl,e1,e2⟩:=qblz hv;exact⟨a,us,rfl,.inl e1.l,fin xs us e2 q⟩
  |_=>exact q.elim
 ·cases d<;>exact q.elim
theorem qtxz(hu:X.A.units+64<cLine)(hm:X.mg "list" = none)(ha:PA3 X (e::es) t)(hg:Gl X "list":=by rfl)(he:notStar e=true:=by rfl)(hpl:es.all notStar=true:=by rfl):
  PE3 X (.Call (.Name "list" p) (e::es) [] pos) (eCB qc8z t):=e_cb qtwz (qcez qriz hg hm rfl ha (he:=qpz he) (hpl:=q4z hpl))
def eM(r:D->List D->Gp->V3->Prop)(to:TE3)(t:TA3):TE3:=fun τ G Q=>to τ G fun x G1=>(∃a xs,x=.obj a/\G1 a=some (.lst xs))/\t τ G1 fun ds G2=>r x ds G2 Q
def LowM(K:PySem.W.Frag)(r:D->List D->Gp->V3->Prop)(r2:V->List V->Hp->VK->Prop):Prop:=∀x vx ds vs G H Q3 Q,Hv K H x vx->Hvs K H ds vs->RepG K G H->r x ds G Q3->(∀v H' d G',Hv K H' d v->Step H G H' G'->RepG K G' H'->Q3 d G'->Q v H')->r2 vx vs H Q
theorem qtyz{r:D->List D->Gp->V3->Prop}{r2:V->List V->Hp->VK->Prop}{to:TE3}(L:LowM K r r2){σ:L2.St}{H:Hp}{Q:VK}(h:low K (eM r to t) σ H Q):tBM K "list" r2 (low K to) (lowA K t) σ H Q:=by
 obtain⟨τ,G,Q3,RS,RG,h,k⟩:=h;refine⟨τ,G,_,RS,RG,h,fun v1 H1 d1 G1 h1 S1 R1 q1=>?_⟩;obtain⟨⟨a,xs,rfl,e1⟩,q1⟩:=q1;obtain⟨us,e2,e3⟩:=R1 a _ e1;refine⟨?_,τ,G1,_,RS.ext (S1.ext RG),R1,q1,fun vs H2 ds G2 h2 S2 R2 q2=>?_⟩
 ·rw[qzz h1];exact .inl ⟨rfl,us,.of e2⟩
 ·exact L _ _ _ _ _ _ _ _ (h1.ext (S2.ext R1)) h2 R2 q2 fun v H' d G' z1 z2 z3 z4=>k v H' d G' z1 ((S1.trans S2).trans z2) z3 z4
def qepz:D->List D->Gp->V3->Prop:=fun x ds G Q=>match x,ds with
 |.obj a,[d]=>∃xs,G a=some (.lst xs)/\xs.length<sizeLine/\Q .non (upd3 G a (.lst (xs++[d])))
 |_,_=>False
theorem qf9z:LowM K qepz rAppend:=fun x vx ds vs G H Q3 Q hx hs RG q k=>by
 rcases ds with _|⟨d,_|⟨d2,ds⟩⟩
 ·cases x<;>exact q.elim
 ·cases x with
  |obj a=>
   obtain⟨xs,e1,hz,q⟩:=q;obtain⟨us,e2,e3⟩:=RG a _ e1;obtain⟨v,rfl,hv⟩:=hvs1 hs;rw[qzz hx];refine⟨a,us,v,rfl,rfl,e2,by rw[←e3.length];exact hz,?_⟩;exact k _ _ .non _ (by simp[Hv]) (.wrote e1) (RG.wroteL e2 (e3.append (.cons hv .nil))) q
  |_=>exact q.elim
 ·cases x<;>exact q.elim
theorem qtzz{r:D->List D->Gp->V3->Prop}{r2:V->List V->Hp->VK->Prop}{to:TE3}(L:LowM X.K r r2)(h:PE X e (tBM X.K "list" r2 (low X.K to) (lowA X.K t))):PE3 X e (eM r to t):=qyz h fun _ _ _ z=>qtyz L z
def qgaz:D->List D->Gp->V3->Prop:=fun x ds G Q=>match x,ds with
 |.obj a,[.int i]=>∃xs k d,G a=some (.lst xs)/\(-(2^63)≤i/\i<2^63)/\seqIndex? i xs.length=some k/\xs[k]?=some d/\Q d (upd3 G a (.lst (xs.eraseIdx k)))
 |_,_=>False
theorem qjxz:LowM K qgaz rPopAt:=fun x vx ds vs G H Q3 Q hx hs RG q k=>by
 rcases ds with _|⟨d,_|⟨d2,ds⟩⟩
 ·cases x<;>exact q.elim
 ·cases x with
  |obj a=>
   cases d with
   |int i=>
    obtain⟨xs,j,y,e1,hb,hk,hy,q⟩:=q;obtain⟨us,e2,e3⟩:=RG a _ e1;obtain⟨v,rfl,hv⟩:=hvs1 hs;obtain⟨w,e4,e5⟩:=e3.get hy;rw[qzz hx,qxz hv];refine⟨a,us,i,j,w,rfl,rfl,e2,hb.1,hb.2,by rw[←e3.length];exact hk,e4,?_⟩;exact k _ _ y _ (e5.ext (.wrote e2)) (.wrote e1) (RG.wroteL e2 (e3.erase j)) q
   |_=>exact q.elim
  |_=>exact q.elim
 ·cases x with
  |obj a=>cases d<;>exact q.elim
  |_=>exact q.elim
def qjyz:D->List D->Gp->V3->Prop:=fun x ds G Q=>match x,ds with
 |.obj a,[.obj b]=>∃xs ys,G a=some (.lst xs)/\G b=some (.lst ys)/\xs.length+ys.length≤sizeLine/\Q .non (upd3 G a (.lst (xs++ys)))
 |_,_=>False
theorem qt0z:LowM K qjyz rExtend:=fun x vx ds vs G H Q3 Q hx hs RG q k=>by
 rcases ds with _|⟨d,_|⟨d2,ds⟩⟩
 ·cases x<;>exact q.elim
 ·cases x with
  |obj a=>
   cases d with
   |obj b=>
    obtain⟨xs,ys,e1,e0,hz,q⟩:=q;obtain⟨us,e2,e3⟩:=RG a _ e1;obtain⟨ws,e4,e5⟩:=RG b _ e0;obtain⟨v,rfl,hv⟩:=hvs1 hs;rw[qzz hx,qzz hv];refine⟨a,b,us,ws,rfl,rfl,e2,e4,by rw[←e3.length,←e5.length];exact hz,?_⟩;exact k _ _ .non _ (by simp[Hv]) (.wrote e1) (RG.wroteL e2 (e3.append e5)) q
   |_=>exact q.elim
  |_=>exact q.elim
 ·cases x with
  |obj a=>cases d<;>exact q.elim
  |_=>exact q.elim
def instD(T:String)(G:Gp):D->Option Bool
 |.non=>some false
 |.bl _=>some (T=="bool" || T=="int")
 |.int _=>some (T=="int")
 |.str _=>some (T=="str")
 |.tup _=>some (T=="tuple")
 |.scr _=>some (T=="list")
 |.dc _=>some (T=="dict")
 |.obj a=>match G a with
  |some (.lst _)=>some (T=="list")
  |some .pen=>some (T=="list")
  |some .dct=>some (T=="dict")
  |some (.gen _)=>none
  |none=>none
def eInst(T:String)(ta:TE3):TE3:=fun τ G Q=>ta τ G fun x G1=>match instD T G1 x with
 |some b=>Q (.bl b) G1
 |none=>False
end
end L3
namespace KasS
open PySem PySem.W PyProof.Rows
structure Ord(n:Nat)(lt:Nat->Nat->Bool):Prop where
 asy:∀a b,a<n->b<n->lt a b=true->lt b a=false
 tra:∀a b c,a<n->b<n->c<n->lt b a=false->lt c b=false->lt c a=false
abbrev g(p:Array Nat)(i:Nat):Nat:=p.getD i 0
structure Va(n:Nat)(p:Array Nat):Prop where
 perm:p.toList.Perm (List.range n)
section
variable {n:Nat} {lt:Nat->Nat->Bool} {cmp:Nat->Nat->(Bool->Shared->Prop)->Shared->Prop} {s:Shared}
theorem Va.size{p:Array Nat}(v:Va n p):p.size=n:=by
 have:=v.perm.length_eq;simpa using this
theorem Va.get{p:Array Nat}(v:Va n p){i:Nat}(hi:i<n):p[i]?=some (g p i):=by
 have h:=v.size;simp[g,Array.getD,h,hi]
theorem Va.inr{p:Array Nat}(v:Va n p){i:Nat}(hi:i<n):g p i<n:=by
 have h:=v.get hi;have hm:g p i∈p.toList:=List.mem_of_getElem? (by rw[Array.getElem?_toList];exact h);have:=v.perm.mem_iff.mp hm;simpa using this
theorem Ord.refl(O:Ord n lt){a:Nat}(ha:a<n):lt a a=false:=by
 cases h:lt a a with
 |false=>rfl
 |true=>
  have:=O.asy a a ha ha h;rw[h] at this;exact this
def So(lt:Nat->Nat->Bool)(p:Array Nat)(k:Nat):Prop:=∀i j,i≤j->j<k->lt (g p j) (g p i)=false
def Ni(lt:Nat->Nat->Bool)(p:Array Nat)(k:Nat):Prop:=∀i j,i≤j->j<k->lt (g p i) (g p j)=false
def Eq'(lt:Nat->Nat->Bool)(p:Array Nat)(lo hi:Nat):Prop:=∀i j,lo≤i->i<hi->lo≤j->j<hi->lt (g p i) (g p j)=false
theorem So.one(O:Ord n lt){p:Array Nat}(v:Va n p)(hn:1≤n):So lt p 1:=fun i j h1 h2=>by
 have e1:i=0:=by omega
 have e2:j=0:=by omega
 rw[e1,e2];exact O.refl (v.inr (by omega))
theorem So.next(O:Ord n lt){p:Array Nat}(v:Va n p){a:Nat}(h1:1≤a)(ha:a<n)(S:So lt p a)(h:lt (g p a) (g p (a-1))=false):So lt p (a+1):=fun i j hij hj=>by
 by_cases hja:j<a
 ·exact S i j hij hja
 ·have e:j=a:=by omega
  subst e;by_cases hij':i=j
  ·rw[hij'];exact O.refl (v.inr ha)
  ·exact O.tra (g p i) (g p (j-1)) (g p j) (v.inr (by omega)) (v.inr (by omega)) (v.inr ha) (S i (j-1) (by omega) (by omega)) h
theorem Ni.next(O:Ord n lt){p:Array Nat}(v:Va n p){a:Nat}(h1:1≤a)(ha:a<n)(S:Ni lt p a)(h:lt (g p (a-1)) (g p a)=false):Ni lt p (a+1):=fun i j hij hj=>by
 by_cases hja:j<a
 ·exact S i j hij hja
 ·have e:j=a:=by omega
  subst e;by_cases hij':i=j
  ·rw[hij'];exact O.refl (v.inr ha)
  ·exact O.tra (g p j) (g p (j-1)) (g p i) (v.inr ha) (v.inr (by omega)) (v.inr (by omega)) h (S i (j-1) (by omega) (by omega))
theorem qbzz{p:Array Nat}(v:Va n p)(i j:Nat):Va n (kas_rev p i j):=⟨(mirror_perm p i j _).toList.trans v.perm⟩
theorem qeqz{p:Array Nat}(v:Va n p){lo hi k:Nat}(hh:hi≤n)(hk:k<n):g (kas_rev p lo hi) k=if lo≤k/\k<hi then g p (lo+hi-1-k) else g p k:=by
 have h1:=getElem?_mirror_all (xs:=p) (i:=lo) (j:=hi) (by rw[v.size];exact hh) k;have h2:=(qbzz v lo hi).get hk;have h3:(kas_rev p lo hi)[k]?=_:=h1;rw[h2] at h3;by_cases hc:lo≤k/\k<hi
 ·rw[if_pos hc] at h3 ⊢;rw[v.get (by omega)] at h3;exact Option.some.inj h3
 ·rw[if_neg hc] at h3 ⊢;rw[v.get hk] at h3;exact Option.some.inj h3
theorem qgbz{p:Array Nat}(v:Va n p){lo hi k:Nat}(hh:hi≤k)(hk:k≤n)(S:Ni lt p k)(e:Eq' lt p lo hi):Ni lt (kas_rev p lo hi) k:=fun i j hij hj=>by
 rw[qeqz v (by omega) (show i<n by omega),qeqz v (by omega) (show j<n by omega)];by_cases hi':lo≤i/\i<hi
 ·rw[if_pos hi'];by_cases hj':lo≤j/\j<hi
  ·rw[if_pos hj'];exact e _ _ (by omega) (by omega) (by omega) (by omega)
  ·rw[if_neg hj'];exact S _ _ (by omega) hj
 ·rw[if_neg hi'];by_cases hj':lo≤j/\j<hi
  ·rw[if_pos hj'];exact S _ _ (by omega) (by omega)
  ·rw[if_neg hj'];exact S _ _ hij hj
theorem qt1z{p:Array Nat}(v:Va n p){k:Nat}(hk:k≤n)(S:Ni lt p k):So lt (kas_rev p 0 k) k:=fun i j hij hj=>by
 rw[qeqz v hk (show i<n by omega),qeqz v hk (show j<n by omega),if_pos (by omega),if_pos (by omega)];exact S _ _ (by omega) (by omega)
variable (O:Ord n lt) (hc:∀i j,i<n->j<n->∀(C:Bool->Shared->Prop) (s:Shared),C (lt i j) s->cmp i j C s)
include O hc
theorem qgcz{p:Array Nat}(v:Va n p){G:Nat->Shared->Prop}:∀(f a:Nat),1≤a->a+f≤n->So lt p a->(∀m,a≤m->m≤a+f->So lt p m->(m=a+f∨lt (g p m) (g p (m-1))=true)->G m s)->(kas_asc p f a).kasWp cmp G s
 |0,a,_,_,S,h=>h a (Nat.le_refl _) (by omega) S (.inl (by omega))
 |f+1,a,h1,h2,S,h=>by
  show cmp _ _ _ s;refine hc _ _ (v.inr (by omega)) (v.inr (by omega)) _ s ?_;cases hb:lt (g p a) (g p (a-1)) with
  |true=>
   ((try dsimp only);rw[if_pos rfl])
   exact h a (Nat.le_refl _) (by omega) S (.inr hb)
  |false=>
   ((try dsimp only);rw[if_neg Bool.false_ne_true])
   exact qgcz v f (a+1) (by omega) (by omega) (S.next O v h1 (by omega) hb) fun m q1 q2 q3 q4=>h m (by omega) (by omega) q3 (by
    rcases q4 with q4|q4
    ·exact .inl (by omega)
    ·exact .inr q4)
theorem qerz{G:Array Nat×Nat×Nat->Shared->Prop}:∀(f:Nat) (p:Array Nat) (a q:Nat),Va n p->q+1≤a->a+f≤n->Ni lt p a->Eq' lt p (a-(q+1)) a ->
  (∀p' m q',Va n p'->a≤m->m≤a+f->q'+1≤m->Ni lt p' m->Eq' lt p' (m-(q'+1)) m->G (p',m,q') s)->(kas_desc f p a q).kasWp cmp G s
 |0,p,a,q,v,h1,h2,S,e,h=>h p a q v (Nat.le_refl _) (by omega) h1 S e
 |f+1,p,a,q,v,h1,h2,S,e,h=>by
  show cmp _ _ _ s;refine hc _ _ (v.inr (by omega)) (v.inr (by omega)) _ s ?_;have one:∀{p':Array Nat},Va n p'->Eq' lt p' (a+1-(0+1)) (a+1):=fun {p'} v' i j i1 i2 j1 j2=>by
   have e1:i=a:=by omega
   have e2:j=a:=by omega
   rw[e1,e2];exact O.refl (v'.inr (by omega))
  cases hb:lt (g p a) (g p (a-1)) with
  |true=>
   ((try dsimp only);rw[if_pos rfl])
   have S':=S.next O v (by omega) (by omega) (O.asy _ _ (v.inr (by omega)) (v.inr (by omega)) hb)
   by_cases hq:q > 0
   ·rw[if_pos hq];exact qerz f _ (a+1) 0 (qbzz v _ _) (by omega) (by omega) (qgbz v (by omega) (by omega) S' e) (one (qbzz v _ _)) fun p' m q' r1 r2 r3 r4 r5 r6=>h p' m q' r1 (by omega) (by omega) r4 r5 r6
   ·rw[if_neg hq];exact qerz f _ (a+1) 0 v (by omega) (by omega) S' (one v) fun p' m q' r1 r2 r3 r4 r5 r6=>h p' m q' r1 (by omega) (by omega) r4 r5 r6
  |false=>
   ((try dsimp only);rw[if_neg Bool.false_ne_true])
   show cmp _ _ _ s;refine hc _ _ (v.inr (by omega)) (v.inr (by omega)) _ s ?_;cases hd:lt (g p (a-1)) (g p a) with
   |true=>
    ((try dsimp only);rw[if_pos rfl])
    exact h p a q v (Nat.le_refl _) (by omega) h1 S e
   |false=>
    ((try dsimp only);rw[if_neg Bool.false_ne_true])
    refine qerz f _ (a+1) (q+1) v (by omega) (by omega) (S.next O v (by omega) (by omega) hd) (fun i j i1 i2 j1 j2=>?_) fun p' m q' r1 r2 r3 r4 r5 r6=>h p' m q' r1 (by omega) (by omega) r4 r5 r6
    have L:∀k,k<n->g p k<n:=fun k hk=>v.inr hk;by_cases hi:i=a
    ·by_cases hj:j=a
     ·rw[hi,hj];exact O.refl (L _ (by omega))
     ·rw[hi];exact O.tra (g p j) (g p (a-1)) (g p a) (L _ (by omega)) (L _ (by omega)) (L _ (by omega)) (e (a-1) j (by omega) (by omega) (by omega) (by omega)) hb
    ·by_cases hj:j=a
     ·rw[hj];exact O.tra (g p a) (g p (a-1)) (g p i) (L _ (by omega)) (L _ (by omega)) (L _ (by omega)) hd (e i (a-1) (by omega) (by omega) (by omega) (by omega))
     ·exact e i j (by omega) (by omega) (by omega) (by omega)
theorem qjzz{p:Array Nat}(v:Va n p){a:Nat}{G:Nat×Array Nat->Shared->Prop}(h1:1≤a)(h2:a≤n)(S:Ni lt p a)(h:∀m p',Va n p'->1≤m->m≤n->So lt p' m->G (m,p') s):(kas_tail3 a n p).kasWp cmp G s:=by
 unfold kas_tail3;rw[KasT.kasWp_bind];exact qgcz O hc (qbzz v 0 a) (n-a) a h1 (by omega) (qt1z v h2 S) fun m q1 q2 q3 _=>h m _ (qbzz v 0 a) (by omega) (by omega) q3
theorem qj0z{p:Array Nat}(v:Va n p){a:Nat}{G:Nat×Array Nat->Shared->Prop}(h1:1≤a)(h2:a+1≤n)(S:Ni lt p (a+1))(h:∀m p',Va n p'->1≤m->m≤n->So lt p' m->G (m,p') s):(kas_descPart a n p).kasWp cmp G s:=by
 unfold kas_descPart;rw[KasT.kasWp_bind];refine qerz O hc (n-(a+1)) p (a+1) 0 v (by omega) (by omega) S (fun i j i1 i2 j1 j2=>?_) fun p' m q' r1 r2 r3 r4 r5 r6=>?_
 ·have e1:i=a:=by omega
  have e2:j=a:=by omega
  rw[e1,e2];exact O.refl (v.inr (by omega))
 ·dsimp only;by_cases hq:q' > 0
  ·rw[if_pos hq];exact qjzz O hc (qbzz r1 _ _) (by omega) (by omega) (qgbz r1 (Nat.le_refl _) (by omega) r5 r6) h
  ·rw[if_neg hq];exact qjzz O hc r1 (by omega) (by omega) r5 h
theorem qt2z{p:Array Nat}(v:Va n p){G:Nat×Array Nat->Shared->Prop}(hn:1≤n)(h:∀m p',Va n p'->1≤m->m≤n->So lt p' m->G (m,p') s):(kas_count n p).kasWp cmp G s:=by
 unfold kas_count;rw[KasT.kasWp_bind];refine qgcz O hc v (n-1) 1 (Nat.le_refl _) (by omega) (So.one O v hn) fun a q1 q2 q3 q4=>?_;have L:∀k,k<n->g p k<n:=fun k hk=>v.inr hk;by_cases e1:(a==n)=true
 ·rw[if_pos e1];exact h a p v q1 (by omega) q3
 ·rw[if_neg e1];have hne:a≠n:=fun z=>e1 (by rw[z];exact beq_self_eq_true _);have hlt:lt (g p a) (g p (a-1))=true:=by
   rcases q4 with q4|q4
   ·omega
   ·exact q4
  have hle:=O.asy _ _ (L a (by omega)) (L (a-1) (by omega)) hlt;by_cases e2:a > 1
  ·rw[if_pos e2];show cmp _ _ _ s;refine hc _ _ (v.inr (by omega)) (v.inr (by omega)) _ s ?_;cases hb:lt (g p 0) (g p (a-1)) with
   |true=>
    ((try dsimp only);rw[if_pos rfl])
    exact h a p v q1 (by omega) q3
   |false=>
    ((try dsimp only);rw[if_neg Bool.false_ne_true])
    -- all of the run are alike
    have eqv:Eq' lt p 0 a:=fun i j i1 i2 j1 j2=>by
     have h1:lt (g p i) (g p 0)=false:=q3 0 i (by omega) i2;have h2:lt (g p (a-1)) (g p j)=false:=q3 j (a-1) (by omega) (by omega);have h3:lt (g p 0) (g p j)=false:=O.tra _ _ _ (L j (by omega)) (L (a-1) (by omega)) (L 0 (by omega)) h2 hb;have h4:lt (g p (a-1)) (g p i)=false:=q3 i (a-1) (by omega) (by omega);exact O.tra _ _ _ (L j (by omega)) (L 0 (by omega)) (L i (by omega)) h3 h1
    have ni:Ni lt p (a+1):=Ni.next O v (by omega) (by omega) (fun i j hij hj=>eqv i j (by omega) (by omega) (by omega) hj) hle
    exact qj0z O hc (qbzz v _ _) (by omega) (by omega) (qgbz v (by omega) (by omega) ni eqv) h
  ·rw[if_neg e2];have ea:a=1:=by omega
   subst ea;refine qj0z O hc v (Nat.le_refl _) (by omega) (Ni.next O v (by omega) (by omega) (fun i j hij hj=>?_) hle) h
   have e3:i=0:=by omega
   have e4:j=0:=by omega
   rw[e3,e4];exact O.refl (L 0 (by omega))
theorem qgdz{p:Array Nat}(v:Va n p){k:Nat}(hk:k<n)(S:So lt p k){G:Nat->Shared->Prop}:∀(f l r:Nat),l≤r->r≤k->r-l≤f->(∀i,i<l->lt (g p k) (g p i)=false)->(∀i,r≤i->i<k->lt (g p k) (g p i)=true) ->
  (∀l,l≤k->(∀i,i<l->lt (g p k) (g p i)=false)->(∀i,l≤i->i<k->lt (g p k) (g p i)=true)->G l s)->(kas_place p k f l r).kasWp cmp G s
 |0,l,r,h1,h2,h3,h4,h5,h=>by
  have e:l=r:=by omega
  subst e;exact h l h2 h4 h5
 |f+1,l,r,h1,h2,h3,h4,h5,h=>by
  unfold kas_place;by_cases hlr:l≥r
  ·rw[if_pos hlr];have e:l=r:=by omega
   subst e;exact h l h2 h4 h5
  ·rw[if_neg hlr];show cmp _ _ _ s;refine hc _ _ (v.inr hk) (v.inr (by omega)) _ s ?_;have L:∀k,k<n->g p k<n:=fun k hk=>v.inr hk;cases hb:lt (g p k) (g p ((l+r) / 2)) with
   |true=>
    ((try dsimp only);rw[if_pos rfl])
    refine qgdz v hk S f l ((l+r) / 2) (by omega) (by omega) (by omega) h4 (fun i i1 i2=>?_) h;by_cases hri:r≤i
    ·exact h5 i hri i2
    ·cases hx:lt (g p k) (g p i) with
     |true=>rfl
     |false=>
      have h6:lt (g p i) (g p ((l+r) / 2))=false:=S _ _ i1 i2;have:=O.tra _ _ _ (L ((l+r) / 2) (by omega)) (L i (by omega)) (L k hk) h6 hx;rw[hb] at this;exact this.symm
   |false=>
    ((try dsimp only);rw[if_neg Bool.false_ne_true])
    refine qgdz v hk S f ((l+r) / 2+1) r (by omega) h2 (by omega) (fun i hi=>?_) h5 h;exact O.tra _ _ _ (L i (by omega)) (L ((l+r) / 2) (by omega)) (L k hk) (S i ((l+r) / 2) (by omega) (by omega)) hb
theorem qj1z{G:Array Nat->Shared->Prop}:∀(f:Nat) (p:Array Nat) (k:Nat),Va n p->k+f=n->So lt p k->(∀p',Va n p'->So lt p' n->G p' s)->(kas_bin f p k).kasWp cmp G s
 | 0,p,k,v,hk,S,h=>h p v (by
  have e:k=n:=by omega
  rw[←e];exact S)
 |f+1,p,k,v,hk,S,h=>by
  show ((kas_place p k k 0 k).bind fun l=>kas_bin f (bubble p k (k-l)) (k+1)).kasWp cmp G s;rw[KasT.kasWp_bind];refine qgdz O hc v (by omega) S k 0 k (by omega) (Nat.le_refl _) (by omega) (fun i hi=>by omega) (fun i i1 i2=>by omega) fun l hl q1 q2=>?_;have v':Va n (bubble p k (k-l)):=⟨(bubble_perm p k (k-l)).toList.trans v.perm⟩;have L:∀k,k<n->g p k<n:=fun k hk=>v.inr hk;have bg:∀i,i<n->g (bubble p k (k-l)) i=if i=l then g p k else if l<i/\i≤k then g p (i-1) else g p i:=fun i hi=>by
   have h1:=getElem?_bubble (xs:=p) (src:=k) (by rw[v.size];omega) (k-l) (by omega) i;rw[v'.get hi,show k-(k-l)=l by omega] at h1;by_cases c1:i=l
   ·rw[if_pos c1] at h1 ⊢;rw[v.get (by omega)] at h1;exact Option.some.inj h1
   ·rw[if_neg c1] at h1 ⊢;by_cases c2:l<i/\i≤k
    ·rw[if_pos c2] at h1 ⊢;rw[v.get (by omega)] at h1;exact Option.some.inj h1
    ·rw[if_neg c2] at h1 ⊢;rw[v.get hi] at h1;exact Option.some.inj h1
  refine qj1z f _ (k+1) v' (by omega) (fun i j hij hj=>?_) h;rw[bg i (by omega),bg j (by omega)];by_cases ci:i=l
  ·rw[if_pos ci];by_cases cj:j=l
   ·rw[if_pos cj];exact O.refl (L k (by omega))
   ·rw[if_neg cj,if_pos (by omega)];exact O.asy _ _ (L k (by omega)) (L _ (by omega)) (q2 (j-1) (by omega) (by omega))
  ·rw[if_neg ci];by_cases cj:j=l
   ·rw[if_pos cj,if_neg (by omega)];exact q1 i (by omega)
   ·rw[if_neg cj];by_cases c3:l<i/\i≤k
    ·rw[if_pos c3,if_pos (by omega)];exact S (i-1) (j-1) (by omega) (by omega)
    ·rw[if_neg c3];by_cases c4:l<j/\j≤k
     ·rw[if_pos c4];exact S i (j-1) (by omega) (by omega)
     ·rw[if_neg c4];exact S i j hij (by omega)
theorem qt3z{G:Array Nat->Shared->Prop}(hn:1≤n)(h:∀p,Va n p->So lt p n->G p s):(kas_sort n).kasWp cmp G s:=by
 unfold kas_sort;rw[KasT.kasWp_bind];have v0:Va n (List.toArray (List.range n)):=⟨by simp⟩;refine qt2z O hc v0 hn fun m p' v m1 m2 S=>?_;dsimp only;by_cases hm:m<n
 ·rw[if_pos hm];have e:max m 1=m:=by omega
  rw[e];exact qj1z O hc (n-m) p' m v (by omega) S h
 ·rw[if_neg hm];have e:m=n:=by omega
  subst e;exact h p' v S
end
end KasS
namespace SetP
open PySem PySem.SetTable
def Masky(m:Nat):Prop:=m=7∨m=31∨m=127
def adv(m:Nat)(p:Probe):Probe:=
 if p.more > 0 then { p with j:=p.j+1,more:=p.more-1 } else
 { p with j:=(leap m p.i p.perturb).1,more:=runEnd m (leap m p.i p.perturb).1-(leap m p.i p.perturb).1,i:=(leap m p.i p.perturb).1,perturb:=(leap m p.i p.perturb).2 }
def rs(m:Nat)(q:Nat×Nat):Probe:={ j:=q.1,more:=runEnd m q.1-q.1,i:=q.1,perturb:=q.2,dummy:=none }
def sta(m:Nat)(h:Int):Probe:=rs m (bits h%(m+1),bits h)
def sq(m:Nat)(h:Int):Nat->Probe
 |0=>sta m h
 |k+1=>adv m (sq m h k)
def rn(m:Nat)(h:Int):Nat->Nat×Nat
 |0=>(bits h%(m+1),bits h)
 |r+1=>leap m (rn m h r).1 (rn m h r).2
theorem qj2z(m:Nat)(h:Int):∀k,(sq m h k).dummy=none
 |0=>rfl
 |k+1=>by
  show (adv m (sq m h k)).dummy=none;have ih:=qj2z m h k;unfold adv;split<;>simpa using ih
theorem qt4z(m i:Nat):runEnd m i-i≤9:=by
 unfold runEnd;split<;>omega
theorem qgez(m:Nat)(h:Int)(n:Nat)(q:Nat×Nat)(e:sq m h n=rs m q):∀d,d≤runEnd m q.1-q.1->sq m h (n+d)={ j:=q.1+d,more:=runEnd m q.1-q.1-d,i:=q.1,perturb:=q.2,dummy:=none }
 |0,_=>by rw[Nat.add_zero,e];rfl
 |d+1,hd=>by
  have ih:=qgez m h n q e d (by omega);show adv m (sq m h (n+d))=_;rw[ih];unfold adv;rw[if_pos (show runEnd m q.1-q.1-d > 0 by omega)];simp only[Probe.mk.injEq,and_true,true_and];omega
theorem qj3z(m:Nat)(h:Int)(n:Nat)(q:Nat×Nat)(e:sq m h n=rs m q):sq m h (n+(runEnd m q.1-q.1)+1)=rs m (leap m q.1 q.2):=by
 show adv m (sq m h (n+(runEnd m q.1-q.1)))=_;rw[qgez m h n q e _ (Nat.le_refl _)];unfold adv;rw[if_neg (by simp)];rfl
theorem qj4z(m:Nat)(h:Int):∀r,∃n,n≤10*r/\sq m h n=rs m (rn m h r)
 |0=>⟨0,by omega,rfl⟩
 |r+1=>by
  obtain⟨n,hn,e⟩:=qj4z m h r;have:=qt4z m (rn m h r).1;exact⟨n+(runEnd m (rn m h r).1-(rn m h r).1)+1,by omega,qj3z m h n _ e⟩
theorem qt5z(h:Int):bits h<2^64:=by
 unfold bits;have h1:h%(2^64:Int)<2^64:=Int.emod_lt_of_pos _ (by decide);have h2:0≤h%(2^64:Int):=Int.emod_nonneg _ (by decide);omega
theorem qj5z(m:Nat)(h:Int):∀r,(rn m h r).2=bits h / 32^r
 |0=>by simp[rn]
 |r+1=>by
  show (rn m h r).2 / 32=_;rw[qj5z m h r,Nat.div_div_eq_div_mul,Nat.pow_succ]
theorem qt6z(m:Nat)(h:Int)(r:Nat)(hr:13≤r):(rn m h r).2=0:=by
 rw[qj5z];have h1:=qt5z h;have h2:(32:Nat)^13≤32^r:=Nat.pow_le_pow_right (by decide) hr;have h3:(2:Nat)^64<32^13:=by decide
 exact Nat.div_eq_of_lt (by omega)
def fl(m x:Nat):Nat:=(x*5+1)%(m+1)
def it(m:Nat):Nat->Nat->Nat
 |0,x=>x
 |n+1,x=>fl m (it m n x)
theorem qc9z(m:Nat)(a:Nat):∀b x,it m (b+a) x=it m b (it m a x)
 |0,x=>by rw[Nat.zero_add];rfl
 |b+1,x=>by
  rw[show b+1+a=(b+a)+1 by omega];show fl m (it m (b+a) x)=fl m (it m b (it m a x));rw[qc9z m a b x]
theorem qgfz(m:Nat)(h:Int):∀n,(rn m h (13+n)).1=it m n (rn m h 13).1
 |0=>rfl
 |n+1=>by
  show ((rn m h (13+n)).1*5+1+(rn m h (13+n)).2 / 32)%(m+1)=fl m (it m n (rn m h 13).1);rw[qt6z m h (13+n) (by omega),qgfz m h n];rfl
theorem qggz(m:Nat)(h:Int):∀r,(rn m h r).1<m+1
 |0=>Nat.mod_lt _ (Nat.succ_pos _)
 |r+1=>Nat.mod_lt _ (Nat.succ_pos _)
def orb(m:Nat):Nat->Nat->List Nat
 |0,_=>[]
 |n+1,x=>x::orb m n (fl m x)
theorem qesz(m:Nat):∀(n x y:Nat),y∈orb m n x->∃k,k<n/\y=it m k x
 |0,_,_,h=>by cases h
 |n+1,x,y,h=>by
  rcases List.mem_cons.mp h with e|e
  ·exact⟨0,by omega,e⟩
  ·obtain⟨k,hk,e⟩:=qesz m n (fl m x) y e;refine⟨k+1,by omega,?_⟩;rw[qc9z m 1 k x];exact e
theorem orb7:((List.range 8).all fun x=>(orb 7 8 0).contains x)=true:=by decide +kernel
theorem orb31:((List.range 32).all fun x=>(orb 31 32 0).contains x)=true:=by decide +kernel
theorem orb127:((List.range 128).all fun x=>(orb 127 128 0).contains x)=true:=by decide +kernel
theorem back7:it 7 8 0=0:=by decide +kernel
theorem back31:it 31 32 0=0:=by decide +kernel
theorem back127:it 127 128 0=0:=by decide +kernel
theorem orbit{m:Nat}(hm:Masky m){x:Nat}(hx:x<m+1):∃k,k<m+1/\x=it m k 0:=by
 rcases hm with rfl|rfl|rfl
 ·have:=List.all_eq_true.mp orb7 x (List.mem_range.mpr hx);exact qesz 7 8 0 x (by simpa using this)
 ·have:=List.all_eq_true.mp orb31 x (List.mem_range.mpr hx);exact qesz 31 32 0 x (by simpa using this)
 ·have:=List.all_eq_true.mp orb127 x (List.mem_range.mpr hx);exact qesz 127 128 0 x (by simpa using this)
theorem back{m:Nat}(hm:Masky m):it m (m+1) 0=0:=by
 rcases hm with rfl|rfl|rfl
 ·exact back7
 ·exact back31
 ·exact back127
theorem period{m:Nat}(hm:Masky m){x y:Nat}(hx:x<m+1)(hy:y<m+1):∃n,n≤m/\it m n x=y:=by
 obtain⟨a,ha,ea⟩:=orbit hm hx;obtain⟨b,hb,eb⟩:=orbit hm hy;by_cases hab:a≤b
 ·refine⟨b-a,by omega,?_⟩;rw[ea,←qc9z,eb];congr 1;omega
 ·refine⟨m+1-a+b,by omega,?_⟩;rw[ea,←qc9z,eb,show m+1-a+b+a=b+(m+1) by omega,qc9z,back hm]
theorem comes{m:Nat}(hm:Masky m)(h:Int){e:Nat}(he:e≤m):∃k,k≤10*m+130/\(sq m h k).j=e:=by
 obtain⟨n,hn,en⟩:=period hm (qggz m h 13) (show e<m+1 by omega);obtain⟨k,hk,ek⟩:=qj4z m h (13+n);refine⟨k,by omega,?_⟩;rw[ek];show (rn m h (13+n)).1=e;rw[qgfz,en]
theorem qghz{xs:Array Nat}{j:Nat}(hr:xs.toList.Pairwise (· < ·)):∀(fuel lo hi:Nat),hi-lo≤fuel->lo≤hi->hi≤xs.size->(∀i x,i<lo->xs[i]?=some x->x<j)->(∀i x,hi≤i->xs[i]?=some x->j≤x) ->
  below.go xs j fuel lo hi≤xs.size/\(∀i x,i<below.go xs j fuel lo hi->xs[i]?=some x->x<j)/\(∀i x,below.go xs j fuel lo hi≤i->xs[i]?=some x->j≤x)
 |0,lo,hi,hf,hl,hs,h1,h2=>by
  have e:lo=hi:=by omega
  subst e;exact⟨hs,h1,h2⟩
 |fuel+1,lo,hi,hf,hl,hs,h1,h2=>by
  unfold below.go;by_cases hlt:lo<hi
  ·rw[if_pos hlt];dsimp only;have hmid:(lo+hi) / 2<xs.size:=by omega
   have hg:xs.getD ((lo+hi) / 2) j=xs[(lo+hi) / 2]:=by simp[Array.getD,hmid]
   rw[hg];have pw:∀a b x y,a<b->xs[a]?=some x->xs[b]?=some y->x<y:=fun a b x y hab ea eb=>by
    have ha':a<xs.toList.length:=by
     have:=(Array.getElem?_eq_some_iff.mp ea).1;simpa using this
    have hb':b<xs.toList.length:=by
     have:=(Array.getElem?_eq_some_iff.mp eb).1;simpa using this
    have:=List.pairwise_iff_getElem.mp hr a b ha' hb' hab;obtain⟨_,e1⟩:=Array.getElem?_eq_some_iff.mp ea;obtain⟨_,e2⟩:=Array.getElem?_eq_some_iff.mp eb;simpa [e1,e2] using this
   have em:xs[(lo+hi) / 2]?=some xs[(lo+hi) / 2]:=by simp[hmid]
   by_cases hc:xs[(lo+hi) / 2]<j
   ·rw[if_pos hc];refine qghz hr fuel _ hi (by omega) (by omega) hs (fun i x hi' e=>?_) h2;by_cases hi2:i=(lo+hi) / 2
    ·subst hi2;rw[em] at e;cases e;exact hc
    ·exact Nat.lt_trans (pw i _ x _ (by omega) e em) hc
   ·rw[if_neg hc];refine qghz hr fuel lo _ (by omega) (by omega) (by omega) h1 (fun i x hi' e=>?_);by_cases hi2:i=(lo+hi) / 2
    ·subst hi2;rw[em] at e;cases e;omega
    ·have:=pw _ i _ x (by omega) em e;omega
  ·rw[if_neg hlt];have e:lo=hi:=by omega
   subst e;exact⟨hs,h1,h2⟩
theorem qetz{xs:Array Nat}{j:Nat}(hr:xs.toList.Pairwise (· < ·)):below xs j≤xs.size/\(∀i x,i<below xs j->xs[i]?=some x->x<j)/\(∀i x,below xs j≤i->xs[i]?=some x->j≤x):=
 qghz hr xs.size 0 xs.size (by omega) (by omega) (by omega) (fun i _ h=>by omega) fun i x h e=>by
  have:=(Array.getElem?_eq_some_iff.mp e).1;omega
theorem below_at{xs:Array Nat}{j i:Nat}(hr:xs.toList.Pairwise (· < ·))(e:xs[i]?=some j):below xs j=i:=by
 obtain⟨h0,h1,h2⟩:=qetz (j:=j) hr;have hi:=(Array.getElem?_eq_some_iff.mp e).1;by_cases hlt:i<below xs j
 ·exact absurd (h1 i j hlt e) (Nat.lt_irrefl _)
 ·by_cases hgt:below xs j<i
  ·have hb:below xs j<xs.size:=by omega
   have eb:xs[below xs j]?=some xs[below xs j]:=by simp[hb]
   have q1:=h2 _ _ (Nat.le_refl _) eb;have pw:=List.pairwise_iff_getElem.mp hr (below xs j) i (by simpa using hb) (by simpa using hi) hgt;obtain⟨_,e1⟩:=Array.getElem?_eq_some_iff.mp e;simp[e1] at pw;omega
  ·omega
end SetP
namespace SetP
open PySem PySem.SetTable
structure Tab(t:SetTable)(hs:List Int):Prop where
 mask:Masky t.mask
 size:t.place.size=hs.length
 rise:t.place.toList.Pairwise (· < ·)
 bound:∀j∈t.place.toList,j≤t.mask
 nodum:t.dummies = #[]
 room:hs.length*5<t.mask*3
 reach:∀j h,(j,h)∈t.place.toList.zip hs->∃k,(sq t.mask h k).j=j/\∀k',k' < k->(sq t.mask h k').j∈t.place.toList
theorem qj6z{t:SetTable}{j i:Nat}(hr:t.place.toList.Pairwise (· < ·))(e:t.place[i]?=some j):t.slot j=.live i:=by
 unfold slot;dsimp only;rw[below_at hr e,e];simp
theorem qt7z{t:SetTable}{j:Nat}(hd:t.dummies = #[])(e:j∉t.place.toList):t.slot j=.empty:=by
 unfold slot;dsimp only;have h1:¬(t.place[below t.place j]?==some j)=true:=by
  intro h;have h':t.place[below t.place j]?=some j:=by simpa using h
  exact e (by
   rw[←Array.getElem?_toList] at h';exact List.mem_of_getElem? h')
 rw[if_neg h1];have h2:has t.dummies j=false:=by
  rw[hd];rfl
 rw[h2];rfl
theorem qgiz:∀(n:Nat) (L:List Nat),(∀e,e<n->e∈L)->n≤L.length
 |0,_,_=>Nat.zero_le _
 |n+1,L,h=>by
  have h1:=h n (Nat.lt_succ_self n);have h2:=qgiz n (L.erase n) fun e he=>(List.mem_erase_of_ne (by omega)).mpr (h e (by omega));have h3:=List.length_erase_of_mem h1;have h4:=List.length_pos_of_mem h1;omega
theorem qt8z{t:SetTable}{hs:List Int}(T:Tab t hs)(h:Int):∃ke,ke≤10*t.mask+130/\(sq t.mask h ke).j∉t.place.toList/\∀k,k<ke->(sq t.mask h k).j∈t.place.toList:=by
 -- some slot is empty
 have hex:∃e,e≤t.mask/\e∉t.place.toList:=by
  refine Classical.byContradiction fun hn=>?_;have hall:∀e,e≤t.mask->e∈t.place.toList:=fun e he=>Classical.byContradiction fun q=>hn ⟨e,he,q⟩;have hl:=qgiz (t.mask+1) t.place.toList fun e he=>hall e (by omega);have e1:t.place.toList.length=t.place.size:=by simp
  have:=T.size;have:=T.room;omega
 obtain⟨e,he,ne⟩:=hex;obtain⟨k,hk,ek⟩:=comes T.mask h he;have hP:∃k,(sq t.mask h k).j∉t.place.toList:=⟨k,by rw[ek];exact ne⟩
 -- the least one
 have least:∀n,(∃k,k≤n/\(sq t.mask h k).j∉t.place.toList)->∃ke,ke≤n/\(sq t.mask h ke).j∉t.place.toList/\∀k,k<ke->(sq t.mask h k).j∈t.place.toList:=by
  intro n
  induction n with
  |zero=>
   rintro⟨k,hk,q⟩;have:k=0:=by omega
   subst this;exact⟨0,Nat.le_refl _,q,fun k hk=>by omega⟩
  |succ n ih=>
   rintro⟨k,hk,q⟩;by_cases hp:∃k,k≤n/\(sq t.mask h k).j∉t.place.toList
   ·obtain⟨ke,h1,h2,h3⟩:=ih hp;exact⟨ke,by omega,h2,h3⟩
   ·have hk':k=n+1:=by
     refine Classical.byContradiction fun z=>hp ⟨k,by omega,q⟩
    subst hk';exact⟨n+1,Nat.le_refl _,q,fun k' hk'=>Classical.byContradiction fun z=>hp ⟨k',by omega,z⟩⟩
 obtain⟨ke,h1,h2,h3⟩:=least k ⟨k,Nat.le_refl _,by rw[ek];exact ne⟩;exact⟨ke,by omega,h2,h3⟩
inductive Meets(t:SetTable)(hashAt:Nat->Int)(h:Int)(n ke:Nat):Met->Prop where
 |cand {k i:Nat} (h1:n≤k) (h2:k<ke) (h3:t.place[i]?=some (sq t.mask h k).j) (h4:hashAt i=h) (h5:∀k' i',n≤k'->k' < k->t.place[i']?=some (sq t.mask h k').j->hashAt i'≠h):
   Meets t hashAt h n ke (.candidate (sq t.mask h k).j i (sq t.mask h (k+1)))
 |free (h1:n≤ke) (h5:∀k' i',n≤k'->k' < ke->t.place[i']?=some (sq t.mask h k').j->hashAt i'≠h):Meets t hashAt h n ke (.empty (sq t.mask h ke).j none)
theorem qj7z{t:SetTable}{hashAt:Nat->Int}{h:Int}{ke:Nat}(hr:t.place.toList.Pairwise (· < ·))(hd:t.dummies = #[])(he:(sq t.mask h ke).j∉t.place.toList)(hl:∀k,k<ke->(sq t.mask h k).j∈t.place.toList):
  ∀(fuel n:Nat),n≤ke->ke-n<fuel->∃met,probe.go t hashAt h fuel (sq t.mask h n)=some met/\Meets t hashAt h n ke met
 |0,n,_,hf=>by omega
 |fuel+1,n,hn,hf=>by
  unfold probe.go;by_cases hlast:n=ke
  ·subst hlast;rw[qt7z hd he,qj2z];exact⟨_,rfl,.free (Nat.le_refl _) fun k' i' h1 h2=>by omega⟩
  ·have hmem:=hl n (by omega);obtain⟨i,hi⟩:=List.getElem?_of_mem hmem;have hi':t.place[i]?=some (sq t.mask h n).j:=by rw[←Array.getElem?_toList];exact hi
   rw[qj6z hr hi'];dsimp only;by_cases hh:hashAt i=h
   ·rw[if_pos (by simpa using hh)];exact⟨_,rfl,.cand (Nat.le_refl _) (by omega) hi' hh fun k' i' h1 h2=>by omega⟩
   ·rw[if_neg (by simpa using hh)];obtain⟨met,e,m⟩:=qj7z (hashAt:=hashAt) hr hd he hl fuel (n+1) (by omega) (by omega);refine⟨met,e,?_⟩;have one:∀i',t.place[i']?=some (sq t.mask h n).j->hashAt i'≠h:=fun i' e'=>by
     have e1:=below_at hr hi';have e2:=below_at hr e';have:i'=i:=by omega
     rw[this];exact hh
    cases m with
    |cand h1 h2 h3 h4 h5=>
     refine .cand (by omega) h2 h3 h4 fun k' i' q1 q2 q3=>?_;by_cases hk:k'=n
     ·subst hk;exact one i' q3
     ·exact h5 k' i' (by omega) q2 q3
    |free h1 h5=>
     refine .free (by omega) fun k' i' q1 q2 q3=>?_;by_cases hk:k'=n
     ·subst hk;exact one i' q3
     ·exact h5 k' i' (by omega) q2 q3
theorem qt9z{t:SetTable}{hs:List Int}(T:Tab t hs){hashAt:Nat->Int}{h:Int}{ke n:Nat}(hk:ke≤10*t.mask+130)(he:(sq t.mask h ke).j∉t.place.toList)(hl:∀k,k<ke->(sq t.mask h k).j∈t.place.toList)(hn:n≤ke):
  ∃met,t.probe hashAt h (sq t.mask h n)=some met/\Meets t hashAt h n ke met:=by
 unfold probe;exact qj7z T.rise T.nodum he hl _ n hn (by unfold turns;omega)
theorem qb0z{α:Type}(xs:Array α)(p:Nat)(x:α):(insertAt xs p x).toList=xs.toList.take p++x::xs.toList.drop p:=by
 unfold insertAt;have e:(xs.extract p xs.size).toList=xs.toList.drop p:=by
  rw[Array.toList_extract];simp[List.extract];exact List.take_of_length_le (by simp)
 simp[Array.toList_extract,List.extract];exact List.take_of_length_le (by simp)
theorem qj8z{α β:Type}:∀(p:Nat) (xs:List α) (ys:List β) (x:α) (y:β),xs.length=ys.length->((xs.take p++x::xs.drop p).zip (ys.take p++y::ys.drop p)).Perm ((x,y)::xs.zip ys)
 |0,xs,ys,x,y,_=>by simp
 |p+1,[],ys,x,y,h=>by
  have:ys=[]:=List.length_eq_zero_iff.mp (by simpa using h.symm);subst this;simp
 |p+1,a::xs,[],x,y,h=>by simp at h
 |p+1,a::xs,b::ys,x,y,h=>by
  have ih:=qj8z p xs ys x y (by simpa using h);simp only[List.take_succ_cons,List.drop_succ_cons,List.cons_append,List.zip_cons_cons];exact (List.Perm.cons (a,b) ih).trans (List.Perm.swap _ _ _)
theorem qcfz{α:Type}(p:Nat)(xs:List α)(x:α):(xs.take p++x::xs.drop p).Perm (x::xs):=by
 have:=List.perm_middle (a:=x) (l₁:=xs.take p) (l₂:=xs.drop p);rw[List.take_append_drop] at this;exact this
theorem quaz{t:SetTable}{j:Nat}(hd:t.dummies = #[]):t.put j=({ t with place:=insertAt t.place (below t.place j) j,dummies:=#[]},below t.place j):=by
 unfold put;dsimp only;have h2:has t.dummies j=false:=by
  rw[hd];rfl
 rw[h2];simp[hd]
structure TabR(t:SetTable)(hs:List Int):Prop where
 mask:Masky t.mask
 size:t.place.size=hs.length
 rise:t.place.toList.Pairwise (· < ·)
 bound:∀j∈t.place.toList,j≤t.mask
 nodum:t.dummies = #[]
 fit:hs.length≤t.mask
 reach:∀j h,(j,h)∈t.place.toList.zip hs->∃k,(sq t.mask h k).j=j/\∀k',k' < k->(sq t.mask h k').j∈t.place.toList
theorem qj9z{m:Nat}(hm:Masky m)(h:Int):∀k,(sq m h k).j≤m/\(sq m h k).j+(sq m h k).more≤m:=by
 have hrun:∀i,i≤m->runEnd m i≤m:=fun i hi=>by
  unfold runEnd;split<;>omega
 have hrs:∀q:Nat×Nat,q.1≤m->(rs m q).j≤m/\(rs m q).j+(rs m q).more≤m:=fun q hq=>by
  have:=hrun q.1 hq;have h2:q.1≤runEnd m q.1:=by unfold runEnd;split<;>omega
  show q.1≤m/\q.1+(runEnd m q.1-q.1)≤m;omega
 intro k
 induction k with
 |zero=>exact hrs _ (by show bits h%(m+1)≤m;have:bits h%(m+1)<m+1:=Nat.mod_lt (bits h) (Nat.succ_pos m);omega)
 |succ k ih=>
  show (adv m (sq m h k)).j≤m/\(adv m (sq m h k)).j+(adv m (sq m h k)).more≤m;unfold adv;by_cases hc:(sq m h k).more > 0
  ·rw[if_pos hc];show (sq m h k).j+1≤m/\(sq m h k).j+1+((sq m h k).more-1)≤m;omega
  ·rw[if_neg hc];have hlt:(leap m (sq m h k).i (sq m h k).perturb).1≤m:=by
    show ((sq m h k).i*5+1+(sq m h k).perturb / 32)%(m+1)≤m;have:((sq m h k).i*5+1+(sq m h k).perturb / 32)%(m+1)<m+1:=Nat.mod_lt _ (Nat.succ_pos m);omega
   exact hrs (leap m (sq m h k).i (sq m h k).perturb) hlt
theorem Tab.put{t:SetTable}{hs:List Int}(T:Tab t hs){h:Int}{ke:Nat}(he:(sq t.mask h ke).j∉t.place.toList)(hl:∀k,k<ke->(sq t.mask h k).j∈t.place.toList):
  TabR { t with place:=insertAt t.place (below t.place (sq t.mask h ke).j) (sq t.mask h ke).j,dummies:=#[]} (hs.take (below t.place (sq t.mask h ke).j)++h::hs.drop (below t.place (sq t.mask h ke).j)):=by
 obtain⟨b0,b1,b2⟩:=qetz (j:=(sq t.mask h ke).j) T.rise;have hlen:t.place.toList.length=hs.length:=by simpa using T.size
 have hmem:∀x,x∈(insertAt t.place (below t.place (sq t.mask h ke).j) (sq t.mask h ke).j).toList↔x=(sq t.mask h ke).j∨x∈t.place.toList:=fun x=>by
  rw[qb0z,(qcfz _ t.place.toList _).mem_iff,List.mem_cons]
 refine⟨T.mask,?_,?_,fun j hj=>?_,rfl,?_,fun j h' hj=>?_⟩
 ·show (insertAt t.place (below t.place (sq t.mask h ke).j) (sq t.mask h ke).j).size=_;have e1:(insertAt t.place (below t.place (sq t.mask h ke).j) (sq t.mask h ke).j).size=(insertAt t.place (below t.place (sq t.mask h ke).j) (sq t.mask h ke).j).toList.length:=by simp
  rw[e1,qb0z,(qcfz _ t.place.toList _).length_eq,(qcfz _ hs _).length_eq];simp only[List.length_cons];omega
 ·show (insertAt t.place (below t.place (sq t.mask h ke).j) (sq t.mask h ke).j).toList.Pairwise (· < ·);rw[qb0z];refine List.pairwise_append.mpr ⟨T.rise.sublist (List.take_sublist _ _),List.pairwise_cons.mpr ⟨fun x hx=>?_,T.rise.sublist (List.drop_sublist _ _)⟩,fun a ha b hb=>?_⟩
  ·obtain⟨i,hi⟩:=List.getElem?_of_mem hx;rw[List.getElem?_drop] at hi;have q:=b2 (below t.place (sq t.mask h ke).j+i) x (by omega) (by rw[←Array.getElem?_toList];exact hi);have ne:x≠(sq t.mask h ke).j:=fun e=>he (e▸List.mem_of_getElem? hi);omega
  ·obtain⟨i,hi⟩:=List.getElem?_of_mem ha;have hil:i<below t.place (sq t.mask h ke).j:=by
    have:=(List.getElem?_eq_some_iff.mp hi).1;rw[List.length_take] at this;omega
   rw[List.getElem?_take_of_lt hil] at hi;have qa:=b1 i a hil (by rw[←Array.getElem?_toList];exact hi);rcases List.mem_cons.mp hb with e|hb
   ·rw[e];exact qa
   ·obtain⟨i2,hi2⟩:=List.getElem?_of_mem hb;rw[List.getElem?_drop] at hi2;have q:=b2 (below t.place (sq t.mask h ke).j+i2) b (by omega) (by rw[←Array.getElem?_toList];exact hi2);omega
 ·rcases (hmem j).mp hj with e|e
  ·rw[e];exact (qj9z T.mask h ke).1
  ·exact T.bound j e
 ·rw[(qcfz _ hs _).length_eq];have:=T.room;rcases T.mask with e|e|e<;>(simp only[List.length_cons];show _≤t.mask;omega)
 ·have hp:(j,h')∈(t.place.toList.take (below t.place (sq t.mask h ke).j)++(sq t.mask h ke).j::t.place.toList.drop (below t.place (sq t.mask h ke).j)).zip
    (hs.take (below t.place (sq t.mask h ke).j)++h::hs.drop (below t.place (sq t.mask h ke).j)):=by
   rw[←qb0z];exact hj
  rw[(qj8z _ _ _ _ _ hlen).mem_iff] at hp;rcases List.mem_cons.mp hp with e|e
  ·cases e;exact⟨ke,rfl,fun k' hk'=>(hmem _).mpr (.inr (hl k' hk'))⟩
  ·obtain⟨k,e1,e2⟩:=T.reach j h' e;exact⟨k,e1,fun k' hk'=>(hmem _).mpr (.inr (e2 k' hk'))⟩
theorem TabR.tab{t:SetTable}{hs:List Int}(T:TabR t hs)(h:t.tooFull=false):Tab t hs:=by
 refine⟨T.mask,T.size,T.rise,T.bound,T.nodum,?_,T.reach⟩;have h':¬(t.fill*5≥t.mask*3):=by simpa [tooFull] using h
 have e:t.fill=hs.length:=by
  unfold fill;rw[T.size,T.nodum];rfl
 rw[e] at h';omega
end SetP
namespace SetP
open PySem PySem.SetTable
def Taken(ow:Array (Option Nat))(j:Nat):Prop:=∃k,ow[j]?=some (some k)
theorem qgjz{ow:Array (Option Nat)}{j:Nat}(hj:j<ow.size):(ow.getD j (some 0)).isNone=true↔¬Taken ow j:=by
 have e:ow.getD j (some 0)=ow[j]:=by simp[Array.getD,hj]
 rw[e];unfold Taken;rw[Array.getElem?_eq_getElem hj];cases ow[j] with
 |none=>simp
 |some k=>simp
theorem qkaz{m:Nat}(hm:Masky m){h:Int}{ow:Array (Option Nat)}(hs:ow.size=m+1):∀(fuel r n:Nat),sq m h n=rs m (rn m h r)->(∀k,k<n->Taken ow (sq m h k).j) ->
  (∃r',r≤r'/\r' < r+fuel/\¬Taken ow (rn m h r').1)->∃ke,layClean.free m ow fuel (rn m h r).1 (rn m h r).2=some (sq m h ke).j/\¬Taken ow (sq m h ke).j/\∀k,k<ke->Taken ow (sq m h k).j
 |0,r,n,_,_,hx=>by
  obtain⟨r',h1,h2,_⟩:=hx;omega
 |fuel+1,r,n,hn,hk,hx=>by
  have hi:=qggz m h r;have hre:runEnd m (rn m h r).1≤m:=by unfold runEnd;split<;>omega
  have hre2:(rn m h r).1≤runEnd m (rn m h r).1:=by unfold runEnd;split<;>omega
  have at_d:∀d,d≤runEnd m (rn m h r).1-(rn m h r).1->(sq m h (n+d)).j=(rn m h r).1+d:=fun d hd=>by
   rw[qgez m h n _ hn d hd]
  unfold layClean.free;cases hf:(List.range (runEnd m (rn m h r).1+1-(rn m h r).1)).find? (fun k=>(ow.getD ((rn m h r).1+k) (some 0)).isNone) with
  |some k=>
   obtain⟨p1,p2,p3⟩:=List.find?_range_eq_some.mp hf;have hkr:=List.mem_range.mp p2;refine⟨n+k,?_,?_,fun k' hk'=>?_⟩
   ·rw[at_d k (by omega)]
   ·rw[at_d k (by omega)];exact (qgjz (by omega)).mp p1
   ·by_cases hlt:k' < n
    ·exact hk k' hlt
    ·obtain⟨d,rfl⟩:∃d,k'=n+d:=⟨k' - n,by omega⟩;rw[at_d d (by omega)];have q:=p3 d (by omega);refine Classical.byContradiction fun z=>?_;rw[(qgjz (by omega)).mpr z] at q;cases q
  |none=>
   have hnone:=List.find?_eq_none.mp hf;have occ:∀d,d≤runEnd m (rn m h r).1-(rn m h r).1->Taken ow ((rn m h r).1+d):=fun d hd=>
    Classical.byContradiction fun z=>hnone d (List.mem_range.mpr (by omega)) ((qgjz (by omega)).mpr z)
   refine qkaz hm hs fuel (r+1) (n+(runEnd m (rn m h r).1-(rn m h r).1)+1) (qj3z m h n _ hn) (fun k hk'=>?_) ?_
   ·by_cases hlt:k<n
    ·exact hk k hlt
    ·obtain⟨d,rfl⟩:∃d,k=n+d:=⟨k-n,by omega⟩;rw[at_d d (by omega)];exact occ d (by omega)
   ·obtain⟨r',h1,h2,h3⟩:=hx;refine⟨r',?_,by omega,h3⟩;have:r'≠r:=fun e=>h3 (by
     rw[e];have:=occ 0 (Nat.zero_le _);simpa using this)
    omega
structure Own(m:Nat)(ow:Array (Option Nat))(l:List Int):Prop where
 size:ow.size=m+1
 all:∀(k:Nat),k<l.length->∃j:Nat,ow[j]?=some (some k)
 one:∀(j j' k:Nat),ow[j]?=some (some k)->ow[j']?=some (some k)->j=j'
 reach:∀(j k:Nat),ow[j]?=some (some k)->∃h,l[k]?=some h/\∃n,(sq m h n).j=j/\∀n',n' < n->Taken ow (sq m h n').j
theorem Own.nil(m:Nat):Own m (Array.replicate (m+1) none) []:=by
 have hno:∀(j k:Nat),¬(Array.replicate (m+1) (none:Option Nat))[j]?=some (some k):=fun j k e=>by
  rw[Array.getElem?_replicate] at e;split at e<;>simp at e
 exact⟨by simp,fun k hk=>by simp at hk,fun j j' k e=>absurd e (hno j k),fun j k e=>absurd e (hno j k)⟩
theorem Own.room{m:Nat}{ow:Array (Option Nat)}{l:List Int}(O:Own m ow l)(hl:l.length≤m):∃e,e≤m/\¬Taken ow e:=by
 refine Classical.byContradiction fun hn=>?_;have hall:∀e,e≤m->Taken ow e:=fun e he=>Classical.byContradiction fun q=>hn ⟨e,he,q⟩;obtain⟨g,hg⟩:∃g:Nat->Nat,∀k,k<l.length->ow[g k]?=some (some k):=by
  refine⟨fun k=>if q:k<l.length then (O.all k q).choose else 0,fun k hk=>?_⟩;dsimp only;rw[dif_pos hk];exact (O.all k hk).choose_spec
 have hlen:=qgiz (m+1) ((List.range l.length).map g) fun e he=>by
  obtain⟨k,hk⟩:=hall e (by omega);obtain⟨h,e1,_⟩:=O.reach e k hk;have hkl:=(List.getElem?_eq_some_iff.mp e1).1;exact List.mem_map.mpr ⟨k,List.mem_range.mpr hkl,O.one _ _ k (hg k hkl) hk⟩
 simp at hlen;omega
theorem Own.add{m:Nat}(hm:Masky m){ow:Array (Option Nat)}{l:List Int}{h:Int}(O:Own m ow l)(hl:l.length≤m):
  ∃j,layClean.free m ow (turns m) (bits h%(m+1)) (bits h)=some j/\Own m (ow.setIfInBounds j (some l.length)) (l++[h]):=by
 obtain⟨e,he,ne⟩:=O.room hl;obtain⟨n0,hn0,en0⟩:=period hm (qggz m h 13) (show e<m+1 by omega);obtain⟨ke,h1,h2,h3⟩:=qkaz hm (h:=h) O.size (turns m) 0 0 rfl (fun k hk=>by omega) ⟨13+n0,by omega,by unfold turns;omega,by rw[qgfz,en0];exact ne⟩;refine⟨(sq m h ke).j,h1,?_⟩;have hj:(sq m h ke).j<ow.size:=by
  have:=(qj9z hm h ke).1;rw[O.size];omega
 have hget:∀j:Nat,(ow.setIfInBounds (sq m h ke).j (some l.length))[j]?=if (sq m h ke).j=j then some (some l.length) else ow[j]?:=fun j=>by
  rw[Array.getElem?_setIfInBounds];by_cases e:(sq m h ke).j=j
  ·rw[if_pos e,if_pos e,if_pos (by omega)]
  ·rw[if_neg e,if_neg e]
 have tk:∀j,Taken ow j->Taken (ow.setIfInBounds (sq m h ke).j (some l.length)) j:=fun j ⟨k,hk⟩=>by
  unfold Taken;rw[hget];by_cases e:(sq m h ke).j=j
  ·exact⟨_,if_pos e⟩
  ·exact⟨k,by rw[if_neg e];exact hk⟩
 have lt_of:∀j k:Nat,ow[j]?=some (some k)->k<l.length:=fun j k e=>by
  obtain⟨h',e1,_⟩:=O.reach j k e;exact (List.getElem?_eq_some_iff.mp e1).1
 refine⟨by rw[Array.size_setIfInBounds];exact O.size,fun k hk=>?_,fun j j' k q q'=>?_,fun j k q=>?_⟩
 ·rw[List.length_append,List.length_singleton] at hk;by_cases hkl:k<l.length
  ·obtain⟨j,hj'⟩:=O.all k hkl;refine⟨j,?_⟩;rw[hget,if_neg (fun e=>h2 ⟨k,by rw[e];exact hj'⟩)];exact hj'
  ·have:k=l.length:=by omega
   exact⟨(sq m h ke).j,by rw[hget,if_pos rfl,this]⟩
 ·rw[hget] at q q';by_cases e:(sq m h ke).j=j
  ·rw[if_pos e] at q;by_cases e':(sq m h ke).j=j'
   ·omega
   ·rw[if_neg e'] at q';cases q;exact absurd (lt_of _ _ q') (Nat.lt_irrefl _)
  ·rw[if_neg e] at q;by_cases e':(sq m h ke).j=j'
   ·rw[if_pos e'] at q';cases q';exact absurd (lt_of _ _ q) (Nat.lt_irrefl _)
   ·rw[if_neg e'] at q';exact O.one j j' k q q'
 ·rw[hget] at q;by_cases e:(sq m h ke).j=j
  ·rw[if_pos e] at q;cases q;exact⟨h,by simp,ke,e,fun n' hn'=>tk _ (h3 n' hn')⟩
  ·rw[if_neg e] at q;obtain⟨h',e1,n,e2,e3⟩:=O.reach j k q;exact⟨h',by rw[List.getElem?_append_left (lt_of j k q)];exact e1,n,e2,fun n' hn'=>tk _ (e3 n' hn')⟩
theorem qkbz{m:Nat}(hm:Masky m):∀(l' l:List Int) (ow:Array (Option Nat)),Own m ow l->l.length+l'.length≤m+1 ->
  ∃ow',(l'.foldl (fun (acc:Option (Array (Option Nat)×Nat)) h=>do
   let (owner,k) ←acc
   let j ←layClean.free m owner (turns m) (bits h%(m+1)) (bits h)
   pure (owner.setIfInBounds j (some k),k+1)) (some (ow,l.length)))=some (ow',(l++l').length)/\Own m ow' (l++l')
 |[],l,ow,O,_=>⟨ow,by simp,by simpa using O⟩
 |h::l',l,ow,O,hl=>by
  rw[List.length_cons] at hl
  obtain⟨j,e,O'⟩:=O.add hm (h:=h) (by omega)
  obtain⟨ow',e2,O2⟩:=qkbz hm l' (l++[h]) _ O' (by simp;omega)
  refine⟨ow',?_,by simpa using O2⟩
  rw[List.foldl_cons]
  have hs:(do
   let (owner,k) ←(some (ow,l.length):Option (Array (Option Nat)×Nat))
   let j ←layClean.free m owner (turns m) (bits h%(m+1)) (bits h)
   pure (owner.setIfInBounds j (some k),k+1))=some (ow.setIfInBounds j (some l.length),(l++[h]).length):=by
   show (do
    let j ←layClean.free m ow (turns m) (bits h%(m+1)) (bits h)
    pure (ow.setIfInBounds j (some l.length),l.length+1))=_
   rw[e]
   simp
  rw[hs,e2]
  simp
theorem qgkz{α:Type}:∀l:List α,((List.range l.length).filterMap fun k=>l[k]?)=l
 |[]=>rfl
 |a::l=>by
  rw[List.length_cons,List.range_succ_eq_map,List.filterMap_cons_some (b:=a) (by simp),List.filterMap_map];have ih:=qgkz l;congr 1
theorem qubz{α:Type}(xs:Array α):((List.range xs.size).filterMap fun k=>xs[k]?)=xs.toList:=by
 have:=qgkz xs.toList;simpa using this
theorem qucz{m finger moves:Nat}{led plain:Bool}(hm:Masky m)(hs:Array Int)(hl:hs.size*5<m*3):
  ∃t order,laid m finger moves led plain hs=some (t,order)/\t.mask=m/\t.led=led/\t.plain=plain/\t.finger=finger/\order.toList.Perm (List.range hs.size)/\Tab t (order.toList.filterMap fun k=>hs[k]?):=by
 obtain⟨ow,e,O⟩:=qkbz hm hs.toList [] _ (Own.nil m) (by simp;omega);rw[List.nil_append] at e O;have hlc:layClean m hs=some ow:=by
  unfold layClean;rw[←Array.foldl_toList];have e':=congrArg (Option.map fun x:Array (Option Nat)×Nat=>x.1) e;exact e'
 have hmem:∀j k,(j,k)∈((List.range (m+1)).filterMap fun j=>(ow.getD j none).map (j,·))↔ow[j]?=some (some k):=fun j k=>by
  rw[List.mem_filterMap];constructor
  ·rintro⟨a,ha,q⟩;have ha':=List.mem_range.mp ha;cases ho:ow.getD a none with
   |none=>rw[ho] at q;cases q
   |some k'=>
    rw[ho] at q;cases q;have:ow.getD j none=ow[j]'(by rw[O.size];exact ha'):=by simp[Array.getD,O.size,ha']
    rw[this] at ho;rw[Array.getElem?_eq_getElem (by rw[O.size];exact ha'),ho]
  ·intro q;have hj:=(Array.getElem?_eq_some_iff.mp q).1;rw[O.size] at hj;refine⟨j,List.mem_range.mpr hj,?_⟩;have:ow.getD j none=some k:=by
    rw[Array.getD_eq_getD_getElem?,q];rfl
   rw[this];rfl
 generalize hL:((List.range (m+1)).filterMap fun j=>(ow.getD j none).map (j,·))=L at hmem;have rise:L.Pairwise fun a b=>a.1<b.1:=by
  rw[←hL];refine List.Pairwise.filterMap _ (fun a a' hlt b hb b' hb'=>?_) (List.pairwise_lt_range (n:=m+1));cases ho:ow.getD a none with
  |none=>rw[ho] at hb;cases hb
  |some k=>
   rw[ho] at hb;cases hb;cases ho':ow.getD a' none with
   |none=>rw[ho'] at hb';cases hb'
   |some k'=>
    rw[ho'] at hb';cases hb';exact hlt
 have nd:(L.map (·.2)).Nodup:=by
  refine List.Pairwise.map _ (R:=fun a b=>a.2≠b.2) (fun _ _ z=>z) ?_;refine List.Pairwise.imp_of_mem (fun {a b} ha hb hab=>?_) rise;intro q;obtain⟨j,k⟩:=a;obtain⟨j',k'⟩:=b;have ea:=(hmem j k).mp ha;have eb:=(hmem j' k').mp hb;have hab':j<j':=hab;have q':k=k':=q;subst q';have:=O.one j j' k ea eb;omega
 have hperm:(L.map (·.2)).Perm (List.range hs.size):=by
  refine (List.perm_ext_iff_of_nodup nd List.nodup_range).mpr fun k=>?_;rw[List.mem_map,List.mem_range];constructor
  ·rintro⟨⟨j,k'⟩,hjk,rfl⟩;obtain⟨h,e1,_⟩:=O.reach j k' ((hmem j k').mp hjk);have:=(List.getElem?_eq_some_iff.mp e1).1;simpa using this
  ·intro hk;obtain⟨j,ej⟩:=O.all k (by simpa using hk);exact⟨(j,k),(hmem j k).mpr ej,rfl⟩
 -- the hashes in the slots' order
 have hzip:∀j h,(j,h)∈(L.map (·.1)).zip ((L.map (·.2)).filterMap fun k=>hs[k]?)->∃k,(j,k)∈L/\hs[k]?=some h:=by
  have hall:∀p∈L,∃h,hs[p.2]?=some h:=fun p hp=>by
   obtain⟨h,e1,_⟩:=O.reach p.1 p.2 ((hmem p.1 p.2).mp hp);exact⟨h,by rw[←Array.getElem?_toList];exact e1⟩
  clear hmem rise nd hperm hL
  induction L with
  |nil=>intro j h q;cases q
  |cons p L ih=>
   intro j h q;obtain⟨h0,e0⟩:=hall p List.mem_cons_self;rw[List.map_cons,List.map_cons,List.filterMap_cons_some e0,List.zip_cons_cons] at q;rcases List.mem_cons.mp q with q|q
   ·cases q;exact⟨p.2,List.mem_cons_self,e0⟩
   ·obtain⟨k,q1,q2⟩:=ih (fun p hp=>hall p (List.mem_cons_of_mem _ hp)) j h q;exact⟨k,List.mem_cons_of_mem _ q1,q2⟩
 have hlenL:((L.map (·.2)).filterMap fun k=>hs[k]?).length=L.length:=by
  have h1:=(hperm.filterMap fun k=>hs[k]?).length_eq;rw[qubz] at h1;have h3:=hperm.length_eq;rw[List.length_map,List.length_range] at h3;rw[h1,h3];simp
 refine⟨_,_,by unfold laid;rw[hlc];rfl,rfl,rfl,rfl,rfl,?_,?_⟩
 ·rw[hL];exact hperm
 ·rw[hL];have hlen:L.length=hs.size:=by
   have:=hperm.length_eq;simpa using this
  refine⟨hm,?_,?_,fun j hj=>?_,rfl,?_,fun j h hj=>?_⟩
  ·rw[hlenL];simp
  ·exact List.Pairwise.map _ (fun _ _ z=>z) rise
  ·obtain⟨⟨j',k⟩,hp,rfl⟩:=List.mem_map.mp hj;have:=(Array.getElem?_eq_some_iff.mp ((hmem j' k).mp hp)).1;rw[O.size] at this;show j'≤m;omega
  ·rw[hlenL,hlen];exact hl
  ·obtain⟨k,q1,q2⟩:=hzip j h hj;obtain⟨h',e1,n,e2,e3⟩:=O.reach j k ((hmem j k).mp q1);have eh:h'=h:=by
    rw[Array.getElem?_toList,q2] at e1;exact (Option.some.inj e1).symm
   subst eh;refine⟨n,e2,fun n' hn'=>?_⟩;obtain⟨k',hk'⟩:=e3 n' hn';exact List.mem_map.mpr ⟨(_,k'),(hmem _ k').mpr hk',rfl⟩
end SetP
namespace SetM
open PySem SetP
section
variable {prog:Program} {w:World} {A:Around} {E:Value->Shared->Prop} {s:Shared}
abbrev hk(prog:Program)(w:World)(ks:List Int):Int:=tupleKeyHash (intKind prog w) ks
abbrev IsK(prog:Program)(w:World)(h:Heap)(ks:List Int)(a:Addr):Prop:=IsTupleKey (intKind prog w) h ks a
def ent(prog:Program)(w:World)(p:List Int×Addr):Int×Value:=(hk prog w p.1,.ref p.2)
structure SetAt(prog:Program)(w:World)(h:Heap)(a:Addr)(o:Obj)(es:Array (Int×Value))(ep:Nat)(t:SetTable)(xs:List (List Int×Addr)):Prop where
 at_:h.get? a=some o
 ex:o.ExactSet
 dat:o.data=.set es ep t
 ents:es.toList=xs.map (ent prog w)
 keys:∀p∈xs,IsK prog w h p.1 p.2
 nd:(xs.map (·.1)).Nodup
 plain:t.plain=true
 led:t.led = !(w.params.followText "set-order")
theorem qdaz{es:Array (Int×Value)}:(es.toList.map (·.1)).length=es.size:=by simp
theorem qb1z{es:Array (Int×Value)}{t:SetTable}(T:TabR t (es.toList.map (·.1))):t.fits es.size=true:=by
 unfold SetTable.fits;have h1:=T.size;rw[qdaz] at h1;have h2:=T.fit;rw[qdaz] at h2;have h3:t.fill=es.size:=by
  unfold SetTable.fill;rw[h1,T.nodum];rfl
 rw[h3,h1];simp;exact h2
theorem Tab.r{t:SetTable}{hs:List Int}(T:Tab t hs):TabR t hs:=by
 refine⟨T.mask,T.size,T.rise,T.bound,T.nodum,?_,T.reach⟩;have:=T.room;omega
theorem qudz{t:SetTable}(h:Masky t.mask):t.gaveWay=false:=by
 unfold SetTable.gaveWay;rcases h with e|e|e<;>rw[e]<;>rfl
theorem quez(n:Nat){v:Value}(h:carriedByValue v=true):ofAClassStatement n v=pure false:=by
 cases v with
 |ref a=>simp[carriedByValue] at h
 |_=>first|rfl|(cases n<;>rfl)
theorem qkcz{ks:List Int}{a:Addr}{Q:Bool->Shared->Prop}(hx:IsK prog w s.heap ks a)(h:Q false s):wpAny (model prog w) A (ofAClassStatement 8 (.ref a)) Q E s:=by
 have hT:=hx.typeIs;obtain⟨o,items,n,ho,hc,hd,hi⟩:=hx;unfold ofAClassStatement;refine wpAny_bind (wpAny_typeOf hT ?_);dsimp only;rw[if_pos (by decide)];refine wpAny_bind (wpAny_pure ?_);rw[if_neg (by decide)];refine wpAny_bind (wpAny_seqItems ho hd ?_);dsimp only;refine wpAny_bind ?_;rw[←Array.forIn_toList];refine wpAny_forIn_list _ (fun rest r s'=>r.1=none/\s'=s/\∀v∈rest,carriedByValue v=true) _ ?_ ?_ _ _ ⟨rfl,rfl,hi.byValue⟩
 ·rintro v rest r s' ⟨hr,rfl,hall⟩;rw[quez _ (hall v List.mem_cons_self)];refine wpAny_bind (wpAny_pure ?_);rw[if_neg Bool.false_ne_true];exact wpAny_pure ⟨rfl,rfl,fun u hu'=>hall u (List.mem_cons_of_mem _ hu')⟩
 ·rintro⟨r1,r2⟩ s' ⟨hr,rfl,_⟩;simp only at hr;subst hr;exact wpAny_pure h
theorem qufz{ks:List Int}{a:Addr}{Q:Bool->Shared->Prop}(hx:IsK prog w s.heap ks a)(l:List Value)(hl:∀v∈l,∃k y,v=.ref y/\IsK prog w s.heap k y)(h:Q false s):
  wpAny (model prog w) A (searchCouldBeSeen (.ref a) l) Q E s:=by
 unfold searchCouldBeSeen;refine wpAny_bind ?_;refine wpAny_forIn_list _ (fun rest r s'=>r.1=none/\s'=s/\∀v∈rest,∃k y,v=.ref y/\IsK prog w s.heap k y) _ ?_ ?_ _ _ ⟨rfl,rfl,hl⟩
 ·rintro v rest r s' ⟨hr,rfl,hall⟩;obtain⟨k,y,rfl,hy⟩:=hall v List.mem_cons_self;have hrest:∀v∈rest,∃k y,v=Value.ref y/\IsK prog w s'.heap k y:=fun v hv=>hall v (List.mem_cons_of_mem _ hv);dsimp only;by_cases hc:((a==y)||(carriedByValue (.ref a)&&carriedByValue (.ref y)))=true
  ·rw[if_pos hc];exact wpAny_pure ⟨rfl,rfl,hrest⟩
  ·rw[if_neg hc];refine wpAny_bind (wpAny_eqIsQuiet_tuple hx ?_);rw[if_neg (by decide)];refine wpAny_bind (wpAny_eqIsQuiet_tuple hy ?_);rw[if_neg (by decide)];refine wpAny_bind (qkcz hx ?_);rw[if_neg Bool.false_ne_true];refine wpAny_bind (qkcz hy ?_);rw[if_neg Bool.false_ne_true];exact wpAny_pure ⟨rfl,rfl,hrest⟩
 ·rintro⟨r1,r2⟩ s' ⟨hr,rfl,_⟩;simp only at hr;subst hr;exact wpAny_pure h
theorem qugz{ks:List Int}{a:Addr}{Q:Bool->Shared->Prop}(hx:IsK prog w s.heap ks a)(h:Q true s):wpAny (model prog w) A (hashByValue 8 (.ref a)) Q E s:=by
 have hT:=hx.typeIs;obtain⟨o,items,n,ho,hc,hd,hi⟩:=hx;unfold hashByValue;refine wpAny_bind (wpAny_specialOf hT F.slot_tuple_hash.lookup ?_);dsimp only;refine wpAny_bind (wpAny_seqItems ho hd ?_);refine wpAny_bind ?_;show wpAny _ _ (forIn items _ _) _ _ s;rw[←Array.forIn_toList];refine wpAny_forIn_list _ (fun rest r s'=>r.1=none/\s'=s/\∃l,ItemsAre (intKind prog w) l rest) _ ?_ ?_ _ _ ⟨rfl,rfl,ks,hi⟩
 ·rintro v rest r s' ⟨hr,rfl,l,hl⟩;cases hl with
  |@cons k v' _ _ h1 h2=>
   obtain⟨tk,rfl⟩:=Value.isInt_shape (k:=k) h1;have e:hashByValue 7 (.int k tk)=pure true:=by rfl
   rw[e];refine wpAny_bind (wpAny_pure ?_);rw[if_neg (by decide)];exact wpAny_pure ⟨rfl,rfl,_,h2⟩
 ·rintro⟨r1,r2⟩ s' ⟨hr,rfl,_⟩;simp only at hr;subst hr;exact wpAny_pure h
theorem quhz{es:Array (Int×Value)}{xs:List (List Int×Addr)}(he:es.toList=xs.map (ent prog w)){i:Nat}(hi:i<es.size):∃p,xs[i]?=some p/\es[i]?=some (ent prog w p):=by
 have hl:xs.length=es.size:=by
  have:=congrArg List.length he;simpa using this.symm
 obtain⟨p,hp⟩:∃p,xs[i]?=some p:=⟨xs[i]'(by omega),List.getElem?_eq_getElem (by omega)⟩;refine⟨p,hp,?_⟩;rw[←Array.getElem?_toList,he,List.getElem?_map,hp];rfl
theorem qkdz{a:Addr}{o:Obj}{es:Array (Int×Value)}{ep:Nat}{t:SetTable}{xs:List (List Int×Addr)}(S:SetAt prog w s.heap a o es ep t xs)(T:Tab t (es.toList.map (·.1)))(hu:A.units<cLine)
  {ks:List Int} {x:Addr} (hx:IsK prog w s.heap ks x) {ke:Nat} (hke:ke≤10*t.mask+130) (hemp:(sq t.mask (hk prog w ks) ke).j∉t.place.toList) (hliv:∀k,k<ke->(sq t.mask (hk prog w ks) k).j∈t.place.toList)
  {Q:SetFound->Shared->Prop} (hin:ks∈xs.map (·.1)->Q (.there none) s) (hout:ks∉xs.map (·.1)->Q (.free (sq t.mask (hk prog w ks) ke).j false) s):
  ∀(fuel n:Nat) (stand:Option SetTable.Probe),stand.getD (t.probeStart (hk prog w ks))=sq t.mask (hk prog w ks) n->n≤ke->ke-n<fuel ->
   (∀(k' i':Nat) p,k' < n->t.place[i']?=some (sq t.mask (hk prog w ks) k').j->xs[i']?=some p->p.1≠ks) ->
   wpAny (model prog w) A (setSearchFrom a (.ref x) (hk prog w ks) true fuel stand) Q E s
 |0,n,stand,_,_,hf,_=>by omega
 |fuel+1,n,stand,hst,hn,hf,hprev=>by
  have hsz:t.place.size=es.size:=by
   have:=T.size
   rw[qdaz] at this
   exact this
  have hfit:=qb1z (Tab.r T)
  have hal:∀(i:Nat) (p:List Int×Addr),xs[i]?=some p->((es[i]?).map fun z:Int×Value=>z.1).getD 0=hk prog w p.1:=fun i p hp=>by
   rw[←Array.getElem?_toList,S.ents,List.getElem?_map,hp]
   rfl
  unfold setSearchFrom
  refine wpAny_bind (wpAny_setState_of S.at_ S.dat hfit ?_)
  dsimp only
  rw[qudz T.mask,if_neg Bool.false_ne_true,hst]
  obtain⟨met,e,m⟩:=qt9z T (hashAt:=fun i=>((es[i]?).map fun z:Int×Value=>z.1).getD 0) hke hemp hliv hn
  erw [e]
  dsimp only
  cases m with
  |free h1 h5=>
   dsimp only
   refine wpAny_pure (hout fun hmem=>?_)
   obtain⟨p,hp,rfl⟩:=List.mem_map.mp hmem
   obtain⟨i,hi⟩:=List.getElem?_of_mem hp
   have hil:i<es.size:=by
    have h1:=(List.getElem?_eq_some_iff.mp hi).1
    have h2:=congrArg List.length S.ents
    simp at h2
    omega
   have hj:∃j,t.place[i]?=some j:=⟨t.place[i]'(by omega),by simp⟩
   obtain⟨j,hj⟩:=hj
   have hz:(j,hk prog w p.1)∈t.place.toList.zip (es.toList.map (·.1)):=by
    refine List.mem_of_getElem? (i:=i) ?_
    rw[List.getElem?_zip_eq_some]
    refine⟨by rw[Array.getElem?_toList];exact hj,?_⟩
    rw[S.ents,List.map_map,List.getElem?_map,hi]
    rfl
   obtain⟨k,hk1,hk2⟩:=T.reach _ _ hz
   have hkke:k<ke:=by
    refine Classical.byContradiction fun z=>hemp ?_
    by_cases q:k=ke
    ·rw[←q,hk1]
     exact List.mem_of_getElem? (by rw[Array.getElem?_toList];exact hj)
    ·exact hk2 ke (by omega)
   rw[←hk1] at hj
   by_cases hkn:k<n
   ·exact hprev k i p hkn hj hi rfl
   ·exact h5 k i (by omega) hkke hj (hal i p hi)
  |@cand k i h1 h2 h3 h4 h5=>
   dsimp only
   have hil:i<es.size:=by
    have:=(Array.getElem?_eq_some_iff.mp h3).1
    omega
   obtain⟨p,hp,hesi⟩:=quhz S.ents hil
   have hyk:=S.keys p (List.mem_of_getElem? hp)
   have hpk:p∈xs:=List.mem_of_getElem? hp
   have go:wpAny (model prog w) A (do
     let some (_,y):=es[i]? | unsupported "internal:set-entry"
     let equal ←holding [y] (eqBool y (.ref x))
     let (es',_,t') ←setState a
     if true&&equal then return .there none
     let some same:=t'.sameMemory t.moves t.mask|unsupported "set.changed-during-lookup:is-the-new-block-at-the-old-address"
     let still ←match (if same then t'.slot (sq t.mask (hk prog w ks) k).j else .empty) with
      |.live i'=>match es'[i']? with
       |some (_,y')=>do pure (if ←isSame y' y then some i' else none)
       |none=>pure none
      |_=>pure none
     match still with
     |none=>rule "set.search.anew";setSearchFrom a (.ref x) (hk prog w ks) true fuel none
     | some i'=>if equal then return .there (some i') else setSearchFrom a (.ref x) (hk prog w ks) true fuel (some (sq t.mask (hk prog w ks) (k+1)))) Q E s:=by
    rw[hesi]
    dsimp only[ent]
    refine wpAny_bind (wpAny_holding (wpAny_eqBool_tuple hu hyk hx ?_))
    refine wpAny_bind (wpAny_setState_of S.at_ S.dat hfit ?_)
    dsimp only
    by_cases heq:p.1=ks
    ·rw[decide_eq_true heq,if_pos (by decide)]
     exact wpAny_pure (hin (List.mem_map.mpr ⟨p,hpk,heq⟩))
    ·rw[decide_eq_false heq,if_neg (by decide)]
     have hsm:t.sameMemory t.moves t.mask=some true:=by unfold SetTable.sameMemory;simp
     rw[hsm]
     dsimp only
     rw[if_pos rfl,qj6z T.rise h3]
     dsimp only
     rw[hesi]
     dsimp only[ent]
     refine wpAny_bind (wpAny_isSame_ref_self ?_)
     rw[if_pos rfl]
     refine wpAny_bind (wpAny_pure ?_)
     dsimp only
     rw[if_neg Bool.false_ne_true]
     refine qkdz S T hu hx hke hemp hliv hin hout fuel (k+1) _ rfl (by omega) (by omega) fun k' i' p' hk' hpl hp'=>?_
     by_cases hkn:k' < n
     ·exact hprev k' i' p' hkn hpl hp'
     ·by_cases hkk:k'=k
      ·subst hkk
       have e1:=below_at T.rise h3
       have e2:=below_at T.rise hpl
       have:i'=i:=by omega
       subst this
       rw[hp] at hp'
       cases hp'
       exact heq
      ·intro he
       exact h5 k' i' (by omega) (by omega) hpl (by rw[hal i' p' hp',he])
   by_cases hled:t.led=true
   ·rw[hled]
    rw[if_neg (by decide)]
    exact go
   ·have hled':t.led=false:=by simpa using hled
    rw[hled']
    rw[if_pos (by decide)]
    refine wpAny_bind (qufz hx _ (fun v hv=>?_) ?_)
    ·obtain⟨e0,he0,rfl⟩:=List.mem_map.mp hv
     have he1:e0∈es.toList:=by
      have:=Array.mem_toList_iff.mp he0
      exact Array.mem_toList_iff.mpr (Array.mem_filter.mp this).1
     rw[S.ents] at he1
     obtain⟨p0,hp0,rfl⟩:=List.mem_map.mp he1
     exact⟨p0.1,p0.2,rfl,S.keys p0 hp0⟩
    ·rw[if_neg Bool.false_ne_true]
     exact go
end
end SetM
namespace SetM
open PySem SetP
section
variable {prog:Program} {w:World} {A:Around} {E:Value->Shared->Prop} {s:Shared}
def SetOn(prog:Program)(w:World)(h:Heap)(a:Addr)(xs:List (List Int×Addr)):Prop:=
 ∃o es ep t,SetAt prog w h a o es ep t xs/\Tab t (es.toList.map (·.1))
theorem qeuz{h h':Heap}{a y:Addr}{ks:List Int}{o:Obj}{es:Array (Int×Value)}{ep:Nat}{t:SetTable}(ho:h.get? a=some o)(hd:o.data=.set es ep t)(sb:Heap.SameBut a h h')(hy:IsK prog w h ks y):IsK prog w h' ks y:=by
 obtain⟨oy,items,n,hoy,hc,hdy,hi⟩:=hy;have ne:y≠a:=by
  intro e;subst e;rw[ho] at hoy;cases hoy;rw[hd] at hdy;cases hdy
 exact⟨oy,items,n,(sb.2 y ne).trans hoy,hc,hdy,hi⟩
theorem qkez{h:Heap}{a:Addr}{o:Obj}{es es':Array (Int×Value)}{ep:Nat}{t t':SetTable}(ho:h.get? a=some o)(hd:o.data=.set es ep t):
  (h.update a (Obj.putSet es' t')).get? a=some { o with data:=.set es' (ep+1) t' }:=by
 have q:=Heap.get?_update_self (Obj.putSet es' t') ho (by rw[putSet_of es' t' hd];rfl);rw[putSet_of es' t' hd] at q;exact q
theorem quiz:∀n,n<8->5≤n->SetTable.sizeAbove (SetTable.grown n)=32:=by decide +kernel
theorem qujz:∀n,n<32->19≤n->SetTable.sizeAbove (SetTable.grown n)=128:=by decide +kernel
theorem qukz{t:SetTable}{hs:List Int}(T:TabR t hs)(hf:t.tooFull=true)(h64:hs.length≤64):∃m,SetTable.sizeAbove (SetTable.grown hs.length)=m+1/\Masky m/\hs.length*5<m*3/\m+1≤128:=by
 have hfill:t.fill=hs.length:=by
  unfold SetTable.fill;rw[T.size,T.nodum];rfl
 have h':hs.length*5≥t.mask*3:=by
  unfold SetTable.tooFull at hf;rw[hfill] at hf;simpa using hf
 have hfit:=T.fit;rcases T.mask with e|e|e
 ·rw[e] at h' hfit;exact⟨31,quiz _ (by omega) (by omega),.inr (.inl rfl),by omega,by omega⟩
 ·rw[e] at h' hfit;exact⟨127,qujz _ (by omega) (by omega),.inr (.inr rfl),by omega,by omega⟩
 ·rw[e] at h';omega
theorem qulz{α β:Type}(f:α->β)(l:List α)(o:List Nat):(o.filterMap fun k=>(l.map f)[k]?)=(o.filterMap fun k=>l[k]?).map f:=by
 rw[List.map_filterMap];congr 1;funext k;rw[List.getElem?_map]
theorem qumz{a:Addr}{o:Obj}{es:Array (Int×Value)}{ep:Nat}{t:SetTable}{xs:List (List Int×Addr)}(S:SetAt prog w s.heap a o es ep t xs)(T:TabR t (es.toList.map (·.1)))(hf:t.tooFull=true)(h64:es.size≤64)
  {Q:Unit->Shared->Prop} (h:∀h' xs',Heap.SameBut a s.heap h'->SetOn prog w h' a xs'->xs'.Perm xs->Q () { s with heap:=h' }):
  wpAny (model prog w) A (setRelay a (SetTable.grown es.size)) Q E s:=by
 have hsz:(es.toList.map (·.1)).length=es.size:=qdaz
 obtain⟨m,hm1,hm2,hm3,hm4⟩:=qukz T hf (by rw[hsz];exact h64)
 rw[hsz] at hm1 hm3
 unfold setRelay
 refine wpAny_bind (wpAny_setState_of S.at_ S.dat (qb1z T) ?_)
 dsimp only
 rw[hm1,if_neg (by rw[sizeLine_eq];omega)]
 obtain⟨t2,order,e2,em,el,ep2,ef,hperm,T2⟩:=qucz (finger:=t.finger) (moves:=t.movedTo m) (led:=t.led) (plain:=t.plain) hm2 (es.map (·.1)) (by simpa using hm3)
 have erel:t.relaid (es.map (·.1)) (SetTable.grown es.size)=some (t2,order):=by
  unfold SetTable.relaid
  rw[hm1,Nat.add_sub_cancel]
  exact e2
 have hosz:(es.map (·.1)).size=es.size:=by simp
 rw[hosz] at hperm
 have hes2:(order.filterMap (es[·]?)).toList=(order.toList.filterMap fun k=>xs[k]?).map (ent prog w):=by
  rw[Array.toList_filterMap,←qulz,←S.ents]
  congr 1
  funext k
  rw[Array.getElem?_toList]
 have hxl:xs.length=es.size:=by
  have:=congrArg List.length S.ents
  simpa using this.symm
 have hxp:(order.toList.filterMap fun k=>xs[k]?).Perm xs:=by
  have:=hperm.filterMap fun k=>xs[k]?
  rw[←hxl,qgkz] at this
  exact this
 have hsz2:(order.filterMap (es[·]?)).size=es.size:=by
  have:=congrArg List.length hes2
  simp only[List.length_map] at this
  rw[hxp.length_eq,hxl] at this
  rw[←Array.length_toList]
  exact this
 refine wpAny_bind ?_
 show wpAny _ _ (do
  let some (t,order):=t.relaid (es.map (·.1)) (SetTable.grown es.size)|unsupported "internal:set-table-without-room"
  let es':=order.filterMap (es[·]?)
  if es'.size != es.size then unsupported "internal:set-table-lost-an-element"
  pure (es',t)) _ _ _
 rw[erel]
 dsimp only
 rw[hsz2,if_neg (by simp)]
 refine wpAny_pure ?_
 dsimp only
 refine wpAny_storeSet_of S.at_ S.dat ?_ (by rw[hsz2,sizeLine_eq];omega)
 have sb:=Heap.SameBut.update s.heap a (Obj.putSet (order.filterMap (es[·]?)) t2)
 refine h _ _ sb ⟨_,_,_,_,⟨qkez S.at_ S.dat,⟨S.ex.1,S.ex.2.1,S.ex.2.2⟩,rfl,hes2,fun p hp=>qeuz S.at_ S.dat sb (S.keys p (hxp.mem_iff.mp hp)),?_,ep2.trans S.plain,el.trans S.led⟩,?_⟩ hxp
 ·exact (hxp.map _).nodup_iff.mpr S.nd
 ·have eT:(order.filterMap (es[·]?)).toList.map (·.1)=order.toList.filterMap fun k=>(es.map (·.1))[k]?:=by
   rw[Array.toList_filterMap,List.map_filterMap]
   congr 1
   funext k
   simp
  rw[eT]
  exact T2
theorem qunz{a:Addr}{xs:List (List Int×Addr)}(S:SetOn prog w s.heap a xs)(h64:xs.length<64)(hu:A.units<cLine){ks:List Int}{x:Addr}(hx:IsK prog w s.heap ks x)
  {Q:Bool->Shared->Prop} (h:∀b h' tk xs',s.toks≤tk->Heap.SameBut a s.heap h'->SetOn prog w h' a xs'->(ks∈xs.map (·.1)->xs'.Perm xs)->(ks∉xs.map (·.1)->xs'.Perm ((ks,x)::xs))->Q b { s with heap:=h',toks:=tk }):
  wpAny (model prog w) A (setAdd a (.ref x)) Q E s:=by
 obtain⟨o,es,ep,t,S,T⟩:=S;have hxl:xs.length=es.size:=by
  have:=congrArg List.length S.ents;simpa using this.symm
 unfold setAdd;refine wpAny_holding (wpAny_bind (wpAny_pyHash_tuple hu hx ?_));unfold setAddHashed;refine wpAny_holding ?_;have hend:∀b h' xs',Heap.SameBut a s.heap h'->SetOn prog w h' a xs'->(ks∈xs.map (·.1)->xs'.Perm xs)->(ks∉xs.map (·.1)->xs'.Perm ((ks,x)::xs))->Q b { s with heap:=h',toks:=s.toks+(ks.length+1)}:=
  fun b h' xs' q1 q2 q3 q4=>h b h' _ xs' (Nat.le_add_right _ _) q1 q2 q3 q4
 obtain⟨ke,hke,hemp,hliv⟩:=qt8z T (hk prog w ks);unfold setAddHashedIn;refine wpAny_bind (wpAny_setState_of (s:={ s with toks:=s.toks+(ks.length+1)}) S.at_ S.dat (qb1z (Tab.r T)) ?_);dsimp only;rw[show byScan (.ref x) es=false from rfl,if_neg Bool.false_ne_true];refine wpAny_bind ?_;unfold setSearch;refine qkdz (s:={ s with toks:=s.toks+(ks.length+1)}) S T hu hx hke hemp hliv (fun hin=>?_) (fun hout=>?_) 100000 0 none rfl (Nat.zero_le _) (by rcases T.mask with e|e|e<;>rw[e] at hke<;>omega) fun k' i' p hk'=>absurd hk' (Nat.not_lt_zero _)
 ·dsimp only;exact wpAny_pure (hend false s.heap xs (.refl _ _) ⟨o,es,ep,t,S,T⟩ (fun _=>.refl _) fun z=>absurd hin z)
 ·dsimp only;refine wpAny_bind (wpAny_setState_of (s:={ s with toks:=s.toks+(ks.length+1)}) S.at_ S.dat (qb1z (Tab.r T)) ?_);dsimp only;rw[quaz T.nodum];dsimp only;rw[S.plain,if_pos rfl];refine wpAny_bind (qugz (s:={ s with toks:=s.toks+(ks.length+1)}) hx ?_);rw[if_pos rfl];have TR:=T.put hemp hliv;generalize hp:SetTable.below t.place (sq t.mask (hk prog w ks) ke).j=p at TR ⊢;have hes1:(SetTable.insertAt es p (hk prog w ks,Value.ref x)).toList=(xs.take p++(ks,x)::xs.drop p).map (ent prog w):=by
   rw[qb0z,S.ents,List.map_append,List.map_cons,List.map_take,List.map_drop];rfl
  have hhs:(SetTable.insertAt es p (hk prog w ks,Value.ref x)).toList.map (·.1)=(es.toList.map (·.1)).take p++hk prog w ks::(es.toList.map (·.1)).drop p:=by
   rw[qb0z,List.map_append,List.map_cons,List.map_take,List.map_drop]
  have hsz1:(SetTable.insertAt es p (hk prog w ks,Value.ref x)).size=es.size+1:=by
   rw[←Array.length_toList,qb0z,(qcfz p es.toList _).length_eq,List.length_cons,Array.length_toList]
  rw[←hhs] at TR;refine wpAny_bind (wpAny_storeSet_of (s:={ s with toks:=s.toks+(ks.length+1)}) S.at_ S.dat ?_ (by rw[hsz1,sizeLine_eq];omega));have sb:=Heap.SameBut.update s.heap a (Obj.putSet (SetTable.insertAt es p (hk prog w ks,Value.ref x)) { t with place:=SetTable.insertAt t.place p (sq t.mask (hk prog w ks) ke).j,dummies:=#[],plain:=true });have hpx:(xs.take p++(ks,x)::xs.drop p).Perm ((ks,x)::xs):=qcfz p xs _;have S1:SetAt prog w (s.heap.update a (Obj.putSet (SetTable.insertAt es p (hk prog w ks,Value.ref x)) { t with place:=SetTable.insertAt t.place p (sq t.mask (hk prog w ks) ke).j,dummies:=#[],plain:=true })) a { o with data:=.set (SetTable.insertAt es p (hk prog w ks,Value.ref x)) (ep+1) { t with place:=SetTable.insertAt t.place p (sq t.mask (hk prog w ks) ke).j,dummies:=#[],plain:=true }} (SetTable.insertAt es p (hk prog w ks,Value.ref x)) (ep+1)
    { t with place:=SetTable.insertAt t.place p (sq t.mask (hk prog w ks) ke).j,dummies:=#[],plain:=true } (xs.take p++(ks,x)::xs.drop p):=by
   refine⟨qkez S.at_ S.dat,⟨S.ex.1,S.ex.2.1,S.ex.2.2⟩,rfl,hes1,fun q hq=>?_,?_,rfl,S.led⟩
   ·rcases List.mem_cons.mp (hpx.mem_iff.mp hq) with e|e
    ·rw[e];exact qeuz S.at_ S.dat sb hx
    ·exact qeuz S.at_ S.dat sb (S.keys q e)
   ·refine (hpx.map _).nodup_iff.mpr ?_;rw[List.map_cons,List.nodup_cons];exact⟨hout,S.nd⟩
  have TR':TabR { t with place:=SetTable.insertAt t.place p (sq t.mask (hk prog w ks) ke).j,dummies:=#[],plain:=true } ((SetTable.insertAt es p (hk prog w ks,Value.ref x)).toList.map (·.1)):=
   ⟨TR.mask,TR.size,TR.rise,TR.bound,TR.nodum,TR.fit,TR.reach⟩
  by_cases hfull:({ t with place:=SetTable.insertAt t.place p (sq t.mask (hk prog w ks) ke).j,dummies:=#[],plain:=true }:SetTable).tooFull=true
  ·rw[hfull,if_pos (by decide)];refine wpAny_bind ?_;rw[←hsz1];refine qumz (s:={ s with heap:=s.heap.update a _,toks:=s.toks+(ks.length+1)}) S1 TR' hfull (by rw[hsz1];omega) fun h' xs' sb' S2 pm=>?_;exact wpAny_pure (hend true h' xs' (sb.trans sb') S2 (fun z=>absurd z hout) fun _=>pm.trans hpx)
  ·have hfull':({ t with place:=SetTable.insertAt t.place p (sq t.mask (hk prog w ks) ke).j,dummies:=#[],plain:=true }:SetTable).tooFull=false:=by simpa using hfull
   rw[hfull',if_neg (by decide)];exact wpAny_pure (hend true _ _ sb ⟨_,_,_,_,S1,TR'.tab hfull'⟩ (fun z=>absurd z hout) fun _=>hpx)
end
end SetM
namespace SetM
open PySem SetP
theorem slot_sit_next:Slot "set_iterator" "__next__" "set_iterator.__next__":=
 .of (owner:="set_iterator") (n:="__next__")
  (by rw[typeLookup_type,builtinLookup_eq_fast];kernel_rfl)
  (by decide +kernel) (by decide +kernel) (by decide +kernel)
  (by first|exact .inl (by decide +kernel)|exact .inr (by decide +kernel))
  (by rw[isSubtype_type];kernel_rfl)
theorem qkfz:Slot "set_iterator" "__iter__" "set_iterator.__iter__":=
 .of (owner:="set_iterator") (n:="__iter__")
  (by rw[typeLookup_type,builtinLookup_eq_fast];kernel_rfl)
  (by decide +kernel) (by decide +kernel) (by decide +kernel)
  (by first|exact .inl (by decide +kernel)|exact .inr (by decide +kernel))
  (by rw[isSubtype_type];kernel_rfl)
theorem qkgz:entryFor table "set_iterator.__next__" = some Builtin.«set_iterator.__next__»:=entryFor_of_tree (by kernel_rfl)
theorem quoz:entryFor table "set.__iter__" = some Builtin.«frozenset.__iter__»:=
 entryFor_alias (id':="frozenset.__iter__") (by rw[fastTable_eq_tree];kernel_rfl) (by decide +kernel) (by decide +kernel) (by rw[fastTable_eq_tree];kernel_rfl)
theorem qkhz:Manifest.owners.lookup (String.ofList ['r','o','t','a','r','e','t','i','_','t','e','s'].reverse)=some Manifest.sig_set_iterator:=by kernel_rfl
theorem qkiz(a:Value):argsOk "set_iterator.__next__" ⟨[a],[]⟩:=by
 unfold argsOk;rw[signature?_of (id:="set_iterator.__next__") (n:=['_','_','t','x','e','n','_','_']) (o:=['r','o','t','a','r','e','t','i','_','t','e','s']) (by kernel_rfl) qkhz]
 kernel_rfl
theorem qkjz{α:Type}(next:Nat->Nat):∀(fuel k:Nat) (left:List α) (out:Array α),left.length≤fuel->(pickOrder.go next fuel k left out).toList.Perm (out.toList++left)
 |0,k,left,out,h=>by
  have:left=[]:=List.length_eq_zero_iff.mp (by omega);subst this;show out.toList.Perm (out.toList++[]);rw[List.append_nil]
 |fuel+1,k,left,out,h=>by
  unfold pickOrder.go;cases hl:left[next k%left.length]? with
  |none=>
   have:left=[]:=by
    cases left with
    |nil=>rfl
    |cons a l=>
     have:=Nat.mod_lt (next k) (show 0<(a::l).length by simp)
     rw[List.getElem?_eq_getElem this] at hl;cases hl
   subst this;show out.toList.Perm (out.toList++[]);rw[List.append_nil]
  |some x=>
   have hlt:=(List.getElem?_eq_some_iff.mp hl).1;have ih:=qkjz next fuel (k+1) (left.eraseIdx (next k%left.length)) (out.push x) (by rw[List.length_eraseIdx];split<;>omega)
   refine ih.trans ?_;rw[Array.toList_push,List.append_assoc];refine List.Perm.append_left _ ?_;obtain⟨_,e⟩:=List.getElem?_eq_some_iff.mp hl;rw[←e,List.eraseIdx_eq_take_drop_succ];have q:=List.perm_middle (a:=left[next k%left.length]) (l₁:=left.take (next k%left.length)) (l₂:=left.drop (next k%left.length+1))
   rw[List.getElem_cons_drop,List.take_append_drop] at q;exact q.symm
theorem qupz{α:Type}(next:Nat->Nat)(xs:Array α):(pickOrder next xs).toList.Perm xs.toList:=by
 have:=qkjz next xs.size 0 xs.toList #[] (by simp)
 unfold pickOrder;simpa using this
def byText(w:World):Bool:=w.params.followText "set-order"
def walkL(w:World)(a:Addr)(ep:Nat)(es:Array (Int×Value)):List (Int×Value):=if byText w then (pickOrder (w.params.setOrder a ep) es).toList else es.toList
theorem walkL_perm(w:World)(a:Addr)(ep:Nat)(es:Array (Int×Value)):(walkL w a ep es).Perm es.toList:=by
 unfold walkL;split
 ·exact qupz _ _
 ·exact .refl _
def IsSit(h:Heap)(it a:Addr)(slot i n ep:Nat):Prop:=h.get? it=some { cls:=.type "set_iterator",data:=.fields #[rawInt slot,rawInt i,.ref a,rawInt n,rawInt ep]}
def SlotOk(w:World)(t:SetTable)(slot i:Nat):Prop:=byText w=true∨SetTable.below t.place slot=i
section
variable {prog:Program} {w:World} {A:Around} {E:Value->Shared->Prop} {s:Shared}
theorem qglz{Q:Bool->Shared->Prop}(h:Q (byText w) s):wpAny (model prog w) A setsByText Q E s:=by
 unfold setsByText;exact wpAny_bind (wpAny_askSetting (wpAny_pure h))
theorem quqz{a:Addr}{o:Obj}{es:Array (Int×Value)}{ep:Nat}{t:SetTable}{xs:List (List Int×Addr)}(S:SetAt prog w s.heap a o es ep t xs)(T:Tab t (es.toList.map (·.1)))
  {Q:Value->Shared->Prop} (h:Q (.ref s.heap.objs.size) { s with heap:=s.heap.push { cls:=.type "set_iterator",data:=.fields #[rawInt (0:Nat),rawInt (0:Nat),.ref a,rawInt es.size,rawInt ep]}}):
  wpAny (model prog w) A (pyIter (.ref a)) Q E s:=by
 have hT:s.TypeIs (.ref a) "set":=⟨o,S.at_,S.ex.1⟩;have hfit:=qb1z (Tab.r T);refine wpAny_pyIter_slot hT F.slot_set_iter (wpAny_call_entry F.slot_set_iter hT quoz ?_ (F.args_set_iter_1 _));unfold Builtin.«frozenset.__iter__»;show wpAny _ _ (Builtin.Frozenset.slot0 "__iter__" ⟨[.ref a],[]⟩ >>= _) _ _ s;refine wpAny_bind (m:=Builtin.Frozenset.slot0 "__iter__" ⟨[.ref a],[]⟩) (wpAny_of_eq (a:=a) rfl ?_);unfold Builtin.Frozenset.sizeOf setEntries;refine wpAny_bind (wpAny_bind (wpAny_bind (wpAny_setState_of S.at_ S.dat hfit (wpAny_pure (wpAny_pure ?_)))));unfold setDrawn;refine wpAny_bind (wpAny_bind (wpAny_setState_of S.at_ S.dat hfit ?_));refine wpAny_bind (qglz (wpAny_pure ?_));have hnd:(!byText w&&(!t.plain&&decide (es.size > 1)))=false:=by rw[S.plain];simp
 show wpAny _ _ (if (!byText w&&(!t.plain&&decide (es.size > 1)))=true then _ else _) _ _ s;rw[hnd,if_neg Bool.false_ne_true];refine wpAny_bind (wpAny_pure ?_);refine wpAny_bind (wpAny_setEpoch_of S.at_ S.dat hfit ?_);refine wpAny_bind ?_;unfold newFields;refine wpAny_newObj_type ?_;refine wpAny_pure ⟨_,rfl,"set_iterator",_,⟨_,Heap.get?_push_size _ rfl,rfl⟩,slot_sit_next.lookup,h⟩
theorem qkkz{a:Addr}{o:Obj}{es:Array (Int×Value)}{ep:Nat}{t:SetTable}{xs:List (List Int×Addr)}(S:SetAt prog w s.heap a o es ep t xs)(T:Tab t (es.toList.map (·.1))){slot i:Nat}(hsl:SlotOk w t slot i)
  {Q:Option (Value×Nat)->Shared->Prop} (h1:∀p slot',(walkL w a ep es)[i]?=some p->SlotOk w t slot' (i+1)->Q (some (p.2,slot')) s) (h2:(walkL w a ep es)[i]?=none->Q none s):
  wpAny (model prog w) A (setNext a slot i ep) Q E s:=by
 have hfit:=qb1z (Tab.r T);have hsz:t.place.size=es.size:=by
  have:=T.size;rw[qdaz] at this;exact this
 unfold setNext;refine wpAny_bind (wpAny_setState_of S.at_ S.dat hfit ?_);dsimp only;refine wpAny_bind (qglz ?_);unfold walkL at h1 h2;cases hbt:byText w with
 |true=>
  rw[hbt] at h1 h2;rw[if_pos rfl];simp only[if_true,Array.getElem?_toList] at h1 h2;rw[if_neg (by simp)];unfold setWalk;refine wpAny_bind (wpAny_bind (wpAny_setState_of S.at_ S.dat hfit ?_));dsimp only;refine wpAny_bind (qglz ?_);rw[hbt,if_pos rfl];refine wpAny_bind (wpAny_askSetting (wpAny_pure ?_));refine wpAny_pure ?_;show Q (Option.map (fun e=>(e.snd,slot)) (pickOrder (w.params.setOrder a ep) es)[i]?) s;cases hp:(pickOrder (w.params.setOrder a ep) es)[i]? with
  |none=>exact h2 hp
  |some p=>exact h1 p slot hp (.inl hbt)
 |false=>
  rw[hbt] at h1 h2;rw[if_neg Bool.false_ne_true];simp only[Bool.false_eq_true,if_false,Array.getElem?_toList] at h1 h2;have hled:t.led=true:=by
   rw[S.led];show (!byText w)=true;rw[hbt];rfl
  have hb:SetTable.below t.place slot=i:=by
   rcases hsl with z|z
   ·rw[hbt] at z;cases z
   ·exact z
  have hnd:(!t.plain&&decide (es.size > 1))=false:=by rw[S.plain];simp
  show wpAny _ _ (if (!t.plain&&decide (es.size > 1))=true then _ else _) _ _ s;rw[hnd,if_neg Bool.false_ne_true];refine wpAny_bind ?_;show wpAny _ _ (if (!t.led && !es.isEmpty)=true then _ else _) _ _ s;rw[hled,if_neg (by simp)];refine wpAny_pure ?_;rw[hb];cases hp:es[i]? with
  |none=>
   refine wpAny_pure ?_;have hpl:t.place[i]?=none:=by
    have:=Array.getElem?_eq_none_iff.mp hp;exact Array.getElem?_eq_none_iff.mpr (by omega)
   exact h2 hp
  |some p=>
   have hil:=(Array.getElem?_eq_some_iff.mp hp).1;have hj:t.place[i]?=some (t.place[i]'(by omega)):=by simp[hsz,hil]
   rw[hj];obtain⟨ph,pv⟩:=p;refine wpAny_pure (h1 (ph,pv) _ hp (.inr ?_))
   -- the next place
   obtain⟨b0,b1,b2⟩:=qetz (j:=t.place[i]'(by omega)+1) T.rise;refine Classical.byContradiction fun hne=>?_;by_cases hlt:SetTable.below t.place (t.place[i]'(by omega)+1)≤i
   ·have:=b2 i _ hlt hj;omega
   ·have hgt:i+1<SetTable.below t.place (t.place[i]'(by omega)+1):=by omega
    have hi1:i+1<t.place.size:=by omega
    have e1:t.place[i+1]?=some (t.place[i+1]):=by simp[hi1]
    have q:=b1 (i+1) _ hgt e1;have pw:=List.pairwise_iff_getElem.mp T.rise i (i+1) (by simp;omega) (by simpa using hi1) (Nat.lt_succ_self i);simp at pw;omega
theorem qgmz{it a:Addr}{slot i n ep:Nat}(hit:IsSit s.heap it a slot i n ep):s.TypeIs (.ref it) "set_iterator":=⟨_,hit,rfl⟩
theorem qklz{a it:Addr}{o:Obj}{es:Array (Int×Value)}{ep:Nat}{t:SetTable}{xs:List (List Int×Addr)}(S:SetAt prog w s.heap a o es ep t xs)(T:Tab t (es.toList.map (·.1))){slot i:Nat}(hit:IsSit s.heap it a slot i es.size ep)
  {P:PySem.Fin->Shared->Prop} (h:wpAny (model prog w) A (do
   match ←setNext a slot i ep with
   |some (x,next)=>
    setField (.ref it) 0 (rawInt next)
    setField (.ref it) 1 (rawInt ((i:Int)+1))
    ret x
   | none=>setField (.ref it) 2 .none;raiseNew (←newExc (.type "StopIteration") [])) P E s):
  wpAny (model prog w) A (Builtin.«set_iterator.__next__» ⟨[.ref it],[]⟩) P E s:=by
 have hfit:=qb1z (Tab.r T);unfold Builtin.«set_iterator.__next__»;refine wpAny_bind (m:=slotArgs "__next__" 0 ⟨[.ref it],[]⟩) (wpAny_of_eq (a:=(.ref it,[])) rfl ?_);refine wpAny_bind (wpAny_fieldsOf hit rfl ?_);dsimp only[rawInt];unfold setEntries;refine wpAny_bind (wpAny_bind (wpAny_setState_of S.at_ S.dat hfit (wpAny_pure ?_)));rw[if_neg (by simp)];exact h
theorem qurz{a it:Addr}{o:Obj}{es:Array (Int×Value)}{ep:Nat}{t:SetTable}{xs:List (List Int×Addr)}(S:SetAt prog w s.heap a o es ep t xs)(T:Tab t (es.toList.map (·.1))){slot i:Nat}(hsl:SlotOk w t slot i)(hit:IsSit s.heap it a slot i es.size ep)
  {p:Int×Value} (hp:(walkL w a ep es)[i]?=some p) {Q:Option Value->Shared->Prop}
  (h:∀h' slot',IsSit h' it a slot' (i+1) es.size ep->SlotOk w t slot' (i+1)->Heap.SameBut it s.heap h'->Q (some p.2) { s with heap:=h' }):wpAny (model prog w) A (pyNext (.ref it)) Q E s:=by
 have hT:=qgmz hit;unfold pyNext;refine wpAny_bind (wpAny_attempt (wpAny_callSpecial?_slot (name:=Str.ofString "__next__") hT slot_sit_next
  (wpAny_call_entry slot_sit_next hT qkgz (qklz S T hit (wpAny_bind (qkkz S T hsl (fun q slot' hq hs'=>?_) fun hn=>?_))) (qkiz _))))
 ·rw[hp] at hq;cases hq;dsimp only;refine wpAny_bind (wpAny_setField_rec hit (by simp) fun h1 e1 sb1=>?_);refine wpAny_bind (wpAny_setField_rec (s:={ s with heap:=h1 }) e1 (by simp) fun h2 e2 sb2=>?_)
  refine wpAny_pure ⟨_,rfl,wpAny_pure (h h2 slot' ?_ hs' (sb1.trans sb2))⟩;unfold IsSit;rw[e2];rfl
 ·rw[hp] at hn;cases hn
theorem qusz{a it:Addr}{o:Obj}{es:Array (Int×Value)}{ep:Nat}{t:SetTable}{xs:List (List Int×Addr)}(hh:A.handled=none)(S:SetAt prog w s.heap a o es ep t xs)(T:Tab t (es.toList.map (·.1))){slot i:Nat}(hsl:SlotOk w t slot i)(hit:IsSit s.heap it a slot i es.size ep)
  (hp:(walkL w a ep es)[i]?=none) {Q:Option Value->Shared->Prop}
  (h:∀h',Heap.ExtBut it s.heap h'->Q none { s with heap:=h' }):wpAny (model prog w) A (pyNext (.ref it)) Q E s:=by
 have hT:=qgmz hit;unfold pyNext;refine wpAny_bind (wpAny_attempt (wpAny_callSpecial?_slot (name:=Str.ofString "__next__") hT slot_sit_next
  (wpAny_call_entry slot_sit_next hT qkgz (qklz S T hit (wpAny_bind (qkkz S T hsl (fun q slot' hq hs'=>?_) fun hn=>?_))) (qkiz _))))
 ·rw[hp] at hq;cases hq
 ·dsimp only;refine wpAny_bind (wpAny_setField_rec hit (by simp) fun h1 e1 sb1=>?_);refine wpAny_bind ?_;simp only[newExc,newTuple];refine wpAny_bind (wpAny_newObj_type ?_ (by size_fits));refine wpAny_bind (m:=firstArgMember _ _) (wpAny_of_eq (a:=Value.none) (by first|rfl|(simp only[firstArgMember];rfl)) ?_)
  refine wpAny_newObj_type ?_ (by size_fits);simp only[raiseNew];refine wpAny_bind (wpAny_handled ?_);rw[show A.in1.handled=none from hh];refine wpAny_bind (wpAny_pure (wpAny_throw ?_));refine wpAny_bind (wpAny_isInstance (T:="StopIteration") (b:=true) ⟨_,Heap.get?_push_size _ rfl,rfl⟩ isSubtype_stop ?_);refine wpAny_pure (h _ fun b ob hb e=>?_);exact Heap.get?_push_of_some _ (Heap.get?_push_of_some _ ((sb1.2 b hb).trans e))
end
end SetM
namespace SetM
open PySem SetP
section
variable {prog:Program} {w:World} {A:Around} {E:Value->Shared->Prop} {s:Shared}
theorem SetAt.kept{h h':Heap}{a:Addr}{o:Obj}{es:Array (Int×Value)}{ep:Nat}{t:SetTable}{xs:List (List Int×Addr)}(S:SetAt prog w h a o es ep t xs)
  (k:∀b∈a::xs.map (·.2),∀ob,h.get? b=some ob->h'.get? b=some ob):SetAt prog w h' a o es ep t xs:=by
 refine⟨k a List.mem_cons_self _ S.at_,S.ex,S.dat,S.ents,fun p hp=>?_,S.nd,S.plain,S.led⟩;obtain⟨oy,items,n,ho,r⟩:=S.keys p hp;exact⟨oy,items,n,k _ (List.mem_cons_of_mem _ (List.mem_map.mpr ⟨p,hp,rfl⟩)) _ ho,r⟩
theorem SetAt.ne_sit{h:Heap}{a it:Addr}{o:Obj}{es:Array (Int×Value)}{ep ep':Nat}{t:SetTable}{xs:List (List Int×Addr)}{slot i n:Nat}{b:Addr}(S:SetAt prog w h a o es ep t xs)(hit:IsSit h it b slot i n ep'):
  ∀c∈a::xs.map (·.2),c≠it:=fun c hc e=>by
 subst e;unfold IsSit at hit;rcases List.mem_cons.mp hc with e|e
 ·rw[e,S.at_] at hit;cases hit;have:=S.dat;cases this
 ·obtain⟨p,hp,rfl⟩:=List.mem_map.mp e;obtain⟨oy,items,k,ho,hc,hd,_⟩:=S.keys p hp;rw[ho] at hit;cases hit;cases hd
theorem qutz(hh:A.handled=none){a it:Addr}{o:Obj}{es:Array (Int×Value)}{ep:Nat}{t:SetTable}{xs:List (List Int×Addr)}(T:Tab t (es.toList.map (·.1))):
  Walks prog w A it (it::a::xs.map (·.2)) [it] es.size (fun i v=>∃p,(walkL w a ep es)[i]?=some p/\v=p.2)
   (fun i h=>∃slot,IsSit h it a slot i es.size ep/\SlotOk w t slot i/\SetAt prog w h a o es ep t xs) where
 sub:=fun b hb=>by
  have:b=it:=by simpa using hb
  simp[this]
 frame:=fun i h h' ⟨slot,h1,h2,h3⟩ k=>⟨slot,k it List.mem_cons_self _ h1,h2,h3.kept fun b hb ob e=>k b (List.mem_cons_of_mem _ hb) ob e⟩
 item:=fun i s Q E hi ⟨slot,h1,h2,h3⟩ hQ=>by
  have hlen:(walkL w a ep es).length=es.size:=by rw[(walkL_perm w a ep es).length_eq];simp
  have hp:(walkL w a ep es)[i]?=some ((walkL w a ep es)[i]'(by omega)):=List.getElem?_eq_getElem (by omega);refine qurz h3 T h2 h1 hp fun h' slot' q1 q2 sb=>?_;refine hQ _ h' s.toks ⟨_,hp,rfl⟩ ⟨slot',q1,q2,h3.kept fun b hb ob e=>(sb.2 b (h3.ne_sit h1 b hb)).trans e⟩ fun b ob hb e=>?_;exact (sb.2 b (by simpa using hb)).trans e
 done:=fun s Q E ⟨slot,h1,h2,h3⟩ hQ=>by
  have hlen:(walkL w a ep es).length=es.size:=by rw[(walkL_perm w a ep es).length_eq];simp
  refine qusz hh h3 T h2 h1 (List.getElem?_eq_none_iff.mpr (by omega)) fun h' q=>?_;exact hQ h' s.toks fun b ob hb e=>q b ob (by simpa using hb) e
 self:=fun i s Q E ⟨slot,h1,h2,h3⟩ h=>by
  have hT:=qgmz h1;refine wpAny_pyIter_slot hT qkfz (wpAny_call_entry qkfz hT (b:=Builtin.«dict_keyiterator.__iter__») ?_ ?_ ?_)
  ·exact entryFor_alias (id':="dict_keyiterator.__iter__") (by kernel_rfl) (by decide +kernel) (by decide +kernel) (by kernel_rfl)
  ·show wpAny _ _ (ret (.ref it)) _ _ s;exact wpAny_pure ⟨_,rfl,"set_iterator",_,hT,slot_sit_next.lookup,h⟩
  ·unfold argsOk;rw[signature?_of (id:="set_iterator.__iter__") (n:=['_','_','r','e','t','i','_','_']) (o:=['r','o','t','a','r','e','t','i','_','t','e','s']) (by kernel_rfl) qkhz]
   kernel_rfl
theorem wp_collect_set(hh:A.handled=none){a:Addr}{o:Obj}{es:Array (Int×Value)}{ep:Nat}{t:SetTable}{xs:List (List Int×Addr)}(S:SetAt prog w s.heap a o es ep t xs)(T:Tab t (es.toList.map (·.1)))(h64:es.size≤64)
  {Q:List Value->Shared->Prop} (h:∀s',Moved [] (fun x y=>y=x) s s'->Q ((walkL w a ep es).map (·.2)) s'):wpAny (model prog w) A (collect (.ref a)) Q E s:=by
 have hT:s.TypeIs (.ref a) "set":=⟨o,S.at_,S.ex.1⟩;have hal:a<s.heap.objs.size:=Heap.lt_size S.at_;unfold collect;refine wpAny_bind (wpAny_runValue (codeAny_builtin F.entry_proto_collect ?_));rw[Around.under_plainId F.plain_proto_collect _];show wpAny _ A.in1 (newList [] >>= fun q=>again (.builtin "list.__iadd__" ⟨[q,.ref a],[]⟩)) _ _ s;refine wpAny_bind (wpAny_newObj_type ?_);refine wpAny_pure ⟨plainId_quiet F.plain_list_iadd _,codeAny_builtin F.entry_list_iadd ?_⟩;rw[Around.under_plainId F.plain_list_iadd _];show wpAny _ A.in1 (Builtin.List.listExtendWith (.ref s.heap.objs.size) (.ref a) (.ref s.heap.objs.size)) _ _ _;unfold Builtin.List.listExtendWith;have S1:SetAt prog w (s.heap.push { cls:=.type "list",data:=.seq ([]:List Value).toArray }) a o es ep t xs:=S.kept fun b _ ob e=>Heap.get?_push_of_some _ e;have hT1:Shared.TypeIs { s with heap:=s.heap.push { cls:=.type "list",data:=.seq ([]:List Value).toArray }} (.ref a) "set":=⟨o,S1.at_,S.ex.1⟩;refine wpAny_bind (wpAny_typeOf hT1 ?_);have ne:s.heap.objs.size≠a:=Nat.ne_of_gt hal;have e1:Builtin.List.listSameRef (.ref s.heap.objs.size) (.ref a)=false:=by simp[Builtin.List.listSameRef,ne]
 rw[if_neg (by rw[e1];decide)];refine wpAny_bind (quqz (s:={ s with heap:=s.heap.push { cls:=.type "list",data:=.seq ([]:List Value).toArray }}) S1 T ?_);have S2:=S1.kept (h':=(s.heap.push { cls:=.type "list",data:=.seq ([]:List Value).toArray }).push { cls:=.type "set_iterator",data:=.fields #[rawInt (0:Nat),rawInt (0:Nat),.ref a,rawInt es.size,rawInt ep]}) fun b _ ob e=>Heap.get?_push_of_some _ e;have hit:IsSit ((s.heap.push { cls:=.type "list",data:=.seq ([]:List Value).toArray }).push { cls:=.type "set_iterator",data:=.fields #[rawInt (0:Nat),rawInt (0:Nat),.ref a,rawInt es.size,rawInt ep]})
   (s.heap.push { cls:=.type "list",data:=.seq ([]:List Value).toArray }).objs.size a 0 0 es.size ep:=Heap.get?_push_size _ rfl
 have hS0:((s.heap.push { cls:=.type "list",data:=.seq ([]:List Value).toArray }).push { cls:=.type "set_iterator",data:=.fields #[rawInt (0:Nat),rawInt (0:Nat),.ref a,rawInt es.size,rawInt ep]}).get? s.heap.objs.size
   = some { cls:=.type "list",data:=.seq ([]:List Value).toArray }:=Heap.get?_push_of_some _ (Heap.get?_push_size _ rfl)
 have keep0:∀b ob,s.heap.get? b=some ob->((s.heap.push { cls:=.type "list",data:=.seq ([]:List Value).toArray }).push { cls:=.type "set_iterator",data:=.fields #[rawInt (0:Nat),rawInt (0:Nat),.ref a,rawInt es.size,rawInt ep]}).get? b=some ob:=
  fun b ob e=>Heap.get?_push_of_some _ (Heap.get?_push_of_some _ e)
 have hI:(s.heap.push { cls:=.type "list",data:=.seq ([]:List Value).toArray }).objs.size=s.heap.objs.size+1:=Heap.size_push ..;generalize (s.heap.push { cls:=.type "list",data:=.seq ([]:List Value).toArray }).objs.size=it at hI hit ⊢;generalize ((s.heap.push { cls:=.type "list",data:=.seq ([]:List Value).toArray }).push { cls:=.type "set_iterator",data:=.fields #[rawInt (0:Nat),rawInt (0:Nat),.ref a,rawInt es.size,rawInt ep]})=hp at S2 hit hS0 keep0 ⊢;refine wpAny_bind (wpAny_holding ?_);have hT2:Shared.TypeIs { s with heap:=hp } (.ref a) "set":=⟨o,S2.at_,S.ex.1⟩;unfold Builtin.List.listLengthHint;refine wpAny_bind (wpAny_specialOf hT2 F.slot_set_len.lookup ?_);generalize hid:("set.__len__":String)=id0;dsimp only;rw[show splitId id0=some ("set","__len__") from by subst hid;decide +kernel];subst hid;dsimp only;refine wpAny_bind (wpAny_isInstance (b:=true) hT2 (by rw[isSubtype_type];kernel_rfl) ?_)
 rw[if_neg (by decide)];show wpAny _ A.in1 (typeOf (.ref a) >>= _) _ _ _;refine wpAny_bind (wpAny_typeOf hT2 (wpAny_pure ?_));show wpAny _ A.in1 (rule "list.extend.makes-room" >>= fun _=>Builtin.List.listTouch (.ref s.heap.objs.size) >>= fun _=>again (.builtin "list.extend.loop" ⟨[.ref s.heap.objs.size,.ref it,.ref s.heap.objs.size],[]⟩)) _ _ _;refine wpAny_bind (wpAny_rule (wpAny_bind ?_));show wpAny _ A.in1 (updateSeq s.heap.objs.size (·.push .none) >>= fun _=>updateSeq s.heap.objs.size (·.pop)) _ _ _;refine wpAny_bind (wpAny_updateSeq (s:={ s with heap:=hp }) hS0 rfl ?_);have q1:=Heap.get?_update_self (Obj.mapSeq (·.push Value.none)) hS0 rfl;refine wpAny_updateSeq (s:={ s with heap:=hp.update s.heap.objs.size (Obj.mapSeq (·.push Value.none))}) q1 rfl ?_;have q2:=Heap.get?_update_self (Obj.mapSeq (·.pop)) q1 rfl;have oth:∀b ob,b≠s.heap.objs.size->hp.get? b=some ob->((hp.update s.heap.objs.size (Obj.mapSeq (·.push Value.none))).update s.heap.objs.size (Obj.mapSeq (·.pop))).get? b=some ob:=
  fun b ob hb e=>(Heap.get?_update_other _ _ (Ne.symm hb)).trans ((Heap.get?_update_other _ _ (Ne.symm hb)).trans e)
 have q3:∃c,((hp.update s.heap.objs.size (Obj.mapSeq (·.push Value.none))).update s.heap.objs.size (Obj.mapSeq (·.pop))).get? s.heap.objs.size=some { cls:=.type "list",dict:=none,data:=.seq #[] c,slots:=#[]}:=⟨_,q2⟩;clear q2;generalize (hp.update s.heap.objs.size (Obj.mapSeq (·.push Value.none))).update s.heap.objs.size (Obj.mapSeq (·.pop))=hp2 at q3 oth ⊢;obtain⟨c0,q2⟩:=q3;have hfp:∀b∈it::a::xs.map (·.2),b≠s.heap.objs.size:=fun b hb e=>by
  rcases List.mem_cons.mp hb with z|z
  ·omega
  ·have hlt:b<s.heap.objs.size:=by
    rcases List.mem_cons.mp z with z|z
    ·rw[z];exact hal
    ·obtain⟨p,hp',rfl⟩:=List.mem_map.mp z;obtain⟨oy,_,_,ho,_⟩:=S.keys p hp';exact Heap.lt_size ho
   omega
 have W:=(qutz (prog:=prog) (w:=w) (A:=A.in1) (by simpa using hh) (it:=it) (a:=a) (o:=o) (ep:=ep) (xs:=xs) T).toS;refine wpAny_pure ⟨plainId_quiet F.plain_extend_loop _,codeAny_extend_loopS W (by rw[sizeLine_eq];omega) _ (fun hm=>hfp _ hm rfl) _ es.size 0 _ _ _ rfl (Nat.zero_le _) ?_ q2 (ItemsOf.nil _) fun s' acc' c' hm hS' hacc=>?_⟩
 ·refine⟨0,oth _ _ (hfp _ List.mem_cons_self) hit,?_,S2.kept fun b hb ob e=>oth b ob (hfp b (List.mem_cons_of_mem _ hb)) e⟩;by_cases hb:byText w=true
  ·exact .inl hb
  ·refine .inr ?_;obtain⟨b0,b1,b2⟩:=qetz (j:=0) T.rise;refine Classical.byContradiction fun hne=>?_;have hpos:0<SetTable.below t.place 0:=by omega
   have h0:0<t.place.size:=by omega
   have:=b1 0 (t.place[0]) hpos (by simp[h0]);omega
 ·show wpAny _ A (load s.heap.objs.size >>= _) _ _ s';refine wpAny_bind (wpAny_load hS' ?_);refine wpAny_pure ?_;have hlen:(walkL w a ep es).length=es.size:=by rw[(walkL_perm w a ep es).length_eq];simp
  have eacc:acc'.toList=(walkL w a ep es).map (·.2):=by
   refine List.ext_getElem? fun i=>?_;rw[List.getElem?_map,Array.getElem?_toList];cases ha:acc'[i]? with
   |none=>
    have h1:=Array.getElem?_eq_none_iff.mp ha;rw[hacc.1] at h1;rw[List.getElem?_eq_none_iff.mpr (by omega)];rfl
   |some v=>
    obtain⟨p,e1,e2⟩:=hacc.2 i v ha;rw[e1,e2];rfl
  show Q acc'.toList s';rw[eacc];refine h s' ⟨fun b ob _ e=>?_,hm.gens,hm.drawn,hm.os,?_⟩
  ·have hlt:=Heap.lt_size e;refine hm.heap b ob ?_ (oth b ob (Nat.ne_of_lt hlt) (keep0 b ob e));intro z;rcases List.mem_cons.mp z with z|z
   ·rw[z] at hlt;exact Nat.lt_irrefl _ hlt
   ·have:b=it:=by simpa using z
    rw[this,hI] at hlt;exact Nat.lt_irrefl _ (Nat.lt_of_succ_lt hlt)
  ·exact hm.toks
end
end SetM
namespace SetM
open PySem SetP
section
variable {prog:Program} {w:World} {A:Around} {E:Value->Shared->Prop} {s:Shared}
def freshSet(w:World):Obj:={ cls:=.type "set",dict:=none,data:=.set #[] 0 (.fresh 0 0 (!(byText w)))}
theorem qkmz(a:Value){Q₁:Value->Shared->Prop}(h:Q₁ (.ref s.heap.objs.size) { s with heap:=s.heap.push (freshSet w)}):
  codeAny (model prog w) A (.call (.builtin "set.__new__") ⟨[.type "set",a],[]⟩) (wants Q₁ E) s:=by
 refine codeAny_of_tree ?_;show wpAny _ A.in1 (checkBuiltinCall "set.__new__" ⟨[.type "set",a],[]⟩ >>= fun _=>again (.builtin "set.__new__" ⟨[.type "set",a],[]⟩)) _ _ s;refine wpAny_bind (wpAny_of_eq (F.newCall_set_1 a) (wpAny_pure ⟨plainId_quiet F.plain_set_new _,codeAny_builtin F.entry_set_new ?_⟩));rw[Around.under_plainId F.plain_set_new _];unfold Builtin.«set.__new__» Builtin.Frozenset.newClass;have hsub:=sub_set_self;obtain⟨hp,g,d,tk,os⟩:=s;dsimp only;wp_walk;refine wpAny_askSetting (wpAny_pure ?_);dsimp only;simp only[newObj];refine wpAny_bind (wpAny_alloc (wpAny_pure ?_));exact wpAny_pure h
theorem qknz(led:Bool):Tab (SetTable.fresh 0 0 led) []:=
 ⟨.inl rfl,rfl,List.Pairwise.nil,(fun j hj=>(nomatch hj)),rfl,(by show 0*5<7*3;decide),(fun j h hj=>(nomatch hj))⟩
structure Ded(ps xs:List (List Int×Addr)):Prop where
 sub:∀p∈xs,p∈ps
 all:∀p∈ps,p.1∈xs.map (·.1)
 len:xs.length≤ps.length
theorem Ded.add{ps xs xs':List (List Int×Addr)}{p:List Int×Addr}(d:Ded ps xs)(h1:p.1∈xs.map (·.1)->xs'.Perm xs)(h2:p.1∉xs.map (·.1)->xs'.Perm (p::xs)):Ded (ps++[p]) xs':=by
 by_cases hm:p.1∈xs.map (·.1)
 ·have pm:=h1 hm;refine⟨fun q hq=>List.mem_append_left _ (d.sub q (pm.mem_iff.mp hq)),fun q hq=>?_,?_⟩
  ·rw[(pm.map _).mem_iff];rcases List.mem_append.mp hq with hq|hq
   ·exact d.all q hq
   ·have:q=p:=by simpa using hq
    rw[this];exact hm
  ·rw[pm.length_eq,List.length_append];have:=d.len;omega
 ·have pm:=h2 hm;refine⟨fun q hq=>?_,fun q hq=>?_,?_⟩
  ·rcases List.mem_cons.mp (pm.mem_iff.mp hq) with e|e
   ·exact List.mem_append_right _ (by simp[e])
   ·exact List.mem_append_left _ (d.sub q e)
  ·rw[(pm.map _).mem_iff,List.map_cons];rcases List.mem_append.mp hq with hq|hq
   ·exact List.mem_cons_of_mem _ (d.all q hq)
   ·have:q=p:=by simpa using hq
    rw[this];exact List.mem_cons_self
  ·rw[pm.length_eq,List.length_append,List.length_cons,List.length_singleton];have:=d.len;omega
theorem qkoz{I:Addr}{fp:List Addr}{n:Nat}{P:Nat->Value->Prop}{St:Nat->Heap->Prop}(W:Walks prog w A.in1 I fp [I] n P St)(S:Addr)(hSf:S∉fp)(ps:List (List Int×Addr))(hps:ps.length=n)(hn:n≤60)
  (hu:A.in1.units<cLine) (hval:∀(i:Nat) v,P i v->∃p,ps[i]?=some p/\v=.ref p.2) (hpf:∀p∈ps,p.2≠I/\p.2≠S) {R:Result->Shared->Prop}:
  ∀(k i:Nat) (s:Shared) (xs:List (List Int×Addr)),n-i=k->i≤n->St i s.heap->SetOn prog w s.heap S xs->Ded (ps.take i) xs->(∀p∈ps,IsK prog w s.heap p.1 p.2) ->
   (∀h' tk xs',(∀b ob,b≠S->b≠I->s.heap.get? b=some ob->h'.get? b=some ob)->SetOn prog w h' S xs'->Ded ps xs'->R (.ok (.ret .none)) { s with heap:=h',toks:=tk }) ->
   codeAny (model prog w) A (.builtin "set.update.loop" ⟨[.ref S,.ref I],[]⟩) R s:=by
 have hSI:S≠I:=fun e=>hSf (W.sub _ (by rw[e];simp));have on_kept:∀{h h':Heap} {xs:List (List Int×Addr)},SetOn prog w h S xs->(∀p∈xs,p∈ps)->(∀b ob,b≠I->h.get? b=some ob->h'.get? b=some ob)->SetOn prog w h' S xs:=fun {h h' xs} ⟨o,es,ep,t,q,T⟩ sub kp=>
  ⟨o,es,ep,t,q.kept fun b hb ob e=>kp b ob (by
   rcases List.mem_cons.mp hb with z|z
   ·rw[z];exact hSI
   ·obtain⟨p,hp,rfl⟩:=List.mem_map.mp z;exact (hpf p (sub p hp)).1) e,T⟩
 intro k
 induction k with
 |zero=>
  intro i s xs hk hi hst hS hd hkeys hR;have hin:i=n:=by omega
  subst hin;refine codeAny_builtin PyProof.Rows.F.entry_set_update_loop ?_;rw[Around.under_plainId PyProof.Rows.F.plain_set_update_loop _];show wpAny _ A.in1 (pyNext (.ref I) >>= _) _ _ s;refine wpAny_bind (W.done s _ _ hst fun h' tk kp=>?_);show wpAny _ A.in1 (ret Value.none) _ _ _;have hd':Ded ps xs:=by
   rw[←hps,List.take_length] at hd;exact hd
  exact wpAny_pure (hR h' tk xs (fun b ob _ hb e=>kp b ob (by simpa using hb) e) (on_kept hS hd'.sub fun b ob hb e=>kp b ob (by simpa using hb) e) hd')
 |succ k ih=>
  intro i s xs hk hi hst hS hd hkeys hR;have hlt:i<n:=by omega
  refine codeAny_builtin PyProof.Rows.F.entry_set_update_loop ?_;rw[Around.under_plainId PyProof.Rows.F.plain_set_update_loop _];show wpAny _ A.in1 (pyNext (.ref I) >>= _) _ _ s;refine wpAny_bind (W.item i s _ _ hlt hst fun v h1 tk1 hP hst1 kp1=>?_);obtain⟨p,hp,rfl⟩:=hval i v hP;have hpm:p∈ps:=List.mem_of_getElem? hp;have kp1':∀b ob,b≠I->s.heap.get? b=some ob->h1.get? b=some ob:=fun b ob hb e=>kp1 b ob (by simpa using hb) e;have key1:∀q∈ps,IsK prog w h1 q.1 q.2:=fun q hq=>by
   obtain⟨oy,items,m,ho,r⟩:=hkeys q hq;exact⟨oy,items,m,kp1' _ _ (hpf q hq).1 ho,r⟩
  have sub0:∀q∈xs,q∈ps:=fun q hq=>List.mem_of_mem_take (hd.sub q hq);have hS1:=on_kept hS sub0 kp1';show wpAny _ A.in1 (holding [Value.ref p.2] (setAdd S (.ref p.2)) >>= _) _ _ _;have hlen:xs.length<64:=by
   have h1:=hd.len;rw[List.length_take] at h1;omega
  refine wpAny_bind (wpAny_holding (qunz (s:={ s with heap:=h1,toks:=tk1 }) hS1 hlen hu (key1 p hpm) fun b h2 tk2 xs2 _ sb hS2 q1 q2=>?_));have hd2:Ded (ps.take (i+1)) xs2:=by
   rw[List.take_add_one,hp];exact hd.add q1 q2
  obtain⟨oS,_,_,_,SS,_⟩:=hS1;refine wpAny_pure ⟨plainId_quiet PyProof.Rows.F.plain_set_update_loop _,ih (i+1) _ xs2 (by omega) hlt (W.frame _ _ _ hst1 fun c hc ob e=>(sb.2 c (fun z=>hSf (z▸hc))).trans e) hS2 hd2 (fun q hq=>qeuz SS.at_ SS.dat sb (key1 q hq)) fun h' tk xs' kp' a1 a2=>?_⟩;exact hR h' tk xs' (fun c ob c1 c2 e=>kp' c ob c1 c2 ((sb.2 c c1).trans (kp1' c ob c2 e))) a1 a2
set_option maxHeartbeats 6400000 in
theorem call_set_tups{l:Addr}{vs:List Value}{ps:List (List Int×Addr)}{Q:Value->Shared->Prop}(hh:A.handled=none)(hl:s.heap.IsList l vs.toArray)(hv:vs=ps.map fun p=>Value.ref p.2)(hk:∀p∈ps,IsK prog w s.heap p.1 p.2)(hn:ps.length≤60)
  (hu:A.units+4<cLine)
  (h:∀h' tk xs,(∀b ob,s.heap.get? b=some ob->h'.get? b=some ob)->SetOn prog w h' s.heap.objs.size xs->Ded ps xs->Q (.ref s.heap.objs.size) { s with heap:=h',toks:=tk }):
  wpAny (model prog w) A (call (.type "set") [.ref l]) Q E s:=by
 obtain⟨c,tl,hmro⟩:=F.called_set.mro;have hmade:=F.called_set.made;have hsub:=F.called_set.sub;refine wpAny_call (codeAny_of_tree ?_);show wpAny _ _ (callAny (.type "set") _) _ _ _;refine wpAny_pure ⟨Code.quiet_builtin _ (by decide +kernel),codeAny_builtin F.entry_type_call ?_⟩;rw[Around.under_plain (weight_type_call_type "set" [.ref l] []) rfl];have h1:=F.called_set.notType;have h2:=F.called_set.canCreate;have hct:=F.typeCall_set_1 (.ref l)
 repeat (any_goals (first|assumption|wp_step))
 refine codeAny_mono (qkmz (.ref l) (E:=E) (Q₁:=fun obj s₁=>obj=.ref s.heap.objs.size/\s₁={ s with heap:=s.heap.push (freshSet w)}) ⟨rfl,rfl⟩) fun r s₁ hr=>?_;cases r with
 |error e=>exact hr
 |ok fl=>
  cases fl with
  |ret obj=>
   obtain⟨rfl,rfl⟩:=hr;have hS:(s.heap.push (freshSet w)).get? s.heap.objs.size=some (freshSet w):=Heap.get?_push_size _ rfl;have hT:Shared.TypeIs { s with heap:=s.heap.push (freshSet w)} (.ref s.heap.objs.size) "set":=⟨_,hS,rfl⟩;have hli:=F.called_set.init.lookup;have hbi:=F.called_set.init.bind (.ref s.heap.objs.size)
   repeat (any_goals (first|assumption|wp_step))
   refine codeAny_mono (codeAny_call_builtin (R:=wants (fun r s₂=>r=.none/\∃h' tk xs,s₂={ s with heap:=h',toks:=tk }/\(∀b ob,s.heap.get? b=some ob->h'.get? b=some ob)/\SetOn prog w h' s.heap.objs.size xs/\Ded ps xs) E)
    F.called_set.init.plain F.entry_set_init (check_set_init_1 hT ?_)) fun r₂ s₂ hr₂=>?_
   ·obtain⟨ol,hol,hcl,nl,hdl⟩:=hl;obtain⟨ocls,odict,odata,oslots⟩:=ol;simp only at hcl hdl;subst hcl;subst hdl;have hol':(s.heap.push (freshSet w)).get? l=some { cls:=.type "list",dict:=odict,data:=.seq vs.toArray nl,slots:=oslots }:=Heap.get?_push_of_some _ hol;have hsls:=F.sub_list_set;have hslf:=F.sub_list_frozenset;have hne:(Value.type "list" == Value.type "dict")=false:=by decide
    have hl1:(s.heap.push (freshSet w)).IsList l vs.toArray:=⟨_,hol',rfl,nl,rfl⟩;have hS2:(s.heap.push (freshSet w)).get? s.heap.objs.size=some { cls:=.type "set",dict:=none,data:=.set #[] 0 (.fresh 0 0 (!(byText w)))}:=hS;unfold Builtin.«set.__init__» noKeywords Builtin.Frozenset.updateFrom;generalize hPI:pyIter=PI;wp_walk;subst hPI;refine wpAny_pyIter_list hl1 ?_;refine wpAny_bind (wpAny_runValue ?_);have hlS:l<s.heap.objs.size:=Heap.lt_size hol;have hh3:A.in1.in1.in1.handled=none:=by simp[hh]
    have hu3:A.in1.in1.in1.units<cLine:=by
     show A.units+1+1+1<cLine;omega
    have hsz:(s.heap.push (freshSet w)).objs.size=s.heap.objs.size+1:=Heap.size_push ..;have hneI:l≠(s.heap.push (freshSet w)).objs.size:=by
     rw[hsz];exact Nat.ne_of_lt (Nat.lt_succ_of_lt hlS)
    have hSf:s.heap.objs.size∉[(s.heap.push (freshSet w)).objs.size,l]:=by
     rw[hsz];intro z;rcases List.mem_cons.mp z with z|z
     ·exact absurd z (Nat.ne_of_lt (Nat.lt_succ_self _))
     ·have:s.heap.objs.size=l:=by simpa using z
      exact absurd this (Nat.ne_of_gt hlS)
    have hlen:vs.toArray.size=ps.length:=by rw[hv];simp
    refine qkoz (Walks.list hh3 _ l hneI vs.toArray) s.heap.objs.size hSf ps hlen.symm (by rw[hlen];exact hn) hu3 (fun i v e=>?_) (fun p hp=>?_) (vs.toArray.size-0) 0 _ [] rfl (Nat.zero_le _)
     ⟨⟨_,Heap.get?_push_size _ rfl,rfl,rfl⟩,hl1.push _⟩ ?hS0 ⟨(fun p hp=>(nomatch hp)),(fun p hp=>by rw[List.take_zero] at hp;cases hp),Nat.zero_le _⟩ (fun p hp=>?_) ?hR
    case hS0=>
     refine⟨_,#[],0,_,⟨Heap.get?_push_of_some _ hS2,⟨rfl,rfl,rfl⟩,rfl,rfl,(fun p hp=>(nomatch hp)),List.nodup_nil,rfl,rfl⟩,qknz _⟩
    case hR=>
     intro h' tk xs q1 q2 q3;refine wpAny_pure ?_;show wpAny _ _ (ret Value.none) _ _ _;refine wpAny_pure ⟨rfl,h',tk,xs,rfl,fun b ob e=>?_,q2,q3⟩;have hb:=Heap.lt_size e;refine q1 b ob (Nat.ne_of_lt hb) ?_ (Heap.get?_push_of_some _ (Heap.get?_push_of_some _ e));rw[hsz];exact Nat.ne_of_lt (Nat.lt_succ_of_lt hb)
    ·rw[hv,List.getElem?_toArray,List.getElem?_map] at e;cases hp:ps[i]? with
     |none=>rw[hp] at e;cases e
     |some p=>rw[hp] at e;exact⟨p,rfl,(Option.some.inj e).symm⟩
    ·obtain⟨oy,_,_,ho,_⟩:=hk p hp;have hb:=Heap.lt_size ho;rw[hsz];exact⟨Nat.ne_of_lt (Nat.lt_succ_of_lt hb),Nat.ne_of_lt hb⟩
    ·obtain⟨oy,items,m,ho,r⟩:=hk p hp;exact⟨oy,items,m,Heap.get?_push_of_some _ (Heap.get?_push_of_some _ ho),r⟩
   ·cases r₂ with
    |error e=>exact hr₂
    |ok fl₂=>
     cases fl₂ with
     |ret r=>
      obtain⟨rfl,h',tk,xs,rfl,q1,q2,q3⟩:=hr₂
      repeat (any_goals (first|assumption|wp_step))
      exact h _ _ _ q1 q2 q3
     |_=>exact hr₂.elim
  |_=>exact hr.elim
end
end SetM
namespace SortV
open PySem PySem.W PyProof.Rows SetM KasS
def lx:List Int->List Int->Bool
 |[],[]=>false
 |[],_::_=>true
 |_::_,[]=>false
 |x::xs,y::ys=>if x=y then lx xs ys else decide (x<y)
theorem qkpz:∀{x y:List Int},lx x y=true->lx y x=false
 |[],[],h=>by cases h
 |[],_::_,_=>rfl
 |_::_,[],h=>by cases h
 |x::xs,y::ys,h=>by
  unfold lx at h ⊢;by_cases e:x=y
  ·rw[if_pos e] at h;rw[if_pos e.symm];exact qkpz h
  ·rw[if_neg e] at h;rw[if_neg (Ne.symm e)];have:=of_decide_eq_true h;exact decide_eq_false (by omega)
theorem qkqz:∀{a b c:List Int},lx b a=false->lx c b=false->lx c a=false
 |[],b,[],_,_=>rfl
 |[],[],c::cs,_,h=>h
 |[],b::bs,c::cs,h,_=>rfl
 |a::as,[],c,h,_=>by cases h
 |a::as,b::bs,[],_,h=>by cases h
 |a::as,b::bs,c::cs,h1,h2=>by
  unfold lx at h1 h2 ⊢;by_cases e1:b=a
  ·rw[if_pos e1] at h1;by_cases e2:c=b
   ·rw[if_pos e2] at h2;rw[if_pos (e2.trans e1)];exact qkqz h1 h2
   ·rw[if_neg e2] at h2;have:=of_decide_eq_false h2;by_cases e3:c=a
    ·omega
    ·rw[if_neg e3];exact decide_eq_false (by omega)
  ·rw[if_neg e1] at h1;have:=of_decide_eq_false h1;by_cases e2:c=b
   ·rw[if_neg (by omega)];exact decide_eq_false (by omega)
   ·rw[if_neg e2] at h2;have:=of_decide_eq_false h2;by_cases e3:c=a
    ·omega
    ·rw[if_neg e3];exact decide_eq_false (by omega)
section
variable {prog:Program} {w:World} {A:Around} {E:Value->Shared->Prop} {s:Shared}
theorem quuz{Q:Bool->Shared->Prop}:∀(xs ys:List Int) (us vs:List Value) (i:Nat) (fin:Bool),ItemsAre (intKind prog w) xs us->ItemsAre (intKind prog w) ys vs ->
  (fin=decide (us.length<vs.length)∨∃n m,fin=decide (n+us.length<n+vs.length)/\m=n)->Q (lx xs ys) s->KatLex prog w A true fin Q (us.zip vs) i s:=by
 intro xs
 induction xs with
 |nil=>
  intro ys us vs i fin h1 h2 hf h;cases h1;cases h2 with
  |nil=>
   have:fin=false:=by
    rcases hf with hf|⟨n,m,hf,_⟩<;>simp at hf<;>exact hf
   rw[this];exact kat_nil h
  |cons h3 h4=>
   have:fin=true:=by
    rcases hf with hf|⟨n,m,hf,_⟩<;>rw[hf]<;>simp
   rw[this];exact kat_nil h
 |cons x xs ih=>
  intro ys us vs i fin h1 h2 hf h;cases h1 with
  |cons h1 h1'=>
  cases h2 with
  |nil=>
   have:fin=false:=by
    rcases hf with hf|⟨n,m,hf,_⟩<;>rw[hf]<;>simp
   rw[this];exact kat_nil h
  |cons h3 h4=>
   obtain⟨t,rfl⟩:=Value.isInt_shape h1;obtain⟨t',rfl⟩:=Value.isInt_shape h3;refine kat_cons (wpAny_eqBool_int ?_);unfold lx at h;rename_i _ y ys _;by_cases e:x=y
   ·rw[if_pos e] at h;have:(x==y)=true:=by simpa using e
    rw[this];refine kat_yes (ih ys _ _ (i+1) fin h1' h4 (.inr ?_) h);rcases hf with hf|⟨n,m,hf,_⟩
    ·exact⟨1,1,by rw[hf];simp[Nat.add_comm],rfl⟩
    ·exact⟨n+1,n+1,by rw[hf];congr 1;simp only[List.length_cons];apply propext;omega,rfl⟩
   ·rw[if_neg e] at h;have:(x==y)=false:=by simpa using e
    rw[this];refine kat_no ?_;by_cases hi:i=0
    ·subst hi;exact oneLt_int h
    ·have hb:(true&&i==0)=false:=by simp[hi]
     rw[hb];exact kat_one _ _ (lt_int h)
theorem quvz{Q:Bool->Shared->Prop}{x y:List Int}{a b:Addr}(hx:IsK prog w s.heap x a)(hy:IsK prog w s.heap y b)(h:Q (lx x y) s):wpAny (model prog w) A (keyLt' (tuples' true) (.ref a) (.ref b)) Q E s:=by
 obtain⟨o,its,n,ho,_,hd,hi⟩:=hx;obtain⟨o',its',n',ho',_,hd',hi'⟩:=hy;exact kat_lt ho hd ho' hd' (quuz x y its.toList its'.toList 0 _ hi hi' (.inl (by simp)) h)
def plt(ps:List (List Int×Addr))(i j:Nat):Bool:=lx ((ps.getD i ([],0)).1) ((ps.getD j ([],0)).1)
theorem quwz(ps:List (List Int×Addr))(n:Nat):Ord n (plt ps):=⟨fun a b _ _ h=>qkpz h,fun a b c _ _ _ h1 h2=>qkqz h1 h2⟩
def cmpP(n:Nat)(lt:Nat->Nat->Bool)(i j:Nat)(C:Bool->Shared->Prop)(s:Shared):Prop:=i<n/\j<n/\C (lt i j) s
theorem conv{α:Type}{n:Nat}{lt:Nat->Nat->Bool}{κ:SortKind}{vs:List Value}{Q:α->Shared->Prop}(ha:∀i j,i<n->j<n->∀C:Bool->Shared->Prop,C (lt i j) s->kas_ask prog w A κ vs i j C s):
  ∀t:KasT α,t.kasWp (cmpP n lt) Q s->t.kasWp (kas_ask prog w A κ vs) Q s
 |.ret a,h=>h
 |.ask i j k,h=>by
  obtain⟨h1,h2,h3⟩:=h;exact ha i j h1 h2 _ (conv ha (k (lt i j)) h3)
theorem qgnz{ps:List (List Int×Addr)}{i:Nat}(hi:i<ps.length):(ps.map fun p=>Value.ref p.2).getD i Value.none=.ref (ps.getD i ([],0)).2:=by
 simp[List.getD,hi]
theorem getD_mem{ps:List (List Int×Addr)}{i:Nat}(hi:i<ps.length):ps.getD i ([],0)∈ps:=by
 simp[List.getD,hi]
theorem quxz{ps:List (List Int×Addr)}(hk:∀p∈ps,IsK prog w s.heap p.1 p.2):∀i j,i<ps.length->j<ps.length->∀C:Bool->Shared->Prop,C (plt ps i j) s->kas_ask prog w A (tuples' true) (ps.map fun p=>Value.ref p.2) i j C s:=fun i j hi hj C h=>by
 unfold kas_ask;rw[qgnz hi,qgnz hj];exact quvz (hk _ (getD_mem hi)) (hk _ (getD_mem hj)) h
theorem qkrz{h:Heap}:∀{ps:List (List Int×Addr)},(∀p∈ps,IsK prog w h p.1 p.2/\p.1≠[])->∃fs,KatTups h (ps.map fun p=>Value.ref p.2) fs/\fs.length=ps.length/\∀v∈fs,∃i t,v=.int i t
 |[],_=>⟨[],.nil,rfl,fun v hv=>nomatch hv⟩
 |p::ps,hk=>by
  obtain⟨fs,h1,h2,h3⟩:=qkrz (ps:=ps) fun q hq=>hk q (List.mem_cons_of_mem _ hq);obtain⟨⟨o,its,n,ho,hc,hd,hi⟩,hne⟩:=hk p List.mem_cons_self;obtain⟨ks,a⟩:=p;cases ks with
  |nil=>exact absurd rfl hne
  |cons k ks=>
   obtain⟨its⟩:=its;cases hi with
   |cons h4 h5=>
    rename_i v vs;obtain⟨t,e⟩:=Value.isInt_shape h4;refine⟨v::fs,KatTups.cons ho hc hd (by simp) h1,by simp[h2],fun u hu=>?_⟩;rcases List.mem_cons.mp hu with q|q
    ·exact⟨k,t,q.trans e⟩
    ·exact h3 u q
theorem quyz{ps:List (List Int×Addr)}(hne:ps≠[])(hk:∀p∈ps,IsK prog w s.heap p.1 p.2/\p.1≠[]){Q:SortKind->Shared->Prop}(h:Q (tuples' true) s):wpAny (model prog w) A (keyKind' (ps.map fun p=>Value.ref p.2).toArray) Q E s:=by
 obtain⟨fs,h1,h2,h3⟩:=qkrz hk;have hl:0<fs.length:=by
  rw[h2];exact List.length_pos_iff.mpr hne
 refine kat_kind (T:=.type "int") h1 hl (fun v hv=>?_) rfl h;obtain⟨i,t,rfl⟩:=h3 v hv;exact .now
structure Srt(ps qs:List (List Int×Addr)):Prop where
 perm:qs.Perm ps
 rise:qs.Pairwise fun x y=>lx y.1 x.1=false
theorem quzz{ps:List (List Int×Addr)}{p:Array Nat}(v:Va ps.length p)(S:So (plt ps) p ps.length):Srt ps (p.toList.map fun i=>ps.getD i ([],0)):=by
 refine⟨?_,?_⟩
 ·refine (v.perm.map _).trans ?_;have:(List.range ps.length).map (fun i=>ps.getD i ([],0))=ps:=by
   refine List.ext_getElem? fun i=>?_;by_cases hi:i<ps.length
   ·simp[List.getElem?_map,List.getElem?_range hi,List.getD,hi]
   ·rw[List.getElem?_eq_none_iff.mpr (by simpa using hi),List.getElem?_eq_none_iff.mpr (by omega)]
  rw[this]
 ·rw[List.pairwise_map,List.pairwise_iff_getElem];intro i j hi hj hij;have hs:=v.size;have h1:i<ps.length:=by rw[←hs];simpa using hi
  have h2:j<ps.length:=by rw[←hs];simpa using hj
  have e1:p.toList[i]=g p i:=by
   have:=v.get h1;simp[g,Array.getD,hs,h1]
  have e2:p.toList[j]=g p j:=by simp[g,Array.getD,hs,h2]
  rw[e1,e2];exact S i j (Nat.le_of_lt hij) h2
theorem qu0z{ps:List (List Int×Addr)}{p:Array Nat}(v:Va ps.length p):(p.toList.map fun i=>(ps.map fun q=>Value.ref q.2).getD i Value.none)=(p.toList.map fun i=>ps.getD i ([],0)).map fun q=>Value.ref q.2:=by
 rw[List.map_map];refine List.map_congr_left fun i hi=>?_;have:i<ps.length:=by
  have:=v.perm.mem_iff.mp hi;simpa using this
 exact qgnz this
theorem qu1z{h h':Heap}{ks:List Int}{a b:Addr}{its:Array Value}{n:Nat}(hb:h.get? b=some (seqObj "list" its n))(keep:∀c o,c≠b->h.get? c=some o->h'.get? c=some o)(hk:IsK prog w h ks a):IsK prog w h' ks a:=by
 obtain⟨o,it,m,ho,hc,hd,hi⟩:=hk;refine⟨o,it,m,keep a o (fun e=>?_) ho,hc,hd,hi⟩;rw[e,hb] at ho;cases ho;injection hc with hc
 exact absurd hc (by decide)
theorem qu2z{a:Addr}{n:Nat}{ps:List (List Int×Addr)}{P:PySem.Fin->Shared->Prop}(ho:s.heap.get? a=some (seqObj "list" (ps.map fun p=>Value.ref p.2).toArray n))(hk:∀p∈ps,IsK prog w s.heap p.1 p.2/\p.1≠[])(h2:2≤ps.length)(h64:ps.length<64)
  (h:∀qs h' c,Srt ps qs->h'.get? a=some (seqObj "list" (qs.map fun p=>Value.ref p.2).toArray c)->(∀b o,b≠a->s.heap.get? b=some o->h'.get? b=some o)->P (.done (.ret .none)) { s with heap:=h' }):
  wpAny (model prog w) A (Builtin.«list.sort» ⟨[.ref a],[]⟩) P E s:=by
 have ha:a<s.heap.objs.size:=Heap.lt_size ho;have s1:=Heap.SameBut.update s.heap a (Obj.mapSeq fun _=>(#[]:Array Value));obtain⟨e1,ho1⟩:∃e1,(s.heap.update a (Obj.mapSeq fun _=>(#[]:Array Value))).get? a=some (seqObj "list" #[] e1):=⟨_,get?_update_seq ho fun _=>#[]⟩;generalize hvs:(ps.map fun p=>Value.ref p.2)=vs at ho;have hlen:vs.length=ps.length:=by rw[←hvs,List.length_map]
 have hu3:∀b o,b≠a->s.heap.get? b=some o->(((s.heap.update a (Obj.mapSeq fun _=>(#[]:Array Value))).push (seqObj "tuple" vs.toArray 0)).push (seqObj "list" #[] 0)).get? b=some o:=fun b o hb e=>
  Heap.get?_push_of_some _ (Heap.get?_push_of_some _ ((s1.2 b hb).trans e))
 have ho3:(((s.heap.update a (Obj.mapSeq fun _=>(#[]:Array Value))).push (seqObj "tuple" vs.toArray 0)).push (seqObj "list" #[] 0)).get? a=some (seqObj "list" #[] e1):=Heap.get?_push_of_some _ (Heap.get?_push_of_some _ ho1);rw[list_sort_plain];refine wpAny_bind (listItems_at ho rfl ?_);refine wpAny_bind (listUpdate_at ho rfl ?_ (by rw[List.size_toArray,sizeLine_eq];omega) (Nat.zero_le _));refine wpAny_bind (seqEpoch_at ho1 rfl ?_);refine wpAny_bind (wpAny_newTuple ?_ (by show vs.length≤_;rw[sizeLine_eq];omega));refine wpAny_bind (wpAny_newList ?_ (Nat.zero_le _));refine wpAny_holding ?_;show wpAny (model prog w) A _ P E { s with heap:=((s.heap.update a (Obj.mapSeq fun _=>(#[]:Array Value))).push (seqObj "tuple" vs.toArray 0)).push (seqObj "list" #[] 0)};generalize ((s.heap.update a (Obj.mapSeq fun _=>(#[]:Array Value))).push (seqObj "tuple" vs.toArray 0)).push (seqObj "list" #[] 0)=h3 at hu3 ho3 ⊢;have hk3:∀p∈ps,IsK prog w h3 p.1 p.2/\p.1≠[]:=fun p hp=>⟨qu1z ho hu3 (hk p hp).1,(hk p hp).2⟩;dsimp only;have hn2:¬vs.toArray.size<2:=by rw[List.size_toArray];omega
 rw[if_neg hn2,if_neg hn2];have hne:ps≠[]:=fun z=>by rw[z] at h2;simp at h2
 refine wpAny_bind ?_;rw[←hvs];refine quyz (s:={ s with heap:=h3 }) hne hk3 ?_;have hsort:(kas_sort vs.length).kasWp (kas_ask prog w A (tuples' true) (ps.map fun p=>Value.ref p.2)) (fun p s'=>s'={ s with heap:=h3 }/\Va ps.length p/\So (plt ps) p ps.length) { s with heap:=h3 }:=by
  refine conv (lt:=plt ps) (n:=ps.length) (quxz (s:={ s with heap:=h3 }) fun p hp=>(hk3 p hp).1) _ ?_
  rw[hlen];exact qt3z (quwz ps ps.length) (fun i j hi hj C s' hC=>⟨hi,hj,hC⟩) (by omega) fun p v S=>⟨rfl,v,S⟩
 have hsort:(kas_sort (ps.map fun p=>Value.ref p.2).length).kasWp (kas_ask prog w A (tuples' true) (ps.map fun p=>Value.ref p.2)) (fun p s'=>s'={ s with heap:=h3 }/\Va ps.length p/\So (plt ps) p ps.length) { s with heap:=h3 }:=by
  rw[hlen] at hsort;rw[List.length_map];exact hsort
 refine wpAny_bind (wpAny_mono (kat_run (Q:=fun st' s'=>∃p:Array Nat,p.size=(ps.map fun p=>Value.ref p.2).length/\arrOf st'=p.map (kas_item ((ps.map fun p=>Value.ref p.2).toArray.zip (ps.map fun p=>Value.ref p.2).toArray))/\failedOf st'=none/\s'={ s with heap:=h3 }/\Va ps.length p/\So (plt ps) p ps.length)
  rfl (by rw[List.length_map];exact h2) (by rw[List.length_map];exact h64) (fun p' st' s' a1 a2 a3 a4=>⟨p',a1,a2,a3,a4⟩) hsort) ?_ fun _ _ e=>e)
 rintro⟨⟨⟩,st'⟩ s' ⟨p,hp,har,hf,rfl,va,so⟩;dsimp only;have hout:=kat_snds rfl har;rw[qu0z va] at hout;have hS:=quzz va so;generalize (p.toList.map fun i=>ps.getD i ([],0))=qs at hout hS;have hsz:(List.toArray (qs.map fun q=>Value.ref q.2)).size=ps.length:=by rw[List.size_toArray,List.length_map,hS.perm.length_eq]
 rw[hout];have s2:=Heap.SameBut.update h3 a (Obj.mapSeq fun _=>List.toArray (qs.map fun q=>Value.ref q.2));obtain⟨c2,hc2⟩:∃c2,(h3.update a (Obj.mapSeq fun _=>List.toArray (qs.map fun q=>Value.ref q.2))).get? a=some (seqObj "list" (List.toArray (qs.map fun q=>Value.ref q.2)) c2):=⟨_,get?_update_seq ho3 fun _=>List.toArray (qs.map fun q=>Value.ref q.2)⟩;refine wpAny_bind (seqEpoch_at ho3 rfl ?_);refine wpAny_bind (listUpdate_at ho3 rfl ?_ (Nat.zero_le _) (Nat.le_trans (Nat.le_of_eq hsz) (by rw[sizeLine_eq];omega)));rw[hf];simp only[bne_self_eq_false,Bool.false_eq_true,if_false];exact wpAny_pure (h qs _ c2 hS hc2 fun b o hb e=>(s2.2 b hb).trans (hu3 b o hb e))
theorem qu3z{a:Addr}{n:Nat}{vs:List Value}{P:PySem.Fin->Shared->Prop}(ho:s.heap.get? a=some (seqObj "list" vs.toArray n))(h2:vs.length<2)
  (h:∀h' c,h'.get? a=some (seqObj "list" vs.toArray c)->(∀b o,b≠a->s.heap.get? b=some o->h'.get? b=some o)->P (.done (.ret .none)) { s with heap:=h' }):
  wpAny (model prog w) A (Builtin.«list.sort» ⟨[.ref a],[]⟩) P E s:=by
 have s1:=Heap.SameBut.update s.heap a (Obj.mapSeq fun _=>(#[]:Array Value));obtain⟨e1,ho1⟩:∃e1,(s.heap.update a (Obj.mapSeq fun _=>(#[]:Array Value))).get? a=some (seqObj "list" #[] e1):=⟨_,get?_update_seq ho fun _=>#[]⟩;have hu3:∀b o,b≠a->s.heap.get? b=some o->(((s.heap.update a (Obj.mapSeq fun _=>(#[]:Array Value))).push (seqObj "tuple" vs.toArray 0)).push (seqObj "list" #[] 0)).get? b=some o:=fun b o hb e=>
  Heap.get?_push_of_some _ (Heap.get?_push_of_some _ ((s1.2 b hb).trans e))
 have ho3:(((s.heap.update a (Obj.mapSeq fun _=>(#[]:Array Value))).push (seqObj "tuple" vs.toArray 0)).push (seqObj "list" #[] 0)).get? a=some (seqObj "list" #[] e1):=Heap.get?_push_of_some _ (Heap.get?_push_of_some _ ho1);rw[list_sort_plain];refine wpAny_bind (listItems_at ho rfl ?_);refine wpAny_bind (listUpdate_at ho rfl ?_ (by rw[List.size_toArray,sizeLine_eq];omega) (Nat.zero_le _));refine wpAny_bind (seqEpoch_at ho1 rfl ?_);refine wpAny_bind (wpAny_newTuple ?_ (by show vs.length≤_;rw[sizeLine_eq];omega));refine wpAny_bind (wpAny_newList ?_ (Nat.zero_le _));refine wpAny_holding ?_;show wpAny (model prog w) A _ P E { s with heap:=((s.heap.update a (Obj.mapSeq fun _=>(#[]:Array Value))).push (seqObj "tuple" vs.toArray 0)).push (seqObj "list" #[] 0)};generalize ((s.heap.update a (Obj.mapSeq fun _=>(#[]:Array Value))).push (seqObj "tuple" vs.toArray 0)).push (seqObj "list" #[] 0)=h3 at hu3 ho3 ⊢;dsimp only;have hn2:vs.toArray.size<2:=by rw[List.size_toArray];omega
 rw[if_pos hn2,if_pos hn2];refine wpAny_bind (wpAny_pure ?_);rw[StateT.run_pure];refine wpAny_bind (wpAny_pure ?_);dsimp only;have hout:(arrOf (SortSt.mk' general' (vs.toArray.zip vs.toArray) #[] 7 none)).map (·.2)=vs.toArray:=by
  show (vs.toArray.zip vs.toArray).map (·.2)=vs.toArray;refine Array.ext (by simp) fun i h1 h2=>?_;simp
 rw[hout];have s2:=Heap.SameBut.update h3 a (Obj.mapSeq fun _=>vs.toArray);obtain⟨c2,hc2⟩:∃c2,(h3.update a (Obj.mapSeq fun _=>vs.toArray)).get? a=some (seqObj "list" vs.toArray c2):=⟨_,get?_update_seq ho3 fun _=>vs.toArray⟩;refine wpAny_bind (seqEpoch_at ho3 rfl ?_);refine wpAny_bind (listUpdate_at ho3 rfl ?_ (Nat.zero_le _) (by rw[List.size_toArray,sizeLine_eq];omega));simp only[bne_self_eq_false,Bool.false_eq_true,if_false];exact wpAny_pure (h _ c2 hc2 fun b o hb e=>(s2.2 b hb).trans (hu3 b o hb e))
theorem qu4z{h h':Heap}{ks:List Int}{a:Addr}(keep:∀c o,h.get? c=some o->h'.get? c=some o)(hk:IsK prog w h ks a):IsK prog w h' ks a:=by
 obtain⟨o,it,m,ho,r⟩:=hk;exact⟨o,it,m,keep a o ho,r⟩
theorem sorted_of{l:Addr}{ps:List (List Int×Addr)}{Q:Value->Shared->Prop}(hk:∀p∈ps,IsK prog w s.heap p.1 p.2/\p.1≠[])(h64:ps.length<64)
  (hcol:∀(R:List Value->Shared->Prop),(∀s',Moved [] (fun x y=>y=x) s s'->R (ps.map fun p=>Value.ref p.2) s')->wpAny (model prog w) A.in1 (collect (.ref l)) R E s)
  (h:∀qs s' c D,Srt ps qs->s.heap.get? D=none->s'.heap.get? D=some (seqObj "list" (qs.map fun p=>Value.ref p.2).toArray c)->Moved [] (fun x y=>y=x) s s'->Q (.ref D) s'):
  wpAny (model prog w) A (call (.builtin "sorted") [.ref l]) Q E s:=by
 refine Calls.call_function_entry kind_sorted plain_sorted entry_sorted (args_sorted1 _) ?_;unfold Builtin.«sorted»;refine wpAny_bind (m:=checkCount "sorted" 1 1 _) (wpAny_pure ?_);refine wpAny_bind (hcol _ fun s1 hm=>?_);refine wpAny_bind (wpAny_newList ?_ (by rw[List.length_map,sizeLine_eq];omega));have hoL:(s1.heap.push (seqObj "list" (ps.map fun p=>Value.ref p.2).toArray 0)).get? s1.heap.objs.size=some (seqObj "list" (ps.map fun p=>Value.ref p.2).toArray 0):=Heap.get?_push_size _ rfl;have keep0:∀b o,s.heap.get? b=some o->s1.heap.get? b=some o:=fun b o e=>hm.heap b o (fun z=>nomatch z) e;have hfr:s.heap.get? s1.heap.objs.size=none:=by
  cases hz:s.heap.get? s1.heap.objs.size with
  |none=>rfl
  |some o=>exact absurd (Heap.lt_size (keep0 _ _ hz)) (Nat.lt_irrefl _)
 have keep:∀b o,s.heap.get? b=some o->(s1.heap.push (seqObj "list" (ps.map fun p=>Value.ref p.2).toArray 0)).get? b=some o:=fun b o e=>Heap.get?_push_of_some _ (keep0 b o e);show wpAny _ _ _ _ _ { s1 with heap:=s1.heap.push (seqObj "list" (ps.map fun p=>Value.ref p.2).toArray 0)};refine wpAny_bind (wpAny_holding (wpAny_call_entry slot_list_sort ⟨_,hoL,rfl⟩ entry_list_sort ?body (args_list_sort _)));have fin:∀qs h' c,Srt ps qs->h'.get? s1.heap.objs.size=some (seqObj "list" (qs.map fun p=>Value.ref p.2).toArray c)->(∀b o,b≠s1.heap.objs.size->(s1.heap.push (seqObj "list" (ps.map fun p=>Value.ref p.2).toArray 0)).get? b=some o->h'.get? b=some o)->Q (.ref s1.heap.objs.size) { s1 with heap:=h' }:=fun qs h' c hS e kk=>
  h qs _ c _ hS hfr e ⟨fun b o _ e1=>kk b o (Nat.ne_of_lt (Heap.lt_size (keep0 b o e1))) (keep b o e1),hm.gens,hm.drawn,hm.os,hm.toks⟩
 case body=>
  by_cases h2:2≤ps.length
  ·refine qu2z (s:={ s1 with heap:=s1.heap.push (seqObj "list" (ps.map fun p=>Value.ref p.2).toArray 0)}) hoL (fun p hp=>⟨qu4z keep (hk p hp).1,(hk p hp).2⟩) h2 h64 fun qs h' c hS e kk=>?_;exact⟨_,rfl,wpAny_pure ⟨_,rfl,fin qs h' c hS e kk⟩⟩
  ·refine qu3z (s:={ s1 with heap:=s1.heap.push (seqObj "list" (ps.map fun p=>Value.ref p.2).toArray 0)}) hoL (by rw[List.length_map];omega) fun h' c e kk=>?_;have hS:Srt ps ps:=⟨.refl _,by
    rcases ps with _|⟨x,_|⟨y,r⟩⟩
    ·exact .nil
    ·exact List.pairwise_singleton _ _
    ·simp at h2⟩
   exact⟨_,rfl,wpAny_pure ⟨_,rfl,fin ps h' c hS e kk⟩⟩
end
end SortV
namespace L3
open PySem PySem.Spec PyProof.Rows L2
structure Kit(T:String):Prop where
 non:∀K,PySem.W.kitOne K (.type "NoneType") (.type T)=some false
 bl:∀K,PySem.W.kitOne K (.type "bool") (.type T)=some (T=="bool" || T=="int")
 int:∀K,PySem.W.kitOne K (.type "int") (.type T)=some (T=="int")
 str:∀K,PySem.W.kitOne K (.type "str") (.type T)=some (T=="str")
 tup:∀K,PySem.W.kitOne K (.type "tuple") (.type T)=some (T=="tuple")
 lst:∀K,PySem.W.kitOne K (.type "list") (.type T)=some (T=="list")
 dct:∀K,PySem.W.kitOne K (.type "dict") (.type T)=some (T=="dict")
theorem qu5z:Kit "int":=⟨fun _=>rfl,fun _=>rfl,fun _=>rfl,fun _=>rfl,fun _=>rfl,fun _=>rfl,fun _=>rfl⟩
theorem qu6z:Kit "bool":=⟨fun _=>rfl,fun _=>rfl,fun _=>rfl,fun _=>rfl,fun _=>rfl,fun _=>rfl,fun _=>rfl⟩
theorem kit_tuple:Kit "tuple":=⟨fun _=>rfl,fun _=>rfl,fun _=>rfl,fun _=>rfl,fun _=>rfl,fun _=>rfl,fun _=>rfl⟩
section
variable {X:Cx} {a e:Expr} {es:List Expr} {ta:TE3} {t:TA3} {pos p p2:Pos}
theorem qu7z{T:String}(k:Kit T):CallR X (.builtin "isinstance") (fun vs H Q=>∃d v G b,vs=[v,.ty T]/\Hv X.K H d v/\RepG X.K G H/\instD T G d=some b/\Q (.bl b) H):=by
 intro pins s σ H vs us Q I r h;obtain⟨d,v,G,b,rfl,hd,RG,hb,q⟩:=h;obtain⟨u,c,rfl,ru,rc⟩:=vals2 r;cases (show c=Value.type T from rc);have fin:∀tk,EP X pins σ Q (.bool b) { s with toks:=tk }:=fun tk=>⟨.bl b,H,I.tok tk,rfl,q⟩
 cases d with
 |non=>
  unfold Hv at hd;subst hd;cases (show u=Value.none from ru);cases hb;exact PySem.W.kia_one PySem.W.kitx_none I.kIn True.intro (k.non _) (fun z=>nomatch z) fin
 |bl y=>
  rw[qbxz hd] at ru;cases (show u=Value.bool y from ru);cases hb;exact PySem.W.kia_one PySem.W.kitx_bool I.kIn True.intro (k.bl _) (fun z=>nomatch z) fin
 |int y=>
  rw[qxz hd] at ru;obtain⟨t,rfl⟩:=(show ∃t,u=Value.int y t from ru);cases hb;exact PySem.W.kia_one PySem.W.kitx_int I.kIn True.intro (k.int _) (fun z=>nomatch z) fin
 |str y=>
  unfold Hv at hd;subst hd;obtain⟨t,rfl⟩:=(show ∃t,u=Value.str y t from ru);cases hb;exact PySem.W.kia_one PySem.W.kitx_str I.kIn True.intro (k.str _) (fun z=>nomatch z) fin
 |tup ds=>
  obtain⟨x,xs,rfl,e1,_⟩:=qagz hd;cases (show u=Value.ref x from ru);cases hb;obtain⟨its,_,⟨o,h1,h2,_⟩,_⟩:=I.tuple e1;exact PySem.W.kia_one PySem.W.kitx_tuple I.kIn ⟨o,h1,h2⟩ (k.tup _) (fun z=>nomatch z) fin
 |scr ds=>
  obtain⟨x,xs,rfl,e1,_⟩:=qblz hd;cases (show u=Value.ref x from ru);cases hb;obtain⟨its,_,p1,_⟩:=I.list e1.l;obtain⟨o,h1,h2,_⟩:=p1.isList;exact PySem.W.kia_one PySem.W.kitx_list I.kIn ⟨o,h1,h2⟩ (k.lst _) (fun z=>nomatch z) fin
 |dc x=>
  unfold Hv at hd;obtain⟨rfl,ob,φ,e1,c⟩:=hd;cases (show u=Value.ref x from ru);cases hb;obtain⟨h1,_⟩:=I.hok x _ e1;exact PySem.W.kia_one PySem.W.kitx_dict I.kIn ⟨ob,h1,c⟩ (k.dct _) (fun z=>nomatch z) fin
 |obj x=>
  rw[qzz hd] at ru;cases (show u=Value.ref x from ru);unfold instD at hb;cases hG:G x with
  |none=>simp[hG] at hb
  |some o=>
   have hl:∀xs,H x=some (.lst xs)->∃o,s.heap.get? x=some o/\o.cls=.type "list":=fun xs e=>by
    obtain⟨_,_,n,_,h1⟩:=(show ObjOk X.prog X.w H s.heap x (.lst xs) from I.hok x _ e);exact⟨_,h1,rfl⟩
   cases o with
   |lst ds=>
    simp only[hG] at hb;cases hb;obtain⟨vs,e1,_⟩:=RG x _ hG;obtain⟨o,h1,h2⟩:=hl _ e1;exact PySem.W.kia_one PySem.W.kitx_list I.kIn ⟨o,h1,h2⟩ (k.lst _) (fun z=>nomatch z) fin
   |pen=>
    simp only[hG] at hb;cases hb;obtain⟨_,_,_,e1,_⟩:=RG x _ hG;obtain⟨o,h1,h2⟩:=hl _ e1;exact PySem.W.kia_one PySem.W.kitx_list I.kIn ⟨o,h1,h2⟩ (k.lst _) (fun z=>nomatch z) fin
   |gen R=>simp[hG] at hb
   |dct=>
    simp only[hG] at hb;cases hb;have e1:H x=some (.ext fun h=>∃o,h.get? x=some o/\o.cls=.type "dict"):=RG x _ hG;obtain⟨⟨o,h1,h2⟩,_⟩:=(show ObjOk X.prog X.w H s.heap x _ from I.hok x _ e1);exact PySem.W.kia_one PySem.W.kitx_dict I.kIn ⟨o,h1,h2⟩ (k.dct _) (fun z=>nomatch z) fin
theorem qu8z{T:String}{TS:Str}(k:Kit T)(hv:bootBuiltins TS=some (.type T))(ha:PE3 X a ta)(hm:X.mg "isinstance" = none)(hm2:X.mg TS=none)(hgT:Gl X TS)(hnT:TS≠"__name__")(hdT:(TS==("__debug__":Str))=false)(hg:Gl X "isinstance":=by rfl)
  (he:notStar a=true:=by rfl):
  PE3 X (.Call (.Name "isinstance" p) [a,.Name TS p2] [] pos) (eInst T ta):=
 qyz (qa6z (qu7z k) hg hm rfl (qbiz ha (qbiz (qpoz (v:=.ty T) hgT hm2 hv rfl hnT hdT) qbvz (qpz rfl)) (qpz he)) (he:=qpz he) (hpl:=q4z rfl)) fun σ H Q ⟨τ,G,Q3,RS,RG,h,k⟩=>by
  refine⟨τ,G,_,RS,RG,h,fun v H1 d G1 h1 S1 R1 q1=>?_⟩;cases hb:instD T G1 d with
  |none=>rw[hb] at q1;exact q1.elim
  |some b=>
   rw[hb] at q1;exact⟨d,v,G1,b,rfl,h1,R1,hb,k _ H1 (.bl b) G1 qalz S1 R1 q1⟩
end
def tupI(ns:List Int):D:=.tup (ns.map D.int)
section
variable {P:Program} {w:World} {H:Hp} {h:Heap} {a:Addr} {o:HO}
theorem qu9z(x:ObjOk P w H h a o):∃o,h.get? a=some o:=by
 cases o with
 |lst xs=>obtain⟨_,_,_,_,e⟩:=x;exact⟨_,e⟩
 |tup xs=>obtain⟨_,_,_,o,e,_⟩:=x;exact⟨_,e⟩
 |dK kvs=>obtain⟨_,_,_,_,o,_,_,e,_⟩:=x;exact⟨_,e⟩
 |dT kvs=>obtain⟨_,_,_,_,o,_,_,e,_⟩:=x;exact⟨_,e⟩
 |set S n=>obtain⟨o,_,_,_,e,_⟩:=x;exact⟨_,e⟩
 |ins C dx fs=>obtain⟨_,_,_,e,_⟩:=x;exact⟨_,e⟩
 |own y=>obtain⟨_,e⟩:=x;exact⟨_,e⟩
 |xd fs=>obtain⟨_,⟨_,_,_,e,_⟩,_⟩:=x;exact⟨_,e⟩
 |rng lo hi=>obtain⟨_,_,_,e⟩:=x;exact⟨_,e⟩
 |frz ob u=>obtain⟨e,_⟩:=x;exact⟨_,e⟩
 |tbl ps=>exact⟨_,(show h.get? a=some _ from x)⟩
 |met f y=>exact⟨_,(show h.get? a=some _ from x)⟩
 |ext φ=>obtain⟨_,⟨_,e⟩,_⟩:=x;exact⟨_,e⟩
end
section
variable {X:Cx} {pins:List (Addr×Obj)} {σ:L2.St} {H:Hp} {s:Shared}
theorem Inv.freeN(I:Inv X pins σ H s){a:Addr}(hn:s.heap.get? a=none):H a=none:=by
 cases e:H a with
 |none=>rfl
 |some o=>
  obtain⟨ob,h⟩:=qu9z (I.hok a o e);rw[hn] at h;cases h
theorem Inv.laidN{a:Addr}{o:HO}{t':Nat}{h':Heap}(I:Inv X pins σ H s)(k:∀b u,s.heap.get? b=some u->h'.get? b=some u)(hn:s.heap.get? a=none)(new:ObjOk X.prog X.w (upd H a o) h' a o):
  Inv X pins σ (upd H a o) { s with heap:=h',toks:=t' }:=by
 have hH:=Inv.freeN I hn;have ne:∀b u,s.heap.get? b=some u->b≠a:=fun b u e z=>by rw[z,hn] at e;cases e
 refine I.un ⟨fun b u q _ _ _=>k b u q,fun b u q _ _ _=>⟨u.slots,k b u q⟩,fun b u q n _=>by rw[qoz (ne b u q)];exact n,fun b u q _=>⟨u,k b u q⟩,fun b xs q=>by rw[qoz (qaqz q hH)];exact q,
  fun b u xs q=>by rw[qoz (qaqz q hH)];exact q,fun b ps q=>⟨#[],by rw[qoz (qaqz q hH),q];simp⟩⟩ fun b u e=>?_
 by_cases hb:b=a
 ·subst hb;rw[qwz] at e;cases e;exact new
 ·rw[qoz hb] at e;exact (I.hok b u e).stay (fun c v _ q=>k c v q) (fun c q=>by rw[qoz (qaqz q hH)];exact q) fun c xs q=>by rw[qoz (qaqz q hH)];exact q
theorem qksz{ns:List Int}:∀{us:List Value},Vals (ns.map V.int) us->ItemsAre (intKind X.prog X.w) ns us:=by
 induction ns with
 |nil=>intro us r;cases r;exact .nil
 |cons n ns ih=>
  intro us r;cases r with
  |cons r1 r2=>
   obtain⟨t,rfl⟩:=(show ∃t,_=Value.int n t from r1);exact .cons (by show Value.isInt n (.int n t)=true;simp[Value.isInt]) (ih r2)
theorem qevz(I:Inv X pins σ H s):∀{nss:List (List Int)} {vs:List V} {us:List Value},Hvs X.K H (nss.map tupI) vs->Vals vs us ->
  ∃ps:List (List Int×Addr),ps.map (·.1)=nss/\vs=ps.map (fun p=>.ref p.2)/\us=ps.map (fun p=>Value.ref p.2)/\∀p∈ps,SqT X.K H p.2 (p.1.map V.int)/\SetM.IsK X.prog X.w s.heap p.1 p.2
 |[],vs,us,h,r=>by
  cases h.inv0;cases r;exact⟨[],rfl,rfl,rfl,fun p hp=>nomatch hp⟩
 |ns::nss,vs,us,h,r=>by
  obtain⟨v,vr,rfl,q1,q2⟩:=h.inv;cases r with
  |cons r1 r2=>
   obtain⟨ps,e1,e2,e3,e4⟩:=qevz I q2 r2;obtain⟨a,ws,rfl,z1,z2⟩:=qagz q1;have hw:ws=ns.map V.int:=by
    refine qbyz z2 ?_;clear z2 z1 q1 h e1 e2 e3 e4 q2 r2 r1
    induction ns with
    |nil=>rfl
    |cons n ns ih=>simp[intsOf,ih]
   subst hw;cases (show _=Value.ref a from r1);obtain⟨its,rv,⟨o,h1,h2,n,h3⟩,_⟩:=I.tuple z1;refine⟨(ns,a)::ps,by simp[e1],by simp[e2],by simp[e3],fun p hp=>?_⟩;rcases List.mem_cons.mp hp with rfl|hp
   ·exact⟨z1,o,its.toArray,n,h1,h2,h3,qksz rv⟩
   ·exact e4 p hp
theorem qgoz{K:PySem.W.Frag}{H:Hp}:∀{qs:List (List Int×Addr)},(∀p∈qs,SqT K H p.2 (p.1.map V.int))->Hvs K H ((qs.map (·.1)).map tupI) (qs.map fun p=>.ref p.2)
 |[],_=>.nil
 |q::qs,h=>.cons (qa9z (h q List.mem_cons_self) (Hvs.ints _)) (qgoz fun p hp=>h p (List.mem_cons_of_mem _ hp))
theorem qktz:∀(qs:List (List Int×Addr)),Vals (qs.map fun p=>V.ref p.2) (qs.map fun p=>Value.ref p.2)
 |[]=>.nil
 |q::qs=>.cons rfl (qktz qs)
def RiseL(nss:List (List Int)):Prop:=nss.Pairwise fun x y=>SortV.lx y x=false
theorem qkuz{Q:VK}(I:Inv X pins σ H s){ps qs:List (List Int×Addr)}{s':Shared}{c:Nat}{D':Addr}(hz:ps.length<64)(hS:SortV.Srt ps qs)(hn:s.heap.get? D'=none)(hD:s'.heap.get? D'=some (seqObj "list" (qs.map fun p=>Value.ref p.2).toArray c))
  (hm:Moved [] (fun x y=>y=x) s s') (q:H D'=none->Q (.ref D') (upd H D' (.lst (qs.map fun p=>.ref p.2)))):EP X pins σ Q (.ref D') s':=by
 have e:s'={ s with heap:=s'.heap,toks:=s'.toks }:=by
  cases s';cases s;have h1:=hm.gens;have h2:=hm.drawn;have h3:=hm.os;simp only at h1 h2 h3;subst h1 h2 h3;rfl
 rw[e];refine⟨.ref D',_,Inv.laidN I (o:=.lst (qs.map fun p=>.ref p.2)) (fun b u z=>hm.heap b u (fun y=>nomatch y) z) hn ?_,rfl,q (Inv.freeN I hn)⟩;refine⟨?_,_,c,qktz qs,hD⟩;rw[List.length_map,hS.perm.length_eq,sizeLine_eq];omega
theorem qvaz(hc:X.calm=true)(hu:X.A.units+64<cLine):CallR X (.builtin "sorted") (fun vs H Q=>∃(a:Addr) (xs:List V) (nss:List (List Int)),vs=[.ref a]/\SqL X.K H a xs/\Hvs X.K H (nss.map tupI) xs/\nss.length<64/\(∀ns∈nss,ns≠[]) ∧
  ∀(p:Addr) (mss:List (List Int)) (ys:List V),H p=none->mss.Perm nss->RiseL mss->Hvs X.K H (mss.map tupI) ys->Q (.ref p) (upd H p (.lst ys))):=by
 intro pins s σ H vs us Q I r h;obtain⟨a,xs,nss,rfl,hl,hv,hz,hne,q⟩:=h;obtain⟨u,rfl,ru⟩:=vals1 r;cases ru;obtain⟨its,rv,pl,_⟩:=I.list hl;obtain⟨ps,e1,e2,e3,e4⟩:=qevz I hv rv;subst e3;have hlen:ps.length=nss.length:=by rw[←e1,List.length_map]
 refine SortV.sorted_of (ps:=ps) (fun p hp=>⟨(e4 p hp).2,hne _ (by rw[←e1];exact List.mem_map.mpr ⟨p,hp,rfl⟩)⟩) (by omega) (fun R hR=>?_) fun qs s' c D' hS hn hD hm=>?_
 ·refine collect_list pl.isList (hR _ ⟨fun b o _ e=>?_,rfl,rfl,rfl,Nat.le_refl _⟩) (by rw[List.length_map,sizeLine_eq];omega);have hlt:=Heap.lt_size e;show ((s.heap.push (seqObj "list" #[] 0)).update s.heap.objs.size _).get? b=some o;rw[Heap.get?_update_other _ _ (Nat.ne_of_gt hlt)];exact Heap.get?_push_of_some _ e
 ·refine qkuz I (by omega) hS hn hD hm fun hf=>?_;refine q _ (qs.map (·.1)) _ hf (by rw[←e1];exact hS.perm.map _) ?_ (qgoz fun p hp=>(e4 p (hS.perm.mem_iff.mp hp)).1);exact List.pairwise_map.mpr hS.rise
end
end L3
namespace L3
open PySem PySem.Spec PyProof.Rows L2
def setφ(P:Program)(w:World)(b:Addr)(zs:List (List Int×Addr)):Heap->Prop:=fun h=>∃o es ep t,h.get? b=some o/\o.ExactSet/\o.data=.set es ep t/\es.toList=zs.map (SetM.ent P w)/\(zs.map (·.1)).Nodup/\t.plain=true ∧
 t.led=(!(w.params.followText "set-order"))/\SetP.Tab t (es.toList.map (·.1))
theorem qvbz{α β:Type}{f:α->β}{l l':List β}(h:l.Perm l'):∀{zs:List α},l'=zs.map f->∃zs':List α,zs'.Perm zs/\l=zs'.map f:=by
 induction h with
 |nil=>
  intro zs e;have:zs=[]:=by simpa using e.symm
  subst this;exact⟨[],.nil,rfl⟩
 |cons x _ ih=>
  intro zs e;cases zs with
  |nil=>cases e
  |cons z zs=>
   simp only[List.map_cons,List.cons.injEq] at e;obtain⟨zs',h1,h2⟩:=ih e.2;exact⟨z::zs',h1.cons z,by simp[e.1,h2]⟩
 |swap x y l=>
  intro zs e;rcases zs with _|⟨z,_|⟨z2,zs⟩⟩
  ·cases e
  ·simp at e
  ·simp only[List.map_cons,List.cons.injEq] at e;exact⟨z2::z::zs,.swap _ _ _,by simp[e.1,e.2.1,e.2.2]⟩
 |trans _ _ ih1 ih2=>
  intro zs e;obtain⟨z2,h1,h2⟩:=ih2 e;obtain⟨z1,h3,h4⟩:=ih1 h2;exact⟨z1,h3.trans h1,h4⟩
section
variable {X:Cx}
theorem qkvz(hc:X.calm=true)(hu:X.A.units+64<cLine):CallR X (.type "set") (fun vs H Q=>∃(a:Addr) (xs:List V) (nss:List (List Int)),vs=[.ref a]/\SqL X.K H a xs/\Hvs X.K H (nss.map tupI) xs/\nss.length≤60 ∧
  ∀(b:Addr) (zs:List (List Int×Addr)),H b=none->(∀p∈zs,SqT X.K H p.2 (p.1.map V.int))->(∀ns,ns∈zs.map (·.1)↔ns∈nss)->(zs.map (·.1)).Nodup->zs.length≤nss.length->Q (.ref b) (upd H b (.ext (setφ X.prog X.w b zs)))):=by
 intro pins s σ H vs us Q I r h;obtain⟨a,xs,nss,rfl,hl,hv,hz,q⟩:=h;obtain⟨u,rfl,ru⟩:=vals1 r;cases ru;obtain⟨its,rv,pl,_⟩:=I.list hl;obtain⟨ps,e1,e2,e3,e4⟩:=qevz I hv rv;subst e3;have hlen:ps.length=nss.length:=by rw[←e1,List.length_map]
 refine SetM.call_set_tups (ps:=ps) (I.ok.hd hc) pl.isList rfl (fun p hp=>(e4 p hp).2) (by omega) (by omega) fun h' tk zs kk hS hD=>?_;obtain⟨o,es,ep,t,S,T⟩:=hS;refine⟨.ref s.heap.objs.size,_,I.laid (o:=.ext (setφ X.prog X.w s.heap.objs.size zs)) kk (Nat.le_refl _) ?_,rfl,q _ zs (I.hok.fresh (Nat.le_refl _)) (fun p hp=>(e4 p (hD.sub p hp)).1) (fun ns=>?_) S.nd ?_⟩
 ·refine⟨⟨o,es,ep,t,S.at_,S.ex,S.dat,S.ents,S.nd,S.plain,S.led,T⟩,⟨o,S.at_⟩,fun h1 h2 ⟨o',es',ep',t',y1,y⟩ kk2=>⟨o',es',ep',t',kk2 _ y1,y⟩⟩
 ·rw[←e1];constructor
  ·intro hm;obtain⟨p,hp,rfl⟩:=List.mem_map.mp hm;exact List.mem_map.mpr ⟨p,hD.sub p hp,rfl⟩
  ·intro hm;obtain⟨p,hp,rfl⟩:=List.mem_map.mp hm;exact hD.all p hp
 ·rw[←hlen];exact hD.len
theorem qkwz(hc:X.calm=true)(hu:X.A.units+64<cLine):CallR X (.builtin "sorted") (fun vs H Q=>∃(b:Addr) (zs:List (List Int×Addr)),vs=[.ref b]/\H b=some (.ext (setφ X.prog X.w b zs))/\(∀p∈zs,SqT X.K H p.2 (p.1.map V.int))/\zs.length≤60/\(∀p∈zs,p.1≠[]) ∧
  ∀(p:Addr) (mss:List (List Int)) (ys:List V),H p=none->mss.Perm (zs.map (·.1))->RiseL mss->Hvs X.K H (mss.map tupI) ys->Q (.ref p) (upd H p (.lst ys))):=by
 intro pins s σ H vs us Q I r h;obtain⟨b,zs,rfl,hb,hk,hz,hne,q⟩:=h;obtain⟨u,rfl,ru⟩:=vals1 r;cases ru;obtain⟨⟨o,es,ep,t,y1,y2,y3,y4,y5,y6,y7,T⟩,_⟩:=(show ObjOk X.prog X.w H s.heap b _ from I.hok b _ hb);have hK:∀p∈zs,SetM.IsK X.prog X.w s.heap p.1 p.2:=fun p hp=>by
  obtain⟨its,rv,⟨o,h1,h2,n,h3⟩,_⟩:=I.tuple (hk p hp);exact⟨o,its.toArray,n,h1,h2,h3,qksz rv⟩
 have S:SetM.SetAt X.prog X.w s.heap b o es ep t zs:=⟨y1,y2,y3,y4,hK,y5,y6,y7⟩;obtain⟨zs',p1,p2⟩:=qvbz (SetM.walkL_perm X.w b ep es) y4;have hsz:es.size=zs.length:=by
  have:es.toList.length=zs.length:=by rw[y4,List.length_map]
  simpa using this
 refine SortV.sorted_of (ps:=zs') (fun p hp=>⟨hK p (p1.mem_iff.mp hp),hne p (p1.mem_iff.mp hp)⟩) (by rw[p1.length_eq];omega) (fun R hR=>?_) fun qs s' c D' hS hn hD hm=>?_
 ·refine SetM.wp_collect_set (by have:=I.ok.hd hc;simpa using this) S T (by omega) fun s' hm=>?_;have:=hR s' hm;rw[p2,List.map_map];exact this
 ·refine qkuz I (by rw[p1.length_eq];omega) hS hn hD hm fun hf=>?_;refine q _ (qs.map (·.1)) _ hf ((hS.perm.map _).trans (p1.map _)) ?_ (qgoz fun p hp=>hk p (p1.mem_iff.mp (hS.perm.mem_iff.mp hp)));exact List.pairwise_map.mpr hS.rise
end
section
variable {X:Cx} {K:PySem.W.Frag} {e:Expr} {es:List Expr} {t:TA3} {ta:TE3} {pos p p' pos':Pos}
def qb2z:C3:=fun ds G Q=>match ds with
 |[.obj a]=>∃nss:List (List Int),G a=some (.lst (nss.map tupI))/\nss.length<64/\(∀ns∈nss,ns≠[])/\∀(p:Addr) (mss:List (List Int)) (G':Gp),New G p (.lst (mss.map tupI)) G'->mss.Perm nss->RiseL mss->Q (.obj p) G'
 |_=>False
theorem qvcz:LowC K qb2z (fun vs H Q=>∃(a:Addr) (xs:List V) (nss:List (List Int)),vs=[.ref a]/\SqL K H a xs/\Hvs K H (nss.map tupI) xs/\nss.length<64/\(∀ns∈nss,ns≠[]) ∧
  ∀(p:Addr) (mss:List (List Int)) (ys:List V),H p=none->mss.Perm nss->RiseL mss->Hvs K H (mss.map tupI) ys->Q (.ref p) (upd H p (.lst ys))):=fun ds vs G H Q3 Q h RG q k=>by
 rcases ds with _|⟨d,_|⟨d2,ds⟩⟩
 ·exact q.elim
 ·obtain⟨v,rfl,hv⟩:=hvs1 h;cases d with
  |obj a=>
   obtain⟨nss,e1,hz,hne,q⟩:=q;obtain⟨xs,e2,e3⟩:=RG a _ e1;rw[qzz hv];exact⟨a,xs,nss,rfl,.of e2,e3,hz,hne,fun p mss ys hp h1 h2 h3=>k _ _ (.obj p) _ qa8z (.laidG hp) (RG.newL hp h3) (q p mss _ (.mk' (RG.free hp)) h1 h2)⟩
  |_=>exact q.elim
 ·cases d<;>exact q.elim
theorem qvdz(hu:X.A.units+64<cLine)(hm:X.mg "sorted" = none)(ha:PA3 X (e::es) t)(hc:X.calm=true:=by rfl)(hg:Gl X "sorted":=by rfl)(he:notStar e=true:=by rfl)(hpl:es.all notStar=true:=by rfl):
  PE3 X (.Call (.Name "sorted" p) (e::es) [] pos) (eCB qb2z t):=e_cb qvcz (qa6z (qvaz hc hu) hg hm rfl ha (he:=qpz he) (hpl:=q4z hpl))
def eSortSet(ta:TE3):TE3:=fun τ G Q=>ta τ G fun x G1=>match x with
 |.obj a=>∃nss:List (List Int),G1 a=some (.lst (nss.map tupI))/\nss.length≤60/\(∀ns∈nss,ns≠[])/\∀(p:Addr) (mss:List (List Int)) (G':Gp),New G1 p (.lst (mss.map tupI)) G'->(∀ns,ns∈mss↔ns∈nss)->mss.Nodup->RiseL mss->mss.length≤nss.length->Q (.obj p) G'
 |_=>False
theorem qvez(hu:X.A.units+64<cLine)(ha:PE3 X e ta)(hm:X.mg "sorted" = none)(hm2:X.mg "set" = none)(hc:X.calm=true:=by rfl)(hg:Gl X "sorted":=by rfl)(hg2:Gl X "set":=by rfl)(he2:notStar e=true:=by rfl):
  PE3 X (.Call (.Name "sorted" p) [.Call (.Name "set" p') [e] [] pos'] [] pos) (eSortSet ta):=
 qyz (qa6z (qkwz hc hu) hg hm rfl (qbiz (qcez (qkvz hc hu) hg2 hm2 rfl (qbiz ha qbvz (qpz he2)) (he:=qpz he2) (hpl:=q4z rfl)) qbvz (qpz rfl)) (he:=qpz rfl) (hpl:=q4z rfl)) fun σ H Q ⟨τ,G,Q3,RS,RG,h,k⟩=>by
  refine⟨τ,G,_,RS,RG,h,fun v H1 d G1 h1 S1 R1 q1=>?_⟩;cases d with
  |obj a=>
   obtain⟨nss,e1,hz,hne,q⟩:=q1;obtain⟨xs,e2,e3⟩:=R1 a _ e1;rw[qzz h1];refine⟨a,xs,nss,rfl,.of e2,e3,hz,fun b zs hb hk hmem hnd hlen=>?_⟩;have E2:Ext H1 (upd H1 b (.ext (setφ X.prog X.w b zs))):=.laid hb;refine⟨b,zs,rfl,qwz,fun p hp=>SqT.ext E2 (hk p hp),by omega,fun p hp=>hne _ ((hmem _).mp (List.mem_map.mpr ⟨p,hp,rfl⟩)),fun p mss ys hp hpm hr hv=>?_⟩;have R2:RepG X.K G1 (upd H1 b (.ext (setφ X.prog X.w b zs))):=R1.laid hb;refine k _ _ (.obj p) _ qa8z ((S1.trans (.laid hb)).trans (.laidG hp)) (R2.newL hp hv) (q p mss _ (.mk' (R2.free hp)) (fun ns=>?_) ?_ hr ?_)
   ·rw[hpm.mem_iff];exact hmem ns
   ·exact hpm.nodup_iff.mpr hnd
   ·rw[hpm.length_eq,List.length_map];exact hlen
  |_=>exact q1.elim
def blsOf:List D->Option (List Bool)
 |[]=>some []
 |.bl b::r=>(blsOf r).map (b::·)
 |_::_=>none
theorem qkxz{H:Hp}:∀{ds:List D} {vs:List V} {bs:List Bool},Hvs K H ds vs->blsOf ds=some bs->vs=bs.map V.bl
 |[],vs,ns,h,e=>by
  cases e;exact h.inv0
 |d::ds,vs,ns,h,e=>by
  cases d with
  |bl i=>
   obtain⟨v,r,rfl,z1,z2⟩:=h.inv;unfold blsOf at e;cases hm:blsOf ds with
   |none=>rw[hm] at e;cases e
   |some ms=>
    rw[hm] at e;cases e;rw[qbxz z1,qkxz z2 hm];rfl
  |_=>cases e
theorem qkyz:∀{bs:List Bool} {us:List Value},Vals (bs.map V.bl) us->us=bs.map Value.bool
 |[],_,.nil=>rfl
 |b::bs,_,.cons r rr=>by
  rw[(show _=Value.bool b from r),qkyz rr];rfl
theorem range_all(bs:List Bool):(List.range bs.length).all (fun i=>bs.getD i false)=bs.all id:=by
 rw[Bool.eq_iff_iff];simp only[List.all_eq_true,List.mem_range,id_eq];constructor
 ·intro h b hb;obtain⟨i,hi,rfl⟩:=List.mem_iff_getElem.mp hb;have:=h i hi;simpa [List.getD,hi] using this
 ·intro h i hi;have:=h bs[i] (List.getElem_mem hi);simpa [List.getD,hi] using this
theorem qkzz(hc:X.calm=true){pins:List (Addr×Obj)}{s:Shared}{σ:L2.St}{H:Hp}{a:Addr}{xs:List V}{E:Value->Shared->Prop}(I:Inv X pins σ H s)(hl:SqL X.K H a xs){Q:Value->Shared->Prop}
  (q:∀(its:List Value) (I':Addr),Vals xs its->WalksS X.prog X.w X.A.in1 I' [I',a] [I'] (fun x y=>y=x) its.length (fun i v=>its[i]?=some v) (fun i s=>s.heap.IsListIter I' a i/\s.heap.IsList a its.toArray) ->
   (s.heap.push { cls:=.type "list_iterator",data:=.fields #[.ref a,.int 0 0]}).IsListIter I' a 0->(s.heap.push { cls:=.type "list_iterator",data:=.fields #[.ref a,.int 0 0]}).IsList a its.toArray ->
   (∀b∈[I',a],b<(s.heap.push { cls:=.type "list_iterator",data:=.fields #[.ref a,.int 0 0]}).objs.size) ->
   (∀s',Moved [I'] (fun x y=>y=x) { s with heap:=s.heap.push { cls:=.type "list_iterator",data:=.fields #[.ref a,.int 0 0]}} s'->Inv X pins σ H s')->Q (.ref I') { s with heap:=s.heap.push { cls:=.type "list_iterator",data:=.fields #[.ref a,.int 0 0]}}):
  wpAny (model X.prog X.w) X.A.in1 (pyIter (.ref a)) Q E s:=by
 obtain⟨its,rv,pl,_⟩:=I.list hl;have hla:a<s.heap.objs.size:=by
  obtain⟨o,h1,_⟩:=pl.isList;exact Heap.lt_size h1
 refine wpAny_pyIter_list pl.isList ?_;have hW:=(Walks.list (prog:=X.prog) (w:=X.w) (A:=X.A.in1) (by have:=I.ok.hd hc;simpa using this) s.heap.objs.size a (Nat.ne_of_lt hla) its.toArray).toS;refine q its s.heap.objs.size rv (by simpa using hW) ⟨_,Heap.get?_push_size _ rfl,rfl,rfl⟩ ?_ ?_ fun s' hm=>?_
 ·obtain⟨o,h1,h2⟩:=pl.isList;exact⟨o,Heap.get?_push_of_some _ h1,h2⟩
 ·intro b hb;rw[size_push'];rcases List.mem_cons.mp hb with e|e
  ·rw[e];exact Nat.lt_succ_self _
  ·have:b=a:=by simpa using e
   rw[this];exact Nat.lt_succ_of_lt hla
 ·have e:s'={ s with heap:=s'.heap,toks:=s'.toks }:=by
   cases s';cases s;have h1:=hm.gens;have h2:=hm.drawn;have h3:=hm.os;simp only at h1 h2 h3;subst h1 h2 h3;rfl
  rw[e];exact I.kept fun b u z=>hm.heap b u (fun y=>by
   have:b=s.heap.objs.size:=by simpa using y
   exact absurd (this▸Heap.lt_size z) (Nat.lt_irrefl _)) (Heap.get?_push_of_some _ z)
theorem qvfz(hc:X.calm=true):CallR X (.builtin "all") (fun vs H Q=>∃(a:Addr) (bs:List Bool),vs=[.ref a]/\SqL X.K H a (bs.map V.bl)/\Q (.bl (bs.all id)) H):=by
 intro pins s σ H vs us Q I r h;obtain⟨a,bs,rfl,hl,q⟩:=h;obtain⟨u,rfl,ru⟩:=vals1 r;cases ru;refine call_all_walkS (qkzz hc I hl fun its I' rv W h1 h2 h3 back=>⟨I',_,_,_,_,_,_,fun i=>bs.getD i false,rfl,W,⟨h1,h2⟩,?_,fun s' hm=>?_⟩)
 ·intro i v s' Q' E' hv hq;have hx:=qkyz rv;subst hx;rw[List.getElem?_map] at hv;cases hb:bs[i]? with
  |none=>rw[hb] at hv;cases hv
  |some b=>
   rw[hb] at hv;cases hv;have:bs.getD i false=b:=by simp[List.getD,hb]
   dsimp only at hq;rw[this] at hq;exact wpAny_truthy_bool hq
 ·have:its.length=bs.length:=by rw[←rv.length,List.length_map]
  rw[this,range_all];exact⟨.bl (bs.all id),H,back s' hm,rfl,q⟩
theorem qk0z(ns:List Int):∀k,k≤ns.length->preSum (fun i=>ns.getD i 0) k=(ns.take k).sum
 |0,_=>by simp[preSum]
 |k+1,hk=>by
  rw[preSum,qk0z ns k (by omega),List.take_succ,List.sum_append];have:k<ns.length:=by omega
  simp[List.getD,this]
theorem qvgz(hc:X.calm=true):CallR X (.builtin "sum") (fun vs H Q=>∃(a:Addr) (ns:List Int),vs=[.ref a]/\SqL X.K H a (ns.map V.int)/\Q (.int ns.sum) H):=by
 intro pins s σ H vs us Q I r h;obtain⟨a,ns,rfl,hl,q⟩:=h;obtain⟨u,rfl,ru⟩:=vals1 r;cases ru;refine call_sum_walkAnyS (qkzz hc I hl fun its I' rv W h1 h2 h3 back=>⟨I',_,_,_,_,_,_,fun i=>ns.getD i 0,rfl,W,⟨h1,h2⟩,h3,?_,fun s' t' hm=>?_⟩)
 ·intro i v hv;have hi:i<ns.length:=by
   have h4:its.length=ns.length:=by rw[←rv.length,List.length_map]
   have:=(List.getElem?_eq_some_iff.mp hv).1;omega
  obtain⟨u',e1,e2⟩:=rv.get (i:=i) (x:=.int ns[i]) (by rw[List.getElem?_map,List.getElem?_eq_getElem hi];rfl);rw[hv] at e1;cases e1;obtain⟨t,rfl⟩:=(show ∃t,v=Value.int ns[i] t from e2);exact⟨t,by simp[List.getD,hi]⟩
 ·have h4:its.length=ns.length:=by rw[←rv.length,List.length_map]
  rw[h4,qk0z ns ns.length (Nat.le_refl _),List.take_length];exact⟨.int ns.sum,H,back s' hm,⟨t',rfl⟩,q⟩
def qcgz:C3:=fun ds G Q=>match ds with
 |[.obj a]=>∃xs bs,G a=some (.lst xs)/\blsOf xs=some bs/\Q (.bl (bs.all id)) G
 |_=>False
def qewz:C3:=fun ds G Q=>match ds with
 |[.obj a]=>∃xs ns,G a=some (.lst xs)/\intsOf xs=some ns/\Q (.int ns.sum) G
 |_=>False
theorem qvhz:LowC K qcgz (fun vs H Q=>∃(a:Addr) (bs:List Bool),vs=[.ref a]/\SqL K H a (bs.map V.bl)/\Q (.bl (bs.all id)) H):=fun ds vs G H Q3 Q h RG q k=>by
 rcases ds with _|⟨d,_|⟨d2,ds⟩⟩
 ·exact q.elim
 ·obtain⟨v,rfl,hv⟩:=hvs1 h;cases d with
  |obj a=>
   obtain⟨xs,bs,e1,e2,q⟩:=q;obtain⟨ys,e3,e4⟩:=RG a _ e1;rw[qzz hv];rw[qkxz e4 e2] at e3;exact⟨a,bs,rfl,.of e3,k _ H _ G qalz (.refl H G) RG q⟩
  |_=>exact q.elim
 ·cases d<;>exact q.elim
theorem qviz:LowC K qewz (fun vs H Q=>∃(a:Addr) (ns:List Int),vs=[.ref a]/\SqL K H a (ns.map V.int)/\Q (.int ns.sum) H):=fun ds vs G H Q3 Q h RG q k=>by
 rcases ds with _|⟨d,_|⟨d2,ds⟩⟩
 ·exact q.elim
 ·obtain⟨v,rfl,hv⟩:=hvs1 h;cases d with
  |obj a=>
   obtain⟨xs,bs,e1,e2,q⟩:=q;obtain⟨ys,e3,e4⟩:=RG a _ e1;rw[qzz hv];rw[qbyz e4 e2] at e3;exact⟨a,bs,rfl,.of e3,k _ H _ G qakz (.refl H G) RG q⟩
  |_=>exact q.elim
 ·cases d<;>exact q.elim
theorem qvjz(hu:X.A.units+64<cLine)(hm:X.mg "all" = none)(ha:PA3 X (e::es) t)(hc:X.calm=true:=by rfl)(hg:Gl X "all":=by rfl)(he:notStar e=true:=by rfl)(hpl:es.all notStar=true:=by rfl):
  PE3 X (.Call (.Name "all" p) (e::es) [] pos) (eCB qcgz t):=e_cb qvhz (qa6z (qvfz hc) hg hm rfl ha (he:=qpz he) (hpl:=q4z hpl))
theorem qvkz(hu:X.A.units+64<cLine)(hm:X.mg "sum" = none)(ha:PA3 X (e::es) t)(hc:X.calm=true:=by rfl)(hg:Gl X "sum":=by rfl)(he:notStar e=true:=by rfl)(hpl:es.all notStar=true:=by rfl):
  PE3 X (.Call (.Name "sum" p) (e::es) [] pos) (eCB qewz t):=e_cb qviz (qa6z (qvgz hc) hg hm rfl ha (he:=qpz he) (hpl:=q4z hpl))
end
end L3
namespace L3
open PySem PySem.Spec PyProof.Rows L2
open Sem (wp)
def Ik(k:Bool)(h:Heap)(jt a:Addr)(i:Nat):Prop:=match k with
 |true=>h.IsListIter jt a i
 |false=>h.IsTupleIter jt a i
def Sk(k:Bool)(h:Heap)(a:Addr)(xs:Array Value):Prop:=match k with
 |true=>h.IsList a xs
 |false=>h.IsTuple a xs
theorem Ik.of{k:Bool}{h h':Heap}{jt a:Addr}{i:Nat}(x:Ik k h jt a i)(f:∀o,h.get? jt=some o->h'.get? jt=some o):Ik k h' jt a i:=by
 cases k<;>(obtain⟨o,e,r⟩:=x;exact⟨o,f o e,r⟩)
theorem Sk.of{k:Bool}{h h':Heap}{a:Addr}{xs:Array Value}(x:Sk k h a xs)(f:∀o,h.get? a=some o->h'.get? a=some o):Sk k h' a xs:=by
 cases k<;>(obtain⟨o,e,r⟩:=x;exact⟨o,f o e,r⟩)
theorem Ik.obj{k:Bool}{h:Heap}{jt a:Addr}{i:Nat}(x:Ik k h jt a i):∃o,h.get? jt=some o/\∀v,o.data≠.cell v:=by
 cases k<;>(obtain⟨o,e,c,d⟩:=x;exact⟨o,e,fun v z=>by rw[d] at z;cases z⟩)
section
variable {P:Program} {w:World} {A:Around} {E:Value->Shared->Prop} {s:Shared}
theorem nextK{k:Bool}{jt a:Addr}{i:Nat}{xs:Array Value}{u:Value}{Q:Value->Shared->Prop}(hi:Ik k s.heap jt a i)(ha:Sk k s.heap a xs)(hx:xs[i]?=some u)
  (q:∀h',Ik k h' jt a (i+1)->Heap.SameBut jt s.heap h'->Q u { s with heap:=h' }):wpAny (model P w) A (Builtin.SmallTypes.nextOf (.ref jt)) Q E s:=by
 cases k with
 |true=>exact wpAny_nextOf_list_item hi ha hx q
 |false=>
  have hi:s.heap.IsTupleIter jt a i:=hi;obtain⟨o,e1,c1,d1⟩:=id hi;obtain⟨oa,e2,c2,n2,d2⟩:=(show s.heap.IsTuple a xs from ha);unfold Builtin.SmallTypes.nextOf;refine wpAny_bind (wpAny_callSpecial?_slot (name:=Str.ofString "__next__") hi.typeIs F.slot_tuple_iterator_next (wpAny_call_entry F.slot_tuple_iterator_next hi.typeIs F.entry_tuple_iterator_next ?_ (F.args_tuple_iterator_next_1 _)));show wpAny _ _ (field (.ref jt) 0 >>= _) _ _ s;refine wpAny_bind (wpAny_field e1 d1 (x:=.ref a) rfl ?_);show wpAny _ _ (if (Value.ref a==Value.none)=true then _ else _) _ _ s;rw[if_neg (show ¬((Value.ref a==Value.none)=true) from Bool.false_ne_true)];show wpAny _ _ (field (.ref jt) 1 >>= _) _ _ s;refine wpAny_bind (wpAny_field e1 d1 (x:=.int i 0) rfl ?_);show wpAny _ _ (seqItems? (.ref a) >>= _) _ _ s;refine wpAny_bind (wpAny_seqItems e2 d2 ?_);simp only[hx,Int.toNat_natCast];refine wpAny_bind (wpAny_setField e1 d1 (by simp) (wpAny_pure ⟨u,rfl,wpAny_pure (q _ ?_ (Heap.SameBut.update ..))⟩));exact⟨_,Heap.get?_update_self _ e1 (Obj.isFreed_of_fields (Obj.data_mapFields d1 _)),(Obj.cls_mapFields ..).trans c1,by rw[Obj.data_mapFields d1];simp[rawInt]⟩
theorem qexz{k:Bool}{jt a:Addr}{i:Nat}{xs:Array Value}{Q:Value->Shared->Prop}(hh:A.handled=none)(hi:Ik k s.heap jt a i)(ha:Sk k s.heap a xs)(hx:xs[i]?=none)
  (q:∀h' e,Heap.ExtBut jt s.heap h'->(∃o,h'.get? e=some o/\o.cls=.type "StopIteration")->E (.ref e) { s with heap:=h' }):wpAny (model P w) A (Builtin.SmallTypes.nextOf (.ref jt)) Q E s:=by
 cases k with
 |true=>exact wpAny_nextOf_list_end hh hi ha hx q
 |false=>
  have hi:s.heap.IsTupleIter jt a i:=hi;obtain⟨o,e1,c1,d1⟩:=id hi;obtain⟨oa,e2,c2,n2,d2⟩:=(show s.heap.IsTuple a xs from ha);unfold Builtin.SmallTypes.nextOf;refine wpAny_bind (wpAny_callSpecial?_slot (name:=Str.ofString "__next__") hi.typeIs F.slot_tuple_iterator_next (wpAny_call_entry F.slot_tuple_iterator_next hi.typeIs F.entry_tuple_iterator_next ?_ (F.args_tuple_iterator_next_1 _)));show wpAny _ _ (field (.ref jt) 0 >>= _) _ _ s;refine wpAny_bind (wpAny_field e1 d1 (x:=.ref a) rfl ?_);show wpAny _ _ (if (Value.ref a==Value.none)=true then _ else _) _ _ s;rw[if_neg (show ¬((Value.ref a==Value.none)=true) from Bool.false_ne_true)];show wpAny _ _ (field (.ref jt) 1 >>= _) _ _ s;refine wpAny_bind (wpAny_field e1 d1 (x:=.int i 0) rfl ?_);show wpAny _ _ (seqItems? (.ref a) >>= _) _ _ s;refine wpAny_bind (wpAny_seqItems e2 d2 ?_);simp only[hx,Int.toNat_natCast];refine wpAny_bind (wpAny_rule (wpAny_bind (wpAny_setField e1 d1 (by simp) ?_)));show wpAny _ _ (newExc (.type "StopIteration") [] >>= _) _ _ ({ s with heap:=_ }:Shared);refine wpAny_bind ?_;simp only[newTuple,newExc];refine wpAny_bind (wpAny_newObj_type ?_ (by size_fits));refine wpAny_bind (m:=firstArgMember _ _) (wpAny_of_eq (a:=Value.none) (by first|(simp only[firstArgMember];rfl)|rfl) ?_)
  refine wpAny_newObj_type ?_ (by size_fits);simp only[raiseNew];refine wpAny_bind (wpAny_handled ?_)
  first|rw[hh]|rw[show A.in1.handled=none from hh]
  refine wpAny_bind (wpAny_pure (wpAny_throw ?_));exact q _ _ (((Heap.SameBut.update ..).extBut.push _).push _) ⟨_,Heap.get?_push_size _ rfl,rfl⟩
theorem zipK{k1 k2:Bool}{zz ti ot j1 j2 a1 a2:Addr}{m n:Nat}{xs ys:Array Value}{u v c d:Value}{Q:Value->Shared->Prop}(D:ZipApart zz ti ot j1 j2 a1 a2)
  (Z:IsZip s.heap zz ti ot .none) (Ti:IsPair s.heap ti (.ref j1) (.ref j2)) (To:IsPair s.heap ot c d) (g1:Ik k1 s.heap j1 a1 m) (g2:Ik k2 s.heap j2 a2 n) (s1:Sk k1 s.heap a1 xs) (s2:Sk k2 s.heap a2 ys) (hu:xs[m]?=some u) (hv:ys[n]?=some v)
  (q:∀h',IsZip h' zz ti ot (rawInt s.heap.objs.size)->IsPair h' ot u v->Ik k1 h' j1 a1 (m+1)->Ik k2 h' j2 a2 (n+1)->IsPair h' s.heap.objs.size u v ->
   (∀b o,b≠zz->b≠ot->b≠j1->b≠j2->s.heap.get? b=some o->h'.get? b=some o)->Q (.ref s.heap.objs.size) { s with heap:=h' }):
  wpAny (model P w) A (Builtin.«zip.__next__» ⟨[.ref zz],[]⟩) (fun fin s'=>∃r,fin=.done (.ret r)/\Q r s') E s:=by
 show wpAny _ _ (field (.ref zz) 2 >>= _) _ _ _;refine wpAny_bind (wpAny_field Z rfl (x:=.bool false) rfl ?_);show wpAny _ _ (field (.ref zz) 3 >>= _) _ _ _;refine wpAny_bind (wpAny_field Z rfl (x:=.ref ti) rfl ?_);refine wpAny_bind (wpAny_seqItems Ti rfl ?_);show wpAny _ _ (Builtin.SmallTypes.ownedTupleIsFree (.ref zz) >>= _) _ _ _;refine wpAny_bind ?_;unfold Builtin.SmallTypes.ownedTupleIsFree;refine wpAny_bind (wpAny_field Z rfl (x:=.none) rfl (wpAny_pure ?_));simp only[if_true];refine wpAny_bind (wpAny_rule ?_);refine wpAny_bind (wpAny_field Z rfl (x:=.ref ot) rfl ?_);refine wpAny_bind (wpAny_setField_rec Z (by simp) fun w1 Z1 b1=>?_)
 replace Z1:IsZip w1 zz ti ot .ellipsis:=Z1
 refine wpAny_bind ?_
 (simp only[List.zipIdx_nil,List.zipIdx_cons,List.forIn_nil,List.forIn_cons])
 have k1_:∀b o,b≠zz->s.heap.get? b=some o->w1.get? b=some o:=fun b o h e=>b1.extBut b o h e;refine wpAny_bind (wpAny_bind (wpAny_onRaise ?_));show wpAny _ _ (Builtin.SmallTypes.nextOf (.ref j1) >>= _) _ _ _;refine wpAny_bind (nextK (g1.of fun o e=>k1_ _ o D.i1z e) (s1.of fun o e=>k1_ _ o D.l1z e) hu fun w2 J1 b2=>wpAny_pure ?_);have k2_:∀b o,b≠zz->b≠j1->s.heap.get? b=some o->w2.get? b=some o:=fun b o h h2 e=>b2.extBut b o h2 (k1_ b o h e);have To2:IsPair w2 ot c d:=k2_ _ _ D.TOz D.TOi1 To;refine wpAny_bind (wpAny_seqItems To2 rfl ?_);refine wpAny_bind (wpAny_updateSeq_pair To2 fun w3 To3 b3=>?_)
 replace To3:IsPair w3 ot u d:=To3
 have k3_:∀b o,b≠zz->b≠j1->b≠ot->s.heap.get? b=some o->w3.get? b=some o:=fun b o h h2 h3 e=>b3.extBut b o h3 (k2_ b o h h2 e);refine wpAny_bind (wpAny_letGo (wpAny_pure ?_));refine wpAny_bind (wpAny_bind (wpAny_onRaise ?_));show wpAny _ _ (Builtin.SmallTypes.nextOf (.ref j2) >>= _) _ _ _;refine wpAny_bind (nextK (g2.of fun o e=>k3_ _ o D.i2z D.i12.symm D.TOi2.symm e) (s2.of fun o e=>k3_ _ o D.l2z D.l2i1 D.l2TO e) hv fun w4 J2 b4=>wpAny_pure ?_);have To4:IsPair w4 ot u d:=b4.extBut _ _ D.TOi2 To3;refine wpAny_bind (wpAny_seqItems To4 rfl ?_);refine wpAny_bind (wpAny_updateSeq_pair To4 fun w5 To5 b5=>?_)
 replace To5:IsPair w5 ot u v:=To5
 refine wpAny_bind (wpAny_letGo (wpAny_pure (wpAny_pure ?_)));refine wpAny_bind (wpAny_seqItems To5 rfl ?_);refine wpAny_bind (wpAny_newTuple ?_);have sz:w5.objs.size=s.heap.objs.size:=by rw[b5.1,b4.1,b3.1,b2.1,b1.1]
 have Z5:IsZip w5 zz ti ot .ellipsis:=b5.extBut _ _ D.TOz.symm (b4.extBut _ _ D.i2z.symm (b3.extBut _ _ D.TOz.symm (b2.extBut _ _ D.i1z.symm Z1)));have k5_:∀b o,b≠zz->b≠ot->b≠j1->b≠j2->s.heap.get? b=some o->w5.get? b=some o:=fun b o c1 c2 c3 c4 e=>b5.extBut _ _ c2 (b4.extBut _ _ c4 (k3_ b o c1 c3 c2 e));have L1:Ik k1 w5 j1 a1 (m+1):=J1.of fun o e=>b5.extBut _ _ D.TOi1.symm (b4.extBut _ _ D.i12 (b3.extBut _ _ D.TOi1.symm e));have L2:Ik k2 w5 j2 a2 (n+1):=J2.of fun o e=>b5.extBut _ _ D.TOi2.symm e;have lz:zz<w5.objs.size:=Heap.lt_size Z5;show wpAny _ _ (Builtin.SmallTypes.ownedTupleHandOut (.ref zz) (.ref w5.objs.size) >>= _) _ _ _;refine wpAny_bind ?_;unfold Builtin.SmallTypes.ownedTupleHandOut;have Z6:IsZip (w5.push { cls:=.type "tuple",data:=.seq #[u,v]}) zz ti ot .ellipsis:=Heap.get?_push_of_some _ Z5;refine wpAny_bind (wpAny_setField_rec Z6 (by simp) fun w7 Z7 b7=>?_)
 replace Z7:IsZip w7 zz ti ot (rawInt w5.objs.size):=Z7
 refine wpAny_setField_rec Z7 (by simp) fun w8 Z8 b8=>?_
 replace Z8:IsZip w8 zz ti ot (rawInt w5.objs.size):=Z8
 have up:∀b o,b≠zz->w5.get? b=some o->w8.get? b=some o:=fun b o c1 e=>b8.extBut _ _ c1 (b7.extBut _ _ c1 (Heap.get?_push_of_some _ e));have T8:IsPair w8 w5.objs.size u v:=b8.extBut _ _ (Nat.ne_of_gt lz) (b7.extBut _ _ (Nat.ne_of_gt lz) (Heap.get?_push_size _ rfl));rw[sz] at Z8 T8;refine wpAny_pure ⟨_,rfl,?_⟩;show Q (.ref w5.objs.size) _;rw[sz];exact q w8 Z8 (up _ _ D.TOz To5) (L1.of fun o e=>up _ o D.i1z e) (L2.of fun o e=>up _ o D.i2z e) T8 fun b o c1 c2 c3 c4 e=>up b o c1 (k5_ b o c1 c2 c3 c4 e)
theorem qvlz{k1 k2:Bool}{zz ti ot j1 j2 a1 a2:Addr}{m n:Nat}{xs ys:Array Value}{c d:Value}{Q:Fin->Shared->Prop}(hh:A.handled=none)(D:ZipApart zz ti ot j1 j2 a1 a2)
  (Z:IsZip s.heap zz ti ot .none) (Ti:IsPair s.heap ti (.ref j1) (.ref j2)) (To:IsPair s.heap ot c d) (g1:Ik k1 s.heap j1 a1 m) (g2:Ik k2 s.heap j2 a2 n) (s1:Sk k1 s.heap a1 xs) (s2:Sk k2 s.heap a2 ys) (he:xs[m]?=none∨ys[n]?=none)
  (q:∀h' e,(∀b o,b≠zz->b≠ot->b≠j1->b≠j2->s.heap.get? b=some o->h'.get? b=some o)->(∃o,h'.get? e=some o/\o.cls=.type "StopIteration")->E (.ref e) { s with heap:=h' }):
  wpAny (model P w) A (Builtin.«zip.__next__» ⟨[.ref zz],[]⟩) Q E s:=by
 show wpAny _ _ (field (.ref zz) 2 >>= _) _ _ _;refine wpAny_bind (wpAny_field Z rfl (x:=.bool false) rfl ?_);show wpAny _ _ (field (.ref zz) 3 >>= _) _ _ _;refine wpAny_bind (wpAny_field Z rfl (x:=.ref ti) rfl ?_);refine wpAny_bind (wpAny_seqItems Ti rfl ?_);show wpAny _ _ (Builtin.SmallTypes.ownedTupleIsFree (.ref zz) >>= _) _ _ _;refine wpAny_bind ?_;unfold Builtin.SmallTypes.ownedTupleIsFree;refine wpAny_bind (wpAny_field Z rfl (x:=.none) rfl (wpAny_pure ?_));simp only[if_true];refine wpAny_bind (wpAny_rule ?_);refine wpAny_bind (wpAny_field Z rfl (x:=.ref ot) rfl ?_);refine wpAny_bind (wpAny_setField_rec Z (by simp) fun w1 Z1 b1=>?_)
 replace Z1:IsZip w1 zz ti ot .ellipsis:=Z1
 refine wpAny_bind ?_
 (simp only[List.zipIdx_nil,List.zipIdx_cons,List.forIn_nil,List.forIn_cons])
 have k1_:∀b o,b≠zz->s.heap.get? b=some o->w1.get? b=some o:=fun b o h e=>b1.extBut b o h e;refine wpAny_bind (wpAny_bind (wpAny_onRaise ?_));show wpAny _ _ (Builtin.SmallTypes.nextOf (.ref j1) >>= _) _ _ _;cases hx:xs[m]? with
 |none=>
  refine wpAny_bind (qexz hh (g1.of fun o e=>k1_ _ o D.i1z e) (s1.of fun o e=>k1_ _ o D.l1z e) hx fun w2 e b2 hs=>?_);obtain⟨oe,e1,e2⟩:=hs;have Z2:IsZip w2 zz ti ot .ellipsis:=b2 _ _ D.i1z.symm Z1;have ez:e≠zz:=fun x=>by
   subst x;rw[Z2] at e1;cases e1;simp at e2
  exact wpAny_setField_rec Z2 (by simp) fun w3 _ b3=>q w3 e (fun b o c1 _ c3 _ x=>b3.extBut _ _ c1 (b2 _ _ c3 (k1_ b o c1 x))) ⟨oe,b3.extBut _ _ ez e1,e2⟩
 |some u=>
  have hy:ys[n]?=none:=by
   rcases he with h|h
   ·rw[hx] at h;cases h
   ·exact h
  refine wpAny_bind (nextK (g1.of fun o e=>k1_ _ o D.i1z e) (s1.of fun o e=>k1_ _ o D.l1z e) hx fun w2 J1 b2=>wpAny_pure ?_);have k2_:∀b o,b≠zz->b≠j1->s.heap.get? b=some o->w2.get? b=some o:=fun b o h h2 e=>b2.extBut b o h2 (k1_ b o h e);have To2:IsPair w2 ot c d:=k2_ _ _ D.TOz D.TOi1 To;refine wpAny_bind (wpAny_seqItems To2 rfl ?_);refine wpAny_bind (wpAny_updateSeq_pair To2 fun w3 To3 b3=>?_);have k3_:∀b o,b≠zz->b≠j1->b≠ot->s.heap.get? b=some o->w3.get? b=some o:=fun b o h h2 h3 e=>b3.extBut b o h3 (k2_ b o h h2 e);refine wpAny_bind (wpAny_letGo (wpAny_pure ?_));refine wpAny_bind (wpAny_bind (wpAny_onRaise ?_));show wpAny _ _ (Builtin.SmallTypes.nextOf (.ref j2) >>= _) _ _ _;refine wpAny_bind (qexz hh (g2.of fun o e=>k3_ _ o D.i2z D.i12.symm D.TOi2.symm e) (s2.of fun o e=>k3_ _ o D.l2z D.l2i1 D.l2TO e) hy fun w4 e b4 hs=>?_);obtain⟨oe,e1,e2⟩:=hs;have Z4:IsZip w4 zz ti ot .ellipsis:=b4 _ _ D.i2z.symm (b3.extBut _ _ D.TOz.symm (b2.extBut _ _ D.i1z.symm Z1));have ez:e≠zz:=fun x=>by
   subst x;rw[Z4] at e1;cases e1;simp at e2
  exact wpAny_setField_rec Z4 (by simp) fun w5 _ b5=>q w5 e (fun b o c1 c2 c3 c4 x=>b5.extBut _ _ c1 (b4 _ _ c4 (k3_ b o c1 c3 c2 x))) ⟨oe,b5.extBut _ _ ez e1,e2⟩
end
end L3
namespace L3
open PySem PySem.Spec PyProof.Rows L2
open Sem (wp)
section
variable {X:Cx} {pins:List (Addr×Obj)} {σ:L2.St} {H:Hp} {s:Shared}
theorem turnedL{h':Heap}{t':Nat}{fp:List Addr}(I:L2.Inv X pins σ H s)(k:∀b o,b∉fp->s.heap.get? b=some o->h'.get? b=some o)(hf:∀b∈fp,FpOk X pins H b):L2.Inv X pins σ H { s with heap:=h',toks:=t' }:=by
 have nit:∀b u,H b=some u->b∉fp:=fun b u e z=>by rw[(hf b z).1] at e;cases e
 refine I.step (g':=s.gens) (d':=s.drawn) (ch:=fp) (fun b hb=>?_) (fun b o _ _ hc e _=>k b o hc e) (fun b o _ _ hc e _=>⟨o.slots,k b o hc e⟩) (fun _ _ _ _ n=>n) (fun b o hc e=>⟨o,k b o hc e⟩) (fun _ _ e=>e) (fun _ _ _ e=>e) (fun b ps e=>⟨#[],by rw[e];simp⟩) (fun m hm=>?_) (fun b u e=>?_) I.bare
 ·obtain⟨f0,f1,f2,f3,f4,f5⟩:=hf b hb;exact⟨f3,f1,f4,f5⟩
 ·obtain⟨o,es,ep,ho,r⟩:=hm;exact⟨o,es,ep,k _ o (fun z=>(hf _ z).2.1 rfl) ho,r⟩
 ·refine (I.hok b u e).stay (fun c v hc q=>k c v ?_ q) (fun _ q=>q) fun _ _ q=>q;rcases hc with z|z
  ·rw[z];exact nit b u e
  ·exact nit c _ z
def SqK(K:PySem.W.Frag)(k:Bool)(H:Hp)(a:Addr)(xs:List V):Prop:=match k with
 |true=>SqL K H a xs
 |false=>SqT K H a xs
theorem SqK.heap{k:Bool}{a:Addr}{xs:List V}(I:L2.Inv X pins σ H s)(h:SqK X.K k H a xs):∃its,Vals xs its/\Sk k s.heap a its.toArray:=by
 cases k with
 |true=>
  obtain⟨its,rv,p,hz⟩:=I.list (show SqL X.K H a xs from h);exact⟨its,rv,p.isList⟩
 |false=>
  obtain⟨its,rv,p,hz⟩:=I.tuple (show SqT X.K H a xs from h);exact⟨its,rv,p⟩
theorem SqK.inj{k:Bool}{a:Addr}{xs ys:List V}(I:L2.Inv X pins σ H s)(h:SqK X.K k H a xs)(h':SqK X.K k H a ys):xs=ys:=by
 cases k with
 |true=>exact I.list_inj (show SqL X.K H a xs from h) (show SqL X.K H a ys from h')
 |false=>exact I.tuple_inj (show SqT X.K H a xs from h) (show SqT X.K H a ys from h')
theorem SqK.apart{k:Bool}{a b:Addr}{xs:List V}(I:L2.Inv X pins σ H s)(h:SqK X.K k H a xs)(f:FpOk X pins H b):a≠b:=by
 intro z;subst z;have hb:(∃u,H a=some u)∨∃o,X.K.lookup a=some o:=by
  cases k <;>
  ·rcases h with (h|⟨o,h⟩)|⟨o,_,_,h,_⟩
   ·exact .inl ⟨_,h⟩
   ·exact .inl ⟨_,h⟩
   ·exact .inr ⟨_,h⟩
 rcases hb with⟨u,e⟩|⟨o,e⟩
 ·rw[f.1] at e;cases e
 ·have e2:=I.mod.kin a o e;rcases f.2.2.2.1 with q|q
  ·exact I.ok.noex a o e2 q
  ·exact absurd (Nat.lt_of_lt_of_le (Heap.lt_size (I.ok.bs a o e2).1) q) (Nat.lt_irrefl _)
end
def Itz(K:PySem.W.Frag)(k1 k2:Bool)(a1 a2:Addr):It:=
 ⟨fun i H=>∃xs ys x y,(SqK K k1 H a1 xs/\xs[i]?=some x)/\SqK K k2 H a2 ys/\ys[i]?=some y,
  fun i H x H'=>∃T u v,x=.ref T/\H T=none/\H'=upd H T (.tup [u,v])/\(∀xs,SqK K k1 H a1 xs->xs[i]?=some u)/\∀ys,SqK K k2 H a2 ys->ys[i]?=some v,
  fun i H=>∃xs ys,SqK K k1 H a1 xs/\SqK K k2 H a2 ys/\(xs.length≤i∨ys.length≤i)⟩
theorem zap{zz ti ot j1 j2 a1 a2:Addr}(h:[zz,ti,ot,j1,j2].Nodup)(h1:∀b∈[zz,ti,ot,j1,j2],a1≠b)(h2:∀b∈[zz,ti,ot,j1,j2],a2≠b):ZipApart zz ti ot j1 j2 a1 a2:=by
 simp only[List.nodup_cons,List.mem_cons,not_or,List.not_mem_nil,not_false_eq_true,List.nodup_nil,and_true] at h;obtain⟨⟨n1,n2,n3,n4⟩,⟨n5,n6,n7⟩,⟨n8,n9⟩,n10⟩:=h;exact⟨Ne.symm n1,Ne.symm n2,Ne.symm n3,Ne.symm n4,n5,n6,n7,n8,n9,n10,h1 _ (by simp),h1 _ (by simp),h1 _ (by simp),h1 _ (by simp),h2 _ (by simp),h2 _ (by simp),h2 _ (by simp),h2 _ (by simp)⟩
theorem qvmz{P:Program}{w:World}{K:PySem.W.Frag}{es:List Expr}{n0:Nat}{ps:Pos}(k1 k2:Bool)(a1 a2 zz ti ot j1 j2:Addr)(hd:[zz,ti,ot,j1,j2].Nodup):
  Turn P w K (.Tuple es n0 ps) (Itz K k1 k2 a1 a2) [zz,ti,ot,j1,j2] zz (fun i h=>IsZip h zz ti ot .none/\IsPair h ti (.ref j1) (.ref j2)/\(∃c d,IsPair h ot c d)/\Ik k1 h j1 a1 i/\Ik k2 h j2 a2 i) where
 mem:=by simp
 obj:=fun i h st b hb=>by
  obtain⟨Z,Ti,⟨c,d,To⟩,g1,g2⟩:=st;simp only[List.mem_cons,List.not_mem_nil,or_false] at hb;rcases hb with rfl|rfl|rfl|rfl|rfl
  ·exact⟨_,Z,fun v z=>by cases (show Data.fields _=Data.cell v from z)⟩
  ·exact⟨_,Ti,fun v z=>by cases (show Data.seq _ _=Data.cell v from z)⟩
  ·exact⟨_,To,fun v z=>by cases (show Data.seq _ _=Data.cell v from z)⟩
  ·exact g1.obj
  ·exact g2.obj
 keep:=fun i h h' st k=>by
  obtain⟨Z,Ti,⟨c,d,To⟩,g1,g2⟩:=st;exact⟨k _ (by simp) _ Z,k _ (by simp) _ Ti,⟨c,d,k _ (by simp) _ To⟩,g1.of fun o e=>k _ (by simp) _ e,g2.of fun o e=>k _ (by simp) _ e⟩
 item:=by
  intro X hP hw hK hc i pins s σ H E I hf st hg;subst hP hw hK;obtain⟨Z,Ti,⟨c,d,To⟩,g1,g2⟩:=st;obtain⟨xs,ys,x,y,⟨q1,hx⟩,q2,hy⟩:=hg;obtain⟨its1,rv1,p1⟩:=q1.heap I;obtain⟨its2,rv2,p2⟩:=q2.heap I;obtain⟨u,hu,ru⟩:=rv1.get hx;obtain⟨v,hv,rv⟩:=rv2.get hy;have D:=zap hd (fun b hb=>q1.apart I (hf b hb)) (fun b hb=>q2.apart I (hf b hb));have hT:s.TypeIs (.ref zz) "zip":=⟨_,Z,rfl⟩;unfold pyNext;refine wpAny_bind (wpAny_attempt (wpAny_callSpecial?_slot (name:=Str.ofString "__next__") hT F.slot_zip_next (wpAny_call_entry F.slot_zip_next hT F.entry_zip_next (zipK D Z Ti To g1 g2 p1 p2 (u:=u) (v:=v) (by simpa using hu) (by simpa using hv) fun h' Z' To' g1' g2' T' kp=>?_) (F.args_zip_next_1 _))));refine wpAny_pure ⟨_,rfl,?_⟩;refine wpAny_letOwnedTupleGo_zip Z' fun h2 Z2 b2=>?_;have hn:H s.heap.objs.size=none:=I.hok.fresh (Nat.le_refl _);have I1:L2.Inv X pins σ (upd H s.heap.objs.size (.tup [x,y])) { s with heap:=s.heap.push { cls:=.type "tuple",data:=.seq #[u,v]}}:=I.laid (t':=s.toks) (fun b o e=>Heap.get?_push_of_some _ e) (Nat.le_refl _) ⟨by show 2≤sizeLine;decide,[u,v],.cons ru (.cons rv .nil),⟨_,Heap.get?_push_size _ rfl,rfl,⟨_,rfl⟩,rfl⟩⟩;have lt:∀b∈[zz,ti,ot,j1,j2],b<s.heap.objs.size:=fun b hb=>by
   simp only[List.mem_cons,List.not_mem_nil,or_false] at hb;rcases hb with rfl|rfl|rfl|rfl|rfl
   ·exact Heap.lt_size Z
   ·exact Heap.lt_size Ti
   ·exact Heap.lt_size To
   ·obtain⟨o,e,_⟩:=g1.obj;exact Heap.lt_size e
   ·obtain⟨o,e,_⟩:=g2.obj;exact Heap.lt_size e
  have hf':∀b∈[zz,ti,ot,j1,j2],FpOk X pins (upd H s.heap.objs.size (.tup [x,y])) b:=fun b hb=>⟨by rw[qoz (Nat.ne_of_lt (lt b hb))];exact (hf b hb).1,(hf b hb).2⟩;have I2:L2.Inv X pins σ (upd H s.heap.objs.size (.tup [x,y])) { s with heap:=h2 }:=turnedL (s:={ s with heap:=s.heap.push { cls:=.type "tuple",data:=.seq #[u,v]}}) (t':=s.toks) I1 (fun b o hb e=>by
   simp only[List.mem_cons,List.not_mem_nil,or_false,not_or] at hb;refine b2.extBut b o hb.1 ?_;rcases Heap.get?_push_cases e with⟨rfl,rfl⟩|e
   ·exact T'
   ·exact kp b o hb.1 hb.2.2.1 hb.2.2.2.1 hb.2.2.2.2 e) hf'
  refine⟨.ref s.heap.objs.size,_,I2,rfl,⟨_,x,y,rfl,hn,rfl,fun zs hz=>by rw[hz.inj I q1];exact hx,fun zs hz=>by rw[hz.inj I q2];exact hy⟩,⟨Z2,?_,⟨u,v,?_⟩,g1'.of fun o e=>b2.extBut _ _ D.i1z e,g2'.of fun o e=>b2.extBut _ _ D.i2z e⟩,fun b hb=>(hf' b hb).1⟩
  ·exact b2.extBut _ _ D.TIz (kp _ _ D.TIz D.TITO D.TIi1 D.TIi2 Ti)
  ·exact b2.extBut _ _ D.TOz To'
 done:=by
  intro X hP hw hK hc i pins s σ H E I hf st hg;subst hP hw hK;obtain⟨Z,Ti,⟨c,d,To⟩,g1,g2⟩:=st;obtain⟨xs,ys,q1,q2,hl⟩:=hg;obtain⟨its1,rv1,p1⟩:=q1.heap I;obtain⟨its2,rv2,p2⟩:=q2.heap I;have D:=zap hd (fun b hb=>q1.apart I (hf b hb)) (fun b hb=>q2.apart I (hf b hb));have hT:s.TypeIs (.ref zz) "zip":=⟨_,Z,rfl⟩;have l1:=rv1.length;have l2:=rv2.length;unfold pyNext;refine wpAny_bind (wpAny_attempt (wpAny_callSpecial?_slot (name:=Str.ofString "__next__") hT F.slot_zip_next (wpAny_call_entry F.slot_zip_next hT F.entry_zip_next (qvlz (I.ok.hd hc) D Z Ti To g1 g2 p1 p2 (by
   rcases hl with h|h
   ·exact .inl (by simp;omega)
   ·exact .inr (by simp;omega)) fun h' e kp hs=>?_) (F.args_zip_next_1 _))))
  obtain⟨o,ho,hcl⟩:=hs;refine wpAny_bind (wpAny_isInstance (T:="StopIteration") (b:=true) ⟨o,ho,hcl⟩ isSubtype_stop ?_);refine wpAny_pure ⟨rfl,turnedL (t':=s.toks) I (fun b o hb e=>?_) hf⟩;simp only[List.mem_cons,List.not_mem_nil,or_false,not_or] at hb;exact kp b o hb.1 hb.2.2.1 hb.2.2.2.1 hb.2.2.2.2 e
 self:=fun _ _ _ _ _ st h=>wpAny_pyIter_zip st.1 h
def itO(k:Bool)(a:Addr):Obj:=match k with
 |true=>{ cls:=.type "list_iterator",data:=.fields #[.ref a,.int 0 0]}
 |false=>{ cls:=.type "tuple_iterator",data:=.fields #[.ref a,.int 0 0]}
def zw1(k1:Bool)(h:Heap)(a1:Addr):Heap:=h.push (itO k1 a1)
def zw2(k1 k2:Bool)(h:Heap)(a1 a2:Addr):Heap:=(zw1 k1 h a1).push (itO k2 a2)
def zw3(k1 k2:Bool)(h:Heap)(a1 a2:Addr):Heap:=(zw2 k1 k2 h a1 a2).push { cls:=.type "tuple",data:=.seq #[.ref h.objs.size,.ref (zw1 k1 h a1).objs.size]}
def zw4(k1 k2:Bool)(h:Heap)(a1 a2:Addr):Heap:=(zw3 k1 k2 h a1 a2).push { cls:=.type "tuple",data:=.seq #[.none,.none]}
def zw5(k1 k2:Bool)(h:Heap)(a1 a2:Addr):Heap:=(zw4 k1 k2 h a1 a2).push { cls:=.type "zip",data:=.fields #[.none,.bool false,.bool false,.ref (zw2 k1 k2 h a1 a2).objs.size,.ref (zw3 k1 k2 h a1 a2).objs.size]}
theorem itK{k:Bool}{h:Heap}{jt a:Addr}(e:h.get? jt=some (itO k a)):Ik k h jt a 0:=by
 cases k<;>exact⟨_,e,rfl,rfl⟩
theorem qk1z{k:Bool}{a:Addr}:(itO k a).isFreed=false:=by cases k<;>rfl
theorem qvnz(k1 k2:Bool)(a1 a2:Addr)(xs ys:Array Value):Meets (Builtin.«zip.__new__» ⟨[.type "zip",.ref a1,.ref a2],[]⟩) (fun _ R s=>Sk k1 s.heap a1 xs/\Sk k2 s.heap a2 ys ∧
   R (.ok (.ret (.ref (zw4 k1 k2 s.heap a1 a2).objs.size))) { s with heap:=zw5 k1 k2 s.heap a1 a2 }):=
 .of_wp fun prog w A R s h=>by
  obtain⟨hp,g,d,tk,os⟩:=s;obtain⟨h1,h2,h⟩:=h;have hsub:=sub_zip;cases k1<;>cases k2
  ·have q1:Heap.IsTuple (Shared.heap ⟨hp,g,d,tk,os⟩) a1 xs:=h1;have q2:Heap.IsTuple (Shared.heap ⟨hp.push { cls:=.type "tuple_iterator",data:=.fields #[.ref a1,.int 0 0]},g,d,tk,os⟩) a2 ys:=Heap.IsTuple.push h2 _;wp_walk using wpAny_pyIter_tuple q1,wpAny_pyIter_tuple q2;exact⟨_,rfl,h⟩
  ·have q1:Heap.IsTuple (Shared.heap ⟨hp,g,d,tk,os⟩) a1 xs:=h1;have q2:Heap.IsList (Shared.heap ⟨hp.push { cls:=.type "tuple_iterator",data:=.fields #[.ref a1,.int 0 0]},g,d,tk,os⟩) a2 ys:=Heap.IsList.push h2 _;wp_walk using wpAny_pyIter_tuple q1,wpAny_pyIter_list q2;exact⟨_,rfl,h⟩
  ·have q1:Heap.IsList (Shared.heap ⟨hp,g,d,tk,os⟩) a1 xs:=h1;have q2:Heap.IsTuple (Shared.heap ⟨hp.push { cls:=.type "list_iterator",data:=.fields #[.ref a1,.int 0 0]},g,d,tk,os⟩) a2 ys:=Heap.IsTuple.push h2 _;wp_walk using wpAny_pyIter_list q1,wpAny_pyIter_tuple q2;exact⟨_,rfl,h⟩
  ·have q1:Heap.IsList (Shared.heap ⟨hp,g,d,tk,os⟩) a1 xs:=h1;have q2:Heap.IsList (Shared.heap ⟨hp.push { cls:=.type "list_iterator",data:=.fields #[.ref a1,.int 0 0]},g,d,tk,os⟩) a2 ys:=Heap.IsList.push h2 _;wp_walk using wpAny_pyIter_list q1,wpAny_pyIter_list q2;exact⟨_,rfl,h⟩
theorem qk2z{k1 k2:Bool}{h:Heap}{a1 a2:Addr}:IsZip (zw5 k1 k2 h a1 a2) (h.objs.size+4) (h.objs.size+2) (h.objs.size+3) .none/\IsPair (zw5 k1 k2 h a1 a2) (h.objs.size+2) (.ref h.objs.size) (.ref (h.objs.size+1))/\IsPair (zw5 k1 k2 h a1 a2) (h.objs.size+3) .none .none ∧
  Ik k1 (zw5 k1 k2 h a1 a2) h.objs.size a1 0/\Ik k2 (zw5 k1 k2 h a1 a2) (h.objs.size+1) a2 0/\(zw4 k1 k2 h a1 a2).objs.size=h.objs.size+4/\∀c o,h.get? c=some o->(zw5 k1 k2 h a1 a2).get? c=some o:=by
 have e1:(zw1 k1 h a1).objs.size=h.objs.size+1:=Heap.size_push ..;have e2:(zw2 k1 k2 h a1 a2).objs.size=h.objs.size+2:=(Heap.size_push ..).trans (by rw[e1]);have e3:(zw3 k1 k2 h a1 a2).objs.size=h.objs.size+3:=(Heap.size_push ..).trans (by rw[e2]);have e4:(zw4 k1 k2 h a1 a2).objs.size=h.objs.size+4:=(Heap.size_push ..).trans (by rw[e3]);have u5:∀c o,(zw4 k1 k2 h a1 a2).get? c=some o->(zw5 k1 k2 h a1 a2).get? c=some o:=fun c o e=>Heap.get?_push_of_some _ e;have u4:∀c o,(zw3 k1 k2 h a1 a2).get? c=some o->(zw5 k1 k2 h a1 a2).get? c=some o:=fun c o e=>u5 c o (Heap.get?_push_of_some _ e);have u3:∀c o,(zw2 k1 k2 h a1 a2).get? c=some o->(zw5 k1 k2 h a1 a2).get? c=some o:=fun c o e=>u4 c o (Heap.get?_push_of_some _ e);have u2:∀c o,(zw1 k1 h a1).get? c=some o->(zw5 k1 k2 h a1 a2).get? c=some o:=fun c o e=>u3 c o (Heap.get?_push_of_some _ e);have u1:∀c o,h.get? c=some o->(zw5 k1 k2 h a1 a2).get? c=some o:=fun c o e=>u2 c o (Heap.get?_push_of_some _ e);have g5:(zw5 k1 k2 h a1 a2).get? (zw4 k1 k2 h a1 a2).objs.size=some _:=Heap.get?_push_size _ rfl;have g4:(zw5 k1 k2 h a1 a2).get? (zw3 k1 k2 h a1 a2).objs.size=some _:=u5 _ _ (Heap.get?_push_size _ rfl);have g3:(zw5 k1 k2 h a1 a2).get? (zw2 k1 k2 h a1 a2).objs.size=some _:=u4 _ _ (Heap.get?_push_size _ rfl);have g2:(zw5 k1 k2 h a1 a2).get? (zw1 k1 h a1).objs.size=some (itO k2 a2):=u3 _ _ (Heap.get?_push_size _ qk1z);have g1:(zw5 k1 k2 h a1 a2).get? h.objs.size=some (itO k1 a1):=u2 _ _ (Heap.get?_push_size _ qk1z);rw[e2,e3,e4] at g5;rw[e1,e2] at g3;rw[e3] at g4;rw[e1] at g2;exact⟨g5,g3,g4,itK g1,itK g2,e4,u1⟩
theorem qvoz{P:Program}{w:World}{A:Around}{E:Value->Shared->Prop}{s:Shared}{k1 k2:Bool}{a1 a2:Addr}{xs ys:Array Value}{Q:Value->Shared->Prop}(h1:Sk k1 s.heap a1 xs)(h2:Sk k2 s.heap a2 ys)
  (q:Q (.ref (s.heap.objs.size+4)) { s with heap:=zw5 k1 k2 s.heap a1 a2 }):wpAny (model P w) A (call (.type "zip") [.ref a1,.ref a2]) Q E s:=by
 refine callType_new F.called_zip (by decide) (F.typeCall_zip_2 _ _) (F.newCall_zip_2 _ _) (fun obj=>F.args_object_init_3 obj _ _) F.entry_zip_new (qvnz k1 k2 a1 a2 xs ys) ⟨h1,h2,?_⟩;obtain⟨z1,_,_,_,_,z2,_⟩:=qk2z (k1:=k1) (k2:=k2) (h:=s.heap) (a1:=a1) (a2:=a2);show _/\_;rw[z2];exact⟨⟨_,z1,rfl⟩,q⟩
section
variable {X:Cx} {es:List Expr} {n0:Nat} {ps p pos:Pos}
def jZip(K:PySem.W.Frag)(ta:TA):TI:=fun σ H R=>ta σ H fun vs H1=>∃k1 k2 a1 a2,vs=[.ref a1,.ref a2]/\(∃xs,SqK K k1 H1 a1 xs)/\(∃ys,SqK K k2 H1 a2 ys)/\R (Itz K k1 k2 a1 a2) H1
theorem qvpz{a b:Expr}{ta:TA}(hg:Gl X "zip")(hm:X.mg "zip" = none)(ha:PA X [a,b] ta)(hs:starEach [a,b] X.env=[(false,eval a X.env),(false,eval b X.env)]:=by rfl)(hs2:starEach [b] X.env=[(false,eval b X.env)]:=by rfl):
  PI X (.Tuple es n0 ps) (.Call (.Name "zip" p) [a,b] [] pos) (jZip X.K ta):=by
 intro pins s σ H R I h;refine Call_ (qbgz I hg hm boot_zip (PyProof.Rows.callWith_type1 (thn (ha pos pins s σ H _ I h) fun us s1 ⟨vs,H1,I1,r1,q1⟩=>?_) (by rw[hs,hs2]) (by rw[hs2];rfl)));obtain⟨k1,k2,a1,a2,e,⟨xs,q1⟩,⟨ys,q2⟩,q⟩:=q1;subst e;cases r1 with
 |cons r rr=>
  cases rr with
  |cons r' rr=>
   cases rr;cases r;cases r';obtain⟨its1,rv1,p1⟩:=q1.heap I1;obtain⟨its2,rv2,p2⟩:=q2.heap I1;refine qvoz p1 p2 ?_;obtain⟨z1,z2,z3,z4,z5,z6,z7⟩:=qk2z (k1:=k1) (k2:=k2) (h:=s1.heap) (a1:=a1) (a2:=a2);refine wpAny_pyIter_zip (s:={ s1 with heap:=zw5 k1 k2 s1.heap a1 a2 }) z1 ?_
   refine⟨s1.heap.objs.size+4,[s1.heap.objs.size+4,s1.heap.objs.size+2,s1.heap.objs.size+3,s1.heap.objs.size,s1.heap.objs.size+1],_,_,H1,rfl,I1.kept (t':=s1.toks) z7,qvmz k1 k2 a1 a2 _ _ _ _ _ (by simp),⟨z1,z2,⟨_,_,z3⟩,z4,z5⟩,fun b hb=>?_,q⟩;have hb:s1.heap.objs.size≤b:=by
    simp only[List.mem_cons,List.not_mem_nil,or_false] at hb;rcases hb with rfl|rfl|rfl|rfl|rfl
    ·exact Nat.le_add_right _ _
    ·exact Nat.le_add_right _ _
    ·exact Nat.le_add_right _ _
    ·exact Nat.le_refl _
    ·exact Nat.le_add_right _ _
   exact I1.fpOk hb (I1.hok.fresh hb)
def seqD(G:Gp):D->List D->Prop
 |.obj p,ds=>G p=some (.lst ds)
 |.tup es,ds=>ds=es
 |.scr es,ds=>ds=es
 |_,_=>False
def zipD(xs ys:List D):List D:=List.zipWith (fun x y=>.tup [x,y]) xs ys
def iZip(ta:TA3):TI3:=fun τ G R=>ta τ G fun ds G1=>match ds with
 |[x,y]=>∃xs ys,seqD G1 x xs/\seqD G1 y ys/\R ⟨zipD xs ys,fun G=>seqD G x xs/\seqD G y ys⟩ G1
 |_=>False
theorem qgpz{K:PySem.W.Frag}{H:Hp}{x:D}{v:V}(hv:Hv K H x v):∃k,∀H' G' xs,Ext H H'->RepG K G' H'->seqD G' x xs->∃a vs,v=.ref a/\SqK K k H' a vs/\Hvs K H' xs vs:=by
 cases x with
 |obj p=>
  unfold Hv at hv;subst hv;refine⟨true,fun H' G' xs E RG h=>?_⟩;obtain⟨vs,e2,e3⟩:=RG p _ h;exact⟨p,vs,rfl,SqL.of e2,e3⟩
 |tup es=>
  unfold Hv at hv;obtain⟨a,vs,rfl,e2,e3⟩:=hv;refine⟨false,fun H' G' xs E RG h=>?_⟩;cases (show xs=es from h);exact⟨a,vs,rfl,SqT.ext E e2,e3.ext E⟩
 |scr es=>
  unfold Hv at hv;obtain⟨a,vs,rfl,e2,e3⟩:=hv;refine⟨true,fun H' G' xs E RG h=>?_⟩;cases (show xs=es from h);exact⟨a,vs,rfl,(SqF.ext E e2).l,e3.ext E⟩
 |non=>exact⟨true,fun _ _ _ _ _ h=>h.elim⟩
 |bl _=>exact⟨true,fun _ _ _ _ _ h=>h.elim⟩
 |int _=>exact⟨true,fun _ _ _ _ _ h=>h.elim⟩
 |str _=>exact⟨true,fun _ _ _ _ _ h=>h.elim⟩
 |dc _=>exact⟨true,fun _ _ _ _ _ h=>h.elim⟩
theorem qk3z{xs ys:List D}{i:Nat}{d:D}(h:(zipD xs ys)[i]?=some d):∃x y,xs[i]?=some x/\ys[i]?=some y/\d=.tup [x,y]:=by
 unfold zipD at h;rw[List.getElem?_zipWith] at h;cases hx:xs[i]? with
 |none=>rw[hx] at h;cases h
 |some x=>
  cases hy:ys[i]? with
  |none=>rw[hx,hy] at h;cases h
  |some y=>
   rw[hx,hy] at h;cases h;exact⟨x,y,rfl,rfl,rfl⟩
theorem qvqz{a b:Expr}{ta:TA3}(hm:X.mg "zip" = none)(ha:PA3 X [a,b] ta)(hg:Gl X "zip":=by rfl)(hs:notStar a=true:=by rfl)(hs2:notStar b=true:=by rfl):
  PI3 X (.Tuple es n0 ps) (.Call (.Name "zip" p) [a,b] [] pos) (iZip ta):=
 qejz (qvpz hg hm ha (by rw[qpz hs,qpz hs2];rfl) (qpz hs2)) fun σ H R ⟨τ,G,R3,RS,RG,h,k⟩=>⟨τ,G,_,RS,RG,h,fun vs H1 ds G1 h1 S1 R1 q1=>by
  rcases ds with _|⟨d,_|⟨d2,_|⟨d3,ds⟩⟩⟩
  ·exact q1.elim
  ·exact q1.elim
  ·obtain⟨xs,ys,s1,s2,q⟩:=q1;obtain⟨v,r,rfl,z1,z2⟩:=h1.inv;obtain⟨v',r',rfl,z3,z4⟩:=z2.inv;cases z4.inv0;obtain⟨k1,f1⟩:=qgpz z1;obtain⟨k2,f2⟩:=qgpz z3;obtain⟨a1,vs1,rfl,y1,w1⟩:=f1 _ _ _ (Ext.refl _) R1 s1;obtain⟨a2,vs2,rfl,y2,w2⟩:=f2 _ _ _ (Ext.refl _) R1 s2;refine⟨k1,k2,a1,a2,rfl,⟨_,y1⟩,⟨_,y2⟩,k _ _ _ _ ⟨?_,?_⟩ S1 R1 q⟩
   ·intro i d H' G' E' RG' hg hi;obtain⟨x,y,e1,e2,rfl⟩:=qk3z hi;obtain⟨b1,us1,c1,m1,n1⟩:=f1 _ _ _ E' RG' hg.1;obtain⟨b2,us2,c2,m2,n2⟩:=f2 _ _ _ E' RG' hg.2;cases c1;cases c2;obtain⟨u1,o1,o2⟩:=n1.get e1;obtain⟨u2,o3,o4⟩:=n2.get e2;refine⟨⟨_,_,_,_,⟨m1,o1⟩,m2,o3⟩,fun x' H'' hy=>?_⟩;obtain⟨T,u,v,rfl,hn,rfl,t1,t2⟩:=hy;have:=t1 _ m1;rw[o1] at this;cases this;have:=t2 _ m2;rw[o3] at this;cases this;refine⟨?_,.laid hn,RG'.laid hn⟩;unfold Hv;exact⟨T,_,rfl,.of qwz,.cons (o2.ext (.laid hn)) (.cons (o4.ext (.laid hn)) .nil)⟩
   ·intro i H' G' E' RG' hg hi;obtain⟨b1,us1,c1,m1,n1⟩:=f1 _ _ _ E' RG' hg.1;obtain⟨b2,us2,c2,m2,n2⟩:=f2 _ _ _ E' RG' hg.2;cases c1;cases c2;refine⟨_,_,m1,m2,?_⟩;have hi:(zipD xs ys).length≤i:=hi;unfold zipD at hi;rw[List.length_zipWith] at hi;rw[←n1.length,←n2.length];omega
  ·exact q1.elim⟩
end
end L3
namespace L3
open PySem PySem.Spec PyProof.Rows L2
open Sem (wp)
theorem drawsK{P:Program}{w:World}{A:Around}{k:Bool}(hh:A.handled=none)(it a:Addr)(hne:a≠it)(xs:Array Value):
  Draws P w A it [it,a] xs.size (fun i v=>xs[i]?=some v) (fun i h=>Ik k h it a i/\Sk k h a xs) where
 live:=fun _ _ st=>let ⟨o,ho,_⟩:=st.1.obj;⟨o,ho⟩
 frame:=fun _ _ _ st hk=>⟨st.1.of fun o e=>hk it (by simp) o e,st.2.of fun o e=>hk a (by simp) o e⟩
 item:=fun i s Q E hi st hQ=>by
  refine nextK st.1 st.2 (u:=xs[i]) (by simp[hi]) fun h' hit' hs'=>?_;exact hQ _ h' s.toks (by simp[hi]) ⟨hit',st.2.of fun o e=>hs'.extBut a o hne e⟩ hs'
 done:=fun s Q E st hE=>qexz hh st.1 st.2 (by simp) hE
section
variable {P:Program} {w:World} {A:Around} {E:Value->Shared->Prop} {s:Shared}
theorem qvrz{k:Bool}{e it a:Addr}{i:Int}{j:Nat}{xs:Array Value}{old:Value}{Q:Option Value->Shared->Prop}(hh:A.handled=none)(he:IsEnum s.heap e it i old)(hi:Ik k s.heap it a j)(ha:Sk k s.heap a xs)(hx:xs[j]?=none)
  (hQ:∀h',Heap.ExtBut it s.heap h'->Q none { s with heap:=h' }):wpAny (model P w) A (pyNext (.ref e)) Q E s:=by
 have hT:s.TypeIs (.ref e) "enumerate":=⟨_,he,rfl⟩;unfold pyNext;refine wpAny_bind (wpAny_attempt (wpAny_callSpecial?_slot (name:=Str.ofString "__next__") hT F.slot_enumerate_next
  (wpAny_call_entry F.slot_enumerate_next hT F.entry_enumerate_next ?_ (F.args_enumerate_next_1 _))))
 show wpAny _ _ (field (.ref e) 2 >>= _) _ _ _;refine wpAny_bind (wpAny_field he rfl (x:=.ref it) rfl ?_);refine wpAny_bind (qexz (by simpa using hh) hi ha hx fun h' x he' hx'=>?_);obtain⟨o,ho,hc⟩:=hx';refine wpAny_bind (wpAny_isInstance (T:="StopIteration") (b:=true) ⟨o,ho,hc⟩ isSubtype_stop ?_);exact wpAny_pure (hQ _ he')
open AutoSeq1 (wpAny_loadPart') in
theorem qvsz(l:Addr)(items:Array Value)(n:Nat)(dct:Option Addr)(sl:Array (Option Value)):
  Meets (Builtin.«enumerate.__new__» ⟨[.type "enumerate",.ref l],[]⟩) (fun _ R s=>s.heap.get? l=some { cls:=.type "tuple",dict:=dct,data:=.seq items n,slots:=sl } ∧
   R (.ok (.ret (.ref (s.heap.push { cls:=.type "tuple_iterator",data:=.fields #[.ref l,.int 0 0]}).objs.size)))
    { s with heap:=(s.heap.push { cls:=.type "tuple_iterator",data:=.fields #[.ref l,.int 0 0]}).push { cls:=.type "enumerate",data:=.fields #[.none,.bool false,.ref s.heap.objs.size,rawInt 0,.none,.none]}}):=
 .of_wp fun prog w A R s h=>by
  obtain⟨hp,g,d,tk,os⟩:=s;obtain⟨hl,h⟩:=h;have hsub:=sub_enumerate;have hL:Heap.IsTuple (Shared.heap ⟨hp,g,d,tk,os⟩) l items:=⟨_,hl,rfl,n,rfl⟩;wp_walk using wpAny_loadPart' hl;refine wpAny_stack_any fun st=>wpAny_pure ?_;split
  ·rename_i c _ _ _ _ _;cases (c==Value.type "enumerate")
   ·wp_walk using wpAny_loadPart' hl,wpAny_pyIter_tuple hL;exact⟨_,rfl,h⟩
   ·wp_walk using wpAny_loadPart' hl,wpAny_pyIter_tuple hL;exact⟨_,rfl,h⟩
  ·wp_walk using wpAny_loadPart' hl,wpAny_pyIter_tuple hL;exact⟨_,rfl,h⟩
theorem qvtz{l:Addr}{items:Array Value}{Q:Value->Shared->Prop}(hL:s.heap.IsTuple l items)
  (h:∀h',IsEnum h' (s.heap.objs.size+1) s.heap.objs.size 0 .none->h'.IsTupleIter s.heap.objs.size l 0->h'.objs.size=s.heap.objs.size+2 ->
   (∀b o,s.heap.get? b=some o->h'.get? b=some o)->Q (.ref (s.heap.objs.size+1)) { s with heap:=h' }):
  wpAny (model P w) A (call (.type "enumerate") [.ref l]) Q E s:=by
 obtain⟨⟨c,dct,dt,sl⟩,hl,hc,n,hd⟩:=hL
 replace hc:c=.type "tuple":=hc
 replace hd:dt=.seq items n:=hd
 subst hc hd;refine callType_new F.called_enumerate (by decide) (F.typeCall_enumerate_1 _) (F.newCall_enumerate_1 _) (fun obj=>F.args_object_init_2 obj _) F.entry_enumerate_new
  (qvsz l items n dct sl) ⟨hl,?_⟩
 have hz:(s.heap.push { cls:=.type "tuple_iterator",data:=.fields #[.ref l,.int 0 0]}).objs.size=s.heap.objs.size+1:=Heap.size_push ..;show _/\_;rw[hz];have he:IsEnum ((s.heap.push { cls:=.type "tuple_iterator",data:=.fields #[.ref l,.int 0 0]}).push
   { cls:=.type "enumerate",data:=.fields #[.none,.bool false,.ref s.heap.objs.size,rawInt 0,.none,.none]}) (s.heap.objs.size+1) s.heap.objs.size 0 .none:=by
  have:=Heap.get?_push_size (s.heap.push { cls:=.type "tuple_iterator",data:=.fields #[.ref l,.int 0 0]})
   (o:={ cls:=.type "enumerate",data:=.fields #[.none,.bool false,.ref s.heap.objs.size,rawInt 0,.none,.none]}) rfl
  rw[hz] at this;exact this
 refine⟨⟨_,he,rfl⟩,h _ he ⟨_,Heap.get?_push_of_some _ (Heap.get?_push_size _ rfl),rfl,rfl⟩ (by rw[Heap.size_push,hz]) fun b o x=>Heap.get?_push_of_some _ (Heap.get?_push_of_some _ x)⟩
theorem qvuz{k:Bool}{l:Addr}{items:Array Value}{Q:Value->Shared->Prop}(hL:Sk k s.heap l items)
  (h:∀h',IsEnum h' (s.heap.objs.size+1) s.heap.objs.size 0 .none->Ik k h' s.heap.objs.size l 0->h'.objs.size=s.heap.objs.size+2 ->
   (∀b o,s.heap.get? b=some o->h'.get? b=some o)->Q (.ref (s.heap.objs.size+1)) { s with heap:=h' }):
  wpAny (model P w) A (call (.type "enumerate") [.ref l]) Q E s:=by
 cases k with
 |true=>exact call_enumerate_list hL h
 |false=>exact qvtz hL h
end
def Itn(K:PySem.W.Frag)(k:Bool)(a:Addr):It:=
 ⟨fun i H=>∃xs x,SqK K k H a xs/\xs[i]?=some x,
  fun i H x H'=>∃T u,x=.ref T/\H T=none/\H'=upd H T (.tup [.int i,u])/\∀xs,SqK K k H a xs->xs[i]?=some u,
  fun i H=>∃xs,SqK K k H a xs/\xs.length≤i⟩
theorem qvvz{P:Program}{w:World}{K:PySem.W.Frag}{es:List Expr}{n0:Nat}{ps:Pos}(k:Bool)(a en jt:Addr)(hne:en≠jt):
  Turn P w K (.Tuple es n0 ps) (Itn K k a) [en,jt] en (fun i h=>(∃old,IsEnum h en jt i old)/\Ik k h jt a i) where
 mem:=by simp
 obj:=fun i h st b hb=>by
  obtain⟨⟨old,Z⟩,g⟩:=st;simp only[List.mem_cons,List.not_mem_nil,or_false] at hb;rcases hb with rfl|rfl
  ·exact⟨_,Z,fun v z=>by cases (show Data.fields _=Data.cell v from z)⟩
  ·exact g.obj
 keep:=fun i h h' st k=>⟨let ⟨old,Z⟩:=st.1;⟨old,k _ (by simp) _ Z⟩,st.2.of fun o e=>k _ (by simp) _ e⟩
 item:=by
  intro X hP hw hK hc i pins s σ H E I hf st hg;subst hP hw hK;obtain⟨⟨old,Z⟩,g⟩:=st;obtain⟨xs,x,q1,hx⟩:=hg;obtain⟨its,rv,p⟩:=SqK.heap I q1;obtain⟨u,hu,ru⟩:=rv.get hx;have hi:i<its.toArray.size:=by
   have:=(List.getElem?_eq_some_iff.mp hu).1;simpa using this
  have hja:a≠jt:=SqK.apart I q1 (hf jt (by simp));have hea:a≠en:=SqK.apart I q1 (hf en (by simp));refine wpAny_pyNext_enum_itemD (drawsK (k:=k) (by have:=I.ok.hd hc;simpa using this) jt a hja its.toArray) Z ⟨g,p⟩ hi hne (by simp[hne,hea.symm]) fun x2 h' tk hx2 Z' g' T' sz kp=>⟨_,rfl,?_⟩;have ex:x2=u:=by
   have:its.toArray[i]?=some u:=by simpa using hu
   rw[hx2] at this;exact Option.some.inj this
  subst ex;refine wpAny_letOwnedTupleGo_enum (s:={ s with heap:=h',toks:=tk+1 }) Z' fun h2 Z2 b2=>?_;have hn:H s.heap.objs.size=none:=I.hok.fresh (Nat.le_refl _);have I1:L2.Inv X pins σ (upd H s.heap.objs.size (.tup [.int i,x])) { s with heap:=s.heap.push { cls:=.type "tuple",data:=.seq #[.int i tk,x2]}}:=I.laid (t':=s.toks) (fun b o e=>Heap.get?_push_of_some _ e) (Nat.le_refl _) ⟨by show 2≤sizeLine;decide,[.int i tk,x2],.cons ⟨_,rfl⟩ (.cons ru .nil),⟨_,Heap.get?_push_size _ rfl,rfl,⟨_,rfl⟩,rfl⟩⟩;have lt:∀b∈[en,jt],b<s.heap.objs.size:=fun b hb=>by
   simp only[List.mem_cons,List.not_mem_nil,or_false] at hb;rcases hb with rfl|rfl
   ·exact Heap.lt_size Z
   ·obtain⟨o,e,_⟩:=g.obj;exact Heap.lt_size e
  have hf':∀b∈[en,jt],FpOk X pins (upd H s.heap.objs.size (.tup [.int i,x])) b:=fun b hb=>⟨by rw[qoz (Nat.ne_of_lt (lt b hb))];exact (hf b hb).1,(hf b hb).2⟩;have I2:L2.Inv X pins σ (upd H s.heap.objs.size (.tup [.int i,x])) { s with heap:=h2,toks:=tk+1 }:=turnedL (s:={ s with heap:=s.heap.push { cls:=.type "tuple",data:=.seq #[.int i tk,x2]}}) (t':=tk+1) I1 (fun b o hb e=>by
   simp only[List.mem_cons,List.not_mem_nil,or_false,not_or] at hb;refine b2.extBut b o hb.1 ?_;rcases Heap.get?_push_cases e with⟨rfl,rfl⟩|e
   ·exact T'
   ·exact kp b o hb.1 hb.2 e) hf'
  exact⟨.ref s.heap.objs.size,_,I2,rfl,⟨_,x,rfl,hn,rfl,fun zs hz=>by rw[SqK.inj I hz q1];exact hx⟩,⟨⟨_,Z2⟩,g'.1.of fun o e=>b2.extBut jt o hne.symm e⟩,fun b hb=>(hf' b hb).1⟩
 done:=by
  intro X hP hw hK hc i pins s σ H E I hf st hg;subst hP hw hK;obtain⟨⟨old,Z⟩,g⟩:=st;obtain⟨xs,q1,hl⟩:=hg;obtain⟨its,rv,p⟩:=SqK.heap I q1;have l1:=rv.length;exact qvrz (I.ok.hd hc) Z g p (by simp;omega) fun h' kp=>⟨rfl,turnedL (t':=s.toks) I (fun b o hb e=>by
   simp only[List.mem_cons,List.not_mem_nil,or_false,not_or] at hb;exact kp b o hb.2 e) hf⟩
 self:=fun _ _ _ _ _ st h=>let ⟨⟨_,Z⟩,_⟩:=st;wpAny_pyIter_enum Z h
section
variable {X:Cx} {es:List Expr} {n0:Nat} {ps p pos:Pos}
def jEnum(K:PySem.W.Frag)(ta:TA):TI:=fun σ H R=>ta σ H fun vs H1=>∃k a,vs=[.ref a]/\(∃xs,SqK K k H1 a xs)/\R (Itn K k a) H1
theorem qvwz{a:Expr}{ta:TA}(hg:Gl X "enumerate")(hm:X.mg "enumerate" = none)(ha:PA X [a] ta)(hs:starEach [a] X.env=[(false,eval a X.env)]:=by rfl):PI X (.Tuple es n0 ps) (.Call (.Name "enumerate" p) [a] [] pos) (jEnum X.K ta):=by
 intro pins s σ H R I h;refine Call_ (qbgz I hg hm boot_enumerate (PyProof.Rows.callWith_type1 (thn (ha pos pins s σ H _ I h) fun us s1 ⟨vs,H1,I1,r1,q1⟩=>?_) hs rfl));obtain⟨k,a1,e,⟨xs,q1⟩,q⟩:=q1;subst e;cases r1 with
 |cons r rr=>
  cases rr;cases r;obtain⟨its,rv,p⟩:=SqK.heap I1 q1;refine qvuz p fun h' z1 z2 z3 z4=>?_;refine wpAny_pyIter_enum (s:={ s1 with heap:=h' }) z1 ?_
  refine⟨s1.heap.objs.size+1,[s1.heap.objs.size+1,s1.heap.objs.size],_,_,H1,rfl,I1.kept (t':=s1.toks) z4,qvvz k a1 _ _ (by simp),⟨⟨_,z1⟩,z2⟩,fun b hb=>?_,q⟩;have hb:s1.heap.objs.size≤b:=by
   simp only[List.mem_cons,List.not_mem_nil,or_false] at hb;rcases hb with rfl|rfl
   ·exact Nat.le_add_right _ _
   ·exact Nat.le_refl _
  exact I1.fpOk hb (I1.hok.fresh hb)
def enumD(xs:List D):List D:=zipD (rngL 0 xs.length) xs
def iEnum(ta:TA3):TI3:=fun τ G R=>ta τ G fun ds G1=>match ds with
 |[x]=>∃xs,seqD G1 x xs/\R ⟨enumD xs,fun G=>seqD G x xs⟩ G1
 |_=>False
theorem qvxz{a:Expr}{ta:TA3}(hm:X.mg "enumerate" = none)(ha:PA3 X [a] ta)(hg:Gl X "enumerate":=by rfl)(hs:notStar a=true:=by rfl):
  PI3 X (.Tuple es n0 ps) (.Call (.Name "enumerate" p) [a] [] pos) (iEnum ta):=
 qejz (qvwz hg hm ha (qpz hs)) fun σ H R ⟨τ,G,R3,RS,RG,h,k⟩=>⟨τ,G,_,RS,RG,h,fun vs H1 ds G1 h1 S1 R1 q1=>by
  rcases ds with _|⟨d,_|⟨d2,ds⟩⟩
  ·exact q1.elim
  ·obtain⟨xs,s1,q⟩:=q1;obtain⟨v,r,rfl,z1,z2⟩:=h1.inv;cases z2.inv0;obtain⟨kk,hsq⟩:=qgpz z1;obtain⟨a1,vs1,rfl,y1,w1⟩:=hsq _ _ _ (Ext.refl _) R1 s1;refine⟨kk,a1,rfl,⟨_,y1⟩,k _ _ _ _ ⟨?_,?_⟩ S1 R1 q⟩
   ·intro i d H' G' E' RG' hg hi;obtain⟨x,y,e1,e2,rfl⟩:=qk3z hi;obtain⟨b1,us1,c1,m1,n1⟩:=hsq _ _ _ E' RG' hg;cases c1;obtain⟨u1,o1,o2⟩:=n1.get e2;obtain⟨_,rfl⟩:=qjmz e1;refine⟨⟨_,_,m1,o1⟩,fun x' H'' hy=>?_⟩;obtain⟨T,u,rfl,hn,rfl,t1⟩:=hy;have:=t1 _ m1;rw[o1] at this;cases this;refine⟨?_,.laid hn,RG'.laid hn⟩;unfold Hv;exact⟨T,_,rfl,.of qwz,.cons (by simp[Hv]) (.cons (o2.ext (.laid hn)) .nil)⟩
   ·intro i H' G' E' RG' hg hi;obtain⟨b1,us1,c1,m1,n1⟩:=hsq _ _ _ E' RG' hg;cases c1;refine⟨_,m1,?_⟩;have hi:(enumD xs).length≤i:=hi;unfold enumD zipD at hi;rw[List.length_zipWith,qbkz] at hi;rw[←n1.length];omega
  ·exact q1.elim⟩
end
section
variable {X:Cx} {K:PySem.W.Frag}
theorem qk4z:OpR X (compareOp .Is) (fun x y H Q=>∃b c,x=.bl b/\y=.bl c/\Q (.bl (b==c)) H):=by
 intro pins s σ H x y v u Q I rx ry h;obtain⟨b,c,rfl,rfl,q⟩:=h;cases rx;cases ry;exact wpAny_pure (qfwz I q (by cases b<;>cases c<;>rfl))
def rIsB3:R3:=fun x y G Q=>match x,y with
 |.bl b,.bl c=>Q (.bl (b==c)) G
 |_,_=>False
theorem qk5z:LowR K rIsB3 (fun x y H Q=>∃b c,x=.bl b/\y=.bl c/\Q (.bl (b==c)) H):=fun x y vx vy G H Q3 Q hx hy RG h k=>by
 cases x with
 |bl b=>
  cases y with
  |bl c=>exact⟨b,c,qbxz hx,qbxz hy,k _ H _ G qalz (.refl H G) RG h⟩
  |_=>exact h.elim
 |_=>exact h.elim
end
end L3
namespace L3
open PySem PySem.Spec PyProof.Rows L2
open Classical in
noncomputable def eqF (h:Heap) (vs:List Dat.D) (u:Dat.D) (y:Value):Bool:=if q:∃d,d∈vs/\Dat.Hv h d y then (Classical.choose q).eqb u else false
theorem qdbz{h:Heap}{vs:List Dat.D}{u d:Dat.D}{y:Value}(hd:d∈vs)(hy:Dat.Hv h d y):eqF h vs u y=d.eqb u:=by
 unfold eqF;have q:∃d,d∈vs/\Dat.Hv h d y:=⟨d,hd,hy⟩;rw[dif_pos q,Dat.Hv.inj (Classical.choose_spec q).2 hy]
theorem qdcz{h:Heap}{vs0:List Dat.D}{u:Dat.D}:∀{vs:List Dat.D} {us:List Value},(∀d∈vs,d∈vs0)->Dat.Hvs h vs us->us.any (eqF h vs0 u)=vs.any fun v=>v.eqb u
 |[],us,_,p=>by
  unfold Dat.Hvs at p;subst p;rfl
 |d::ds,us,hm,p=>by
  unfold Dat.Hvs at p;obtain⟨y,r,rfl,p1,p2⟩:=p;rw[List.any_cons,List.any_cons,qdbz (hm d List.mem_cons_self) p1,qdcz (fun d hd=>hm d (List.mem_cons_of_mem _ hd)) p2]
theorem qeyz{h:Heap}{y:Value}:∀{vs:List Dat.D} {us:List Value},Dat.Hvs h vs us->y∈us->∃d,d∈vs/\Dat.Hv h d y
 |[],us,p,hy=>by
  unfold Dat.Hvs at p;subst p;cases hy
 |d::ds,us,p,hy=>by
  unfold Dat.Hvs at p;obtain⟨x,r,rfl,p1,p2⟩:=p;rcases List.mem_cons.mp hy with rfl|hy
  ·exact⟨d,List.mem_cons_self,p1⟩
  ·obtain⟨e,h1,h2⟩:=qeyz p2 hy;exact⟨e,List.mem_cons_of_mem _ h1,h2⟩
def rIn3(neg:Bool):R3:=fun x y G Q=>∃u vs,toDat G x=some u/\(toDat G y=some (.lst vs)∨toDat G y=some (.tup vs))/\Dat.deps vs≤50/\Q (.bl (if neg then !(vs.any fun v=>v.eqb u) else vs.any fun v=>v.eqb u)) G
section
variable {X:Cx}
theorem inR(hu:X.A.units+64<cLine):CmpR X (compareOp .In) (rIn3 false):=by
 intro pins s σ H G x y vx vy u v Q3 I RG hx hy rx ry ⟨p,vs,e1,e2,hd,h⟩;have dx:=qavz I RG hx rx e1;have fin:EP X pins σ (fun w H'=>∃d G',Hv X.K H' d w/\Step H G H' G'/\RepG X.K G' H'/\Q3 d G') (.bool (vs.any fun v=>v.eqb p)) s:=⟨.bl _,H,I,rfl,.bl _,G,qalz,.refl H G,RG,h⟩;have he:∀(its:List Value),Dat.Hvs s.heap vs its->∀y,y∈its.toArray->SeqAt.EqAt X.A.in1 s y u (eqF s.heap vs p y):=fun its hv y hy=>by
  obtain⟨d,hd',hv'⟩:=qeyz hv (by simpa using hy);rw[qdbz hd' hv'];exact Dat.eqAt d p y u _ hv' dx (by
   have:=Dat.dep_mem hd';have h1:X.A.in1.units=X.A.units+1:=rfl;omega)
 rcases e2 with e2|e2
 ·have dy:=qavz I RG hy ry e2;unfold Dat.Hv at dy;obtain⟨a,its,rfl,hl,hv⟩:=dy;refine SeqAt.in_listAt (eqF s.heap vs p) hl (he its hv) ?_;rw[List.any_toArray,qdcz (fun d hd=>hd) hv];exact fin
 ·have dy:=qavz I RG hy ry e2;unfold Dat.Hv at dy;obtain⟨a,its,rfl,hl,hv⟩:=dy;refine SeqAt.in_tupleAt (eqF s.heap vs p) hl (he its hv) ?_;rw[List.any_toArray,qdcz (fun d hd=>hd) hv];exact fin
theorem ninR(hu:X.A.units+64<cLine):CmpR X (compareOp .NotIn) (rIn3 true):=by
 intro pins s σ H G x y vx vy u v Q3 I RG hx hy rx ry ⟨p,vs,e1,e2,hd,h⟩;have dx:=qavz I RG hx rx e1;have fin:EP X pins σ (fun w H'=>∃d G',Hv X.K H' d w/\Step H G H' G'/\RepG X.K G' H'/\Q3 d G') (.bool (!(vs.any fun v=>v.eqb p))) s:=⟨.bl _,H,I,rfl,.bl _,G,qalz,.refl H G,RG,h⟩;have he:∀(its:List Value),Dat.Hvs s.heap vs its->∀y,y∈its.toArray->SeqAt.EqAt X.A.in1 s y u (eqF s.heap vs p y):=fun its hv y hy=>by
  obtain⟨d,hd',hv'⟩:=qeyz hv (by simpa using hy);rw[qdbz hd' hv'];exact Dat.eqAt d p y u _ hv' dx (by
   have:=Dat.dep_mem hd';have h1:X.A.in1.units=X.A.units+1:=rfl;omega)
 rcases e2 with e2|e2
 ·have dy:=qavz I RG hy ry e2;unfold Dat.Hv at dy;obtain⟨a,its,rfl,hl,hv⟩:=dy;refine SeqAt.notIn_listAt (eqF s.heap vs p) hl (he its hv) ?_;rw[List.any_toArray,qdcz (fun d hd=>hd) hv];exact fin
 ·have dy:=qavz I RG hy ry e2;unfold Dat.Hv at dy;obtain⟨a,its,rfl,hl,hv⟩:=dy;refine SeqAt.notIn_tupleAt (eqF s.heap vs p) hl (he its hv) ?_;rw[List.any_toArray,qdcz (fun d hd=>hd) hv];exact fin
theorem qgqz(hu:X.A.units+64<cLine):OpR X (compareOp .In) (cmpR2 X.K (rIn3 false)):=(inR hu).op
theorem qgrz(hu:X.A.units+64<cLine):OpR X (compareOp .NotIn) (cmpR2 X.K (rIn3 true)):=(ninR hu).op
theorem l_in{K:PySem.W.Frag}:LowR K (rIn3 false) (cmpR2 K (rIn3 false)):=qenz
theorem qgsz{K:PySem.W.Frag}:LowR K (rIn3 true) (cmpR2 K (rIn3 true)):=qenz
end
section
variable {X:Cx} {a b:Expr} {ta:TA} {p p2 pos pos2:Pos}
theorem qk6z:∀(acc:List Value) (i:Int),(∀(k:Nat) v,acc[k]?=some v->∃t,v=.int (i+(k:Int)) t)->Vals ((List.range acc.length).map fun k:Nat=>V.int (i+(k:Int))) acc
 |[],_,_=>.nil
 |v::acc,i,h=>by
  rw[List.length_cons,List.range_succ_eq_map,List.map_cons,List.map_map];refine .cons ?_ ?_
  ·obtain⟨t,rfl⟩:=h 0 v rfl;exact⟨t,rfl⟩
  ·have:=qk6z acc (i+1) fun k w hk=>by
    obtain⟨t,e⟩:=h (k+1) w (by simpa using hk);exact⟨t,by rw[e,show i+((k+1:Nat):Int)=i+1+(k:Int) by omega]⟩
   rw[show ((fun k:Nat=>V.int (i+(k:Int))) ∘ Nat.succ)=fun k:Nat=>V.int (i+1+(k:Int)) from funext fun k=>by
    show V.int (i+((k+1:Nat):Int))=_;rw[show i+((k+1:Nat):Int)=i+1+(k:Int) by omega]]
   exact this
def rngP(i j:Int)(r:Addr):Heap->Prop:=fun h=>∃t u v,IsRange h r i j 1 t u v
def jRng2(ta:TA):TE:=fun σ H Q=>ta σ H fun vs H1=>∃i j:Int,vs=[.int i,.int j]/\∀r,H1 r=none->Q (.ref r) (upd H1 r (.ext (rngP i j r)))
theorem qvyz(hg:Gl X "range")(hm:X.mg "range" = none)(ha:PA X [a,b] ta)(hs:starEach [a,b] X.env=[(false,eval a X.env),(false,eval b X.env)])(hs2:starEach [b] X.env=[(false,eval b X.env)]):PE X (.Call (.Name "range" p) [a,b] [] pos) (jRng2 ta):=by
 intro pins s σ H Q I h;refine Call_ (qbgz I hg hm boot_range (PyProof.Rows.callWith_type1 (thn (ha pos pins s σ H _ I h) fun us s1 ⟨vs,H1,I1,r1,q1⟩=>?_) (by rw[hs,hs2]) (by rw[hs2];rfl)));obtain⟨i,j,rfl,q⟩:=q1;cases r1 with
 |cons r rr=>
  cases rr with
  |cons r' rr=>
   cases rr;obtain⟨t,rfl⟩:=r;obtain⟨t',rfl⟩:=r';refine call_range_2 ?_;refine⟨.ref s1.heap.objs.size,upd H1 s1.heap.objs.size (.ext (rngP i j s1.heap.objs.size)),I1.laid (fun b u e=>Heap.get?_push_of_some _ e) (Nat.le_refl _) ⟨⟨_,_,_,IsRange.new ..⟩,⟨_,Heap.get?_push_size _ rfl⟩,fun h1 h2 ⟨t,u,v,e⟩ k=>⟨t,u,v,k _ e⟩⟩,rfl,q _ (I1.hok.fresh (Nat.le_refl _))⟩
def rLR:List V->Hp->VK->Prop:=fun xs H Q=>∃(r:Addr) (i j:Int),xs=[.ref r]/\H r=some (.ext (rngP i j r))/\(-(2^62)≤i/\i<2^62/\-(2^62)≤j/\j<2^62)/\(j-i).toNat≤1000 ∧
 ∀l,H l=none->Q (.ref l) (upd H l (.lst ((List.range (j-i).toNat).map fun k:Nat=>V.int (i+(k:Int)))))
theorem qvzz(hc:X.calm=true):CallR X (.type "list") rLR:=by
 intro pins s σ H xs us Q I r h;obtain⟨ra,i,j,rfl,e,⟨h1,h2,h3,h4⟩,hn,q⟩:=h;obtain⟨u,rfl,rx⟩:=vals1 r;cases rx;obtain⟨⟨t,u,v,hr⟩,_⟩:=I.hok ra _ e;have en:Builtin.Range.rangeSize i j 1=((j-i).toNat:Nat):=by
  rw[rangeSize_one];split<;>omega
 refine call_list_range (I.ok.hd hc) hr (small_one h1 h2 h3 h4) en (Nat.le_trans hn (by decide)) fun h' tk acc' c' kp e2 it=>?_;have hv:Vals ((List.range (j-i).toNat).map fun k:Nat=>V.int (i+(k:Int))) acc'.toList:=by
  have:=qk6z acc'.toList i fun k v hk=>by
   obtain⟨t,e⟩:=it.2 k v (by simpa using hk);exact⟨t,by rw[e,Int.mul_one]⟩
  rw[show acc'.toList.length=(j-i).toNat by rw[Array.length_toList];exact it.1] at this;exact this
 refine⟨.ref s.heap.objs.size,_,I.laid kp (Nat.le_refl _) (show ObjOk X.prog X.w _ h' _ (.lst ((List.range (j-i).toNat).map fun k:Nat=>V.int (i+(k:Int)))) from⟨?_,acc'.toList,c',hv,e2⟩),rfl,q _ (I.hok.fresh (Nat.le_refl _))⟩;rw[List.length_map,List.length_range];exact Nat.le_trans hn (by decide)
end
section
variable {X:Cx} {a b:Expr} {ta:TA3} {p p2 pos pos2:Pos}
def eLR2(ta:TA3):TE3:=fun τ G Q=>ta τ G fun ds G1=>match ds with
 |[.int i,.int j]=>(-(2^62)≤i/\i<2^62/\-(2^62)≤j/\j<2^62)/\(j-i).toNat≤1000/\∀p G2,New G1 p (.lst (rngL i (j-i).toNat)) G2->Q (.obj p) G2
 |_=>False
theorem qv0z(hc:X.calm=true)(hm:X.mg "range" = none)(hml:X.mg "list" = none)(ha:PA3 X [a,b] ta)(hg:Gl X "range":=by rfl)(hgl:Gl X "list":=by rfl)(hs:notStar a=true:=by rfl)(hs2:notStar b=true:=by rfl):
  PE3 X (.Call (.Name "list" p) [.Call (.Name "range" p2) [a,b] [] pos2] [] pos) (eLR2 ta):=
 qyz (qcez (qvzz hc) hgl hml boot_list (qbiz (qvyz hg hm ha (by rw[qpz hs,qpz hs2];rfl) (qpz hs2)) qbvz)) fun σ H Q ⟨τ,G,Q3,RS,RG,h,k⟩=>⟨τ,G,_,RS,RG,h,fun vs H1 ds G1 h1 S1 R1 q1=>by
  rcases ds with _|⟨d,_|⟨d2,_|⟨d3,ds⟩⟩⟩
  ·exact q1.elim
  ·cases d<;>exact q1.elim
  ·cases d with
   |int i=>
    cases d2 with
    |int j=>
     obtain⟨v,r,rfl,z1,z2⟩:=h1.inv;obtain⟨v',r',rfl,z3,z4⟩:=z2.inv;cases z4.inv0;rw[qxz z1,qxz z3];obtain⟨q1,q2,q⟩:=q1;refine⟨i,j,rfl,fun r hr=>⟨r,i,j,rfl,qwz,q1,q2,fun l hl=>?_⟩⟩;have RG2:=R1.laid (o:=.ext (rngP i j r)) hr;refine k _ _ (.obj l) _ qa8z ((S1.trans (.laid hr)).trans (.laidG hl)) (RG2.newL hl ?_) (q l _ (.mk' (RG2.free hl)));unfold rngL;rw[show ((List.range (j-i).toNat).map fun k:Nat=>D.int (i+(k:Int)))=((List.range (j-i).toNat).map fun k:Nat=>i+(k:Int)).map D.int by rw[List.map_map];rfl];rw[show ((List.range (j-i).toNat).map fun k:Nat=>V.int (i+(k:Int)))=((List.range (j-i).toNat).map fun k:Nat=>i+(k:Int)).map V.int by rw[List.map_map];rfl];exact Hvs.ints _
    |_=>exact q1.elim
   |_=>exact q1.elim
  ·cases d<;>first|exact q1.elim|(cases d2<;>exact q1.elim)⟩
end
end L3
namespace SetM
open PySem SetP
section
variable {prog:Program} {w:World} {A:Around} {E:Value->Shared->Prop} {s:Shared}
theorem call_set_tupT{l:Addr}{vs:List Value}{ps:List (List Int×Addr)}{Q:Value->Shared->Prop}(hh:A.handled=none)(hl:s.heap.IsTuple l vs.toArray)(hv:vs=ps.map fun p=>Value.ref p.2)(hk:∀p∈ps,IsK prog w s.heap p.1 p.2)(hn:ps.length≤60)
  (hu:A.units+4<cLine)
  (h:∀h' tk xs,(∀b ob,s.heap.get? b=some ob->h'.get? b=some ob)->SetOn prog w h' s.heap.objs.size xs->Ded ps xs->Q (.ref s.heap.objs.size) { s with heap:=h',toks:=tk }):
  wpAny (model prog w) A (call (.type "set") [.ref l]) Q E s:=by
 obtain⟨c,tl,hmro⟩:=F.called_set.mro;have hmade:=F.called_set.made;have hsub:=F.called_set.sub;refine wpAny_call (codeAny_of_tree ?_);show wpAny _ _ (callAny (.type "set") _) _ _ _;refine wpAny_pure ⟨Code.quiet_builtin _ (by decide +kernel),codeAny_builtin F.entry_type_call ?_⟩;rw[Around.under_plain (weight_type_call_type "set" [.ref l] []) rfl];have h1:=F.called_set.notType;have h2:=F.called_set.canCreate;have hct:=F.typeCall_set_1 (.ref l)
 repeat (any_goals (first|assumption|wp_step))
 refine codeAny_mono (qkmz (.ref l) (E:=E) (Q₁:=fun obj s₁=>obj=.ref s.heap.objs.size/\s₁={ s with heap:=s.heap.push (freshSet w)}) ⟨rfl,rfl⟩) fun r s₁ hr=>?_;cases r with
 |error e=>exact hr
 |ok fl=>
  cases fl with
  |ret obj=>
   obtain⟨rfl,rfl⟩:=hr;have hS:(s.heap.push (freshSet w)).get? s.heap.objs.size=some (freshSet w):=Heap.get?_push_size _ rfl;have hT:Shared.TypeIs { s with heap:=s.heap.push (freshSet w)} (.ref s.heap.objs.size) "set":=⟨_,hS,rfl⟩;have hli:=F.called_set.init.lookup;have hbi:=F.called_set.init.bind (.ref s.heap.objs.size)
   repeat (any_goals (first|assumption|wp_step))
   refine codeAny_mono (codeAny_call_builtin (R:=wants (fun r s₂=>r=.none/\∃h' tk xs,s₂={ s with heap:=h',toks:=tk }/\(∀b ob,s.heap.get? b=some ob->h'.get? b=some ob)/\SetOn prog w h' s.heap.objs.size xs/\Ded ps xs) E)
    F.called_set.init.plain F.entry_set_init (check_set_init_1 hT ?_)) fun r₂ s₂ hr₂=>?_
   ·obtain⟨ol,hol,hcl,nl,hdl⟩:=hl;obtain⟨ocls,odict,odata,oslots⟩:=ol;simp only at hcl hdl;subst hcl;subst hdl;have hol':(s.heap.push (freshSet w)).get? l=some { cls:=.type "tuple",dict:=odict,data:=.seq vs.toArray nl,slots:=oslots }:=Heap.get?_push_of_some _ hol;have hsls:=F.sub_tuple_set;have hslf:=F.sub_tuple_frozenset;have hne:(Value.type "tuple" == Value.type "dict")=false:=by decide
    have hl1:(s.heap.push (freshSet w)).IsTuple l vs.toArray:=⟨_,hol',rfl,nl,rfl⟩;have hS2:(s.heap.push (freshSet w)).get? s.heap.objs.size=some { cls:=.type "set",dict:=none,data:=.set #[] 0 (.fresh 0 0 (!(byText w)))}:=hS;unfold Builtin.«set.__init__» noKeywords Builtin.Frozenset.updateFrom;generalize hPI:pyIter=PI;wp_walk;subst hPI;refine wpAny_pyIter_tuple hl1 ?_;refine wpAny_bind (wpAny_runValue ?_);have hlS:l<s.heap.objs.size:=Heap.lt_size hol;have hh3:A.in1.in1.in1.handled=none:=by simp[hh]
    have hu3:A.in1.in1.in1.units<cLine:=by
     show A.units+1+1+1<cLine;omega
    have hsz:(s.heap.push (freshSet w)).objs.size=s.heap.objs.size+1:=Heap.size_push ..;have hneI:l≠(s.heap.push (freshSet w)).objs.size:=by
     rw[hsz];exact Nat.ne_of_lt (Nat.lt_succ_of_lt hlS)
    have hSf:s.heap.objs.size∉[(s.heap.push (freshSet w)).objs.size,l]:=by
     rw[hsz];intro z;rcases List.mem_cons.mp z with z|z
     ·exact absurd z (Nat.ne_of_lt (Nat.lt_succ_self _))
     ·have:s.heap.objs.size=l:=by simpa using z
      exact absurd this (Nat.ne_of_gt hlS)
    have hlen:vs.toArray.size=ps.length:=by rw[hv];simp
    refine qkoz (Walks.tuple hh3 _ l hneI vs.toArray) s.heap.objs.size hSf ps hlen.symm (by rw[hlen];exact hn) hu3 (fun i v e=>?_) (fun p hp=>?_) (vs.toArray.size-0) 0 _ [] rfl (Nat.zero_le _)
     ⟨⟨_,Heap.get?_push_size _ rfl,rfl,rfl⟩,hl1.push _⟩ ?hS0 ⟨(fun p hp=>(nomatch hp)),(fun p hp=>by rw[List.take_zero] at hp;cases hp),Nat.zero_le _⟩ (fun p hp=>?_) ?hR
    case hS0=>
     refine⟨_,#[],0,_,⟨Heap.get?_push_of_some _ hS2,⟨rfl,rfl,rfl⟩,rfl,rfl,(fun p hp=>(nomatch hp)),List.nodup_nil,rfl,rfl⟩,qknz _⟩
    case hR=>
     intro h' tk xs q1 q2 q3;refine wpAny_pure ?_;show wpAny _ _ (ret Value.none) _ _ _;refine wpAny_pure ⟨rfl,h',tk,xs,rfl,fun b ob e=>?_,q2,q3⟩;have hb:=Heap.lt_size e;refine q1 b ob (Nat.ne_of_lt hb) ?_ (Heap.get?_push_of_some _ (Heap.get?_push_of_some _ e));rw[hsz];exact Nat.ne_of_lt (Nat.lt_succ_of_lt hb)
    ·rw[hv,List.getElem?_toArray,List.getElem?_map] at e;cases hp:ps[i]? with
     |none=>rw[hp] at e;cases e
     |some p=>rw[hp] at e;exact⟨p,rfl,(Option.some.inj e).symm⟩
    ·obtain⟨oy,_,_,ho,_⟩:=hk p hp;have hb:=Heap.lt_size ho;rw[hsz];exact⟨Nat.ne_of_lt (Nat.lt_succ_of_lt hb),Nat.ne_of_lt hb⟩
    ·obtain⟨oy,items,m,ho,r⟩:=hk p hp;exact⟨oy,items,m,Heap.get?_push_of_some _ (Heap.get?_push_of_some _ ho),r⟩
   ·cases r₂ with
    |error e=>exact hr₂
    |ok fl₂=>
     cases fl₂ with
     |ret r=>
      obtain⟨rfl,h',tk,xs,rfl,q1,q2,q3⟩:=hr₂
      repeat (any_goals (first|assumption|wp_step))
      exact h _ _ _ q1 q2 q3
     |_=>exact hr₂.elim
  |_=>exact hr.elim
end
end SetM
namespace L3
open PySem PySem.Spec PyProof.Rows L2
section
variable {X:Cx}
theorem qv1z(hc:X.calm=true)(hu:X.A.units+64<cLine):CallR X (.type "set") (fun vs H Q=>∃(a:Addr) (xs:List V) (nss:List (List Int)),vs=[.ref a]/\SqT X.K H a xs/\Hvs X.K H (nss.map tupI) xs/\nss.length≤60 ∧
  ∀(b:Addr) (zs:List (List Int×Addr)),H b=none->(∀p∈zs,SqT X.K H p.2 (p.1.map V.int))->(∀ns,ns∈zs.map (·.1)↔ns∈nss)->(zs.map (·.1)).Nodup->zs.length≤nss.length->Q (.ref b) (upd H b (.ext (setφ X.prog X.w b zs)))):=by
 intro pins s σ H vs us Q I r h;obtain⟨a,xs,nss,rfl,hl,hv,hz,q⟩:=h;obtain⟨u,rfl,ru⟩:=vals1 r;cases ru;obtain⟨its,rv,pl,_⟩:=I.tuple hl;obtain⟨ps,e1,e2,e3,e4⟩:=qevz I hv rv;subst e3;have hlen:ps.length=nss.length:=by rw[←e1,List.length_map]
 refine SetM.call_set_tupT (ps:=ps) (I.ok.hd hc) pl rfl (fun p hp=>(e4 p hp).2) (by omega) (by omega) fun h' tk zs kk hS hD=>?_;obtain⟨o,es,ep,t,S,T⟩:=hS;refine⟨.ref s.heap.objs.size,_,I.laid (o:=.ext (setφ X.prog X.w s.heap.objs.size zs)) kk (Nat.le_refl _) ?_,rfl,q _ zs (I.hok.fresh (Nat.le_refl _)) (fun p hp=>(e4 p (hD.sub p hp)).1) (fun ns=>?_) S.nd ?_⟩
 ·refine⟨⟨o,es,ep,t,S.at_,S.ex,S.dat,S.ents,S.nd,S.plain,S.led,T⟩,⟨o,S.at_⟩,fun h1 h2 ⟨o',es',ep',t',y1,y⟩ kk2=>⟨o',es',ep',t',kk2 _ y1,y⟩⟩
 ·rw[←e1];constructor
  ·intro hm;obtain⟨p,hp,rfl⟩:=List.mem_map.mp hm;exact List.mem_map.mpr ⟨p,hD.sub p hp,rfl⟩
  ·intro hm;obtain⟨p,hp,rfl⟩:=List.mem_map.mp hm;exact hD.all p hp
 ·rw[←hlen];exact hD.len
end
end L3
namespace L2
open PySem PySem.Spec PyProof.Rows
def cntR(i j c:Int):Nat:=if i<j then ((j-i-1) / c+1).toNat else 0
end L2
namespace L3
open PySem PySem.Spec PyProof.Rows L2
structure QE(X:Cx)(e:Expr)(t:TE3):Prop where
 of:PE3 X e t
structure QT(X:Cx)(e:Expr)(t:TT3):Prop where
 of:PT3 X e t
structure QW(X:Cx)(e:Expr)(t:TT3):Prop where
 of:PW3 X e t
structure QA(X:Cx)(es:List Expr)(t:TA3):Prop where
 of:PA3 X es t
structure QS(X:Cx)(st:Stmt)(t:TS3):Prop where
 of:PS3 X st t
structure QSs(X:Cx)(st:List Stmt)(t:TS3):Prop where
 of:PSs3 X st t
structure QG(X:Cx)(tg:Expr)(t:TG3):Prop where
 of:PG3 X tg t
structure QGs(X:Cx)(tgs:List Expr)(t:TGs3):Prop where
 of:PGs3 X tgs t
structure QI(X:Cx)(tg iter:Expr)(t:TI3):Prop where
 of:PI3 X tg iter t
structure QO(X:Cx)(e:Option Expr)(t:TO3):Prop where
 of:PO3 X e t
structure QC(X:Cx)(ifs:List Expr)(t:TT3):Prop where
 of:PCt X ifs (lowT X.K t)
section
variable {X:Cx} {a b e c:Expr} {ta tb te:TE3} {tA tB:TT3} {pos:Pos} {es rest:List Expr}
theorem qaz{i:Nat}{x:Str}(h:PE X (.Name x pos) (tVar i)):QE X (.Name x pos) (eVar i):=⟨qrxz (h:=h)⟩
end
section
variable {X:Cx} {a b e c:Expr} {ta tb te:TE3} {tA tB:TT3} {pos:Pos} {es rest:List Expr}
theorem qdz{i:Int}{j}:QE X (.Constant (.int i) j pos) (eC (.int i)):=⟨qryz ⟩
end
section
variable {X:Cx} {a b e c:Expr} {ta tb te:TE3} {tA tB:TT3} {pos:Pos} {es rest:List Expr}
theorem qarz{i:Bool}{j}:QE X (.Constant (.bool i) j pos) (eC (.bl i)):=⟨e_bl ⟩
end
section
variable {X:Cx} {a b e c:Expr} {ta tb te:TE3} {tA tB:TT3} {pos:Pos} {es rest:List Expr}
theorem q8z{j}:QE X (.Constant .none j pos) (eC .non):=⟨qrzz ⟩
end
section
variable {X:Cx} {a b e c:Expr} {ta tb te:TE3} {tA tB:TT3} {pos:Pos} {es rest:List Expr}
theorem qk7z{x:Str}{i:Int}{u:Tok}(hm:X.mg x=some (.int i u))(hg:Gl X x:=by rfl)(hd:(x==("__debug__":Str))=false:=by decide):QE X (.Name x pos) (eC (.int i)):=⟨qr0z (hm:=hm) (hg:=hg) (hd:=hd)⟩
end
section
variable {X:Cx} {a b e c:Expr} {ta tb te:TE3} {tA tB:TT3} {pos:Pos} {es rest:List Expr}
theorem qhz{op:Operator}{r:R3}{r2:R2}(L:LowR X.K r r2)(ho:OpR X (binaryOp op) r2)(ha:QE X a ta)(hb:QE X b tb):QE X (.BinOp a op b pos) (eOp r ta tb):=⟨e_op (L:=L) (ho:=ho) (ha:=ha.of) (hb:=hb.of)⟩
end
section
variable {X:Cx} {a b e c:Expr} {ta tb te:TE3} {tA tB:TT3} {pos:Pos} {es rest:List Expr}
theorem qahz{op:CmpOp}{r:R3}{r2:R2}(L:LowR X.K r r2)(ho:OpR X (compareOp op) r2)(ha:QE X a ta)(hb:QE X b tb)(hm:behindInMarks op b=false):QE X (.Compare a [op] [b] pos) (eOp r ta tb):=⟨qr1z (L:=L) (ho:=ho) (ha:=ha.of) (hb:=hb.of) (hm:=hm)⟩
end
section
variable {X:Cx} {a b e c:Expr} {ta tb te:TE3} {tA tB:TT3} {pos:Pos} {es rest:List Expr}
theorem qnz{op:CmpOp}{r:R3}{r2:R2}(L:LowR X.K r r2)(ho:OpR X (compareOp op) r2)(ha:QE X a ta)(hb:QE X b tb)(hm:behindInMarks op b=false):QT X (.Compare a [op] [b] pos) (eTest (eOp r ta tb)):=⟨qr2z (L:=L) (ho:=ho) (ha:=ha.of) (hb:=hb.of) (hm:=hm)⟩
end
section
variable {X:Cx} {a b e c:Expr} {ta tb te:TE3} {tA tB:TT3} {pos:Pos} {es rest:List Expr}
theorem qanz(h:QE X a ta)(he:∀whole,isTrue a X.env whole=(do let v ←whole;standAt a.pos;holding [v] (truthy v)):=by intro _;rfl):QT X a (eTest ta):=⟨qr3z (h:=h.of) (he:=he)⟩
end
section
variable {X:Cx} {a b e c:Expr} {ta tb te:TE3} {tA tB:TT3} {pos:Pos} {es rest:List Expr}
theorem qv2z(ha:QE X a ta):QE X (.UnaryOp .USub a pos) (eUn rNeg3 ta):=⟨qr6z (ha:=ha.of)⟩
end
section
variable {X:Cx} {a b e c:Expr} {ta tb te:TE3} {tA tB:TT3} {pos:Pos} {es rest:List Expr}
theorem qchz(ha:QT X a tA):QW X (.BoolOp .And [a] pos) tA:=⟨qr7z (ha:=ha.of)⟩
end
section
variable {X:Cx} {a b e c:Expr} {ta tb te:TE3} {tA tB:TT3} {pos:Pos} {es rest:List Expr}
theorem qddz(ha:QT X a tA):QW X (.BoolOp .Or [a] pos) tA:=⟨qr8z (ha:=ha.of)⟩
end
section
variable {X:Cx} {a b e c:Expr} {ta tb te:TE3} {tA tB:TT3} {pos:Pos} {es rest:List Expr}
theorem qciz(ha:QT X a tA)(hb:QW X (.BoolOp .And (b::rest) pos) tB):QW X (.BoolOp .And (a::b::rest) pos) (eAnd tA tB):=⟨qr9z (ha:=ha.of) (hb:=hb.of)⟩
end
section
variable {X:Cx} {a b e c:Expr} {ta tb te:TE3} {tA tB:TT3} {pos:Pos} {es rest:List Expr}
theorem qcjz(ha:QT X a tA)(hb:QW X (.BoolOp .Or (b::rest) pos) tB):QW X (.BoolOp .Or (a::b::rest) pos) (eOr tA tB):=⟨qsaz (ha:=ha.of) (hb:=hb.of)⟩
end
section
variable {X:Cx} {a b e c:Expr} {ta tb te:TE3} {tA tB:TT3} {pos:Pos} {es rest:List Expr}
theorem qaxz(h:QW X a tA):QT X a tA:=⟨tt_w (h:=h.of)⟩
end
section
variable {X:Cx} {a b e c:Expr} {ta tb te:TE3} {tA tB:TT3} {pos:Pos} {es rest:List Expr}
theorem qbaz(ha:QT X a tA):QT X (.UnaryOp .Not a pos) (eNot tA):=⟨qsbz (ha:=ha.of)⟩
end
section
variable {X:Cx} {a b e c:Expr} {ta tb te:TE3} {tA tB:TT3} {pos:Pos} {es rest:List Expr}
theorem qb3z{op}(h:QE X a ta):QE X (.BoolOp op [a] pos) ta:=⟨qscz (h:=h.of)⟩
end
section
variable {X:Cx} {a b e c:Expr} {ta tb te:TE3} {tA tB:TT3} {pos:Pos} {es rest:List Expr}
theorem qbbz(ha:QE X a ta)(hb:QE X (.BoolOp .And (b::rest) pos) tb):QE X (.BoolOp .And (a::b::rest) pos) (eAndV ta tb):=⟨qsdz (ha:=ha.of) (hb:=hb.of)⟩
end
section
variable {X:Cx} {a b e c:Expr} {ta tb te:TE3} {tA tB:TT3} {pos:Pos} {es rest:List Expr}
theorem qv3z(ha:QE X a ta):QE X (.UnaryOp .Not a pos) (eNotV ta):=⟨qsez (ha:=ha.of)⟩
end
section
variable {X:Cx} {a b e c:Expr} {ta tb te:TE3} {tA tB:TT3} {pos:Pos} {es rest:List Expr}
theorem qk8z(hc:QT X c tA)(ha:QE X a ta)(hb:QE X b tb):QE X (.IfExp c a b pos) (eIf tA ta tb):=⟨qsfz (hc:=hc.of) (ha:=ha.of) (hb:=hb.of)⟩
end
section
variable {X:Cx} {a b e c:Expr} {ta tb te:TE3} {tA tB:TT3} {pos:Pos} {es rest:List Expr}
theorem qcz  : QA X [] aNil:=⟨qsgz ⟩
end
section
variable {X:Cx} {a b e c:Expr} {ta tb te:TE3} {tA tB:TT3} {pos:Pos} {es rest:List Expr}
theorem qbz{tr:TA3}(ha:QE X a ta)(hr:QA X es tr)(hs:notStar a=true:=by rfl):QA X (a::es) (aCons ta tr):=⟨qshz (ha:=ha.of) (hr:=hr.of) (hs:=hs)⟩
end
section
variable {X:Cx} {a b e c:Expr} {ta tb te:TE3} {tA tB:TT3} {pos:Pos} {es rest:List Expr}
theorem qacz{t:TA3}{x1}(h:QA X es t):QE X (.Tuple es x1 pos) (eTup t):=⟨qsiz (h:=h.of)⟩
end
section
variable {X:Cx} {a b e c:Expr} {ta tb te:TE3} {tA tB:TT3} {pos:Pos} {es rest:List Expr}
theorem qvz{t:TA3}(h:QA X es t):QE X (.List es pos) (eLst t):=⟨qsjz (h:=h.of)⟩
end
section
variable {X:Cx} {st:Stmt} {rest:List Stmt} {t u:TS3} {e c:Expr} {te:TE3} {tc:TT3} {pos:Pos}
theorem qsz  : QSs X [] sNext:=⟨qsqz ⟩
end
section
variable {X:Cx} {st:Stmt} {rest:List Stmt} {t u:TS3} {e c:Expr} {te:TE3} {tc:TT3} {pos:Pos}
theorem qez(h1:QS X st t)(h2:QSs X rest u):QSs X (st::rest) (sSeq t u):=⟨qsrz (h1:=h1.of) (h2:=h2.of)⟩
end
section
variable {X:Cx} {st:Stmt} {rest:List Stmt} {t u:TS3} {e c:Expr} {te:TE3} {tc:TT3} {pos:Pos}
theorem qfz(h1:QS X st t):QSs X [st] t:=⟨qssz (h1:=h1.of)⟩
end
section
variable {X:Cx} {st:Stmt} {rest:List Stmt} {t u:TS3} {e c:Expr} {te:TE3} {tc:TT3} {pos:Pos}
theorem qboz(he:QE X e te)(hs:swapsWith e none pos.line X.env=pure false:=by rfl):QS X (.Expr e pos) (sDrop te):=⟨qstz (he:=he.of) (hs:=hs)⟩
end
section
variable {X:Cx} {st:Stmt} {rest:List Stmt} {t u:TS3} {e c:Expr} {te:TE3} {tc:TT3} {pos:Pos}
theorem qjz(he:QE X e te):QS X (.Return (some e) pos) (sRet te):=⟨qsuz (he:=he.of)⟩
end
section
variable {X:Cx} {st:Stmt} {rest:List Stmt} {t u:TS3} {e c:Expr} {te:TE3} {tc:TT3} {pos:Pos}
theorem qrz{a b:List Stmt}(hc:QT X c tc)(ha:QSs X a t)(hb:QSs X b u):QS X (.If c a b pos) (sIf tc t u):=⟨s_if (hc:=hc.of) (ha:=ha.of) (hb:=hb.of)⟩
end
section
variable {X:Cx} {st:Stmt} {rest:List Stmt} {t u:TS3} {e c:Expr} {te:TE3} {tc:TT3} {pos:Pos}
theorem qgtz  : QS X st sNever:=⟨qsvz ⟩
end
section
variable {X:Cx} {pos:Pos} {e:Expr} {es:List Expr}
theorem qqz{i:Nat}{x:Str}(hN:X.N.Nodup)(hi:X.N[i]?=some x:=by rfl)(hx:Loc X.env.scope x:=by first|exact Or.inl rfl|exact Or.inr rfl)(hf:X.fn x=true∨X.env.scope.names.lookup x=some .local:=by first|exact .inl rfl|exact .inr rfl|assumption):QG X (.Name x pos) (hName i):=⟨qswz (hN:=hN) (hi:=hi) (hx:=hx) (hf:=hf)⟩
end
section
variable {X:Cx} {pos:Pos} {e:Expr} {es:List Expr}
theorem qezz  : QGs X [] hNil:=⟨qsxz ⟩
end
section
variable {X:Cx} {pos:Pos} {e:Expr} {es:List Expr}
theorem qbpz{t:TG3}{u:TGs3}(h1:QG X e t)(h2:QGs X es u)(hs:(assignEach (e::es) X.env).map (·.2)=assign e X.env::(assignEach es X.env).map (·.2):=by rfl):QGs X (e::es) (hCons t u):=⟨qsyz (h1:=h1.of) (h2:=h2.of) (hs:=hs)⟩
end
section
variable {X:Cx} {pos:Pos} {e:Expr} {es:List Expr}
theorem qe0z{k:Nat}{t:TGs3}{n:Nat}(hc:X.calm=true)(h:QGs X es t)(hn:(assignEach es X.env).length=n:=by rfl)(hst:(assignEach es X.env).findIdx? (·.1)=none:=by rfl):QG X (.Tuple es k pos) (hTup n t):=⟨qszz (hc:=hc) (h:=h.of) (hn:=hn) (hst:=hst)⟩
end
section
variable {X:Cx} {pos:Pos} {e:Expr} {es:List Expr}
theorem qguz{tg:Expr}{te:TE3}{g:TG3}(he:QE X e te)(hg:QG X tg g)(hs:swapsWithSole [tg] e pos.line X.env=pure false:=by rfl)(hw:swappedStores [tg] e X.env=pure none:=by rfl)(h1:(assignEach [tg] X.env).map (·.2)=[assign tg X.env]:=by rfl):QS X (.Assign [tg] e pos) (sAsg te g):=⟨qs0z (he:=he.of) (hg:=hg.of) (hs:=hs) (hw:=hw) (h1:=h1)⟩
end
section
variable {X:Cx} {pos:Pos} {e:Expr} {es:List Expr}
theorem qkz{i:Nat}{x:Str}{te:TE3}{pos':Pos}(hN:X.N.Nodup)(he:QE X e te)(hi:X.N[i]?=some x:=by rfl)(hx:Loc X.env.scope x:=by first|exact Or.inl rfl|exact Or.inr rfl)(hs:swapsWith e (some (.Name x pos')) pos.line X.env=pure false:=by rfl)(hf:X.fn x=true∨X.env.scope.names.lookup x=some .local:=by first|exact .inl rfl|exact .inr rfl|assumption):QS X (.Assign [.Name x pos'] e pos) (sAsg te (hName i)):=⟨qs1z (hN:=hN) (he:=he.of) (hi:=hi) (hx:=hx) (hs:=hs) (hf:=hf)⟩
end
section
variable {X:Cx} {pos:Pos} {e:Expr} {es:List Expr}
theorem qk9z{o i:Expr}{to ti:TE3}(ho:QE X o to)(hi:QE X i ti) (ha:∀v,assign (.Subscript o i pos) X.env v=(do
   let ov ←holding [v] (eval o X.env)
   let iv ←holding [v,ov] (eval i X.env)
   standAt pos
   holding [v,ov,iv] (setItem ov iv v)
   release [v,ov,iv] []):=by intro _;rfl):QG X (.Subscript o i pos) (hSub to ti):=⟨qs3z (ho:=ho.of) (hi:=hi.of) (ha:=ha)⟩
end
section
variable {X:Cx} {pos:Pos} {e:Expr} {es:List Expr}
theorem qgvz{c:Expr}{body:List Stmt}{tc:TT3}{tb:TS3}(hp:PassesOwn (model X.prog X.w) X.A X.env X.xe)(hc:QT X c tc)(hb:QSs X body tb):QS X (.While c body [] pos) (sWhile tc tb):=⟨qs4z (hp:=hp) (hc:=hc.of) (hb:=hb.of)⟩
end
section
variable {X:Cx} {k:Nat} {f:Addr} {fd:FuncData} {ps:List Str} {sp:Sp3} {x:Str} {p pos:Pos} {e:Expr} {es:List Expr} {t:TA3}
theorem qgz(F:FnOk3 X.prog X.w X.K X.mg X.base k f fd ps sp)(hr:Room k X.A)(hm:X.mg x=some (.ref f))(hk:PySem.W.keepIn X.K (.ref f)=true)(hb:Binds X.K fd ps [])(ha:QA X (e::es) t)(hg:Gl X x:=by rfl)(hdb:(x==("__debug__":Str))=false:=by decide)(he:notStar e=true:=by rfl)(hpl:es.all notStar=true:=by rfl):QE X (.Call (.Name x p) (e::es) [] pos) (eCall sp t):=⟨qs6z (F:=F) (hr:=hr) (hm:=hm) (hk:=hk) (hb:=hb) (ha:=ha.of) (hg:=hg) (hdb:=hdb) (he:=he) (hpl:=hpl)⟩
end
section
variable {X:Cx} {tg iter:Expr} {pos p:Pos}
theorem q2z{l:Expr}{te:TE3}(hl:QE X l te):QI X tg l (iSeq te):=⟨qs7z (hl:=hl.of)⟩
end
section
variable {X:Cx} {tg iter:Expr} {pos p:Pos}
theorem qckz{a:Expr}{ta:TA3}(hm:X.mg "range" = none)(ha:QA X [a] ta)(hg:Gl X "range":=by rfl)(hs:notStar a=true:=by rfl):QI X tg (.Call (.Name "range" p) [a] [] pos) (iRng1 ta):=⟨qs8z (hm:=hm) (ha:=ha.of) (hg:=hg) (hs:=hs)⟩
end
section
variable {X:Cx} {tg iter:Expr} {pos p:Pos}
theorem qgwz{a b:Expr}{ta:TA3}(hm:X.mg "range" = none)(ha:QA X [a,b] ta)(hg:Gl X "range":=by rfl)(hs:notStar a=true:=by rfl)(hs2:notStar b=true:=by rfl):QI X tg (.Call (.Name "range" p) [a,b] [] pos) (iRng2 ta):=⟨qs9z (hm:=hm) (ha:=ha.of) (hg:=hg) (hs:=hs) (hs2:=hs2)⟩
end
section
variable {X:Cx} {tg iter:Expr} {pos p:Pos}
theorem qaoz{body:List Stmt}{ti:TI3}{g:TG3}{tb:TS3}(hp:PassesOwn (model X.prog X.w) X.A X.env X.xe)(hc:X.calm=true)(hi:QI X tg iter ti)(hg:QG X tg g)(hb:QSs X body tb)(hs:∀x,foldedSetIterable iter X.env x=pure x:=by intro _;rfl):QS X (.For tg iter body [] pos) (sFor ti g tb):=⟨qtaz (hp:=hp) (hc:=hc) (hi:=hi.of) (hg:=hg.of) (hb:=hb.of) (hs:=hs)⟩
end
section
variable {X:Cx} {tg iter:Expr} {pos p:Pos}
theorem qayz  : QC X [] (tNoTest3):=⟨qtbz ⟩
end
section
variable {X:Cx} {tg iter:Expr} {pos p:Pos}
theorem qdez{c:Expr}{t:TT3}(h:QT X c t):QC X [c] (t):=⟨qtcz (h:=h.of)⟩
end
section
variable {X:Cx} {K:PySem.W.Frag}
theorem qlz{a b:Expr}{ta tb:TE3}{pos:Pos}(ha:QE X a ta)(hb:QE X b tb)(hs:PlainIx b:=by intro _ _;rfl):QE X (.Subscript a b pos) (eOp rIx3 ta tb):=⟨e_ix (ha:=ha.of) (hb:=hb.of) (hs:=hs)⟩
end
section
variable {X:Cx} {K:PySem.W.Frag}
theorem qv4z{es:List Expr}{b:Expr}{ta:TA3}{tb:TE3}{pos pos':Pos}(ha:QA X es ta)(hb:QE X b tb)(hs:PlainIx b:=by intro _ _;rfl):QE X (.Subscript (.List es pos') b pos) (eLstIx ta tb):=⟨qtjz (ha:=ha.of) (hb:=hb.of) (hs:=hs)⟩
end
section
variable {X:Cx} {a b e:Expr} {ta tb:TE3} {pos:Pos}
theorem qe1z  : QO X none oNone:=⟨qtkz ⟩
end
section
variable {X:Cx} {a b e:Expr} {ta tb:TE3} {pos:Pos}
theorem qclz(h:QE X e ta):QO X (some e) (oSome ta):=⟨qtlz (h:=h.of)⟩
end
section
variable {X:Cx} {a b e:Expr} {ta tb:TE3} {pos:Pos}
theorem qdfz{lo hi:Option Expr}{tl th:TO3}{p2:Pos}(ha:QE X a ta)(hl:QO X lo tl)(hh:QO X hi th):QE X (.Subscript a (.Slice lo hi none p2) pos) (eSl ta tl th):=⟨e_sl (ha:=ha.of) (hl:=hl.of) (hh:=hh.of)⟩
end
section
variable {X:Cx} {K:PySem.W.Frag} {e:Expr} {es:List Expr} {t:TA3} {ta:TE3} {pos p:Pos}
theorem q9z(hu:X.A.units+64<cLine)(hm:X.mg "len" = none)(ha:QA X (e::es) t)(hg:Gl X "len":=by rfl)(he:notStar e=true:=by rfl)(hpl:es.all notStar=true:=by rfl):QE X (.Call (.Name "len" p) (e::es) [] pos) (eCB q0z t):=⟨qtpz (hu:=hu) (hm:=hm) (ha:=ha.of) (hg:=hg) (he:=he) (hpl:=hpl)⟩
end
section
variable {X:Cx} {K:PySem.W.Frag} {e:Expr} {es:List Expr} {t:TA3} {ta:TE3} {pos p:Pos}
theorem qv5z(hu:X.A.units+64<cLine)(hm:X.mg "int" = none)(ha:QA X (e::es) t)(hg:Gl X "int":=by rfl)(he:notStar e=true:=by rfl)(hpl:es.all notStar=true:=by rfl):QE X (.Call (.Name "int" p) (e::es) [] pos) (eCB qeoz t):=⟨qtrz (hu:=hu) (hm:=hm) (ha:=ha.of) (hg:=hg) (he:=he) (hpl:=hpl)⟩
end
section
variable {X:Cx} {K:PySem.W.Frag} {e:Expr} {es:List Expr} {t:TA3} {ta:TE3} {pos p:Pos}
theorem qgxz(hu:X.A.units+64<cLine)(hm:X.mg "max" = none)(ha:QA X (e::es) t)(hc:X.calm=true:=by rfl)(hg:Gl X "max":=by rfl)(he:notStar e=true:=by rfl)(hpl:es.all notStar=true:=by rfl):QE X (.Call (.Name "max" p) (e::es) [] pos) (eCB qc7z t):=⟨qtsz (hu:=hu) (hm:=hm) (ha:=ha.of) (hc:=hc) (hg:=hg) (he:=he) (hpl:=hpl)⟩
end
section
variable {X:Cx} {K:PySem.W.Frag} {e:Expr} {es:List Expr} {t:TA3} {ta:TE3} {pos p:Pos}
theorem qv6z(hu:X.A.units+64<cLine)(hm:X.mg "min" = none)(ha:QA X (e::es) t)(hc:X.calm=true:=by rfl)(hg:Gl X "min":=by rfl)(he:notStar e=true:=by rfl)(hpl:es.all notStar=true:=by rfl):QE X (.Call (.Name "min" p) (e::es) [] pos) (eCB qf8z t):=⟨qttz (hu:=hu) (hm:=hm) (ha:=ha.of) (hc:=hc) (hg:=hg) (he:=he) (hpl:=hpl)⟩
end
section
variable {X:Cx} {K:PySem.W.Frag} {e:Expr} {es:List Expr} {t:TA3} {ta:TE3} {pos p:Pos}
theorem qb4z(hu:X.A.units+64<cLine)(hm:X.mg "tuple" = none)(ha:QA X (e::es) t)(hg:Gl X "tuple":=by rfl)(he:notStar e=true:=by rfl)(hpl:es.all notStar=true:=by rfl):QE X (.Call (.Name "tuple" p) (e::es) [] pos) (eCB qa3z t):=⟨qtvz (hu:=hu) (hm:=hm) (ha:=ha.of) (hg:=hg) (he:=he) (hpl:=hpl)⟩
end
section
variable {X:Cx} {K:PySem.W.Frag} {e:Expr} {es:List Expr} {t:TA3} {ta:TE3} {pos p:Pos}
theorem qlaz(hu:X.A.units+64<cLine)(hm:X.mg "list" = none)(ha:QA X (e::es) t)(hg:Gl X "list":=by rfl)(he:notStar e=true:=by rfl)(hpl:es.all notStar=true:=by rfl):QE X (.Call (.Name "list" p) (e::es) [] pos) (eCB qc8z t):=⟨qtxz (hu:=hu) (hm:=hm) (ha:=ha.of) (hg:=hg) (he:=he) (hpl:=hpl)⟩
end
section
variable {X:Cx} {a e:Expr} {es:List Expr} {ta:TE3} {t:TA3} {pos p p2:Pos}
theorem qdgz{T:String}{TS:Str}(k:Kit T)(hv:bootBuiltins TS=some (.type T))(ha:QE X a ta)(hm:X.mg "isinstance" = none)(hm2:X.mg TS=none)(hgT:Gl X TS)(hnT:TS≠"__name__")(hdT:(TS==("__debug__":Str))=false)(hg:Gl X "isinstance":=by rfl)(he:notStar a=true:=by rfl):QE X (.Call (.Name "isinstance" p) [a,.Name TS p2] [] pos) (eInst T ta):=⟨qu8z (k:=k) (hv:=hv) (ha:=ha.of) (hm:=hm) (hm2:=hm2) (hgT:=hgT) (hnT:=hnT) (hdT:=hdT) (hg:=hg) (he:=he)⟩
end
section
variable {X:Cx} {K:PySem.W.Frag} {e:Expr} {es:List Expr} {t:TA3} {ta:TE3} {pos p p' pos':Pos}
theorem qe2z(hu:X.A.units+64<cLine)(hm:X.mg "sorted" = none)(ha:QA X (e::es) t)(hc:X.calm=true:=by rfl)(hg:Gl X "sorted":=by rfl)(he:notStar e=true:=by rfl)(hpl:es.all notStar=true:=by rfl):QE X (.Call (.Name "sorted" p) (e::es) [] pos) (eCB qb2z t):=⟨qvdz (hu:=hu) (hm:=hm) (ha:=ha.of) (hc:=hc) (hg:=hg) (he:=he) (hpl:=hpl)⟩
end
section
variable {X:Cx} {K:PySem.W.Frag} {e:Expr} {es:List Expr} {t:TA3} {ta:TE3} {pos p p' pos':Pos}
theorem qv7z(hu:X.A.units+64<cLine)(ha:QE X e ta)(hm:X.mg "sorted" = none)(hm2:X.mg "set" = none)(hc:X.calm=true:=by rfl)(hg:Gl X "sorted":=by rfl)(hg2:Gl X "set":=by rfl)(he2:notStar e=true:=by rfl):QE X (.Call (.Name "sorted" p) [.Call (.Name "set" p') [e] [] pos'] [] pos) (eSortSet ta):=⟨qvez (hu:=hu) (ha:=ha.of) (hm:=hm) (hm2:=hm2) (hc:=hc) (hg:=hg) (hg2:=hg2) (he2:=he2)⟩
end
section
variable {X:Cx} {K:PySem.W.Frag} {e:Expr} {es:List Expr} {t:TA3} {ta:TE3} {pos p p' pos':Pos}
theorem qgyz(hu:X.A.units+64<cLine)(hm:X.mg "all" = none)(ha:QA X (e::es) t)(hc:X.calm=true:=by rfl)(hg:Gl X "all":=by rfl)(he:notStar e=true:=by rfl)(hpl:es.all notStar=true:=by rfl):QE X (.Call (.Name "all" p) (e::es) [] pos) (eCB qcgz t):=⟨qvjz (hu:=hu) (hm:=hm) (ha:=ha.of) (hc:=hc) (hg:=hg) (he:=he) (hpl:=hpl)⟩
end
section
variable {X:Cx} {K:PySem.W.Frag} {e:Expr} {es:List Expr} {t:TA3} {ta:TE3} {pos p p' pos':Pos}
theorem qv8z(hu:X.A.units+64<cLine)(hm:X.mg "sum" = none)(ha:QA X (e::es) t)(hc:X.calm=true:=by rfl)(hg:Gl X "sum":=by rfl)(he:notStar e=true:=by rfl)(hpl:es.all notStar=true:=by rfl):QE X (.Call (.Name "sum" p) (e::es) [] pos) (eCB qewz t):=⟨qvkz (hu:=hu) (hm:=hm) (ha:=ha.of) (hc:=hc) (hg:=hg) (he:=he) (hpl:=hpl)⟩
end
section
variable {X:Cx} {es:List Expr} {n0:Nat} {ps p pos:Pos}
theorem qlbz{a b:Expr}{ta:TA3}(hm:X.mg "zip" = none)(ha:QA X [a,b] ta)(hg:Gl X "zip":=by rfl)(hs:notStar a=true:=by rfl)(hs2:notStar b=true:=by rfl):QI X (.Tuple es n0 ps) (.Call (.Name "zip" p) [a,b] [] pos) (iZip ta):=⟨qvqz (hm:=hm) (ha:=ha.of) (hg:=hg) (hs:=hs) (hs2:=hs2)⟩
end
section
variable {X:Cx} {es:List Expr} {n0:Nat} {ps p pos:Pos}
theorem qv9z{a:Expr}{ta:TA3}(hm:X.mg "enumerate" = none)(ha:QA X [a] ta)(hg:Gl X "enumerate":=by rfl)(hs:notStar a=true:=by rfl):QI X (.Tuple es n0 ps) (.Call (.Name "enumerate" p) [a] [] pos) (iEnum ta):=⟨qvxz (hm:=hm) (ha:=ha.of) (hg:=hg) (hs:=hs)⟩
end
section
variable {X:Cx} {a b:Expr} {ta:TA3} {p p2 pos pos2:Pos}
theorem qwaz(hc:X.calm=true)(hm:X.mg "range" = none)(hml:X.mg "list" = none)(ha:QA X [a,b] ta)(hg:Gl X "range":=by rfl)(hgl:Gl X "list":=by rfl)(hs:notStar a=true:=by rfl)(hs2:notStar b=true:=by rfl):QE X (.Call (.Name "list" p) [.Call (.Name "range" p2) [a,b] [] pos2] [] pos) (eLR2 ta):=⟨qv0z (hc:=hc) (hm:=hm) (hml:=hml) (ha:=ha.of) (hg:=hg) (hgl:=hgl) (hs:=hs) (hs2:=hs2)⟩
end
section
variable {X:Cx} {a b c e o:Expr} {es:List Expr} {ta tb tc te to:TE3} {t:TA3} {pos apos cpos p:Pos}
theorem qwbz{op op':CmpOp}{r r':R3}{r2 r2':R2}(L:LowR X.K r r2)(L':LowR X.K r' r2')(ho:OpR X (compareOp op) r2)(ho':OpR X (compareOp op') r2')(ha:QE X a ta)(hb:QE X b tb)(hc:QE X c tc)(hm:lastMarks [op,op'] [b,c]=false:=by with_unfolding_all rfl):
  QE X (.Compare a [op,op'] [b,c] pos) (eChain r r' ta tb tc):=⟨qr5z (op:=op) (op':=op') L L' (qqlz ho ho' ha.of hb.of hc.of hm)⟩
theorem qcmz{name:Str}{id:String}{r:D->List D->Gp->V3->Prop}{r2:V->List V->Hp->VK->Prop}(L:LowM X.K r r2)(slot:Slot "list" name id)(hty:typeOf (.builtin id)=pure (.type "method_descriptor"))(hm:MtR X id r2)(ho:QE X o to)(ha:QA X (e::es) t)
  (hbase:attributeBase o name X.env (eval o X.env)=eval o X.env:=by rfl)
  (hfew:((backTo cpos (starEach (e::es) X.env)).all (fun x=>!x.1)&&(backToKw cpos (keywordEach [] X.env)).all (fun x=>x.1.isSome)
   && decide ((e::es).length+([]:List Keyword).length+(if ([]:List Keyword).isEmpty then 0 else 1)<30))=true:=by rfl)
  (hline:(apos.endLine==cpos.line)=true:=by rfl) (he:notStar e=true:=by rfl) (hpl:es.all notStar=true:=by rfl):
  QE X (.Call (.Attribute o name apos) (e::es) [] cpos) (eM r to t):=⟨qtzz L (qrlz PySem.F.plainAttrs_list slot hty hm ho.of ha.of hbase hfew hline (qpz he) (q4z hpl))⟩
end
section
variable {X:Cx} {tg iter elt:Expr} {ifs:List Expr} {scope:Scope} {own:List Str} {js:List Nat} {ti:TI3} {g:TG3} {tc:TT3} {te:TE3} {pos:Pos}
theorem qasz(hc:X.calm=true)(C:CmpOk X.N X.env.scope scope own js)(hi:QI X tg iter ti)
  (hb:∀s H fp,QG (X.cmp scope own js s H fp) tg g/\QC (X.cmp scope own js s H fp) ifs tc/\QE (X.cmp scope own js s H fp) elt te)
  (hs:∀x,foldedSetIterable iter X.env x=pure x:=by intro _;rfl):QE X (.ListComp elt [⟨tg,iter,ifs,0⟩] scope pos) (eComp own js ti g tc te):=
 ⟨qtdz hc C hi.of (fun s H fp=>⟨(hb s H fp).1.of,(hb s H fp).2.1.of,(hb s H fp).2.2.of⟩) hs⟩
theorem qgzz{i:Nat}{y:Str}{py spos:Pos}(hc:X.calm=true)(hN:X.N.Nodup)(C:CmpOk X.N X.env.scope scope own js)(hi:QI X tg iter ti)
  (hb:∀s H fp,QG (X.cmp scope own js s H fp) tg g/\QC (X.cmp scope own js s H fp) ifs tc/\QE (X.cmp scope own js s H fp) elt te) (hy:X.N[i]?=some y:=by rfl) (hyl:X.env.scope.names.lookup y=some .local:=by rfl)
  (hsw:swapsWith (.ListComp elt [⟨tg,iter,ifs,0⟩] scope pos) (some (.Name y py)) spos.line X.env=pure true:=by rfl)
  (hs:∀x,foldedSetIterable iter X.env x=pure x:=by intro _;rfl):QS X (.Assign [.Name y py] (.ListComp elt [⟨tg,iter,ifs,0⟩] scope pos) spos) (sAsg (eComp own js ti g tc te) (hName i)):=
 ⟨qtez hc hN C hi.of (fun s H fp=>⟨(hb s H fp).1.of,(hb s H fp).2.1.of,(hb s H fp).2.2.of⟩) hy hyl hsw hs⟩
end
theorem qfn3{P:Program}{w:World}{K:PySem.W.Frag}{mg:Str->Option Value}{base:Heap}{x qual:Str}{st:Stmt}{f:Addr}{fd:FuncData}{N ps:List Str}{k:Nat}{sp:Sp3}(F:Fun K x qual st f fd)(S:FnScope N ps (defScope st))(hN:ps.length≤N.length)(len:∀ds G Q,sp ds G Q->ds.length=ps.length)(tb:TS3)
  (hbody:∀(cdv:Value) (A:Around) (outer:List Env) (s:Shared) (H:Hp) (E:XK),Room k (A.deeper (envOfC qual (defScope st) s.heap.objs.size f cdv)) ->
   QSs (cxOf CX0 P w K mg base N qual (defScope st) f cdv A outer s H E).nox (defBody st) tb)
  (hrd:∀ds G Q,sp ds G Q->tb (endsOf Q) (start3 N ds) G):FnOk3 P w K mg base (k+1) f fd ps sp:=fn3 F S hN len tb (fun cdv A outer s H E hr=>(hbody cdv A outer s H E hr).of) hrd
theorem qlcz{P:Program}{w:World}{K:PySem.W.Frag}{mg:Str->Option Value}{base:Heap}{f:Addr}{fd:FuncData}{ps:List Str}{k:Nat}{sp:Sp3}(h:∀ds G Q,¬sp ds G Q):FnOk3 P w K mg base k f fd ps sp:=
 ⟨fun vs H Q E q=>by obtain⟨ds,G,Q3,_,_,z,_⟩:=q;exact absurd z (h _ _ _),fun A outer s H args us vs Q E _ _ _ _ q=>by obtain⟨ds,G,Q3,_,_,z,_⟩:=q;exact absurd z (h _ _ _)⟩
end L3
namespace My
open PySem L2 L3
def Known(G:Gp):D->Prop
 |.obj a=>∃o,G a=some o/\o.plain
 |_=>True
def wholeD:D->Bool
 |.int _=>true
 |_=>false
theorem qiz{Q:V3}{d:D}{G:Gp}(h:Q d G):(endsOf Q).rt d G:=⟨G,Sub.refl G,h⟩
theorem qazz{Q:V3}{d:D}{G G':Gp}(s:Sub G G')(h:Q d G):(endsOf Q).rt d G':=⟨G,s,h⟩
theorem qmz{i:Int}(h1:-(10^80)<i)(h2:i<10^80):Big i:=by
 have:i.natAbs<10^80:=by omega
 exact Nat.lt_trans this (by decide)
theorem Sub.updN{G G':Gp}{a:Addr}{o:GO}(s:Sub G G')(h:G a=none):Sub G (upd3 G' a o):=fun b u e=>by
 rw[qabz (fun z=>by rw[z,h] at e;cases e)];exact s b u e
def qcnz:Sp3:=fun ds G Q=>match ds with
 |[d]=>Known G d/\Q (.bl (wholeD d)) G
 |_=>False
def qldz:TS3:=sRet (eAndV (eInst "int" (eVar 0)) (eNotV (eInst "bool" (eVar 0))))
theorem qwcz{nm:Str}:∀ds G Q,qcnz ds G Q->qldz (endsOf Q) (start3 [nm] ds) G:=by
 intro ds G Q h;rcases ds with _|⟨d,_|⟨d2,ds⟩⟩
 ·exact h.elim
 ·cases d with
  |int i=>exact⟨fun _=>qiz h.2,nofun⟩
  |bl b=>exact⟨fun _=>qiz h.2,nofun⟩
  |non=>exact⟨nofun,fun _=>qiz h.2⟩
  |str _=>exact⟨nofun,fun _=>qiz h.2⟩
  |tup _=>exact⟨nofun,fun _=>qiz h.2⟩
  |scr _=>exact⟨nofun,fun _=>qiz h.2⟩
  |dc _=>exact⟨nofun,fun _=>qiz h.2⟩
  |obj a=>
   obtain⟨o1,h1,hp⟩:∃o,G a=some o/\o.plain:=h.1;show match instD "int" G (.obj a) with
    |some b=>_
    |none=>_
   cases hG:G a with
   |none=>rw[h1] at hG;cases hG
   |some o=>
    cases o with
    |lst _=>simp only[instD,hG];exact⟨nofun,fun _=>qiz h.2⟩
    |pen=>simp only[instD,hG];exact⟨nofun,fun _=>qiz h.2⟩
    |dct=>simp only[instD,hG];exact⟨nofun,fun _=>qiz h.2⟩
    |gen R=>
     rw[h1] at hG;cases hG;exact hp.elim
 ·exact h.elim
abbrev qwdz:=@qwcz "thing"
def qdhz:Sp3:=fun ds G Q=>∃(ns:List Int) (k:Nat),ds=[.scr (ns.map .int),.int k]/\∀i:Int,Q (.int i) G
def qlez:TS3:=sSeq (sIf (eTest (eOp rLtT3 (eVar 1) (eCB q0z (aCons (eVar 0) (aNil))))) (sRet (eOp rIx3 (eVar 0) (eVar 1))) (sNext)) (sRet (eC (.int 0)))
theorem qwez:∀ds G Q,qdhz ds G Q->qlez (endsOf Q) (start3 ["script","k"] ds) G:=by
 rintro ds G Q ⟨ns,k,rfl,q⟩;refine⟨fun h=>?_,fun h=>qiz (q 0)⟩;have h':(k:Int)<((ns.map D.int).length:Nat):=of_decide_eq_true h;rw[List.length_map] at h';have hk:k<ns.length:=by omega
 exact⟨.int ns[k],qbjz (by rw[List.getElem?_map,List.getElem?_eq_getElem hk];rfl),qiz (q _)⟩
def qcoz:Sp3:=fun ds G Q=>∃n:Int,ds=[.int n]/\0≤n/\∀r:Int,0≤r->r<2147483629->Q (.int r) G
def qlfz:TS3:=sSeq (sAsg (eOp rMod3 (eOp rAdd3 (eVar 0) (eC (.int 7919))) (eC (.int 2147483647))) (hName 0)) (sRet (eOp rMod3 (eOp rAdd3 (eOp rAdd3 (eOp rMul3 (eVar 0) (eVar 0)) (eOp rMul3 (eC (.int 48271)) (eVar 0))) (eC (.int 12345))) (eC (.int 2147483629))))
theorem qwfz:∀ds G Q,qcoz ds G Q->qlfz (endsOf Q) (start3 ["seed"] ds) G:=by
 rintro ds G Q ⟨n,rfl,hn,q⟩;have h1:=Int.emod_nonneg (n+7919) (show (2147483647:Int)≠0 by decide);have h2:=Int.emod_lt_of_pos (n+7919) (show (0:Int)<2147483647 by decide);have hb:Big ((n+7919)%2147483647):=qmz (by omega) (by omega);refine⟨(by decide:(0:Int)<2147483647),⟨hb,hb⟩,⟨qmz (by decide) (by decide),hb⟩,(by decide:(0:Int)<2147483629),qiz (q _ ?_ ?_)⟩
 ·exact Int.emod_nonneg _ (by decide)
 ·exact Int.emod_lt_of_pos _ (by decide)
def qe3z:Sp3:=fun ds G Q=>∃(p:Addr) (m i j k:Int),ds=[.obj p,.int m]/\G p=some (.lst [.int i,.int j,.int k])/\PenOk i j k/\0<m/\Big m ∧
 ∀r i' j' k':Int,PenOk i' j' k'->0≤r->r<m->Q (.int r) (upd3 G p (.lst [.int i',.int j',.int k']))
def qadz:Sp3:=fun ds G Q=>∃(p:Addr) (m:Int),ds=[.obj p,.int m]/\G p=some .pen/\(0<m/\Big m)/\∀r:Int,0≤r->r<m->Q (.int r) G
def qlgz:TS3:=sSeq (sIf (eTest (eOp (rEq3 false) (eOp rIx3 (eVar 0) (eC (.int 1))) (eC (.int 1)))) (sSeq (sAsg (eOp rMod3 (eOp rIx3 (eVar 0) (eC (.int 0))) (eVar 1)) (hName 2)) (sSeq (sAsg (eOp rDiv3 (eOp rIx3 (eVar 0) (eC (.int 0))) (eVar 1)) (hSub (eVar 0) (eC (.int 0)))) (sRet (eVar 2)))) (sNext)) (sSeq (sAsg (eCall qcoz (aCons (eOp rAdd3 (eCall qcoz (aCons (eOp rIx3 (eVar 0) (eC (.int 2))) (aNil))) (eC (.int 7))) (aNil))) (hSub (eVar 0) (eC (.int 2)))) (sRet (eOp rMod3 (eOp rDiv3 (eOp rIx3 (eVar 0) (eC (.int 2))) (eC (.int 64))) (eVar 1))))
theorem qwgz:∀ds G Q,qe3z ds G Q->qlgz (endsOf Q) (start3 ["pen","many","found"] ds) G:=by
 rintro ds G Q ⟨p,m,i,j,k,rfl,hp,ok,hm,hb,q⟩;obtain⟨o1,o2,o3⟩:=ok;refine⟨_,_,hp,rfl,_,_,rfl,rfl,Nat.zero_le _,fun _=>?_,fun _=>?_⟩
 ·refine⟨_,_,hp,rfl,hm,_,_,hp,rfl,⟨hm,hb⟩,_,0,hp,rfl,?_⟩;refine qiz (q (i%m) (i / m) j k ⟨?_,o2,o3⟩ ?_ ?_)
  ·exact Int.ediv_nonneg o1 (by omega)
  ·exact Int.emod_nonneg _ (by omega)
  ·exact Int.emod_lt_of_pos _ hm
 ·refine⟨_,_,hp,rfl,_,rfl,o2,fun r h1 h2=>⟨_,rfl,(by omega),fun r' h3 h4=>?_⟩⟩;refine⟨_,2,hp,rfl,_,_,qajz,rfl,⟨by decide,qmz (by decide) (by decide)⟩,hm,?_⟩;refine qiz (q _ i j r' ⟨o1,h3,by omega⟩ ?_ ?_)
  ·exact Int.emod_nonneg _ (by omega)
  ·exact Int.emod_lt_of_pos _ hm
theorem qwhz{K:PySem.W.Frag}:∀vs H Q E,lowSp K qadz vs H Q E->lowSp K qe3z vs H Q E:=by
 rintro vs H Q E ⟨ds,G,Q3,hd,RG,⟨p,m,rfl,hp,hm,q⟩,k⟩;obtain⟨i,j,l,e,ok⟩:=RG p _ hp;refine⟨_,upd3 G p (.lst [.int i,.int j,.int l]),fun d G'=>∃i' j' l',PenOk i' j' l'/\G'=upd3 G p (.lst [.int i',.int j',.int l'])/\Q3 d G,hd,?_,⟨p,m,i,j,l,rfl,qajz,ok,hm.1,hm.2,fun r i' j' k' ok' h1 h2=>⟨i',j',k',ok',qruz,q r h1 h2⟩⟩,?_⟩
 ·intro a o ea;by_cases z:a=p
  ·subst z;rw[qajz] at ea;cases ea;exact⟨_,e,.cons (by simp[Hv]) (.cons (by simp[Hv]) (.cons (by simp[Hv]) .nil))⟩
  ·rw[qabz z] at ea;exact RG a o ea
 ·rintro v H' d G' hv S R ⟨i',j',l',ok',rfl,h3⟩;refine k v H' d G hv ⟨fun a o ea n=>S.fr a o ea ?_,S.trk,fun a n z=>absurd n z⟩ (fun a o ea=>?_) h3
  ·have:a≠p:=fun z=>by rw[z,hp] at n;cases n
   rw[qabz this];exact n
  ·by_cases z:a=p
   ·subst z;rw[hp] at ea;cases ea;obtain⟨ws,e1,e2⟩:=R a _ qajz;have:=qbyz e2 (ns:=[i',j',l']) rfl;subst this;exact⟨i',j',l',e1,ok'⟩
   ·exact R a o (by rw[qabz z];exact ea)
def qe4z:Sp3:=fun ds G Q=>∃c:Int,ds=[.int c]/\∀p i j k G',New G p (.lst [.int i,.int j,.int k]) G'->PenOk i j k->Q (.obj p) G'
def qg0z:Sp3:=fun ds G Q=>∃c:Int,ds=[.int c]/\∀p G',New G p .pen G'->Q (.obj p) G'
def qlhz:TS3:=sSeq (sAsg (eCB qc7z (aCons (eVar 0) (aCons (eOp rSub3 (eC (.int 0)) (eVar 0)) (aNil)))) (hName 1)) (sRet (eLst (aCons (eVar 1) (aCons (eCB qeoz (aCons (eOp rGe3 (eVar 1) (eOp rPow3 (eC (.int 10)) (eC (.int 18)))) (aNil))) (aCons (eOp rMod3 (eVar 1) (eC (.int 1000003))) (aNil))))))
theorem qwiz:∀ds G Q,qe4z ds G Q->qlhz (endsOf Q) (start3 ["cell","left"] ds) G:=by
 rintro ds G Q ⟨c,rfl,q⟩;refine⟨⟨by decide,by decide,by decide⟩,(by decide:(0:Int)<1000003),fun p G' hp=>qiz (q p _ _ _ _ hp ⟨?_,?_,?_⟩)⟩
 ·split<;>omega
 ·exact Int.emod_nonneg _ (by decide)
 ·exact Int.lt_trans (Int.emod_lt_of_pos _ (by decide)) (by decide)
theorem qwjz{K:PySem.W.Frag}:∀vs H Q E,lowSp K qg0z vs H Q E->lowSp K qe4z vs H Q E:=by
 rintro vs H Q E ⟨ds,G,Q3,hd,RG,⟨c,rfl,q⟩,k⟩;refine⟨_,G,fun d G'=>∃p i j l,PenOk i j l/\New G p (.lst [.int i,.int j,.int l]) G'/\d=.obj p,hd,RG,⟨c,rfl,fun p i j l G' hp ok=>⟨p,i,j,l,ok,hp,rfl⟩⟩,?_⟩;rintro v H' d G' hv S R ⟨p,i,j,l,ok,hp,rfl⟩;refine k v H' _ (upd3 G' p .pen) hv ⟨S.fr,S.trk,fun a n z=>S.new a n ?_⟩ (fun a o ea=>?_) (q p _ ⟨hp.non,Sub.updN hp.sub hp.non,qajz⟩)
 ·by_cases y:a=p
  ·rw[y,hp.at_];simp
  ·rw[qabz y] at z;exact z
 ·by_cases z:a=p
  ·subst z;rw[qajz] at ea;cases ea;obtain⟨ws,e1,e2⟩:=R a _ hp.at_;have:=qbyz e2 (ns:=[i,j,l]) rfl;subst this;exact⟨i,j,l,e1,ok⟩
  ·rw[qabz z] at ea;exact R a o ea
abbrev Clk:=Int×Int
def cD(c:Clk):D:=.tup [.int c.1,.int c.2]
def csD(cs:List Clk):D:=.tup (cs.map cD)
def Valid(c:Clk):Prop:=0<c.1/\0≤c.2/\c.2<c.1
def rg(n:Int)(c:Clk):Bool:=n%c.1==c.2
def qcpz:Sp3:=fun ds G Q=>∃(c:Clk) (n:Int),ds=[cD c,.int n]/\0<c.1/\Q (.bl (rg n c)) G
def qliz:TS3:=sRet (eOp (rEq3 false) (eOp rMod3 (eVar 1) (eOp rIx3 (eVar 0) (eC (.int 0)))) (eOp rIx3 (eVar 0) (eC (.int 1))))
theorem qwkz:∀ds G Q,qcpz ds G Q->qliz (endsOf Q) (start3 ["clock","number"] ds) G:=by
 rintro ds G Q ⟨⟨s,r⟩,n,rfl,hs,q⟩;exact⟨_,rfl,hs,_,rfl,_,_,rfl,rfl,Nat.zero_le _,qiz q⟩
def qcqz:Sp3:=fun ds G Q=>∃(cs:List Clk) (n:Int),ds=[csD cs,.int n]/\(∀c∈cs,0<c.1)/\cs.length≤1000/\∀p G',New G p (.lst ((cs.filter (rg n)).map cD)) G'->Q (.obj p) G'
def qljz:TS3:=sRet (eComp ["clock"] [1] (iSeq (eVar 0)) (hName 0) (eTest (eCall qcpz (aCons (eVar 0) (aCons (eVar 1) (aNil))))) (eVar 0))
theorem line1000{n:Nat}(h:n≤1000):n≤sizeLine:=Nat.le_trans h (by decide)
theorem qaez{α:Type}{guard:Gp->Prop}{g:TG3}{tc:TT3}{te:TE3}{Q:List D->Gp->Prop}(I:S3->Prop)(h:α->D)(pr:α->Bool)(f:α->D){G:Gp}(hg:guard G):∀(xs:List α) (acc:List D) (τ:S3),I τ ->
  (∀x∈xs,∀τ (K1:S3->Gp->Prop) (K2:S3->D->Gp->Prop),I τ->(pr x=true->∀τ2,I τ2->K2 τ2 (f x) G)->(pr x=false->∀τ2,I τ2->K1 τ2 G)->g (h x) τ G fun τ2 G2=>tc τ2 G2 fun b G3=>Br b (te τ2 G3 fun v G4=>K2 τ2 v G4) (K1 τ2 G3)) ->
  Q (acc++(xs.filter pr).map f) G->compGo guard g tc te Q (xs.map h) acc τ G
 |[],acc,τ,_,_,q=>⟨hg,by simpa using q⟩
 |d::ds,acc,τ,hI,hs,q=>by
  refine⟨hg,hs d List.mem_cons_self τ (fun τ2 G3=>compGo guard g tc te Q (ds.map h) acc τ2 G3) (fun τ2 v G4=>compGo guard g tc te Q (ds.map h) (acc++[v]) τ2 G4) hI (fun hp τ2 h2=>?_) fun hp τ2 h2=>?_⟩
  ·refine qaez I h pr f hg ds _ τ2 h2 (fun d' hd=>hs d' (List.mem_cons_of_mem _ hd)) ?_;rw[List.filter_cons_of_pos hp] at q;simpa using q
  ·refine qaez I h pr f hg ds _ τ2 h2 (fun d' hd=>hs d' (List.mem_cons_of_mem _ hd)) ?_;rw[List.filter_cons_of_neg (by rw[hp];simp)] at q;exact q
theorem qwlz:∀ds G Q,qcqz ds G Q->qljz (endsOf Q) (start3 ["clocks","number"] ds) G:=by
 rintro ds G Q ⟨cs,n,rfl,hc,hz,q⟩;refine⟨by show (cs.map cD).length≤sizeLine;rw[List.length_map];exact line1000 hz,?_⟩;refine qaez (fun τ=>∃x,τ=[x,some (.int n)]) cD (rg n) cD (G:=G) trivial cs [] _ ⟨none,rfl⟩ ?_ ?_
 ·rintro c hm τ K1 K2 ⟨x,rfl⟩ h1 h2;exact⟨c,n,rfl,hc c hm,fun e=>h1 e _ ⟨_,rfl⟩,fun e=>h2 e _ ⟨_,rfl⟩⟩
 ·exact fun p G' hp=>qiz (q p G' hp)
end My
namespace My
open PySem L2 L3
def cX(c:Clk):Dat.D:=.tup [.int c.1,.int c.2]
theorem qa0z:∀cs:List Clk,toDats0 (cs.map cD)=some (cs.map cX)
 |[]=>rfl
 |c::cs=>by
  show (match toDat0 (cD c) with
   |some x=>match toDats0 (cs.map cD) with
    |some xs=>some (x::xs)
    |none=>none
   | none=>none)=_
  rw[qa0z cs];rfl
theorem qaaz{G:Gp}{a:Addr}{ds:List D}{xs:List Dat.D}(h:G a=some (.lst ds))(e:toDats0 ds=some xs):toDat G (.obj a)=some (.lst xs):=by
 unfold toDat;simp only[h,e]
theorem qb5z:∀cs:List Clk,Dat.deps (cs.map cX)≤1
 |[]=>Nat.zero_le _
 |c::cs=>by
  show max (cX c).dep (Dat.deps (cs.map cX))≤1;have h1:(cX c).dep=1:=rfl;have:=qb5z cs;omega
theorem qcrz(cs:List Clk):(Dat.D.lst (cs.map cX)).dep≤50:=by
 show Dat.deps (cs.map cX)+1≤50;have:=qb5z cs;omega
theorem qbcz(xs:List Dat.D):(Dat.D.lst xs).eqb (.lst [])=xs.isEmpty:=by
 cases xs with
 |nil=>rfl
 |cons x xs=>rfl
theorem qdiz(a b:Clk):(cX a).eqb (cX b)=decide (a=b):=by
 obtain⟨s,r⟩:=a;obtain⟨s',r'⟩:=b;show ((s==s')&&((r==r')&&true))=decide ((s,r)=(s',r'));rw[Bool.eq_iff_iff];simp
theorem qg1z:∀as bs:List Clk,Dat.eqbs (as.map cX) (bs.map cX)=decide (as=bs)
 |[],[]=>rfl
 |[],b::bs=>rfl
 |a::as,[]=>rfl
 |a::as,b::bs=>by
  show ((cX a).eqb (cX b)&&Dat.eqbs (as.map cX) (bs.map cX))=_;rw[qdiz,qg1z as bs,Bool.eq_iff_iff];simp
theorem qdjz{α β:Type}(f:α->β)(xs:List α):(xs.map f).isEmpty=xs.isEmpty:=by cases xs<;>rfl
def rg2(n:Int)(c:Clk):Bool:=(n-c.2)%c.1==0
theorem qbqz{c:Clk}(h:Valid c)(n:Int):rg2 n c=rg n c:=by
 obtain⟨h1,h2,h3⟩:=h;unfold rg rg2;rw[Bool.eq_iff_iff];simp only[beq_iff_eq];constructor
 ·intro e;have h4:=Int.emod_emod_of_dvd n (Int.dvd_refl c.1);have:n%c.1=c.2%c.1:=Int.emod_eq_emod_iff_emod_sub_eq_zero.mpr e;rw[this];exact Int.emod_eq_of_lt h2 h3
 ·intro e;refine Int.emod_eq_emod_iff_emod_sub_eq_zero.mp ?_;rw[e];exact (Int.emod_eq_of_lt h2 h3).symm
end My
namespace My
open PySem L2 L3
def cutG{α:Type}(xs:List α)(lo hi:Option Int):List α:=(xs.drop (HT.sIx xs.length 0 lo)).take (HT.sIx xs.length xs.length hi-HT.sIx xs.length 0 lo)
theorem qdkz{α:Type}(f:α->D)(xs:List α)(lo hi:Option Int):cut3 (xs.map f) lo hi=(cutG xs lo hi).map f:=by
 unfold cut3 cutG;rw[List.length_map,List.map_take,List.map_drop]
theorem qwmz{α:Type}(xs:List α)(lo hi:Option Int):(cutG xs lo hi).length≤xs.length:=by
 unfold cutG;rw[List.length_take,List.length_drop];omega
theorem qlkz{α:Type}(xs:List α)(k:Nat):cutG xs none (some (k:Int))=xs.take k:=by
 unfold cutG;rw[HT.sIx_none,HT.sIx_nat];simp only[List.drop_zero,Nat.sub_zero];by_cases h:k≤xs.length
 ·rw[Nat.min_eq_left h]
 ·rw[Nat.min_eq_right (by omega),List.take_length,List.take_of_length_le (by omega)]
theorem qllz{α:Type}(xs:List α)(k:Nat):cutG xs (some (k:Int)) none=xs.drop k:=by
 unfold cutG;rw[HT.sIx_none,HT.sIx_nat];by_cases h:k≤xs.length
 ·rw[Nat.min_eq_left h];exact List.take_of_length_le (by rw[List.length_drop];omega)
 ·rw[Nat.min_eq_right (by omega),List.drop_length,List.drop_eq_nil_of_le (by omega)];simp
def ClOk(M:Int)(cs:List Clk):Prop:=∀c∈cs,Valid c/\c.1≤M
theorem qwnz{s r k i:Int}(h:Valid (s,r))(h1:0≤i)(h2:i<k):Valid (s*k,r+s*i):=by
 obtain⟨a,b,c⟩:=h;simp only at a b c;have q:=Int.mul_le_mul_of_nonneg_left (show i≤k-1 by omega) (show 0≤s by omega);rw[Int.mul_sub,Int.mul_one] at q;have q2:=Int.mul_nonneg (show 0≤s by omega) h1;refine⟨?_,?_,?_⟩
 ·exact Int.mul_pos a (by omega)
 ·show 0≤r+s*i;omega
 ·show r+s*i<s*k;omega
theorem qg2z{α:Type}(f:α->D){xs:List α}{r:Int}(h1:0≤r)(h2:r<(xs.length:Nat)):∃x,xs[r.toNat]?=some x/\x∈xs/\atI (xs.map f) r=some (f x):=by
 have hk:r.toNat<xs.length:=by omega
 refine⟨xs[r.toNat],List.getElem?_eq_getElem hk,List.getElem_mem hk,?_⟩;have e:r=((r.toNat:Nat):Int):=by omega
 have q:atI (xs.map f) ((r.toNat:Nat):Int)=some (f xs[r.toNat]):=qbjz (by rw[List.getElem?_map];simp[hk]);rw[←e] at q;exact q
theorem qlmz{ns:List Int}{r:Int}(h1:0≤r)(h2:r<(ns.length:Nat)):∃n,n∈ns/\atI (ns.map D.int) r=some (.int n):=by
 obtain⟨x,_,h3,h4⟩:=qg2z D.int h1 h2;exact⟨x,h3,h4⟩
end My
namespace My
open PySem L2 L3
def toL(c:Clk):List Int:=[c.1,c.2]
theorem qb6z(cs:List Clk):(cs.map toL).map tupI=cs.map cD:=by
 rw[List.map_map];rfl
theorem qe5z{cs:List Clk}:∀{mss:List (List Int)},(∀ns∈mss,ns∈cs.map toL)->∃cs':List Clk,mss=cs'.map toL/\∀c∈cs',c∈cs
 |[],_=>⟨[],rfl,fun c hc=>nomatch hc⟩
 |ns::mss,h=>by
  obtain⟨cs',e,hc⟩:=qe5z (mss:=mss) fun n hn=>h n (List.mem_cons_of_mem _ hn);obtain⟨c,h1,rfl⟩:=List.mem_map.mp (h ns List.mem_cons_self);refine⟨c::cs',by simp[e],fun d hd=>?_⟩;rcases List.mem_cons.mp hd with rfl|hd
  ·exact h1
  ·exact hc d hd
def cLt(a b:Clk):Prop:=a.1<b.1∨(a.1=b.1/\a.2<b.2)
def Rise(cs:List Clk):Prop:=cs.Pairwise cLt
theorem qlnz{a b:Clk}(h:toL a=toL b):a=b:=by
 obtain⟨s,r⟩:=a;obtain⟨s',r'⟩:=b;simp[toL] at h;simp[h]
theorem qg3z{a b:Clk}(h:SortV.lx (toL b) (toL a)=false)(hne:a≠b):cLt a b:=by
 obtain⟨s,r⟩:=a;obtain⟨s',r'⟩:=b;unfold toL at h;simp only[SortV.lx] at h;by_cases e:s'=s
 ·rw[if_pos e] at h;by_cases e2:r'=r
  ·exact absurd (by rw[e,e2]) hne
  ·rw[if_neg e2] at h;have:=of_decide_eq_false h;exact .inr ⟨e.symm,by simp only;omega⟩
 ·rw[if_neg e] at h;have:=of_decide_eq_false h;exact .inl (by simp only;omega)
theorem qloz{cs:List Clk}(h:RiseL (cs.map toL))(nd:(cs.map toL).Nodup):Rise cs:=by
 have h1:=List.pairwise_map.mp h;have h2:=List.pairwise_map.mp nd;exact (h1.and h2).imp fun {a b} q=>qg3z q.1 fun z=>q.2 (by rw[z])
theorem Rise.take{cs:List Clk}(h:Rise cs)(n:Nat):Rise (cs.take n):=List.Pairwise.sublist (List.take_sublist n cs) h
theorem qlpz{cs:List Clk}{mss:List (List Int)}(hmem:∀ns,ns∈mss↔ns∈cs.map toL)(nd:mss.Nodup)(hr:RiseL mss)(hl:mss.length≤(cs.map toL).length):
  ∃cs':List Clk,mss=cs'.map toL/\(∀c,c∈cs'↔c∈cs)/\Rise cs'/\cs'.length≤cs.length:=by
 obtain⟨cs',rfl,hc⟩:=qe5z fun ns hn=>(hmem ns).mp hn;refine⟨cs',rfl,fun c=>⟨fun h=>hc c h,fun h=>?_⟩,qloz hr nd,by simpa using hl⟩;obtain⟨c',h1,h2⟩:=List.mem_map.mp ((hmem (toL c)).mpr (List.mem_map.mpr ⟨c,h,rfl⟩));rw[←qlnz h2];exact h1
theorem qe6z{cs:List Clk}:∀ns∈cs.map toL,ns≠[]:=fun ns hn=>by
 obtain⟨c,_,rfl⟩:=List.mem_map.mp hn;simp[toL]
theorem qg4z{G:Gp}{a:Addr}{cs:List Clk}(e:G a=some (.lst (cs.map cD))):G a=some (.lst ((cs.map toL).map tupI)):=by rw[qb6z];exact e
theorem qlqz{r:Int}{n:Nat}(h1:0≤r)(h2:r<(n:Int)):seqIndex? r n=some r.toNat:=by
 unfold seqIndex?;simp only[if_neg (show ¬r<0 by omega)];rw[if_pos (by simp;omega)]
theorem qg5z{α β:Type}(f:α->β):∀(xs:List α) (i:Nat),(xs.map f).eraseIdx i=(xs.eraseIdx i).map f
 |[],_=>rfl
 |_::_,0=>rfl
 |x::xs,i+1=>by simp[qg5z f xs i]
end My
namespace My
open PySem L2 L3
theorem qg6z{guard:Gp->Prop}{g:TG3}{tc:TT3}{te:TE3}{Q:List D->Gp->Prop}(I:List D->List D->S3->Gp->Prop)(hg:∀ds acc τ G,I ds acc τ G->guard G)
  (step:∀d ds acc τ G (K1:S3->Gp->Prop) (K2:S3->D->Gp->Prop),I (d::ds) acc τ G->(∀τ' v G',I ds (acc++[v]) τ' G'->K2 τ' v G')->(∀τ' G',I ds acc τ' G'->K1 τ' G')->g d τ G fun τ2 G2=>tc τ2 G2 fun b G3=>Br b (te τ2 G3 fun v G4=>K2 τ2 v G4) (K1 τ2 G3))
  (hend:∀acc τ G,I [] acc τ G->Q acc G):∀ds acc τ G,I ds acc τ G->compGo guard g tc te Q ds acc τ G
 |[],acc,τ,G,h=>⟨hg _ _ _ _ h,hend _ _ _ h⟩
 |d::ds,acc,τ,G,h=>⟨hg _ _ _ _ h,step d ds acc τ G (fun τ2 G3=>compGo guard g tc te Q ds acc τ2 G3) (fun τ2 v G4=>compGo guard g tc te Q ds (acc++[v]) τ2 G4) h
   (fun τ' v G' q=>qg6z I hg step hend ds _ τ' G' q) fun τ' G' q=>qg6z I hg step hend ds _ τ' G' q⟩
def qcsz:Sp3:=fun ds G Q=>∃(p:Addr) (m:Int),ds=[.obj p,.int m]/\G p=some .pen/\(0<m/\m≤1000)/\∀c:Clk,Valid c->c.1≤m->Q (cD c) G
def qwoz:TS3:=sRet (eTup (aCons (eVar 2) (aCons (eCall qadz (aCons (eVar 0) (aCons (eVar 2) (aNil)))) (aNil))))
def qlrz:TS3:=sSeq (sAsg (eOp rAdd3 (eC (.int 1)) (eCall qadz (aCons (eVar 0) (aCons (eVar 1) (aNil))))) (hName 2)) qwoz
theorem qwpz:∀ds G Q,qcsz ds G Q->qlrz (endsOf Q) (start3 ["pen","most","step"] ds) G:=by
 rintro ds G Q ⟨p,m,rfl,hp,hm,q⟩;refine⟨p,m,rfl,hp,⟨hm.1,qmz (by omega) (by omega)⟩,fun r h1 h2=>?_⟩;refine⟨p,_,rfl,hp,⟨by omega,qmz (by omega) (by omega)⟩,fun r2 h3 h4=>qiz (q (1+r,r2) ⟨?_,h3,h4⟩ ?_)⟩
 ·show 0<1+r;omega
 ·show 1+r≤m;omega
theorem qwqz{cs:List Clk}{mss:List (List Int)}(hp:mss.Perm (cs.map toL)):∃cs':List Clk,mss=cs'.map toL/\(∀c∈cs',c∈cs)/\cs'.length=cs.length:=by
 obtain⟨cs',rfl,hc⟩:=qe5z fun ns hn=>hp.mem_iff.mp hn;exact⟨cs',rfl,hc,by simpa using hp.length_eq⟩
def qwrz:TS3:=sAsg (eOp rAdd3 (eVar 3) (eComp ["part"] [5,4,6] (iRng1 (aCons (eVar 4) (aNil))) (hName 0) (tNoTest3) (eTup (aCons (eOp rMul3 (eVar 1) (eVar 2)) (aCons (eOp rAdd3 (eVar 3) (eOp rMul3 (eVar 1) (eVar 0))) (aNil)))))) (hName 3)
def qwsz:TS3:=sSeq (sIf (eTest (eOp rGt3 (eOp rMul3 (eVar 5) (eVar 4)) (eC (.int 1000)))) (sRet (eCB qb2z (aCons (eOp rAdd3 (eVar 3) (eLst (aCons (eTup (aCons (eVar 5) (aCons (eVar 6) (aNil)))) (aNil)))) (aNil)))) (sNext)) qwrz
def qlsz:TS3:=sSeq (sAsg (eM qgaz (eVar 3) (aCons (eCall qadz (aCons (eVar 0) (aCons (eCB q0z (aCons (eVar 3) (aNil))) (aNil)))) (aNil))) (hTup 2 (hCons (hName 5) (hCons (hName 6) (hNil))))) qwsz
def qwtz:TS3:=sSeq (sAsg (eCB qf8z (aCons (eVar 4) (aCons (eCB qc7z (aCons (eC (.int 2)) (aCons (eOp rAdd3 (eOp rSub3 (eVar 2) (eCB q0z (aCons (eVar 3) (aNil)))) (eC (.int 1))) (aNil)))) (aNil)))) (hName 4)) qlsz
def qltz:TS3:=sSeq (sAsg (eLstIx (aCons (eC (.int 2)) (aCons (eC (.int 2)) (aCons (eC (.int 3)) (aCons (eC (.int 2)) (aCons (eC (.int 3)) (aCons (eC (.int 5)) (aNil))))))) (eCall qadz (aCons (eVar 0) (aCons (eC (.int 6)) (aNil))))) (hName 4)) qwtz
def qg7z:TS3:=sRet (eCB qb2z (aCons (eVar 3) (aNil)))
def qwuz:TS3:=sSeq (sWhile (eOr (eTest (eOp rLtT3 (eCB q0z (aCons (eVar 3) (aNil))) (eVar 1))) (eAnd (eTest (eOp rGt3 (eCall qadz (aCons (eVar 0) (aCons (eC (.int 4)) (aNil)))) (eC (.int 0)))) (eTest (eOp rLtT3 (eCB q0z (aCons (eVar 3) (aNil))) (eVar 2))))) (qltz)) qg7z
def qwvz:TS3:=sSeq (sAsg (eLst (aCons (eTup (aCons (eC (.int 1)) (aCons (eC (.int 0)) (aNil)))) (aNil))) (hName 3)) qwuz
theorem wrote{G G1:Gp}{q:Addr}{o o':GO}(n:New G q o G1):New G q o' (upd3 G1 q o'):=⟨n.non,Sub.updN n.sub n.non,qajz⟩
end My
namespace My
open PySem L2 L3
def qwwz:TS3:=sDrop (eM qepz (eVar 3) (aCons (eTup (aCons (eVar 6) (aCons (eCall qadz (aCons (eVar 0) (aCons (eVar 6) (aNil)))) (aNil)))) (aNil)))
def qwxz:TS3:=sSeq (sAsg (eOp rIx3 (eVar 4) (eCall qadz (aCons (eVar 0) (aCons (eC (.int 7)) (aNil))))) (hName 6)) qwwz
def qwyz:TS3:=sFor (iRng1 (aCons (eCall qadz (aCons (eVar 0) (aCons (eOp rAdd3 (eVar 1) (eC (.int 1))) (aNil)))) (aNil))) (hName 5) (qwxz)
def qwzz:TS3:=sSeq (sAsg (eLst (aNil)) (hName 3)) qwyz
def qluz:TS3:=sIf (eTest (eOp (rEq3 false) (eVar 2) (eC (.int 4)))) (sDrop (eM qgaz (eVar 3) (aCons (eCall qadz (aCons (eVar 0) (aCons (eCB q0z (aCons (eVar 3) (aNil))) (aNil)))) (aNil)))) (sNext)
def qw0z:TS3:=sSeq (sIf (eTest (eOp (rEq3 false) (eVar 2) (eC (.int 3)))) (sAsg (eOp rAdd3 (eVar 3) (eLst (aCons (eCall qcsz (aCons (eVar 0) (aCons (eC (.int 6)) (aNil)))) (aNil)))) (hName 3)) (sNext)) qluz
def qg8z:TS3:=sRet (eSl (eCB qa3z (aCons (eSortSet (eVar 3)) (aNil))) (oNone) (oSome (eVar 1)))
end My
namespace My
open PySem L2 L3
def rndF(cs:List Clk)(a:Nat):Nat:=cs.foldl (fun a c=>Nat.lcm a c.1.toNat) a
def rnd(cs:List Clk):Nat:=rndF cs 1
theorem qlvz{M:Nat}:∀{cs:List Clk} {a:Nat},(∀c∈cs,0<c.1/\c.1≤(M:Int))->0<a->0<rndF cs a/\rndF cs a≤a*M^cs.length
 |[],a,_,h=>⟨h,by simp[rndF]⟩
 |c::cs,a,hc,h=>by
  obtain⟨h1,h2⟩:=hc c List.mem_cons_self;have hp:0<Nat.lcm a c.1.toNat:=Nat.lcm_pos h (by omega);obtain⟨h3,h4⟩:=qlvz (cs:=cs) (a:=Nat.lcm a c.1.toNat) (fun d hd=>hc d (List.mem_cons_of_mem _ hd)) hp;refine⟨h3,Nat.le_trans h4 ?_⟩;rw[List.length_cons,Nat.pow_succ,Nat.mul_comm (M^cs.length) M,←Nat.mul_assoc];refine Nat.mul_le_mul_right _ ?_;have:Nat.lcm a c.1.toNat≤a*c.1.toNat:=Nat.le_of_dvd (Nat.mul_pos h (by omega)) (Nat.lcm_dvd (Nat.dvd_mul_right _ _) (Nat.dvd_mul_left _ _));exact Nat.le_trans this (Nat.mul_le_mul_left _ (by omega))
theorem qw1z{cs:List Clk}(h:ClOk 1000 cs)(hl:cs.length≤12):0<rnd cs/\rnd cs≤1000^12:=by
 obtain⟨h1,h2⟩:=qlvz (M:=1000) (cs:=cs) (a:=1) (fun c hc=>⟨(h c hc).1.1,(h c hc).2⟩) (by decide);refine⟨h1,Nat.le_trans h2 ?_⟩;rw[Nat.one_mul];exact Nat.pow_le_pow_right (by decide) hl
theorem qlwz{n:Nat}(h:n<10^80):Big (n:Int):=by
 show (n:Int).natAbs<2^4000;exact Nat.lt_trans (by simpa using h) (by decide)
end My
namespace My
open PySem L2 L3
def qbrz:Sp3:=fun ds G Q=>∃a b:Nat,ds=[.int a,.int b]/\Q (.int (Nat.gcd a b:Nat)) G
def qw2z:TS3:=sAsg (eVar 2) (hName 1)
def qw3z:TS3:=sSeq (sAsg (eVar 1) (hName 0)) qw2z
def qw4z:TS3:=sSeq (sAsg (eOp rMod3 (eVar 0) (eVar 1)) (hName 2)) qw3z
def qw5z:TS3:=sRet (eVar 0)
def qlxz:TS3:=sSeq (sWhile (eTest (eOp (rEq3 true) (eVar 1) (eC (.int 0)))) (qw4z)) qw5z
theorem qw6z:∀ds G Q,qbrz ds G Q->qlxz (endsOf Q) (start3 ["one","other","left"] ds) G:=by
 rintro ds G Q ⟨a,b,rfl,q⟩;refine⟨fun m τ G'=>G'=G/\∃(a':Nat) (x:Option D),τ=[some (.int a'),some (.int (m:Nat)),x]/\Nat.gcd a' m=Nat.gcd a b,⟨b,rfl,a,_,rfl,rfl⟩,?_⟩;rintro m τ G' ⟨rfl,a',x,rfl,hg⟩;refine⟨_,_,rfl,rfl,Nat.zero_le _,fun h=>?_,fun h=>?_⟩
 ·have h1:(!((m:Int)==0))=true:=h;have h':(0:Int)<(m:Int):=by simp at h1;omega
  refine⟨h',a'%m,by exact_mod_cast Nat.mod_lt a' (by omega),rfl,m,some (.int (a'%m:Nat)),?_,?_⟩
  ·show [some (D.int (m:Nat)),some (D.int ((a':Int)%(m:Int))),some (D.int ((a':Int)%(m:Int)))]=_;rw[←Int.natCast_emod]
  ·rw[←hg,Nat.gcd_comm a' m,Nat.gcd_rec m a',Nat.gcd_comm]
 ·have h1:(!((m:Int)==0))=false:=h;have:m=0:=by simp at h1;omega
  subst this;rw[Nat.gcd_zero_right] at hg;rw[←hg] at q;exact qiz q
def nD(n:Nat):D:=.int (n:Nat)
def lcmF(ns:List Nat)(a:Nat):Nat:=ns.foldl Nat.lcm a
def qdlz:Sp3:=fun ds G Q=>∃(p:Addr) (ns:List Nat),ds=[.obj p]/\G p=some (.lst (ns.map nD))/\(∀n∈ns,0<n/\n≤1000)/\ns.length≤20/\Q (.int (lcmF ns 1:Nat)) G
def qw7z:TS3:=sAsg (eOp rMul3 (eVar 1) (eOp rDiv3 (eVar 2) (eCall qbrz (aCons (eVar 1) (aCons (eVar 2) (aNil)))))) (hName 1)
def qw8z:TS3:=sRet (eVar 1)
def qw9z:TS3:=sSeq (sFor (iSeq (eVar 0)) (hName 2) (qw7z)) qw8z
def qlyz:TS3:=sSeq (sAsg (eC (.int 1)) (hName 1)) qw9z
theorem qxaz:∀ds G Q,qdlz ds G Q->qlyz (endsOf Q) (start3 ["numbers","least","number"] ds) G:=by
 rintro ds G Q ⟨p,ns,rfl,hp,ok,hl,q⟩;refine⟨_,hp,?_⟩;refine qafz (fun ds τ G'=>G'=G/\∃(zs:List Nat) (a:Nat) (x2:Option D),ds=zs.map nD/\τ=[some (.obj p),some (.int a),x2]/\(∀n∈zs,0<n/\n≤1000)/\0<a/\a*1000^zs.length≤1000^20/\lcmF zs a=lcmF ns 1) (fun _ _ _ h=>by rw[h.1];exact hp) ?_ ?_ _ _ _ ⟨rfl,ns,1,none,rfl,rfl,ok,by decide,?_,rfl⟩
 ·rintro d ds τ G' N ⟨rfl,zs,a,x2,e,rfl,okz,ha,hb,hr⟩ hN;cases zs with
  |nil=>cases e
  |cons n zs=>
   cases e;obtain⟨hs1,hs2⟩:=okz _ List.mem_cons_self;have hg:0<Nat.gcd a n:=Nat.gcd_pos_of_pos_left _ ha;have hga:Nat.gcd a n≤a:=Nat.le_of_dvd ha (Nat.gcd_dvd_left _ _);have ha20:a≤1000^20:=Nat.le_trans (Nat.le_mul_of_pos_right _ (Nat.pow_pos (by decide))) hb;have hbig:∀k:Nat,k≤1000^20->Big (k:Int):=fun k hk=>qlwz (Nat.lt_of_le_of_lt hk (by decide));refine⟨a,n,rfl,⟨by omega,hbig _ (Nat.le_trans hga ha20)⟩,⟨hbig _ ha20,?_⟩,?_⟩
   ·show Big ((n:Int) / (Nat.gcd a n:Nat));rw[←Int.natCast_ediv];exact hbig _ (Nat.le_trans (Nat.div_le_self _ _) (Nat.le_trans hs2 (by decide)))
   have el:a*(n / Nat.gcd a n)=Nat.lcm a n:=by
    unfold Nat.lcm;rw[Nat.mul_div_assoc a (Nat.gcd_dvd_right a n)]
   refine hN _ _ ⟨rfl,zs,Nat.lcm a n,some (nD n),rfl,?_,fun c hc=>okz c (List.mem_cons_of_mem _ hc),Nat.lcm_pos ha (by omega),?_,hr⟩
   ·show [some (D.obj p),some (D.int ((a:Int)*((n:Int) / (Nat.gcd a n:Nat)))),_]=_;rw[←Int.natCast_ediv,←Int.natCast_mul,el]
   ·refine Nat.le_trans ?_ hb;rw[List.length_cons,Nat.pow_succ,Nat.mul_comm (1000^zs.length) 1000,←Nat.mul_assoc];refine Nat.mul_le_mul_right _ ?_;have:Nat.lcm a n≤a*n:=Nat.le_of_dvd (Nat.mul_pos ha (by omega)) (Nat.lcm_dvd (Nat.dvd_mul_right _ _) (Nat.dvd_mul_left _ _));exact Nat.le_trans this (Nat.mul_le_mul_left _ (by omega))
 ·rintro τ G' ⟨rfl,zs,a,x2,e,rfl,okz,ha,hb,hr⟩;have:zs=[]:=by cases zs with
   |nil=>rfl
   |cons z zs=>cases e
  subst this;have hr':a=lcmF ns 1:=hr;rw[←hr'] at q;exact qiz q
 ·rw[Nat.one_mul];exact Nat.pow_le_pow_right (by decide) hl
theorem qxbz(cs:List Clk)(a:Nat):lcmF (cs.map fun c=>c.1.toNat) a=rndF cs a:=by
 unfold lcmF rndF;rw[List.foldl_map]
def qctz:Sp3:=fun ds G Q=>∃cs:List Clk,ds=[csD cs]/\ClOk 1000 cs/\cs.length≤20/\Q (.int (rnd cs:Nat)) G
def qlzz:TS3:=sRet (eCall qdlz (aCons (eComp ["clock"] [] (iSeq (eVar 0)) (hName 0) (tNoTest3) (eOp rIx3 (eVar 0) (eC (.int 0)))) (aNil)))
theorem filter_all{α:Type}(xs:List α):xs.filter (fun _=>true)=xs:=List.filter_eq_self.mpr fun _ _=>rfl
theorem qxcz:∀ds G Q,qctz ds G Q->qlzz (endsOf Q) (start3 ["clocks"] ds) G:=by
 rintro ds G Q ⟨cs,rfl,ok,hl,q⟩;refine⟨by show (cs.map cD).length≤sizeLine;rw[List.length_map];exact line1000 (by omega),?_⟩;refine qaez (fun τ=>∃x,τ=[x]) cD (fun _=>true) (fun c=>nD c.1.toNat) (G:=G) trivial cs [] _ ⟨none,rfl⟩ ?_ ?_
 ·rintro⟨s,r⟩ hm τ K1 K2 ⟨x,rfl⟩ h1 h2;refine⟨fun _=>⟨_,rfl,?_⟩,nofun⟩;have hs:0<s:=(ok _ hm).1.1;have:=h1 rfl [some (cD (s,r))] ⟨_,rfl⟩;show K2 [some (cD (s,r))] (.int s) G;rw[show D.int s=nD (s,r).1.toNat by show D.int s=D.int ((s.toNat:Nat):Int);rw[Int.toNat_of_nonneg (by omega)]];exact this
 ·intro p G' n;rw[filter_all,List.nil_append,show cs.map (fun c:Clk=>nD c.1.toNat)=(cs.map fun c:Clk=>c.1.toNat).map nD by rw[List.map_map];rfl] at n;refine⟨p,_,rfl,n.at_,fun k hk=>?_,by rw[List.length_map];exact hl,?_⟩
  ·obtain⟨c,hc,rfl⟩:=List.mem_map.mp hk;obtain⟨⟨a,_⟩,b⟩:=ok c hc;omega
  ·rw[qxbz];exact qazz n.sub q
def qdmz:Sp3:=fun ds G Q=>∃t b:Nat,ds=[.int t,.int b]/\0<b/\b<10^80/\Q (.tup [nD (t / Nat.gcd t b),nD (b / Nat.gcd t b)]) G
def qxdz:TS3:=sRet (eTup (aCons (eOp rDiv3 (eVar 0) (eVar 2)) (aCons (eOp rDiv3 (eVar 1) (eVar 2)) (aNil))))
def ql0z:TS3:=sSeq (sAsg (eCall qbrz (aCons (eVar 0) (aCons (eVar 1) (aNil)))) (hName 2)) qxdz
theorem qxez:∀ds G Q,qdmz ds G Q->ql0z (endsOf Q) (start3 ["top","bottom","shared"] ds) G:=by
 rintro ds G Q ⟨t,b,rfl,hb,hz,q⟩;have hg:0<Nat.gcd t b:=Nat.gcd_pos_of_pos_right _ hb;have hgb:Nat.gcd t b≤b:=Nat.le_of_dvd hb (Nat.gcd_dvd_right _ _);have big:Big ((Nat.gcd t b:Nat):Int):=qlwz (by omega);refine⟨t,b,rfl,⟨by omega,big⟩,⟨by omega,big⟩,?_⟩;show (endsOf Q).rt (.tup [.int ((t:Int) / (Nat.gcd t b:Nat)),.int ((b:Int) / (Nat.gcd t b:Nat))]) G;rw[←Int.natCast_ediv,←Int.natCast_ediv];exact qiz q
def topN(cs:List Clk)(R:Nat):Nat:=(cs.map fun c=>R / c.1.toNat).sum
def shT(cs:List Clk):Nat:=topN cs (rnd cs) / Nat.gcd (topN cs (rnd cs)) (rnd cs)
def shB(cs:List Clk):Nat:=rnd cs / Nat.gcd (topN cs (rnd cs)) (rnd cs)
theorem ql1z:∀ns:List Int,intsOf (ns.map D.int)=some ns
 |[]=>rfl
 |n::ns=>by
  show (intsOf (ns.map D.int)).map (n::·)=_;rw[ql1z ns];rfl
theorem ql2z{R:Nat}:∀{cs:List Clk},(∀c∈cs,0<c.1)->(cs.map fun c=>(R:Int) / c.1).sum=((topN cs R:Nat):Int)
 |[],_=>rfl
 |c::cs,h=>by
  have h0:=h c List.mem_cons_self;have ih:=ql2z (R:=R) (cs:=cs) fun c hc=>h c (List.mem_cons_of_mem _ hc);unfold topN at ih ⊢;rw[List.map_cons,List.sum_cons,ih,List.map_cons,List.sum_cons,Int.natCast_add,Int.natCast_ediv,Int.toNat_of_nonneg (by omega)]
def qdnz:Sp3:=fun ds G Q=>∃cs:List Clk,ds=[csD cs]/\ClOk 1000 cs/\cs.length≤12/\Q (.tup [nD (shT cs),nD (shB cs)]) G
def qxfz:TS3:=sRet (eCall qdmz (aCons (eCB qewz (aCons (eComp ["clock"] [1] (iSeq (eVar 0)) (hName 0) (tNoTest3) (eOp rDiv3 (eVar 1) (eOp rIx3 (eVar 0) (eC (.int 0))))) (aNil))) (aCons (eVar 1) (aNil))))
def ql3z:TS3:=sSeq (sAsg (eCall qctz (aCons (eVar 0) (aNil))) (hName 1)) qxfz
theorem qxgz:∀ds G Q,qdnz ds G Q->ql3z (endsOf Q) (start3 ["clocks","bottom"] ds) G:=by
 rintro ds G Q ⟨cs,rfl,ok,hl,q⟩;obtain⟨r1,r2⟩:=qw1z ok hl;refine⟨cs,rfl,ok,by omega,by show (cs.map cD).length≤sizeLine;rw[List.length_map];exact line1000 (by omega),?_⟩;refine qaez (fun τ=>∃x,τ=[x,some (.int (rnd cs:Nat))]) cD (fun _=>true) (fun c=>.int ((rnd cs:Nat) / c.1)) (G:=G) trivial cs [] _ ⟨none,rfl⟩ ?_ ?_
 ·rintro⟨s,r⟩ hm τ K1 K2 ⟨x,rfl⟩ h1 h2;have hs:0<s:=(ok _ hm).1.1;have hs2:s≤1000:=(ok _ hm).2;exact⟨fun _=>⟨_,rfl,⟨hs,qmz (by omega) (by omega)⟩,h1 rfl _ ⟨_,rfl⟩⟩,nofun⟩
 ·intro p G' n;rw[filter_all,List.nil_append,show cs.map (fun c:Clk=>D.int ((rnd cs:Nat) / c.1))=(cs.map fun c:Clk=>((rnd cs:Nat):Int) / c.1).map D.int by rw[List.map_map];rfl] at n;refine⟨_,_,n.at_,ql1z _,topN cs (rnd cs),rnd cs,?_,r1,Nat.lt_of_le_of_lt r2 (by decide),qazz n.sub q⟩;rw[ql2z fun c hc=>(ok c hc).1.1]
end My
namespace My
open PySem L2 L3
def qdoz:Sp3:=fun ds G Q=>∃n b:Nat,ds=[.int n,.int b]/\0<b/\b<10^70/\Nat.gcd n b=1/\∀r:Int,0≤r->r<b->((b:Int)∣n*r-1)->Q (.int r) G
def qxhz:TS3:=sAsg (eVar 8) (hName 5)
def qxiz:TS3:=sSeq (sAsg (eVar 7) (hName 3)) qxhz
def qxjz:TS3:=sSeq (sAsg (eVar 5) (hName 4)) qxiz
def qxkz:TS3:=sSeq (sAsg (eVar 3) (hName 2)) qxjz
def qxlz:TS3:=sSeq (sAsg (eOp rSub3 (eVar 4) (eOp rMul3 (eVar 6) (eVar 5))) (hName 8)) qxkz
def qxmz:TS3:=sSeq (sAsg (eOp rSub3 (eVar 2) (eOp rMul3 (eVar 6) (eVar 3))) (hName 7)) qxlz
def qxnz:TS3:=sSeq (sAsg (eOp rDiv3 (eVar 2) (eVar 3)) (hName 6)) qxmz
def qxoz:TS3:=sRet (eOp rMod3 (eVar 4) (eVar 1))
def qxpz:TS3:=sSeq (sWhile (eTest (eOp (rEq3 true) (eVar 3) (eC (.int 0)))) (qxnz)) qxoz
def qxqz:TS3:=sSeq (sAsg (eC (.int 1)) (hName 5)) qxpz
def qxrz:TS3:=sSeq (sAsg (eC (.int 0)) (hName 4)) qxqz
def qxsz:TS3:=sSeq (sAsg (eOp rMod3 (eVar 0) (eVar 1)) (hName 3)) qxrz
def ql4z:TS3:=sSeq (sAsg (eVar 1) (hName 2)) qxsz
theorem qxtz{hf lf q:Int}{lo hi le b:Nat}(hq:0≤q)(he:(le:Int)=hi-q*lo)(h:hf.natAbs*lo+lf.natAbs*hi≤b):lf.natAbs*le+(hf-q*lf).natAbs*lo≤b:=by
 obtain⟨k,rfl⟩:∃k:Nat,q=(k:Int):=⟨q.toNat,by omega⟩;have h1:(hf-(k:Int)*lf).natAbs≤hf.natAbs+k*lf.natAbs:=by
  have:=Int.natAbs_sub_le hf ((k:Int)*lf);rw[Int.natAbs_mul,Int.natAbs_natCast] at this;exact this
 have h2:hi=le+k*lo:=by
  have:(hi:Int)=((le+k*lo:Nat):Int):=by
   rw[Int.natCast_add,Int.natCast_mul];omega
  exact_mod_cast this
 have h3:=Nat.mul_le_mul_right lo h1;rw[Nat.add_mul] at h3;have h4:lf.natAbs*hi=lf.natAbs*le+k*lf.natAbs*lo:=by
  rw[h2,Nat.mul_add,Nat.mul_comm k lf.natAbs,Nat.mul_assoc]
 omega
theorem qxuz:∀ds G Q,qdoz ds G Q->ql4z (endsOf Q) (start3 ["number","bound","high","low","high_factor","low_factor","turns","left","left_factor"] ds) G:=by
 rintro ds G Q ⟨n,b,rfl,hb,hz,hg,q⟩;have hb':(0:Int)<(b:Int):=by omega
 refine⟨hb',?_⟩;refine⟨fun m τ G'=>G'=G/\∃(hi:Nat) (hf lf:Int) (x6 x7 x8:Option D),τ=[some (.int n),some (.int b),some (.int hi),some (.int (m:Nat)),some (.int hf),some (.int lf),x6,x7,x8]/\m<hi/\hi≤b/\Nat.gcd hi m=1/\((b:Int)∣hi-hf*n)/\((b:Int)∣m-lf*n)/\hf.natAbs*m+lf.natAbs*hi≤b,⟨n%b,rfl,b,0,1,none,none,none,?_,Nat.mod_lt _ hb,Nat.le_refl _,?_,?_,?_,?_⟩,?_⟩
 ·show [some (D.int n),some (D.int b),some (D.int b),some (D.int ((n:Int)%(b:Int))),_,_,_,_,_]=_;rw[←Int.natCast_emod]
 ·rw[←hg,Nat.gcd_comm b,←Nat.gcd_rec,Nat.gcd_comm]
 ·rw[Int.zero_mul,Int.sub_zero];exact Int.dvd_refl _
 ·refine⟨-((n:Int) / b),?_⟩;have:=Int.mul_ediv_add_emod (n:Int) b;rw[Int.natCast_emod,Int.mul_neg];omega
 ·simp
 rintro m τ G' ⟨rfl,hi,hf,lf,x6,x7,x8,rfl,h0,h1,hgm,d1,d2,hbd⟩;refine⟨_,_,rfl,rfl,Nat.zero_le _,fun h=>?_,fun h=>?_⟩
 ·have h2:(!((m:Int)==0))=true:=h;have hm:0<m:=by simp at h2;omega
  have hlf:lf.natAbs≤b:=Nat.le_trans (Nat.le_mul_of_pos_right _ (by omega)) (Nat.le_trans (Nat.le_add_left _ _) hbd);have bigb:∀i:Int,i.natAbs≤b->Big i:=fun i hi'=>qmz (by omega) (by omega);have hq:((hi:Int) / (m:Int))=((hi / m:Nat):Int):=(Int.natCast_ediv _ _).symm;have hqb:Big ((hi:Int) / (m:Int)):=by
   rw[hq];exact bigb _ (by rw[Int.natAbs_natCast];exact Nat.le_trans (Nat.div_le_self _ _) h1)
  have hmb:Big (m:Int):=bigb _ (by rw[Int.natAbs_natCast];omega);have hle:((hi%m:Nat):Int)=hi-(hi:Int) / m*m:=by
   have:=Int.mul_ediv_add_emod (hi:Int) m;rw[Int.natCast_emod,Int.mul_comm ((hi:Int) / m)];omega
  refine⟨⟨by omega,hmb⟩,⟨hqb,hmb⟩,⟨hqb,bigb _ hlf⟩,hi%m,Nat.mod_lt _ hm,rfl,m,lf,hf-(hi:Int) / m*lf,some (.int ((hi:Int) / m)),some (.int ((hi%m:Nat):Int)),some (.int (hf-(hi:Int) / m*lf)),?_,Nat.mod_lt _ hm,by omega,?_,d2,?_,?_⟩
  ·show [some (D.int n),some (D.int b),some (D.int m),some (D.int ((hi:Int)-(hi:Int) / m*m)),some (D.int lf),some (D.int (hf-(hi:Int) / m*lf)),some (D.int ((hi:Int) / m)),some (D.int ((hi:Int)-(hi:Int) / m*m)),some (D.int (hf-(hi:Int) / m*lf))]=_;rw[←hle]
  ·rw[←hgm,Nat.gcd_comm hi m,Nat.gcd_rec m hi,Nat.gcd_comm]
  ·rw[hle];have:=Int.dvd_sub d1 (Int.dvd_trans d2 (Int.dvd_mul_left ((hi:Int) / m) _));rw[show (hi:Int)-(hi:Int) / m*m-(hf-(hi:Int) / m*lf)*n=hi-hf*n-(hi:Int) / m*(m-lf*n) by
    rw[Int.sub_mul,Int.mul_sub,Int.mul_assoc];omega]
   exact this
  ·exact qxtz (by rw[hq];exact Int.natCast_nonneg _) hle hbd
 ·have h2:(!((m:Int)==0))=false:=h;have:m=0:=by simp at h2;omega
  subst this;rw[Nat.gcd_zero_right] at hgm;subst hgm;refine⟨hb',qiz (q _ (Int.emod_nonneg _ (by omega)) (Int.emod_lt_of_pos _ hb') ?_)⟩;have e:=Int.mul_ediv_add_emod hf b;have h3:(n:Int)*(hf%b)-1 = -((1:Nat)-hf*n)-b*(n*(hf / b)):=by
   have:hf%b=hf-b*(hf / b):=by omega
   rw[this,Int.mul_sub,←Int.mul_assoc,←Int.mul_assoc,Int.mul_comm (n:Int) hf,Int.mul_comm (n:Int) b];omega
  rw[h3];exact Int.dvd_sub (Int.dvd_neg.mpr d1) (Int.dvd_mul_right _ _)
def Meets(a b:Clk)(x:Int):Prop:=0≤x/\x<(Nat.lcm a.1.toNat b.1.toNat:Nat)/\a.1∣x-a.2/\b.1∣x-b.2
theorem Meets.one{a b:Clk}{x y:Int}(ha:Valid a)(hb:Valid b)(hx:Meets a b x)(hy:Meets a b y):x=y:=by
 obtain⟨x1,x2,x3,x4⟩:=hx;obtain⟨y1,y2,y3,y4⟩:=hy;have d1:a.1∣x-y:=by
  have:=Int.dvd_sub x3 y3;rwa [show x-a.2-(y-a.2)=x-y by omega] at this
 have d2:b.1∣x-y:=by
  have:=Int.dvd_sub x4 y4;rwa [show x-b.2-(y-b.2)=x-y by omega] at this
 have e1:a.1.toNat∣(x-y).natAbs:=by
  have:=Int.natAbs_dvd_natAbs.mpr d1;rwa [show a.1.natAbs=a.1.toNat by have:=ha.1;omega] at this
 have e2:b.1.toNat∣(x-y).natAbs:=by
  have:=Int.natAbs_dvd_natAbs.mpr d2;rwa [show b.1.natAbs=b.1.toNat by have:=hb.1;omega] at this
 have e3:=Nat.lcm_dvd e1 e2;have:(x-y).natAbs=0:=Nat.eq_zero_of_dvd_of_lt e3 (by omega);omega
def meetO(a b:Clk):Option Clk:=((List.range (Nat.lcm a.1.toNat b.1.toNat)).find? fun x:Nat=>rg2 x a&&rg2 x b).map fun x:Nat=>(((Nat.lcm a.1.toNat b.1.toNat:Nat):Int),(x:Int))
theorem rg2_iff{c:Clk}{n:Int}:rg2 n c=true↔c.1∣n-c.2:=by
 unfold rg2;rw[beq_iff_eq];exact⟨Int.dvd_of_emod_eq_zero,Int.emod_eq_zero_of_dvd⟩
theorem ql5z{a b:Clk}{x:Int}(ha:Valid a)(hb:Valid b)(h:Meets a b x):meetO a b=some (((Nat.lcm a.1.toNat b.1.toNat:Nat):Int),x):=by
 obtain⟨k,rfl⟩:∃k:Nat,x=(k:Int):=⟨x.toNat,by have:=h.1;omega⟩;unfold meetO;cases e:(List.range (Nat.lcm a.1.toNat b.1.toNat)).find? fun x:Nat=>rg2 x a&&rg2 x b with
 |none=>
  have:=List.find?_eq_none.mp e k (List.mem_range.mpr (by have:=h.2.1;omega));exact absurd (by rw[Bool.and_eq_true,rg2_iff,rg2_iff];exact h.2.2) this
 |some y=>
  have h1:=List.find?_some e;have h2:=List.mem_range.mp (List.mem_of_find?_eq_some e);rw[Bool.and_eq_true,rg2_iff,rg2_iff] at h1;have:((y:Nat):Int)=(k:Int):=Meets.one ha hb ⟨by omega,by omega,h1.1,h1.2⟩ h;show some ((((Nat.lcm a.1.toNat b.1.toNat:Nat):Int),((y:Nat):Int)):Clk)=_;rw[this]
theorem qxvz{a b:Clk}(h:∀x,¬Meets a b x):meetO a b=none:=by
 unfold meetO;rw[List.find?_eq_none.mpr]
 ·rfl
 ·intro x hx h1;rw[Bool.and_eq_true,rg2_iff,rg2_iff] at h1;exact h x ⟨by omega,by have:=List.mem_range.mp hx;omega,h1.1,h1.2⟩
theorem qxwz{a b:Clk}{m:Clk}(h:meetO a b=some m):m.1=(Nat.lcm a.1.toNat b.1.toNat:Nat)/\Meets a b m.2:=by
 unfold meetO at h;cases e:(List.range (Nat.lcm a.1.toNat b.1.toNat)).find? fun x:Nat=>rg2 x a&&rg2 x b with
 |none=>rw[e] at h;cases h
 |some y=>
  rw[e] at h;have h1:=List.find?_some e;have h2:=List.mem_range.mp (List.mem_of_find?_eq_some e);rw[Bool.and_eq_true,rg2_iff,rg2_iff] at h1;cases h;exact⟨rfl,Int.natCast_nonneg _,Int.ofNat_lt.mpr h2,h1.1,h1.2⟩
def oD:Option Clk->D
 |none=>.non
 |some c=>cD c
def qdpz:Sp3:=fun ds G Q=>∃a b:Clk,ds=[cD a,cD b]/\Valid a/\Valid b/\a.1<10^60/\b.1<10^60/\Q (oD (meetO a b)) G
def qxxz:TS3:=sRet (eTup (aCons (eOp rMul3 (eOp rIx3 (eVar 0) (eC (.int 0))) (eVar 4)) (aCons (eOp rAdd3 (eOp rIx3 (eVar 0) (eC (.int 1))) (eOp rMul3 (eOp rIx3 (eVar 0) (eC (.int 0))) (eVar 5))) (aNil))))
def qxyz:TS3:=sSeq (sAsg (eOp rMod3 (eOp rMul3 (eOp rDiv3 (eVar 3) (eVar 2)) (eCall qdoz (aCons (eOp rDiv3 (eOp rIx3 (eVar 0) (eC (.int 0))) (eVar 2)) (aCons (eVar 4) (aNil))))) (eVar 4)) (hName 5)) qxxz
def qxzz:TS3:=sSeq (sAsg (eOp rDiv3 (eOp rIx3 (eVar 1) (eC (.int 0))) (eVar 2)) (hName 4)) qxyz
def qx0z:TS3:=sSeq (sIf (eTest (eOp (rEq3 true) (eOp rMod3 (eVar 3) (eVar 2)) (eC (.int 0)))) (sRet (eC .non)) (sNext)) qxzz
def qx1z:TS3:=sSeq (sAsg (eOp rSub3 (eOp rIx3 (eVar 1) (eC (.int 1))) (eOp rIx3 (eVar 0) (eC (.int 1)))) (hName 3)) qx0z
def ql6z:TS3:=sSeq (sAsg (eCall qbrz (aCons (eOp rIx3 (eVar 0) (eC (.int 0))) (aCons (eOp rIx3 (eVar 1) (eC (.int 0))) (aNil)))) (hName 2)) qx1z
theorem qx2z{g p q:Nat}{ap t inv r1 r2:Int}(hg:0<g)(hp:0<p)(hq:0<q)(hpq:Nat.gcd p q=1)(h1:0≤r1)(h2:r1<((g*p:Nat):Int))(e:r2-r1=g*ap)(hi:(q:Int)∣p*inv-1)(ht:t=ap*inv%q):
  Meets (((g*p:Nat):Int),r1) (((g*q:Nat):Int),r2) (r1+((g*p:Nat):Int)*t):=by
 have t1:0≤t:=by rw[ht];exact Int.emod_nonneg _ (by omega)
 have t2:t<q:=by rw[ht];exact Int.emod_lt_of_pos _ (by omega)
 have hl:Nat.lcm (g*p) (g*q)=g*p*q:=by
  rw[Nat.lcm_mul_left,Nat.lcm,hpq,Nat.div_one,Nat.mul_assoc]
 refine⟨?_,?_,?_,?_⟩
 ·exact Int.add_nonneg h1 (Int.mul_nonneg (Int.natCast_nonneg _) t1)
 ·show r1+((g*p:Nat):Int)*t<(Nat.lcm (((g*p:Nat):Int)).toNat (((g*q:Nat):Int)).toNat:Nat);rw[Int.toNat_natCast,Int.toNat_natCast,hl,Int.natCast_mul (g*p) q];have:((g*p:Nat):Int)*t≤((g*p:Nat):Int)*((q:Int)-1):=Int.mul_le_mul_of_nonneg_left (by omega) (Int.natCast_nonneg _);rw[Int.mul_sub,Int.mul_one] at this;omega
 ·show ((g*p:Nat):Int)∣r1+((g*p:Nat):Int)*t-r1;rw[show r1+((g*p:Nat):Int)*t-r1=((g*p:Nat):Int)*t by omega];exact Int.dvd_mul_right _ _
 ·show ((g*q:Nat):Int)∣r1+((g*p:Nat):Int)*t-r2;have d:(q:Int)∣p*t-ap:=by
   have e1:=Int.mul_ediv_add_emod (ap*inv) q;have e2:(p:Int)*t-ap=ap*(p*inv-1)-q*(p*(ap*inv / q)):=by
    have:t=ap*inv-q*(ap*inv / q):=by omega
    rw[this,Int.mul_sub,Int.mul_sub,Int.mul_one,←Int.mul_assoc (p:Int) q,Int.mul_comm (p:Int) q,Int.mul_assoc (q:Int),←Int.mul_assoc ap (p:Int),Int.mul_comm ap (p:Int),Int.mul_assoc (p:Int) ap];omega
   rw[e2];exact Int.dvd_sub (Int.dvd_trans hi (Int.dvd_mul_left _ _)) (Int.dvd_mul_right _ _)
  obtain⟨k,hk⟩:=d;refine⟨k,?_⟩;have:r1+((g*p:Nat):Int)*t-r2=g*(p*t-ap):=by
   rw[Int.mul_sub,←e,←Int.mul_assoc,Int.natCast_mul];omega
  rw[this,hk,Int.natCast_mul,Int.mul_assoc]
theorem qx3z:∀ds G Q,qdpz ds G Q->ql6z (endsOf Q) (start3 ["one","other","shared","apart","many","turns"] ds) G:=by
 rintro ds G Q ⟨⟨s1,r1⟩,⟨s2,r2⟩,rfl,va,vb,z1,z2,q⟩;have v1:0<s1:=va.1;have v2:0<s2:=vb.1;have z1':s1<10^60:=z1;have z2':s2<10^60:=z2;obtain⟨m1,rfl⟩:∃n:Nat,s1=(n:Int):=⟨s1.toNat,by omega⟩;obtain⟨m2,rfl⟩:∃n:Nat,s2=(n:Int):=⟨s2.toNat,by omega⟩;have hg:0<Nat.gcd m1 m2:=Nat.gcd_pos_of_pos_left _ (by omega);have hgl:Nat.gcd m1 m2≤m1:=Nat.le_of_dvd (by omega) (Nat.gcd_dvd_left _ _);have bg:Big ((Nat.gcd m1 m2:Nat):Int):=qmz (by omega) (by omega);refine⟨_,rfl,_,rfl,m1,m2,rfl,_,rfl,_,rfl,by show (0:Int)<(Nat.gcd m1 m2:Nat);omega,_,_,rfl,rfl,Nat.zero_le _,fun h=>?_,fun h=>?_⟩
 ·have h':(!((r2-r1)%((Nat.gcd m1 m2:Nat):Int)==0))=true:=h;have hne:(r2-r1)%((Nat.gcd m1 m2:Nat):Int)≠0:=by simpa using h'
  rw[qxvz] at q
  ·exact qiz q
  ·rintro x ⟨_,_,d1,d2⟩;have e1:((Nat.gcd m1 m2:Nat):Int)∣x-r1:=Int.dvd_trans (Int.natCast_dvd_natCast.mpr (Nat.gcd_dvd_left _ _)) d1;have e2:((Nat.gcd m1 m2:Nat):Int)∣x-r2:=Int.dvd_trans (Int.natCast_dvd_natCast.mpr (Nat.gcd_dvd_right _ _)) d2;have:=Int.dvd_sub e1 e2;rw[show x-r1-(x-r2)=r2-r1 by omega] at this;exact hne (Int.emod_eq_zero_of_dvd this)
 ·have h':(!((r2-r1)%((Nat.gcd m1 m2:Nat):Int)==0))=false:=h;have he:(r2-r1)%((Nat.gcd m1 m2:Nat):Int)=0:=by simpa using h'
  obtain⟨p,hp⟩:=Nat.gcd_dvd_left m1 m2;obtain⟨k,hk⟩:=Nat.gcd_dvd_right m1 m2;have hpk:Nat.gcd p k=1:=by
   have:=Nat.gcd_mul_left (Nat.gcd m1 m2) p k;rw[←hp,←hk] at this;exact Nat.eq_of_mul_eq_mul_left hg (by rw[←this,Nat.mul_one])
  have hp0:0<p:=by
   rcases Nat.eq_zero_or_pos p with z|z
   ·rw[z,Nat.mul_zero] at hp;omega
   ·exact z
  have hk0:0<k:=by
   rcases Nat.eq_zero_or_pos k with z|z
   ·rw[z,Nat.mul_zero] at hk;omega
   ·exact z
  have hkm:k≤m2:=by rw[hk];exact Nat.le_mul_of_pos_left _ hg
  have hpm:p≤m1:=by rw[hp];exact Nat.le_mul_of_pos_left _ hg
  have dk:((m2:Int) / ((Nat.gcd m1 m2:Nat):Int))=(k:Int):=by
   rw[←Int.natCast_ediv];congr 1;exact Nat.div_eq_of_eq_mul_right hg hk
  have dp:((m1:Int) / ((Nat.gcd m1 m2:Nat):Int))=(p:Int):=by
   rw[←Int.natCast_ediv];congr 1;exact Nat.div_eq_of_eq_mul_right hg hp
  have c0:(0:Int)<((Nat.gcd m1 m2:Nat):Int):=by omega
  have eap:r2-r1=((Nat.gcd m1 m2:Nat):Int)*((r2-r1) / ((Nat.gcd m1 m2:Nat):Int)):=by
   have:=Int.mul_ediv_add_emod (r2-r1) ((Nat.gcd m1 m2:Nat):Int);omega
  have a1:0≤r1:=va.2.1;have a2:r1<(m1:Int):=va.2.2;have b1:0≤r2:=vb.2.1;have b2:r2<(m2:Int):=vb.2.2;have bap:Big ((r2-r1) / ((Nat.gcd m1 m2:Nat):Int)):=by
   have h3:=Int.natAbs_ediv_le_natAbs (r2-r1) ((Nat.gcd m1 m2:Nat):Int);exact qmz (by omega) (by omega)
  refine⟨_,rfl,⟨c0,bg⟩,⟨c0,bg⟩,_,rfl,⟨c0,bg⟩,?_⟩;dsimp only;rw[dk,dp];refine⟨p,k,rfl,hk0,by omega,hpk,fun inv i1 i2 i3=>⟨⟨bap,qmz (by omega) (by omega)⟩,by show (0:Int)<(k:Int);omega,?_⟩⟩;have t1:=Int.emod_nonneg ((r2-r1) / ((Nat.gcd m1 m2:Nat):Int)*inv) (show (k:Int)≠0 by omega);have t2:=Int.emod_lt_of_pos ((r2-r1) / ((Nat.gcd m1 m2:Nat):Int)*inv) (show (0:Int)<(k:Int) by omega);refine⟨_,rfl,⟨qmz (by omega) (by omega),qmz (by omega) (by omega)⟩,_,rfl,_,rfl,⟨qmz (by omega) (by omega),qmz (by omega) (by omega)⟩,?_⟩;have M:=qx2z (g:=Nat.gcd m1 m2) (p:=p) (q:=k) (inv:=inv) (r1:=r1) (r2:=r2) hg hp0 hk0 hpk a1 (by rw[←hp];exact a2) eap i3 rfl;rw[←hp,←hk] at M;rw[ql5z va vb M] at q;have el:Nat.lcm m1 m2=m1*k:=by
   unfold Nat.lcm;rw[Nat.mul_div_assoc _ (Nat.gcd_dvd_right _ _)];congr 1;exact Nat.div_eq_of_eq_mul_right hg hk
  have q':Q (.tup [.int ((Nat.lcm m1 m2:Nat):Int),.int (r1+(m1:Int)*((r2-r1) / ((Nat.gcd m1 m2:Nat):Int)*inv%k))]) G:=q;rw[el,Int.natCast_mul] at q';exact qiz q'
end My
namespace My
open PySem L2 L3
def pairO(cs:List Clk)(i j:Nat):Option (Nat×Nat×Int):=match cs[i]?,cs[j]? with
 |some a,some b=>(meetO a b).map fun m=>(i,j,m.2)
 |_,_=>none
def rowO(cs:List Clk)(i:Nat):Option (Nat×Nat×Int):=(List.range (cs.length-(i+1))).findSome? fun k=>pairO cs i (i+1+k)
def clashO(cs:List Clk):Option (Nat×Nat×Int):=(List.range cs.length).findSome? (rowO cs)
def kD:Option (Nat×Nat×Int)->D
 |none=>.non
 |some (i,j,x)=>.tup [nD i,nD j,.int x]
theorem rng0(n:Nat):rngL 0 n=(List.range n).map nD:=by
 unfold rngL;refine List.map_congr_left fun i _=>?_;show D.int (0+(i:Int))=D.int (i:Int);rw[Int.zero_add]
theorem rngS(i n:Nat):rngL ((i:Int)+1) n=(List.range n).map fun k=>nD (i+1+k):=by
 unfold rngL;refine List.map_congr_left fun k _=>?_;show D.int ((i:Int)+1+(k:Int))=D.int ((i+1+k:Nat):Int);rw[Int.natCast_add,Int.natCast_add];rfl
theorem ql7z{cs:List Clk}{i:Nat}{a:Clk}(h:cs[i]?=some a):atI (cs.map cD) (i:Int)=some (cD a):=qbjz (by rw[List.getElem?_map,h];rfl)
def qdqz:Sp3:=fun ds G Q=>∃cs:List Clk,ds=[csD cs]/\ClOk 1000 cs/\cs.length≤1000/\Q (kD (clashO cs)) G
def qx4z:TS3:=sIf (eTest (eOp (rIs3 true) (eVar 3) (eC .non))) (sRet (eTup (aCons (eVar 1) (aCons (eVar 2) (aCons (eOp rIx3 (eVar 3) (eC (.int 1))) (aNil)))))) (sNext)
def qx5z:TS3:=sSeq (sAsg (eCall qdpz (aCons (eOp rIx3 (eVar 0) (eVar 1)) (aCons (eOp rIx3 (eVar 0) (eVar 2)) (aNil)))) (hName 3)) qx4z
def qx6z:TS3:=sFor (iRng2 (aCons (eOp rAdd3 (eVar 1) (eC (.int 1))) (aCons (eCB q0z (aCons (eVar 0) (aNil))) (aNil)))) (hName 2) (qx5z)
def qx7z:TS3:=sRet (eC .non)
def ql8z:TS3:=sSeq (sFor (iRng1 (aCons (eCB q0z (aCons (eVar 0) (aNil))) (aNil))) (hName 1) (qx6z)) qx7z
theorem qx8z:∀ds G Q,qdqz ds G Q->ql8z (endsOf Q) (start3 ["clocks","place","other","met"] ds) G:=by
 rintro ds G Q ⟨cs,rfl,ok,hl,q⟩;refine⟨by rw[List.length_map];omega,?_⟩;rw[List.length_map,Int.toNat_natCast,rng0];refine qafz (fun ds τ G'=>G'=G/\∃(is:List Nat) (x1 x2 x3:Option D),ds=is.map nD/\(∀i∈is,i<cs.length)/\is.findSome? (rowO cs)=clashO cs/\τ=[some (csD cs),x1,x2,x3]) (fun _ _ _ _=>trivial) ?_ ?_ _ _ _ ⟨rfl,_,_,_,_,rfl,fun i hi=>List.mem_range.mp hi,rfl,rfl⟩
 ·rintro d ds τ G' N ⟨rfl,is,x1,x2,x3,e,hi,hr,rfl⟩ hN;cases is with
  |nil=>cases e
  |cons i is=>
   cases e;have hin:=hi i List.mem_cons_self;obtain⟨a,ha⟩:∃a,cs[i]?=some a:=⟨cs[i],List.getElem?_eq_getElem hin⟩;have va:=ok a (List.mem_of_getElem? ha);refine⟨by rw[List.length_map];omega,?_⟩;rw[List.length_map,show (((cs.length:Nat):Int)-((i:Int)+1)).toNat=cs.length-(i+1) by omega,rngS];refine qafz (fun ds τ G''=>G''=G'/\∃(ks:List Nat) (x2 x3:Option D),ds=ks.map (fun k=>nD (i+1+k))/\(∀k∈ks,i+1+k<cs.length)/\ks.findSome? (fun k=>pairO cs i (i+1+k))=rowO cs i/\τ=[some (csD cs),some (nD i),x2,x3]) (fun _ _ _ _=>trivial) ?_ ?_ _ _ _ ⟨rfl,_,_,_,rfl,fun k hk=>by have:=List.mem_range.mp hk;omega,rfl,rfl⟩
   ·rintro d ds τ G'' N' ⟨rfl,ks,x2,x3,e,hk,hr',rfl⟩ hN';cases ks with
    |nil=>cases e
    |cons k ks=>
     cases e;have hkn:=hk k List.mem_cons_self;obtain⟨b,hb⟩:∃b,cs[i+1+k]?=some b:=⟨cs[i+1+k],List.getElem?_eq_getElem hkn⟩;have vb:=ok b (List.mem_of_getElem? hb);have ep:pairO cs i (i+1+k)=(meetO a b).map fun m=>(i,i+1+k,m.2):=by
      unfold pairO;rw[ha,hb]
     refine⟨_,ql7z ha,_,ql7z hb,a,b,rfl,va.1,vb.1,by have:=va.2;omega,by have:=vb.2;omega,?_⟩;cases em:meetO a b with
     |none=>
      refine⟨nofun,fun _=>hN' _ _ ⟨rfl,ks,_,_,rfl,fun k' h'=>hk k' (List.mem_cons_of_mem _ h'),?_,rfl⟩⟩;rw[←hr',List.findSome?_cons,ep,em];rfl
     |some m=>
      refine⟨fun _=>⟨_,rfl,?_⟩,nofun⟩;have e1:rowO cs i=some (i,i+1+k,m.2):=by
       rw[←hr',List.findSome?_cons,ep,em];rfl
      have e2:clashO cs=some (i,i+1+k,m.2):=by
       rw[←hr,List.findSome?_cons,e1]
      rw[e2] at q;exact qiz q
   ·rintro τ G'' ⟨rfl,ks,x2,x3,e,hk,hr',rfl⟩;have:ks=[]:=by cases ks with
     |nil=>rfl
     |cons z zs=>cases e
    subst this;have e1:rowO cs i=none:=hr'.symm;refine hN _ _ ⟨rfl,is,_,_,_,rfl,fun i' h'=>hi i' (List.mem_cons_of_mem _ h'),?_,rfl⟩;rw[←hr,List.findSome?_cons,e1]
 ·rintro τ G' ⟨rfl,is,x1,x2,x3,e,hi,hr,rfl⟩;have:is=[]:=by cases is with
   |nil=>rfl
   |cons z zs=>cases e
  subst this;have e1:clashO cs=none:=hr.symm;rw[e1] at q;exact qiz q
end My
namespace My
open PySem L2 L3
def Known2(G:Gp):D->Prop
 |.tup ds=>∀d∈ds,Known G d
 |.obj a=>∃o,G a=some o/\o.plain
 |_=>True
theorem Known.sub{G G':Gp}{d:D}(s:Sub G G')(h:Known G d):Known G' d:=by
 cases d with
 |obj a=>
  obtain⟨o,e,hp⟩:=h;exact⟨o,s a o e,hp⟩
 |_=>trivial
theorem ql9z{G:Gp}{d:D}(h:Known2 G d)(hn:∀ds,d≠.tup ds):instD "tuple" G d=some false:=by
 cases d with
 |obj a=>
  obtain⟨o,hG,hp⟩:∃o,G a=some o/\o.plain:=h;cases o with
  |gen R=>exact hp.elim
  |_=>simp[instD,hG]
 |tup ds=>exact absurd rfl (hn ds)
 |_=>rfl
end My
namespace My
open PySem L2 L3
theorem qg9z(as bs:List Clk):(Dat.D.lst (as.map cX)).eqb (.lst (bs.map cX))=decide (as=bs):=qg1z as bs
theorem qe7z{α:Type}(f:α->Bool):∀xs:List α,blsOf (xs.map fun x=>D.bl (f x))=some (xs.map f)
 |[]=>rfl
 |x::xs=>by
  show Option.map _ (blsOf (xs.map fun x=>D.bl (f x)))=_;rw[qe7z f xs];rfl
theorem all_map{α:Type}(f:α->Bool)(xs:List α):(xs.map f).all id=xs.all f:=by
 induction xs with
 |nil=>rfl
 |cons x xs ih=>simp
end My
namespace My
open PySem L2 L3
def Kn(G:Gp):Nat->D->Prop
 |0,d=>Known G d
 |n+1,.tup ds=>∀d∈ds,Kn G n d
 |_+1,d=>Known G d
def KnD(G:Gp)(d:D):Prop:=∀n,Kn G n d
section
variable {G G':Gp}
theorem KnD.tup{ds:List D}(h:∀d∈ds,KnD G d):KnD G (.tup ds):=fun n=>match n with
 |0=>trivial
 |n+1=>fun d hd=>h d hd n
theorem KnD.int(i:Int):KnD G (.int i):=fun n=>by cases n<;>trivial
theorem KnD.non:KnD G .non:=fun n=>by cases n<;>trivial
theorem KnD.el{ds:List D}{d:D}(h:KnD G (.tup ds))(hd:d∈ds):KnD G d:=fun n=>h (n+1) d hd
theorem KnD.known{d:D}(h:KnD G d):Known G d:=h 0
theorem KnD.known2{d:D}(h:KnD G d):Known2 G d:=by
 cases d with
 |tup ds=>exact fun d hd=>(h.el hd).known
 |obj a=>exact h 0
 |_=>trivial
theorem Kn.sub(s:Sub G G'):∀(n:Nat) (d:D),Kn G n d->Kn G' n d
 |0,d,h=>Known.sub s h
 |n+1,.tup ds,h=>fun d hd=>Kn.sub s n d (h d hd)
 |n+1,.non,_=>trivial
 |n+1,.bl _,_=>trivial
 |n+1,.int _,_=>trivial
 |n+1,.str _,_=>trivial
 |n+1,.scr _,_=>trivial
 |n+1,.dc _,_=>trivial
 |n+1,.obj _,h=>Known.sub s h
theorem KnD.sub{d:D}(s:Sub G G')(h:KnD G d):KnD G' d:=fun n=>Kn.sub s n d (h n)
theorem KnD.clk(c:Clk):KnD G (cD c):=.tup fun d hd=>by
 simp only[List.mem_cons,List.not_mem_nil,or_false] at hd;rcases hd with rfl|rfl
 ·exact .int _
 ·exact .int _
theorem KnD.two{a b:D}(ha:KnD G a)(hb:KnD G b):KnD G (.tup [a,b]):=.tup fun d hd=>by
 simp only[List.mem_cons,List.not_mem_nil,or_false] at hd;rcases hd with rfl|rfl
 ·exact ha
 ·exact hb
end
end My
namespace My
open PySem L2 L3
mutual
def depD:D->Nat
 |.tup ds=>depDs ds+1
 |.non=>0
 |.bl _=>0
 |.int _=>0
 |.str _=>0
 |.scr _=>0
 |.dc _=>0
 |.obj _=>0
def depDs:List D->Nat
 |[]=>0
 |d::ds=>max (depD d) (depDs ds)
end
theorem qbdz(ds:List D):depD (.tup ds)=depDs ds+1:=by rw[depD]
theorem qbez{d:D}:∀{ds:List D},d∈ds->depD d≤depDs ds
 |[],h=>nomatch h
 |e::ds,h=>by
  rw[depDs];rcases List.mem_cons.mp h with rfl|h
  ·exact Nat.le_max_left _ _
  ·exact Nat.le_trans (qbez h) (Nat.le_max_right _ _)
theorem qmaz{n:Nat}:∀{ds:List D},(∀d∈ds,depD d≤n)->depDs ds≤n
 |[],_=>by rw[depDs];exact Nat.zero_le _
 |d::ds,h=>by
  rw[depDs];exact Nat.max_le.mpr ⟨h d List.mem_cons_self,qmaz fun e he=>h e (List.mem_cons_of_mem _ he)⟩
theorem qdrz{α β:Type}(f:α->D)(g:β->D):∀(as:List α) (bs:List β),zipD (as.map f) (bs.map g)=(as.zip bs).map fun p=>D.tup [f p.1,g p.2]
 |[],_=>rfl
 |a::as,[]=>rfl
 |a::as,b::bs=>by
  show D.tup [f a,g b]::zipD (as.map f) (bs.map g)=D.tup [f a,g b]::(as.zip bs).map _;rw[qdrz f g as bs]
theorem qx9z{β:Type}(g:β->D)(as:List D)(bs:List β):zipD as (bs.map g)=(as.zip bs).map fun p=>D.tup [p.1,g p.2]:=by
 have:=qdrz (fun d:D=>d) g as bs;rw[List.map_id'] at this;exact this
theorem qyaz{β:Type}(g:β->D)(bs:List β):enumD (bs.map g)=((List.range bs.length).zip bs).map fun p=>D.tup [nD p.1,g p.2]:=by
 unfold enumD;rw[List.length_map,rng0];exact qdrz nD g _ _
end My
namespace My
open PySem L2 L3
def parts(c:Clk)(k:Nat):List Clk:=(List.range k).map fun t:Nat=>(c.1*(k:Int),c.2+c.1*(t:Int))
theorem q3z(c:Clk)(k:Nat):(parts c k).length=k:=by simp[parts]
def qa4z:Sp3:=fun ds G Q=>∃(c:Clk) (k:Nat),ds=[cD c,.int k]/\k≤10000/\Big c.1/\∀p G',New G p (.lst ((parts c k).map cD)) G'->Q (.obj p) G'
def tbp(nm:Str):TS3:=sRet (eComp [nm] [0,1] (iRng1 (aCons (eVar 1) (aNil))) (hName 0) (tNoTest3) (eTup (aCons (eOp rMul3 (eOp rIx3 (eVar 1) (eC (.int 0))) (eVar 2)) (aCons (eOp rAdd3 (eOp rIx3 (eVar 1) (eC (.int 1))) (eOp rMul3 (eOp rIx3 (eVar 1) (eC (.int 0))) (eVar 0))) (aNil)))))
theorem qmbz{nm:Str}:∀ds G Q,qa4z ds G Q->tbp nm (endsOf Q) (start3 ["clock","k"] ds) G:=by
 rintro ds G Q ⟨c,k,rfl,hk,hb,q⟩;obtain⟨s,r⟩:=c;have bk:∀t:Nat,t≤10000->Big (t:Int):=fun t ht=>qmz (by omega) (by omega);refine⟨⟨by omega,by omega⟩,?_,?_⟩
 ·show (rngL 0 ((k:Int)).toNat).length≤sizeLine;rw[qbkz];exact Nat.le_trans (show ((k:Int)).toNat≤10000 by omega) (by decide)
 show compGo _ _ _ _ _ (rngL 0 ((k:Int)).toNat) _ _ _;rw[Int.toNat_natCast,rng0];refine qaez (fun τ=>∃x,τ=[x,some (cD (s,r)),some (.int k)]) nD (fun _=>true) (fun t:Nat=>cD (s*(k:Int),r+s*(t:Int))) (G:=G) trivial (List.range k) [] _ ⟨none,rfl⟩ ?_ ?_
 ·rintro t hm τ K1 K2 ⟨x,rfl⟩ h1 h2;have ht:t<k:=by simpa using hm
  exact⟨fun _=>⟨_,rfl,⟨hb,bk k hk⟩,_,rfl,_,rfl,⟨hb,bk t (by omega)⟩,h1 rfl _ ⟨_,rfl⟩⟩,nofun⟩
 ·intro p G' n;rw[filter_all,List.nil_append] at n;refine qiz (q p G' ?_);unfold parts;rw[List.map_map];exact n
def qmcz:TS3:=sRet (eComp ["turn"] [0,1] (iRng1 (aCons (eVar 1) (aNil))) (hName 0) (tNoTest3) (eTup (aCons (eOp rMul3 (eOp rIx3 (eVar 1) (eC (.int 0))) (eVar 2)) (aCons (eOp rAdd3 (eOp rIx3 (eVar 1) (eC (.int 1))) (eOp rMul3 (eOp rIx3 (eVar 1) (eC (.int 0))) (eVar 0))) (aNil)))))
theorem qybz:∀ds G Q,qa4z ds G Q->qmcz (endsOf Q) (start3 ["clock","k"] ds) G:=qmbz
abbrev qdsz:=qa4z
def qmdz:TS3:=sRet (eComp ["part"] [0,1] (iRng1 (aCons (eVar 1) (aNil))) (hName 0) (tNoTest3) (eTup (aCons (eOp rMul3 (eOp rIx3 (eVar 1) (eC (.int 0))) (eVar 2)) (aCons (eOp rAdd3 (eOp rIx3 (eVar 1) (eC (.int 1))) (eOp rMul3 (eOp rIx3 (eVar 1) (eC (.int 0))) (eVar 0))) (aNil)))))
theorem qycz:∀ds G Q,qdsz ds G Q->qmdz (endsOf Q) (start3 ["clock","k"] ds) G:=qmbz
def formB:D->D->Bool
 |.int k,.tup ps=>decide (2≤k)&&(((ps.length:Nat):Int)==k)
 |_,_=>false
def qdtz:Sp3:=fun ds G Q=>∃a b:D,ds=[a,b]/\Known G a/\Known2 G b/\Q (.bl (formB a b)) G
def qmez:TS3:=sRet (eAndV (eCall qcnz (aCons (eVar 0) (aNil))) (eAndV (eOp rGe3 (eVar 0) (eC (.int 2))) (eAndV (eInst "tuple" (eVar 1)) (eOp (rEq3 false) (eCB q0z (aCons (eVar 1) (aNil))) (eVar 0)))))
theorem qydz(k:Int)(b:D)(h:∀ds,b≠.tup ds):formB (.int k) b=false:=by
 cases b with
 |tup ds=>exact absurd rfl (h ds)
 |_=>rfl
theorem qyez:∀ds G Q,qdtz ds G Q->qmez (endsOf Q) (start3 ["k","papers"] ds) G:=by
 rintro ds G Q ⟨a,b,rfl,ka,kb,q⟩;refine⟨ka,?_⟩;cases a with
 |int k=>
  refine⟨fun _=>⟨fun h=>?_,fun h=>?_⟩,nofun⟩
  ·have h':2≤k:=of_decide_eq_true h;cases b with
   |tup ps=>
    refine⟨fun _=>⟨_,_,rfl,rfl,Nat.zero_le _,?_⟩,nofun⟩;show (endsOf Q).rt (.bl (((ps.length:Nat):Int)==k)) G;have e:formB (.int k) (.tup ps)=(((ps.length:Nat):Int)==k):=by
     show (decide (2≤k)&&_)=_;rw[decide_eq_true h',Bool.true_and]
    rw[e] at q;exact qiz q
   |obj a=>
    show match instD "tuple" G (.obj a) with
     |some b=>_
     |none=>False
    rw[ql9z kb (fun ds h=>by cases h)];rw[qydz k _ (fun ds h=>by cases h)] at q;exact⟨nofun,fun _=>qiz q⟩
   |_=>exact⟨nofun,fun _=>qiz q⟩
  ·have h':¬(2≤k):=of_decide_eq_false h;have e:formB (.int k) b=false:=by
    cases b with
    |tup ps=>
     show (decide (2≤k)&&_)=false;rw[decide_eq_false h',Bool.false_and]
    |_=>rfl
   rw[e] at q;exact qiz q
 |_=>
  refine⟨nofun,fun _=>?_⟩;exact qiz q
mutual
def szD:D->Nat
 |.tup ds=>szDs ds+1
 |.non=>1
 |.bl _=>1
 |.int _=>1
 |.str _=>1
 |.scr _=>1
 |.dc _=>1
 |.obj _=>1
def szDs:List D->Nat
 |[]=>0
 |d::ds=>szD d+szDs ds
end
theorem qcuz(ds:List D):szD (.tup ds)=szDs ds+1:=by rw[szD]
theorem qa1z(d:D)(ds:List D):szDs (d::ds)=szD d+szDs ds:=by rw[szDs]
theorem qe8z:szDs []=0:=by rw[szDs]
theorem qmfz(d:D):1≤szD d:=by
 cases d with
 |tup ds=>rw[szD];omega
 |_=>rw[szD];exact Nat.le_refl 1
theorem qmgz:∀ds:List D,ds.length≤szDs ds
 |[]=>Nat.zero_le _
 |d::ds=>by
  have:=qmgz ds;have:=qmfz d;rw[qa1z,List.length_cons];omega
theorem qmhz{d:D}:∀{ds:List D},d∈ds->szD d≤szDs ds
 |e::ds,h=>by
  rw[qa1z];rcases List.mem_cons.mp h with rfl|h
  ·omega
  ·have:=qmhz h;omega
theorem qyfz{a b:Clk}(h:cLt a b)(h':cLt b a):False:=by
 rcases h with h|⟨h1,h2⟩<;>rcases h' with h' | ⟨h3,h4⟩<;>omega
theorem qygz{a b:Clk}(h:SortV.lx (toL b) (toL a)=false)(h':SortV.lx (toL a) (toL b)=false):a=b:=
 Classical.byContradiction fun hne=>qyfz (qg3z h hne) (qg3z h' fun z=>hne z.symm)
theorem qmiz:∀{as bs:List Clk},as.Perm bs->RiseL (as.map toL)->RiseL (bs.map toL)->as=bs
 |[],bs,p,_,_=>(List.nil_perm.mp p).symm
 |a::as,[],p,_,_=>absurd p.length_eq (by simp)
 |a::as,b::bs,p,ha,hb=>by
  have ha':=List.pairwise_cons.mp ha;have hb':=List.pairwise_cons.mp hb;have hab:a=b:=by
   have m1:a∈b::bs:=p.mem_iff.mp List.mem_cons_self;have m2:b∈a::as:=p.mem_iff.mpr List.mem_cons_self;rcases List.mem_cons.mp m1 with h|h
   ·exact h
   ·rcases List.mem_cons.mp m2 with h2|h2
    ·exact h2.symm
    ·exact qygz (ha'.1 _ (List.mem_map.mpr ⟨b,h2,rfl⟩)) (hb'.1 _ (List.mem_map.mpr ⟨a,h,rfl⟩))
  subst hab;rw[qmiz (List.Perm.cons_inv p) ha'.2 hb'.2]
end My
namespace My
open PySem L2 L3
def szK:D->Nat
 |.int k=>k.toNat
 |_=>0
mutual
def madeO(ok:Clk->Bool):D->Clk->Option (List Clk)
 |.non,c=>if ok c then some [c] else none
 |.tup [a,b],c=>if formB a b then madeP ok b (parts c (szK a)) else none
 |_,_=>none
termination_by d _=>sizeOf d
def madeP(ok:Clk->Bool):D->List Clk->Option (List Clk)
 |.tup ps,cs=>madeL ok ps cs
 |_,_=>none
termination_by d _=>sizeOf d
def madeL(ok:Clk->Bool):List D->List Clk->Option (List Clk)
 |p::ps,c::cs=>(madeO ok p c).bind fun a=>(madeL ok ps cs).map (a++·)
 |_,_=>some []
termination_by ps _=>sizeOf ps
end
mutual
def gB:D->Bool
 |.non=>true
 |.tup [a,b]=>formB a b&&gP b
 |_=>false
termination_by d=>sizeOf d
def gP:D->Bool
 |.tup ps=>gL ps
 |_=>false
termination_by d=>sizeOf d
def gL:List D->Bool
 |p::ps=>gB p&&gL ps
 |[]=>true
termination_by ps=>sizeOf ps
end
theorem qhaz:∀ps:List D,gL ps=ps.all gB
 |[]=>by rw[gL];rfl
 |p::ps=>by rw[gL,qhaz ps];rfl
theorem qe9z{a b:D}(h:formB a b=true):∃(k:Nat) (ps:List D),a=.int k/\b=.tup ps/\2≤k/\ps.length=k:=by
 unfold formB at h;split at h
 ·rename_i k ps;rw[Bool.and_eq_true,decide_eq_true_iff,beq_iff_eq] at h;exact⟨ps.length,ps,by rw[h.2],rfl,by omega,rfl⟩
 ·cases h
theorem qmjz{d:D}(h:gB d=true):d=.non∨∃(k:Nat) (ps:List D),d=.tup [.int k,.tup ps]/\2≤k/\ps.length=k/\∀p∈ps,gB p=true:=by
 cases d with
 |non=>exact .inl rfl
 |tup ds=>
  rcases ds with _|⟨a,_|⟨b,_|⟨c,ds⟩⟩⟩
  ·rw[gB] at h
   ·cases h
   ·nofun
   ·nofun
  ·rw[gB] at h
   ·cases h
   ·nofun
   ·nofun
  ·rw[gB,Bool.and_eq_true] at h;obtain⟨k,ps,rfl,rfl,h1,h2⟩:=qe9z h.1;have h3:=h.2;rw[gP,qhaz] at h3;exact .inr ⟨k,ps,rfl,h1,h2,fun p hp=>List.all_eq_true.mp h3 p hp⟩
  ·rw[gB] at h
   ·cases h
   ·nofun
   ·nofun
 |_=>
  rw[gB] at h
  ·cases h
  ·nofun
  ·nofun
theorem qyhz{k:Nat}{ps:List D}(h:2≤k)(hl:ps.length=k)(hp:∀p∈ps,gB p=true):gB (.tup [.int k,.tup ps])=true:=by
 rw[gB,gP,qhaz,List.all_eq_true.mpr hp,Bool.and_true];show (decide ((2:Int)≤(k:Int))&&(((ps.length:Nat):Int)==(k:Int)))=true;rw[hl,decide_eq_true (by omega),beq_self_eq_true];rfl
theorem qmkz{G:Gp}:∀(m:Nat) {d:D},depD d≤m->gB d=true->KnD G d
 |0,d,hd,h=>by
  rcases qmjz h with rfl|⟨k,ps,rfl,_⟩
  ·exact .non
  ·rw[qbdz] at hd;omega
 |m+1,d,hd,h=>by
  rcases qmjz h with rfl|⟨k,ps,rfl,h1,h2,hp⟩
  ·exact .non
  ·refine .two (.int _) (.tup fun p hpm=>qmkz m ?_ (hp p hpm));have e1:=qbez hpm;have e2:depD (.tup ps)≤depDs [.int (k:Nat),.tup ps]:=qbez (by simp);rw[qbdz] at hd e2;omega
def mz(ok:Clk->Bool):List (D×Clk)->Option (List Clk)
 |[]=>some []
 |z::zs=>(madeO ok z.1 z.2).bind fun a=>(mz ok zs).map (a++·)
theorem qmlz(ok:Clk->Bool):∀(ps:List D) (cs:List Clk),madeL ok ps cs=mz ok (ps.zip cs)
 |[],cs=>by rw[madeL];rfl;nofun
 |p::ps,[]=>by rw[madeL];rfl;nofun
 |p::ps,c::cs=>by
  rw[madeL,qmlz ok ps cs];rfl
theorem qduz(ok:Clk->Bool)(k:Nat)(ps:List D)(c:Clk)(h:formB (.int k) (.tup ps)=true):madeO ok (.tup [.int k,.tup ps]) c=mz ok (ps.zip (parts c k)):=by
 rw[madeO,if_pos h,madeP,qmlz];rfl
theorem qa2z(ok:Clk->Bool){d:D}(c:Clk)(h0:d≠.non)(h:∀a b,d=.tup [a,b]->formB a b=false):madeO ok d c=none:=by
 cases d with
 |non=>exact absurd rfl h0
 |tup ds=>
  rcases ds with _|⟨a,_|⟨b,_|⟨e,ds⟩⟩⟩
  ·rw[madeO]
   ·nofun
   ·nofun
  ·rw[madeO]
   ·nofun
   ·nofun
  ·rw[madeO,h a b rfl];rfl
  ·rw[madeO]
   ·nofun
   ·nofun
 |_=>
  rw[madeO]
  ·nofun
  ·nofun
theorem qcvz(ok:Clk->Bool)(c:Clk):madeO ok .non c=if ok c then some [c] else none:=by rw[madeO]
theorem qmmz{P:D->Prop}{ok:Clk->Bool}(h:∀d c,P d->madeO ok d c=(madeO (fun _=>true) d c).bind fun L=>if L.all ok then some L else none):∀zs:List (D×Clk),(∀z∈zs,P z.1)->mz ok zs=(mz (fun _=>true) zs).bind fun L=>if L.all ok then some L else none
 |[],_=>rfl
 |z::zs,hz=>by
  show (madeO ok z.1 z.2).bind _=((madeO (fun _=>true) z.1 z.2).bind fun a=>(mz (fun _=>true) zs).map (a++·)).bind _;rw[h z.1 z.2 (hz z List.mem_cons_self),qmmz h zs fun y hy=>hz y (List.mem_cons_of_mem _ hy)];cases madeO (fun _=>true) z.1 z.2 with
  |none=>rfl
  |some A=>
   cases mz (fun _=>true) zs with
   |none=>
    show (if A.all ok then some A else none).bind (fun a=>none)=none;split<;>rfl
   |some B=>
    show (if A.all ok then some A else none).bind (fun a=>(if B.all ok then some B else none).map (a++·))=if (A++B).all ok then some (A++B) else none;rw[List.all_append];cases A.all ok<;>cases B.all ok<;>rfl
theorem qyiz(ok:Clk->Bool):∀(m:Nat) (d:D) (c:Clk),depD d≤m->madeO ok d c=(madeO (fun _=>true) d c).bind fun L=>if L.all ok then some L else none:=by
 intro m
 induction m with
 |zero=>
  intro d c hd;cases d with
  |non=>
   rw[qcvz,qcvz];show _=if [c].all ok then some [c] else none;simp
  |tup ds=>
   rw[qbdz] at hd;omega
  |_=>rw[qa2z ok c (by simp) (by simp),qa2z _ c (by simp) (by simp)];rfl
 |succ m ih=>
  intro d c hd;by_cases hn:d=.non
  ·subst hn;rw[qcvz,qcvz];show _=if [c].all ok then some [c] else none;simp
  ·by_cases hf:∃a b,d=.tup [a,b]/\formB a b=true
   ·obtain⟨a,b,rfl,hf⟩:=hf;obtain⟨k,ps,rfl,rfl,h1,h2⟩:=qe9z hf;rw[qduz ok k ps c hf,qduz _ k ps c hf];refine qmmz (P:=fun d=>depD d≤m) (fun d c h=>ih d c h) _ fun z hz=>?_;have e1:=qbez (List.of_mem_zip hz).1;have e2:depD (.tup ps)≤depDs [.int (k:Nat),.tup ps]:=qbez (by simp);rw[qbdz] at hd e2;omega
   ·have hb:∀a b,d=.tup [a,b]->formB a b=false:=fun a b e=>by
     cases h:formB a b with
     |false=>rfl
     |true=>exact absurd ⟨a,b,e,h⟩ hf
    rw[qa2z ok c hn hb,qa2z _ c hn hb];rfl
theorem qmnz{P:D->Prop}{ok:Clk->Bool}(h:∀d c L,P d->madeO ok d c=some L->1≤L.length/\L.length≤szD d):∀(zs:List (D×Clk)) (L:List Clk),(∀z∈zs,P z.1)->mz ok zs=some L->zs.length≤L.length/\L.length≤szDs (zs.map (·.1))
 |[],L,_,e=>by
  cases e;exact⟨Nat.le_refl _,Nat.zero_le _⟩
 |z::zs,L,hz,e=>by
  have e:((madeO ok z.1 z.2).bind fun a=>(mz ok zs).map (a++·))=some L:=e;cases e1:madeO ok z.1 z.2 with
  |none=>rw[e1] at e;cases e
  |some A=>
   cases e2:mz ok zs with
   |none=>rw[e1,e2] at e;cases e
   |some B=>
    rw[e1,e2] at e;cases e;have h1:=h z.1 z.2 A (hz z List.mem_cons_self) e1;have h2:=qmnz h zs B (fun y hy=>hz y (List.mem_cons_of_mem _ hy)) e2;rw[List.map_cons,qa1z,List.length_append,List.length_cons];omega
theorem qmoz(ok:Clk->Bool):∀(m:Nat) (d:D) (c:Clk) (L:List Clk),depD d≤m->madeO ok d c=some L->1≤L.length/\L.length≤szD d:=by
 intro m;have non:∀(c:Clk) (L:List Clk),madeO ok .non c=some L->1≤L.length/\L.length≤szD .non:=fun c L e=>by
  rw[qcvz] at e;split at e
  ·cases e;rw[szD];exact⟨Nat.le_refl _,Nat.le_refl _⟩
  ·cases e
 induction m with
 |zero=>
  intro d c L hd e;cases d with
  |non=>exact non c L e
  |tup ds=>
   rw[qbdz] at hd;omega
  |_=>
   rw[qa2z ok c (by simp) (by simp)] at e;cases e
 |succ m ih=>
  intro d c L hd e;by_cases hn:d=.non
  ·subst hn;exact non c L e
  ·by_cases hf:∃a b,d=.tup [a,b]/\formB a b=true
   ·obtain⟨a,b,rfl,hf⟩:=hf;obtain⟨k,ps,rfl,rfl,h1,h2⟩:=qe9z hf;rw[qduz ok k ps c hf] at e;have h3:=qmnz (P:=fun d=>depD d≤m) (fun d c L h e=>ih d c L h e) _ L (fun z hz=>by
     have e1:=qbez (List.of_mem_zip hz).1;have e2:depD (.tup ps)≤depDs [.int (k:Nat),.tup ps]:=qbez (by simp);rw[qbdz] at hd e2;omega) e
    have hz:(ps.zip (parts c k)).map (·.1)=ps:=List.map_fst_zip (by rw[q3z,h2];exact Nat.le_refl _);rw[hz,List.length_zip,q3z,h2] at h3;rw[qcuz,qa1z,qa1z,qe8z,qcuz];omega
   ·have hb:∀a b,d=.tup [a,b]->formB a b=false:=fun a b e=>by
     cases h:formB a b with
     |false=>rfl
     |true=>exact absurd ⟨a,b,e,h⟩ hf
    rw[qa2z ok c hn hb] at e;cases e
end My
namespace My
open PySem L2 L3
theorem qcwz{G:Gp}(cs:List Clk):toDat G (csD cs)=some (.tup (cs.map cX)):=by
 show toDat0 (.tup (cs.map cD))=_;rw[toDat0,qa0z]
theorem qfaz(zs:List Clk)(c:Clk):(zs.map cX).any (fun v=>v.eqb (cX c))=decide (c∈zs):=by
 rw[List.any_map,Bool.eq_iff_iff,List.any_eq_true,decide_eq_true_iff];constructor
 ·rintro⟨x,hx,h⟩;have h':(cX x).eqb (cX c)=true:=h;rw[qdiz,decide_eq_true_iff] at h';rw[←h'];exact hx
 ·intro h;refine⟨c,h,?_⟩;show (cX c).eqb (cX c)=true;rw[qdiz];simp
def inC(cs:List Clk)(c:Clk):Bool:=decide (c∈cs)
def resO(Q:V3)(G:Gp):Option (List Clk)->Prop
 |none=>Q .non G
 |some L=>∀p G',New G p (.lst (L.map cD)) G'->Q (.obj p) G'
def StepN(n:Nat)(c:Clk):Prop:=0<c.1/\c.1*64^n≤64^40
theorem StepN.big{n:Nat}{c:Clk}(h:StepN n c):Big c.1:=by
 have h1:c.1*1≤c.1*64^n:=Int.mul_le_mul_of_nonneg_left (by
  have:=Nat.pow_pos (n:=n) (show 0<64 by decide);have:(0:Int)<(64:Int)^n:=by exact_mod_cast this
  omega) (by have:=h.1;omega)
 have h2:=h.2;have h3:=h.1;exact qmz (by omega) (by omega)
theorem StepN.part{n:Nat}{c:Clk}(h:StepN (n+1) c){k:Nat}(h1:1≤k)(h2:k≤64){z:Clk}(hz:z∈parts c k):StepN n z:=by
 obtain⟨t,_,rfl⟩:=List.mem_map.mp hz;have hc:=h.1;refine⟨Int.mul_pos hc (by omega),?_⟩;show c.1*(k:Int)*64^n≤64^40;refine Int.le_trans ?_ h.2;rw[Int.pow_succ,Int.mul_assoc];refine Int.mul_le_mul_of_nonneg_left ?_ (by omega);rw[Int.mul_comm];refine Int.mul_le_mul_of_nonneg_left (by omega) ?_;have:=Nat.pow_pos (n:=n) (show 0<64 by decide);have:(0:Int)<(64:Int)^n:=by exact_mod_cast this
 omega
def qbsz(n:Nat):Sp3:=fun ds G Q=>∃(cs:List Clk) (d:D) (c:Clk),ds=[csD cs,d,cD c]/\KnD G d/\depD d<n/\szD d≤63/\StepN n c/\cs.length≤1000/\resO Q G (madeO (inC cs) d c)
theorem qyjz:∀ds G Q,¬qbsz 0 ds G Q:=by
 rintro ds G Q ⟨_,_,_,_,_,h,_⟩;exact absurd h (Nat.not_lt_zero _)
def qykz(n:Nat):TS3:=sDrop (eM qjyz (eVar 3) (aCons (eVar 6) (aNil)))
def qylz(n:Nat):TS3:=sSeq (sIf (eTest (eOp (rIs3 false) (eVar 6) (eC .non))) (sRet (eC .non)) (sNext)) (qykz n)
def qymz(n:Nat):TS3:=sSeq (sAsg (eCall (qbsz n) (aCons (eVar 0) (aCons (eVar 4) (aCons (eVar 5) (aNil))))) (hName 6)) (qylz n)
def qynz(n:Nat):TS3:=sRet (eVar 3)
def qyoz(n:Nat):TS3:=sSeq (sFor (iZip (aCons (eOp rIx3 (eVar 1) (eC (.int 1))) (aCons (eCall qa4z (aCons (eVar 2) (aCons (eOp rIx3 (eVar 1) (eC (.int 0))) (aNil)))) (aNil)))) (hTup 2 (hCons (hName 4) (hCons (hName 5) (hNil)))) ((qymz n))) (qynz n)
def qmpz(n:Nat):TS3:=sSeq (sAsg (eLst (aNil)) (hName 3)) (qyoz n)
def qmqz(n:Nat):TS3:=sSeq (sIf (eOr (eNot (eTest (eInst "tuple" (eVar 1)))) (eOr (eTest (eOp (rEq3 true) (eCB q0z (aCons (eVar 1) (aNil))) (eC (.int 2)))) (eNot (eTest (eCall qdtz (aCons (eOp rIx3 (eVar 1) (eC (.int 0))) (aCons (eOp rIx3 (eVar 1) (eC (.int 1))) (aNil)))))))) (sRet (eC .non)) (sNext)) (qmpz n)
def qmrz(n:Nat):TS3:=sSeq (sIf (eTest (eOp (rIs3 false) (eVar 1) (eC .non))) (sRet (eIf (eTest (eOp (rIn3 false) (eVar 2) (eVar 0))) (eLst (aCons (eVar 2) (aNil))) (eC .non))) (sNext)) (qmqz n)
theorem qypz{n:Nat}{G:Gp}{Q:V3}{cs:List Clk}{k:Nat}{ps:List D}{c:Clk}(hk:∀p∈ps,KnD G p)(hd:∀p∈ps,depD p<n)(hz:szDs ps≤60)(h2:2≤k)(hl:ps.length=k)(hst:StepN (n+1) c)(h1000:cs.length≤1000)(q:resO Q G (mz (inC cs) (ps.zip (parts c k)))):
  qmpz n (endsOf Q) [some (csD cs),some (.tup [.int k,.tup ps]),some (cD c),none,none,none,none] G:=by
 intro g G1 n1;have hk64:k≤60:=by
  have:=qmgz ps;omega
 refine⟨_,rfl,_,rfl,c,k,rfl,by omega,hst.big,fun p2 G2 n2=>⟨ps,(parts c k).map cD,rfl,n2.at_,?_⟩⟩;rw[qx9z cD ps (parts c k)];have hne:p2≠g:=fun z=>by
  have:=n2.non;rw[z,n1.at_] at this;cases this
 refine qafz (fun ds τ G'=>∃(zs:List (D×Clk)) (A:List Clk) (x4 x5 x6:Option D),ds=zs.map (fun z=>D.tup [z.1,cD z.2])/\τ=[some (csD cs),some (.tup [.int k,.tup ps]),some (cD c),some (.obj g),x4,x5,x6]/\New G g (.lst (A.map cD)) G'/\G' p2=some (.lst ((parts c k).map cD))/\(∀z∈zs,z.1∈ps/\z.2∈parts c k)/\A.length+szDs (zs.map (·.1))≤60/\mz (inC cs) (ps.zip (parts c k))=(mz (inC cs) zs).map (A++·)) (fun _ _ _ h=>by
  obtain⟨_,_,_,_,_,_,_,_,h,_⟩:=h;exact⟨rfl,h⟩) ?_ ?_ _ _ _ ⟨ps.zip (parts c k),[],none,none,none,rfl,rfl,⟨n1.non,n1.sub.trans n2.sub,n2.sub _ _ n1.at_⟩,n2.at_,fun z hz=>List.of_mem_zip hz,?_,?_⟩
 ·rintro d ds τ G' N ⟨zs,A,x4,x5,x6,e1,rfl,n3,e3,hm,ha,hw⟩ hN;cases zs with
  |nil=>cases e1
  |cons z zs=>
   cases e1;obtain⟨p,e⟩:=z;obtain⟨m1,m2⟩:=hm (p,e) List.mem_cons_self;have hwz:mz (inC cs) ((p,e)::zs)=(madeO (inC cs) p e).bind fun a=>(mz (inC cs) zs).map (a++·):=rfl;rw[hwz] at hw;have hszp:szD p≤szDs ps:=qmhz m1;rw[List.map_cons,qa1z] at ha;have ha:A.length+(szD p+szDs (zs.map (·.1)))≤60:=ha;refine⟨rfl,cs,p,e,rfl,(hk p m1).sub n3.sub,hd p m1,by omega,hst.part (by omega) (by omega) m2,h1000,?_⟩;cases em:madeO (inC cs) p e with
   |none=>
    rw[em] at hw;rw[show mz (inC cs) (ps.zip (parts c k))=none from hw] at q;exact⟨fun _=>qazz n3.sub q,nofun⟩
   |some L=>
    rw[em] at hw;intro p4 G4 n4;have hL:=(qmoz (inC cs) (depD p) p e L (Nat.le_refl _) em).2;have hL:L.length≤szD p:=hL;refine⟨nofun,fun _=>⟨⟨g,_,rfl,n4.sub _ _ n3.at_⟩,_,_,n4.sub _ _ n3.at_,n4.at_,?_,hN _ _ ⟨zs,A++L,_,_,_,rfl,rfl,?_,?_,fun y hy=>hm y (List.mem_cons_of_mem _ hy),?_,?_⟩⟩⟩
    ·rw[List.length_map,List.length_map];exact line1000 (by omega)
    ·rw[List.map_append];exact⟨n3.non,Sub.updN (n3.sub.trans n4.sub) n3.non,qajz⟩
    ·rw[qabz hne];exact n4.sub _ _ e3
    ·rw[List.length_append];omega
    ·rw[hw];show ((mz (inC cs) zs).map (L++·)).map (A++·)=_;rw[Option.map_map];congr 1;funext B;show A++(L++B)=A++L++B;rw[List.append_assoc]
 ·rintro τ G' ⟨zs,A,x4,x5,x6,e1,rfl,n3,e3,hm,ha,hw⟩;cases zs with
  |cons z zs=>cases e1
  |nil=>
   have hw:mz (inC cs) (ps.zip (parts c k))=some (A++[]):=hw;rw[hw,List.append_nil] at q;exact qiz (q g G' n3)
 ·have hzp:(ps.zip (parts c k)).map (·.1)=ps:=List.map_fst_zip (by rw[q3z,hl];exact Nat.le_refl _);rw[hzp];simp;omega
 ·cases mz (inC cs) (ps.zip (parts c k)) with
  |none=>rfl
  |some L=>rfl
theorem qyqz(n:Nat):∀ds G Q,qbsz (n+1) ds G Q->qmrz n (endsOf Q) (start3 ["clocks","thing","clock","made","paper","part","more"] ds) G:=by
 rintro ds G Q ⟨cs,d,c,rfl,hk,hd,hz,hst,h1000,q⟩;have bad:d≠.non->(∀ds,d≠.tup ds)->qmqz n (endsOf Q) [some (csD cs),some d,some (cD c),none,none,none,none] G:=by
  intro h0 hn;rw[qa2z (inC cs) c h0 fun a b e=>absurd e (hn _)] at q;show match instD "tuple" G d with
   |some b=>_
   |none=>False
  rw[ql9z hk.known2 hn];exact⟨fun _=>⟨fun _=>qiz q,nofun⟩,nofun⟩
 cases d with
 |non=>
  refine⟨fun _=>?_,nofun⟩;rw[qcvz] at q;refine⟨cX c,cs.map cX,rfl,.inr (qcwz cs),Nat.le_trans (qb5z cs) (by decide),fun h=>?_,fun h=>?_⟩
  ·have h':((cs.map cX).any fun v=>v.eqb (cX c))=true:=h;rw[qfaz] at h';rw[if_pos (show inC cs c=true from h')] at q;exact fun p G' n'=>qiz (q p G' n')
  ·have h':((cs.map cX).any fun v=>v.eqb (cX c))=false:=h;rw[qfaz] at h';rw[if_neg (show ¬(inC cs c=true) by rw[show inC cs c=false from h'];exact Bool.false_ne_true)] at q;exact qiz q
 |tup ds=>
  refine⟨nofun,fun _=>⟨nofun,fun _=>⟨_,_,rfl,rfl,Nat.zero_le _,?_⟩⟩⟩;rcases ds with _|⟨a,_|⟨b,_|⟨e,ds⟩⟩⟩
  ·rw[qa2z (inC cs) c (by simp) (by simp)] at q;exact⟨fun _=>⟨fun _=>qiz q,nofun⟩,nofun⟩
  ·rw[qa2z (inC cs) c (by simp) (by simp)] at q;exact⟨fun _=>⟨fun _=>qiz q,nofun⟩,nofun⟩
  ·have ka:KnD G a:=hk.el (by simp);have kb:KnD G b:=hk.el (by simp);refine⟨nofun,fun _=>⟨a,rfl,b,rfl,a,b,rfl,ka.known,kb.known2,fun h=>?_,fun h=>?_⟩⟩
   ·have hf:formB a b=false:=by simpa using h
    rw[qa2z (inC cs) c (by simp) (fun a' b' e=>by cases e;exact hf)] at q;exact qiz q
   ·have hf:formB a b=true:=by simpa using h
    obtain⟨k,ps,rfl,rfl,h1,h2⟩:=qe9z hf;rw[qduz (inC cs) k ps c hf] at q;rw[qcuz,qa1z,qa1z,qe8z,qcuz] at hz;have h3:=qmfz (.int (k:Nat));refine qypz (fun p hp=>kb.el hp) (fun p hp=>?_) (by omega) h1 h2 hst h1000 q;have e1:=qbez hp;have e2:depD (.tup ps)≤depDs [.int (k:Nat),.tup ps]:=qbez (by simp);rw[qbdz] at hd e2;omega
  ·refine⟨fun _=>?_,fun h=>?_⟩
   ·rw[qa2z (inC cs) c (by simp) (by simp)] at q;exact⟨fun _=>qiz q,nofun⟩
   ·have h':(!(((ds.length+1+1+1:Nat):Int)==2))=false:=h;simp at h';omega
 |_=>exact⟨nofun,fun _=>bad (by simp) (by simp)⟩
def SplitP(cs:List Clk)(d:D):Prop:=∃L,madeO (fun _=>true) d (1,0)=some L/\L.Perm cs/\RiseL (cs.map toL)
def qdvz:Sp3:=fun ds G Q=>∃(cs:List Clk) (d:D),ds=[csD cs,d]/\KnD G d/\depD d<40/\szD d≤63/\cs.length≤1000/\∀b,(b=true↔SplitP cs d)->Q (.bl b) G
def qyrz:TS3:=sRet (eAndV (eOp (rIs3 true) (eVar 2) (eC .non)) (eOp (rEq3 false) (eCB qb2z (aCons (eVar 2) (aNil))) (eCB qc8z (aCons (eVar 0) (aNil)))))
def qmsz:TS3:=sSeq (sAsg (eCall (qbsz 40) (aCons (eVar 0) (aCons (eVar 1) (aCons (eTup (aCons (eC (.int 1)) (aCons (eC (.int 0)) (aNil)))) (aNil))))) (hName 2)) qyrz
theorem qysz{L:List Clk}{mss:List (List Int)}(hp:mss.Perm (L.map toL)):∃cs':List Clk,mss=cs'.map toL/\cs'.Perm L:=by
 obtain⟨cs',rfl,_⟩:=qe5z (cs:=L) fun ns hn=>hp.mem_iff.mp hn;refine⟨cs',rfl,?_⟩;have h:=List.Perm.map (fun ns:List Int=>((ns.getD 0 0,ns.getD 1 0):Clk)) hp;rw[List.map_map,List.map_map] at h;have e:∀xs:List Clk,xs.map ((fun ns:List Int=>((ns.getD 0 0,ns.getD 1 0):Clk)) ∘ toL)=xs:=fun xs=>(List.map_congr_left fun c _=>rfl).trans (List.map_id xs);rw[e,e] at h;exact h
theorem qytz{cs:List Clk}{d:D}{L cs':List Clk}(e:madeO (fun _=>true) d (1,0)=some L)(hp:cs'.Perm L)(hr:RiseL (cs'.map toL)):decide (cs'=cs)=true↔SplitP cs d:=by
 rw[decide_eq_true_iff];constructor
 ·rintro rfl;exact⟨L,e,hp.symm,hr⟩
 ·rintro⟨L',e',hp',hr'⟩;rw[e] at e';cases e';exact qmiz (hp.trans hp') hr hr'
theorem qyuz:StepN 40 (1,0):=⟨by decide,by decide⟩
theorem qyvz:∀ds G Q,qdvz ds G Q->qmsz (endsOf Q) (start3 ["clocks","thing","made"] ds) G:=by
 rintro ds G Q ⟨cs,d,rfl,hk,hd,hz,h1000,q⟩;refine⟨cs,d,(1,0),rfl,hk,hd,hz,qyuz,h1000,?_⟩;have ef:=qyiz (inC cs) (depD d) d (1,0) (Nat.le_refl _);cases em:madeO (inC cs) d (1,0) with
 |none=>
  refine⟨nofun,fun _=>qiz (q false ⟨nofun,fun h=>?_⟩)⟩;obtain⟨L,e,hp,hr⟩:=h;rw[em,e] at ef;have:L.all (inC cs)=true:=List.all_eq_true.mpr fun c hc=>decide_eq_true (hp.mem_iff.mp hc);have ef:none=if L.all (inC cs) then some L else none:=ef;rw[this] at ef;cases ef
 |some L=>
  intro p1 G1 n1;have eL:madeO (fun _=>true) d (1,0)=some L:=by
   cases e:madeO (fun _=>true) d (1,0) with
   |none=>rw[em,e] at ef;cases ef
   |some L'=>
    rw[em,e] at ef;have ef:some L=if L'.all (inC cs) then some L' else none:=ef;split at ef
    ·cases ef;rfl
    ·cases ef
  have hl:=(qmoz _ (depD d) d (1,0) L (Nat.le_refl _) eL).2;refine⟨fun _=>⟨_,qg4z n1.at_,by rw[List.length_map];omega,qe6z,fun p2 mss G2 n2 hpm hr=>?_⟩,nofun⟩;obtain⟨cs',rfl,hp⟩:=qysz hpm;rw[qb6z] at n2;intro p3 G3 n3;refine⟨_,_,qaaz (n3.sub _ _ n2.at_) (qa0z cs'),qaaz n3.at_ (qa0z cs),qcrz _,?_⟩;show (endsOf Q).rt (.bl ((Dat.D.lst (cs'.map cX)).eqb (.lst (cs.map cX)))) G3;rw[qg9z];exact qazz ((n1.sub.trans n2.sub).trans n3.sub) (q _ (qytz eL hp hr))
end My
namespace My
open PySem L2 L3
def DvB(cs:List Clk)(c:Clk)(k:Nat):Prop:=∀z∈cs,(k:Int)∣z.1 / c.1
instance (cs:List Clk) (c:Clk) (k:Nat):Decidable (DvB cs c k):=List.decidableBAll _ cs
def twos(m:Nat):List Nat:=(List.range m).map (· + 2)
theorem twos_mem{m k:Nat}:k∈twos m↔2≤k/\k<m+2:=by
 unfold twos;rw[List.mem_map];constructor
 ·rintro⟨i,hi,rfl⟩;have:=List.mem_range.mp hi;omega
 ·rintro⟨h1,h2⟩;exact⟨k-2,List.mem_range.mpr (by omega),by omega⟩
theorem rng2(m:Nat):rngL 2 m=(twos m).map nD:=by
 unfold rngL twos;rw[List.map_map];refine List.map_congr_left fun i _=>?_;show D.int (2+(i:Int))=D.int ((i+2:Nat):Int);congr 1;omega
def primeO(cs:List Clk)(c:Clk):Option Nat:=(twos (cs.length-1)).find? fun k=>decide (DvB cs c k)
def pmD:Option Nat->D
 |none=>.non
 |some k=>.int k
def qdwz:Sp3:=fun ds G Q=>∃(p:Addr) (cs:List Clk) (c:Clk),ds=[.obj p,cD c]/\G p=some (.lst (cs.map cD))/\0<c.1/\c.1≤1000/\(∀z∈cs,0<z.1/\z.1≤1000)/\cs.length≤1000/\Q (pmD (primeO cs c)) G
def qywz:TS3:=sAsg (eCall qbrz (aCons (eVar 2) (aCons (eOp rDiv3 (eOp rIx3 (eVar 3) (eC (.int 0))) (eOp rIx3 (eVar 1) (eC (.int 0)))) (aNil)))) (hName 2)
def qyxz:TS3:=sIf (eTest (eOp (rEq3 false) (eOp rMod3 (eVar 2) (eVar 4)) (eC (.int 0)))) (sRet (eVar 4)) (sNext)
def qyyz:TS3:=sRet (eC .non)
def qyzz:TS3:=sSeq (sFor (iRng2 (aCons (eC (.int 2)) (aCons (eOp rAdd3 (eCB q0z (aCons (eVar 0) (aNil))) (eC (.int 1))) (aNil)))) (hName 4) (qyxz)) qyyz
def qy0z:TS3:=sSeq (sFor (iSeq (eVar 0)) (hName 3) (qywz)) qyzz
def qmtz:TS3:=sSeq (sAsg (eC (.int 0)) (hName 2)) qy0z
theorem qy1z:∀ds G Q,qdwz ds G Q->qmtz (endsOf Q) (start3 ["clocks","clock","shared","inner","k"] ds) G:=by
 rintro ds G Q ⟨p,cs,c,rfl,hp,hc,hc2,hz,hl,q⟩;have hlm:(cs.map cD).length=cs.length:=List.length_map ..;refine⟨_,hp,?_⟩;refine qafz (fun ds τ G'=>G'=G/\∃(zs:List Clk) (g:Nat) (x3:Option D),ds=zs.map cD/\τ=[some (.obj p),some (cD c),some (.int g),x3,none]/\(∀z∈zs,z∈cs)/\∀k:Nat,(k∣g/\DvB zs c k)↔DvB cs c k) (fun _ _ _ h=>by rw[h.1];exact hp) ?_ ?_ _ _ _ ⟨rfl,cs,0,none,rfl,rfl,fun _ h=>h,fun k=>⟨fun h=>h.2,fun h=>⟨Nat.dvd_zero _,h⟩⟩⟩
 ·rintro d ds τ G' N ⟨eg,zs,g,x3,e1,rfl,hm,hk⟩ hN;cases zs with
  |nil=>cases e1
  |cons z zs=>
   cases e1;obtain⟨z1,z2⟩:=hz z (hm z List.mem_cons_self);obtain⟨m,em⟩:∃m:Nat,z.1 / c.1=(m:Int):=⟨(z.1 / c.1).toNat,by rw[Int.toNat_of_nonneg (Int.ediv_nonneg (by omega) (by omega))]⟩;refine⟨_,rfl,_,rfl,⟨hc,qmz (by omega) (by omega)⟩,g,m,?_,hN _ _ ⟨eg,zs,Nat.gcd g m,_,rfl,rfl,fun y hy=>hm y (List.mem_cons_of_mem _ hy),fun k=>?_⟩⟩
   ·show [D.int (g:Int),D.int (z.1 / c.1)]=_;rw[em]
   ·rw[←hk k,Nat.dvd_gcd_iff];constructor
    ·rintro⟨⟨h1,h2⟩,h3⟩;refine⟨h1,fun y hy=>?_⟩;rcases List.mem_cons.mp hy with rfl|hy
     ·rw[em];exact Int.natCast_dvd_natCast.mpr h2
     ·exact h3 y hy
    ·rintro⟨h1,h2⟩;have h3:=h2 z List.mem_cons_self;rw[em] at h3;exact⟨⟨h1,Int.natCast_dvd_natCast.mp h3⟩,fun y hy=>h2 y (List.mem_cons_of_mem _ hy)⟩
 ·rintro τ G' ⟨rfl,zs,g,x3,e1,rfl,hm,hk⟩;have e0:zs=[]:=by cases zs with
   |nil=>rfl
   |cons z zs=>cases e1
  subst e0;have hk':∀k:Nat,k∣g↔DvB cs c k:=fun k=>⟨fun h=>(hk k).mp ⟨h,nofun⟩,fun h=>((hk k).mpr h).1⟩;refine⟨_,hp,⟨by decide,by decide,by rw[hlm];omega,by rw[hlm];omega⟩,?_⟩;show forGo _ _ _ _ (rngL 2 ((((cs.map cD).length:Nat):Int)+1-2).toNat) _ _;rw[hlm,show ((cs.length:Int)+1-2).toNat=cs.length-1 by omega,rng2];refine qafz (fun ds τ G2=>G2=G'/\∃(ks:List Nat) (x4:Option D),ds=ks.map nD/\τ=[some (.obj p),some (cD c),some (.int g),x3,x4]/\(∀k∈ks,2≤k)/\ks.find? (fun k=>decide (DvB cs c k))=primeO cs c) (fun _ _ _ h=>trivial) ?_ ?_ _ _ _ ⟨rfl,_,none,rfl,rfl,fun k hk=>(twos_mem.mp hk).1,rfl⟩
  ·rintro d ds τ G2 N ⟨eg,ks,x4,e2,rfl,h2,hf⟩ hN;cases ks with
   |nil=>cases e2
   |cons k ks=>
    cases e2;have k2:=h2 k List.mem_cons_self;refine⟨show (0:Int)<(k:Int) by omega,_,_,rfl,rfl,Nat.zero_le _,fun h=>?_,fun h=>?_⟩
    ·have h':((g:Int)%(k:Int)==0)=true:=h;have hd:k∣g:=Int.natCast_dvd_natCast.mp (Int.dvd_of_emod_eq_zero (by simpa using h'));rw[List.find?_cons,decide_eq_true ((hk' k).mp hd)] at hf;rw[←hf] at q;rw[eg];exact qiz q
    ·have h':((g:Int)%(k:Int)==0)=false:=h;have hd:¬k∣g:=fun z=>by
      have:=Int.emod_eq_zero_of_dvd (Int.natCast_dvd_natCast.mpr z);rw[this] at h';cases h'
     rw[List.find?_cons,decide_eq_false fun z=>hd ((hk' k).mpr z)] at hf;exact hN _ _ ⟨eg,ks,_,rfl,rfl,fun y hy=>h2 y (List.mem_cons_of_mem _ hy),hf⟩
  ·rintro τ G2 ⟨eg,ks,x4,e2,rfl,h2,hf⟩;cases ks with
   |cons k ks=>cases e2
   |nil=>
    have hf:none=primeO cs c:=hf;rw[←hf] at q;rw[eg];exact qiz q
end My
namespace My
open PySem L2 L3
theorem qy2z{cs:List Clk}:∀{a:Nat},a∣rndF cs a:=by
 induction cs with
 |nil=>exact Nat.dvd_refl _
 |cons c cs ih=>intro a;exact Nat.dvd_trans (Nat.dvd_lcm_left a c.1.toNat) (ih (a:=Nat.lcm a c.1.toNat))
theorem qy3z{cs:List Clk}{c:Clk}:∀{a:Nat},c∈cs->c.1.toNat∣rndF cs a:=by
 induction cs with
 |nil=>exact fun h=>nomatch h
 |cons d cs ih=>
  intro a h;rcases List.mem_cons.mp h with rfl|h
  ·exact Nat.dvd_trans (Nat.dvd_lcm_right a c.1.toNat) (qy2z (cs:=cs) (a:=Nat.lcm a c.1.toNat))
  ·exact ih (a:=Nat.lcm a d.1.toNat) h
def insB(a b:Clk):Bool:=a.1%b.1==0&&rg a.2 b
def qcxz:Sp3:=fun ds G Q=>∃a b:Clk,ds=[cD a,cD b]/\0<b.1/\Q (.bl (insB a b)) G
def qmuz:TS3:=sRet (eAndV (eOp (rEq3 false) (eOp rMod3 (eOp rIx3 (eVar 0) (eC (.int 0))) (eOp rIx3 (eVar 1) (eC (.int 0)))) (eC (.int 0))) (eCall qcpz (aCons (eVar 1) (aCons (eOp rIx3 (eVar 0) (eC (.int 1))) (aNil)))))
theorem qy4z:∀ds G Q,qcxz ds G Q->qmuz (endsOf Q) (start3 ["one","other"] ds) G:=by
 rintro ds G Q ⟨⟨s1,r1⟩,⟨s2,r2⟩,rfl,hb,q⟩;refine⟨_,rfl,_,rfl,hb,_,_,rfl,rfl,Nat.zero_le _,fun h=>?_,fun h=>?_⟩
 ·have h':(s1%s2==0)=true:=h;have e:insB (s1,r1) (s2,r2)=rg r1 (s2,r2):=by
   show (s1%s2==0&&rg r1 (s2,r2))=_;rw[h',Bool.true_and]
  rw[e] at q;exact⟨_,rfl,(s2,r2),r1,rfl,hb,qiz q⟩
 ·have h':(s1%s2==0)=false:=h;have e:insB (s1,r1) (s2,r2)=false:=by
   show (s1%s2==0&&rg r1 (s2,r2))=_;rw[h',Bool.false_and]
  rw[e] at q;exact qiz q
end My
namespace My
open PySem L2 L3
def seqO:List (Option D)->Option (List D)
 |[]=>some []
 |o::r=>o.bind fun d=>(seqO r).map (d::·)
def insF(cs:List Clk)(p:Clk):List Clk:=cs.filter fun z=>insB z p
def papO:Nat->List Clk->Clk->Option D
 |0,_,_=>none
 |n+1,cs,c=>if cs=[c] then some .non else
  (primeO cs c).bind fun k=>(seqO ((parts c k).map fun p=>papO n (insF cs p) p)).map fun ps=>.tup [.int k,.tup ps]
structure Within(m:Nat)(cs:List Clk)(c:Clk):Prop where
 v:Valid c
 small:c.1≤1000
 lev:1≤m
 len:cs.length≤60
 all:∀z∈cs,c.1∣z.1/\0<z.1/\z.1≤1000/\z.1<c.1*2^m
theorem qy5z{c p:Clk}{k:Nat}(h:Valid c)(hp:p∈parts c k):Valid p/\p.1=c.1*(k:Int):=by
 obtain⟨t,ht,rfl⟩:=List.mem_map.mp hp;have ht:=List.mem_range.mp ht;obtain⟨h1,h2,h3⟩:=h;have e1:c.1*((t:Int)+1)≤c.1*(k:Int):=Int.mul_le_mul_of_nonneg_left (by omega) (by omega);rw[Int.mul_add,Int.mul_one] at e1;have e2:0≤c.1*(t:Int):=Int.mul_nonneg (by omega) (by omega);exact⟨⟨by show 0<c.1*(k:Int);omega,by show 0≤c.2+c.1*(t:Int);omega,by show c.2+c.1*(t:Int)<c.1*(k:Int);omega⟩,rfl⟩
theorem qmvz{c z:Clk}{k:Nat}(hc:0<c.1)(h1:c.1∣z.1)(h2:(k:Int)∣z.1 / c.1):c.1*(k:Int)∣z.1:=by
 obtain⟨a,ha⟩:=h1;rw[ha,Int.mul_ediv_cancel_left a (by omega)] at h2;rw[ha];exact Int.mul_dvd_mul_left _ h2
theorem Within.part{m k:Nat}{cs:List Clk}{c p:Clk}(W:Within (m+1) cs c)(hne:cs≠[])(h2:2≤k)(hd:DvB cs c k)(hp:p∈parts c k):Within m (insF cs p) p:=by
 obtain⟨vp,ep⟩:=qy5z W.v hp;have hc:=W.v.1;obtain⟨z0,hz0⟩:∃z,z∈cs:=by
  cases cs with
  |nil=>exact absurd rfl hne
  |cons z zs=>exact⟨z,List.mem_cons_self⟩
 have dv:∀z∈cs,p.1∣z.1:=fun z hz=>by
  rw[ep];exact qmvz hc (W.all z hz).1 (hd z hz)
 obtain⟨_,q1,q2,q3⟩:=W.all z0 hz0;have le0:p.1≤z0.1:=Int.le_of_dvd q1 (dv z0 hz0);have k2:c.1*2≤p.1:=by
  rw[ep];exact Int.mul_le_mul_of_nonneg_left (by omega) (by omega)
 refine⟨vp,by omega,?_,Nat.le_trans (List.length_filter_le _ _) W.len,fun z hz=>?_⟩
 ·cases m with
  |zero=>
   have:z0.1<c.1*2:=q3;omega
  |succ m=>omega
 ·have hz:=(List.mem_filter.mp hz).1;obtain⟨_,r1,r2,r3⟩:=W.all z hz;refine⟨dv z hz,r1,r2,Int.lt_of_lt_of_le r3 ?_⟩;rw[Int.pow_succ,Int.mul_comm (2^m) 2,←Int.mul_assoc];refine Int.mul_le_mul_of_nonneg_right k2 ?_;have:=Nat.pow_pos (n:=m) (show 0<2 by decide);have:(0:Int)<(2:Int)^m:=by exact_mod_cast this
  omega
def SameP:Nat->D->Prop
 |0,_=>False
 |n+1,d=>d=.non∨∃(k:Nat) (ps:List D),d=.tup [.int k,.tup ps]/\ps.length≤60/\∀p∈ps,SameP n p
theorem qmwz{m:Nat}:∀{ps:List D},(∀p∈ps,∃u,toDat0 p=some u/\u.dep≤m)->∃us,toDats0 ps=some us/\Dat.deps us≤m
 |[],_=>⟨[],rfl,Nat.zero_le _⟩
 |p::ps,h=>by
  obtain⟨u,e1,h1⟩:=h p List.mem_cons_self;obtain⟨us,e2,h2⟩:=qmwz fun q hq=>h q (List.mem_cons_of_mem _ hq);refine⟨u::us,?_,Nat.max_le.mpr ⟨h1,h2⟩⟩;rw[toDats0,e1,e2]
theorem SameP.dat:∀{m:Nat} {d:D},SameP m d->∃u,toDat0 d=some u/\u.dep≤2*m
 |0,_,h=>h.elim
 |m+1,d,h=>by
  rcases h with rfl|⟨k,ps,rfl,_,h2⟩
  ·exact⟨_,rfl,Nat.zero_le _⟩
  ·obtain⟨us,e,h3⟩:=qmwz fun p hp=>SameP.dat (h2 p hp);refine⟨.tup [.int k,.tup us],?_,?_⟩
   ·rw[toDat0,toDats0,toDats0,toDats0,toDat0,toDat0,e]
   ·show max 0 (max (Dat.deps us+1) 0)+1≤2*(m+1);omega
theorem qmxz{d:D}:∀{os:List (Option D)} {ps:List D},seqO os=some ps->d∈ps->some d∈os
 |[],ps,e,h=>by
  cases e;cases h
 |o::os,ps,e,h=>by
  cases o with
  |none=>cases e
  |some x=>
   have e:(seqO os).map (x::·)=some ps:=e;cases e2:seqO os with
   |none=>rw[e2] at e;cases e
   |some qs=>
    rw[e2] at e;cases e;rcases List.mem_cons.mp h with rfl|h
    ·exact List.mem_cons_self
    ·exact List.mem_cons_of_mem _ (qmxz e2 h)
theorem qhbz:∀{os:List (Option D)} {ps:List D},seqO os=some ps->ps.length=os.length
 |[],ps,e=>by
  cases e;rfl
 |o::os,ps,e=>by
  cases o with
  |none=>cases e
  |some x=>
   have e:(seqO os).map (x::·)=some ps:=e;cases e2:seqO os with
   |none=>rw[e2] at e;cases e
   |some qs=>
    rw[e2] at e;cases e;rw[List.length_cons,List.length_cons,qhbz e2]
theorem qcyz{cs:List Clk}{c:Clk}{k:Nat}(h:primeO cs c=some k):2≤k/\k≤cs.length/\DvB cs c k:=by
 have h1:=List.mem_of_find?_eq_some h;have h2:=List.find?_some h;have h3:=twos_mem.mp h1;exact⟨h3.1,by omega,by simpa using h2⟩
theorem qmyz:∀{m:Nat} {cs:List Clk} {c:Clk} {d:D},cs.length≤60->papO m cs c=some d->SameP m d
 |0,_,_,_,_,h=>nomatch h
 |m+1,cs,c,d,hl,h=>by
  unfold papO at h;split at h
  ·cases h;exact .inl rfl
  ·cases ek:primeO cs c with
   |none=>rw[ek] at h;cases h
   |some k=>
    rw[ek] at h;have h:(seqO ((parts c k).map fun p=>papO m (insF cs p) p)).map (fun ps=>D.tup [.int k,.tup ps])=some d:=h;cases es:seqO ((parts c k).map fun p=>papO m (insF cs p) p) with
    |none=>rw[es] at h;cases h
    |some ps=>
     rw[es] at h;cases h;obtain⟨k1,k2,_⟩:=qcyz ek;refine .inr ⟨k,ps,rfl,?_,fun p hp=>?_⟩
     ·rw[qhbz es,List.length_map,q3z];omega
     ·obtain⟨y,_,ey⟩:=List.mem_map.mp (qmxz es hp);exact qmyz (Nat.le_trans (List.length_filter_le _ _) hl) ey
theorem qdxz{G G1 G2:Gp}{p:Addr}{o:GO}(s:Sub G G1)(n:New G1 p o G2):New G p o G2:=by
 refine⟨?_,s.trans n.sub,n.at_⟩;cases e:G p with
 |none=>rfl
 |some x=>
  have:=s _ _ e;rw[n.non] at this;cases this
def qbtz(n:Nat):Sp3:=fun ds G Q=>∃(p:Addr) (cs:List Clk) (c:Clk) (m:Nat),ds=[.obj p,cD c]/\G p=some (.lst (cs.map cD))/\Within m cs c/\m≤n/\m≤12/\∀p' G',New G p' (.lst (papO m cs c).toList) G'->Q (.obj p') G'
theorem qy6z:∀ds G Q,¬qbtz 0 ds G Q:=by
 rintro ds G Q ⟨_,_,_,_,_,_,W,h,_⟩;have:=W.lev;omega
def qy7z(n:Nat):TS3:=sDrop (eM qepz (eVar 3) (aCons (eOp rIx3 (eVar 5) (eC (.int 0))) (aNil)))
def qy8z(n:Nat):TS3:=sSeq (sIf (eTest (eOp (rEq3 false) (eVar 5) (eLst (aNil)))) (sRet (eLst (aNil))) (sNext)) (qy7z n)
def qy9z(n:Nat):TS3:=sSeq (sAsg (eCall (qbtz n) (aCons (eComp ["inner"] [4] (iSeq (eVar 0)) (hName 0) (eTest (eCall qcxz (aCons (eVar 0) (aCons (eVar 1) (aNil))))) (eVar 0)) (aCons (eVar 4) (aNil)))) (hName 5)) (qy8z n)
def qzaz(n:Nat):TS3:=sRet (eLst (aCons (eTup (aCons (eVar 2) (aCons (eCB qa3z (aCons (eVar 3) (aNil))) (aNil)))) (aNil)))
def qzbz(n:Nat):TS3:=sSeq (sFor (iSeq (eCall qa4z (aCons (eVar 1) (aCons (eVar 2) (aNil))))) (hName 4) ((qy9z n))) (qzaz n)
def qmzz(n:Nat):TS3:=sSeq (sAsg (eLst (aNil)) (hName 3)) (qzbz n)
def qzcz(n:Nat):TS3:=sSeq (sIf (eTest (eOp (rIs3 false) (eVar 2) (eC .non))) (sRet (eLst (aNil))) (sNext)) (qmzz n)
def qzdz(n:Nat):TS3:=sSeq (sAsg (eCall qdwz (aCons (eVar 0) (aCons (eVar 1) (aNil)))) (hName 2)) (qzcz n)
def qm0z(n:Nat):TS3:=sSeq (sIf (eTest (eOp (rEq3 false) (eVar 0) (eLst (aCons (eVar 1) (aNil))))) (sRet (eLst (aCons (eC .non) (aNil)))) (sNext)) (qzdz n)
theorem qm1z{m:Nat}{cs:List Clk}{c:Clk}{G:Gp}{a:Addr}(hm:m≤12)(hl:cs.length≤60)(h:G a=some (.lst (papO m cs c).toList)):∃us,toDat G (.obj a)=some (.lst us)/\(Dat.D.lst us).dep≤50/\us.isEmpty=(papO m cs c).isNone:=by
 cases e:papO m cs c with
 |none=>
  rw[e] at h;exact⟨[],qaaz h rfl,by decide,rfl⟩
 |some d=>
  rw[e] at h;obtain⟨u,e1,h1⟩:=(qmyz hl e).dat;refine⟨[u],qaaz h ?_,?_,rfl⟩
  ·show toDats0 [d]=_;rw[toDats0,toDats0,e1]
  ·show max u.dep 0+1≤50;omega
theorem qzez{n m k:Nat}{G:Gp}{Q:V3}{p:Addr}{cs:List Clk}{c:Clk}(hp:G p=some (.lst (cs.map cD)))(W:Within (m+1) cs c)(hn:m≤n)(hm:m≤12)(hne:cs≠[])(h2:2≤k)(hk:k≤60)(hd:DvB cs c k)
  (q:∀p' G',New G p' (.lst (((seqO ((parts c k).map fun p=>papO m (insF cs p) p)).map fun ps=>D.tup [.int k,.tup ps]).toList)) G'->Q (.obj p') G'):
  qmzz n (endsOf Q) [some (.obj p),some (cD c),some (.int k),none,none,none] G:=by
 intro g G1 n1;have hc:=W.small;have hc0:=W.v.1;refine⟨c,k,rfl,by omega,qmz (by omega) (by omega),fun p2 G2 n2=>⟨_,n2.at_,?_⟩⟩;have hne2:p2≠g:=fun z=>by
  have:=n2.non;rw[z,n1.at_] at this;cases this
 refine qafz (fun ds τ G'=>∃(zs:List Clk) (A:List D) (x4 x5:Option D),ds=zs.map cD/\τ=[some (.obj p),some (cD c),some (.int k),some (.obj g),x4,x5]/\New G g (.lst A) G'/\G' p2=some (.lst ((parts c k).map cD))/\(∀z∈zs,z∈parts c k)/\A.length+zs.length=k/\seqO ((parts c k).map fun p=>papO m (insF cs p) p)=(seqO (zs.map fun p=>papO m (insF cs p) p)).map (A++·)) (fun _ _ _ h=>by
  obtain⟨_,_,_,_,_,_,_,h,_⟩:=h;exact h) ?_ ?_ _ _ _ ⟨parts c k,[],none,none,rfl,rfl,⟨n1.non,n1.sub.trans n2.sub,n2.sub _ _ n1.at_⟩,n2.at_,fun _ h=>h,by rw[q3z];simp,?_⟩
 ·rintro d ds τ G' N ⟨zs,A,x4,x5,e1,rfl,n3,e3,hz,hl,hw⟩ hN;cases zs with
  |nil=>cases e1
  |cons z zs=>
   cases e1;have hzp:=hz z List.mem_cons_self;have Wz:=W.part hne h2 hd hzp;have hpG:=n3.sub _ _ hp;refine⟨_,hpG,by show (cs.map cD).length≤sizeLine;rw[List.length_map];exact line1000 (by have:=W.len;omega),?_⟩;refine qaez (guard:=fun G=>G p=some (.lst (cs.map cD))) (fun τ=>∃x,τ=[x,some (cD z)]) cD (fun y=>insB y z) cD (G:=G') hpG cs [] _ ⟨none,rfl⟩ ?_ ?_
   ·rintro y hy τ K1 K2 ⟨x,rfl⟩ h1 h2;exact⟨y,z,rfl,Wz.v.1,fun h=>h1 h _ ⟨_,rfl⟩,fun h=>h2 h _ ⟨_,rfl⟩⟩
   intro p4 G4 n4;rw[List.nil_append] at n4;refine⟨p4,insF cs z,z,m,rfl,n4.at_,Wz,hn,hm,fun p5 G5 n5=>?_⟩;intro p6 G6 n6;have s6:Sub G' G6:=(n4.sub.trans n5.sub).trans n6.sub;obtain⟨us,t1,t2,t3⟩:=qm1z hm Wz.len (n6.sub _ _ n5.at_);refine⟨_,_,t1,qaaz n6.at_ rfl,t2,fun h=>?_,fun h=>?_⟩
   ·have h':(Dat.D.lst us).eqb (.lst [])=true:=h;rw[qbcz,t3] at h';have e:papO m (insF cs z) z=none:=by simpa using h'
    rw[List.map_cons,e] at hw;rw[show seqO ((parts c k).map fun p=>papO m (insF cs p) p)=none from hw] at q;exact fun p7 G7 n7=>qiz (q _ _ (qdxz (n3.sub.trans s6) n7))
   ·have h':(Dat.D.lst us).eqb (.lst [])=false:=h;rw[qbcz,t3] at h';cases e:papO m (insF cs z) z with
    |none=>
     rw[e] at h';cases h'
    |some d=>
     rw[e] at n5;rw[List.map_cons,e] at hw;have hw:seqO ((parts c k).map fun p=>papO m (insF cs p) p)=((seqO (zs.map fun p=>papO m (insF cs p) p)).map (d::·)).map (A++·):=hw;rw[List.length_cons] at hl;refine⟨⟨g,_,rfl,s6 _ _ n3.at_⟩,_,d,n6.sub _ _ n5.at_,rfl,_,s6 _ _ n3.at_,Nat.lt_of_lt_of_le (show A.length<1000 by omega) (by decide),hN _ _ ⟨zs,A++[d],_,_,rfl,rfl,⟨n3.non,Sub.updN (n3.sub.trans s6) n3.non,qajz⟩,?_,fun y hy=>hz y (List.mem_cons_of_mem _ hy),?_,?_⟩⟩
     ·rw[qabz hne2];exact s6 _ _ e3
     ·rw[List.length_append,List.length_singleton];omega
     ·rw[hw,Option.map_map];congr 1;funext B;show A++(d::B)=A++[d]++B;rw[List.append_assoc];rfl
 ·rintro τ G' ⟨zs,A,x4,x5,e1,rfl,n3,e3,hz,hl,hw⟩;cases zs with
  |cons z zs=>cases e1
  |nil=>
   have hw:seqO ((parts c k).map fun p=>papO m (insF cs p) p)=some (A++[]):=hw;rw[hw,List.append_nil] at q;exact⟨_,n3.at_,fun p7 G7 n7=>qiz (q _ _ (qdxz n3.sub n7))⟩
 ·cases seqO ((parts c k).map fun p=>papO m (insF cs p) p) with
  |none=>rfl
  |some L=>rfl
theorem qzfz(n:Nat):∀ds G Q,qbtz (n+1) ds G Q->qm0z n (endsOf Q) (start3 ["clocks","clock","k","papers","part","found"] ds) G:=by
 rintro ds G Q ⟨p,cs,c,m,rfl,hp,W,hn,hm,q⟩;obtain⟨m,rfl⟩:∃m',m=m'+1:=⟨m-1,by have:=W.lev;omega⟩;intro p1 G1 n1;refine⟨_,_,qaaz (n1.sub _ _ hp) (qa0z cs),qaaz n1.at_ (qa0z [c]),qcrz _,fun h=>?_,fun h=>?_⟩
 ·have h':(Dat.D.lst (cs.map cX)).eqb (.lst ([c].map cX))=true:=h;rw[qg9z,decide_eq_true_iff] at h';unfold papO at q;rw[if_pos h'] at q;exact fun p2 G2 n2=>qiz (q _ _ (qdxz n1.sub n2))
 ·have h':(Dat.D.lst (cs.map cX)).eqb (.lst ([c].map cX))=false:=h;rw[qg9z,decide_eq_false_iff_not] at h';unfold papO at q;rw[if_neg h'] at q;have hlen:=W.len;refine⟨p,cs,c,rfl,n1.sub _ _ hp,W.v.1,W.small,fun z hz=>⟨(W.all z hz).2.1,(W.all z hz).2.2.1⟩,by omega,?_⟩;cases ek:primeO cs c with
  |none=>
   rw[ek] at q;exact⟨fun _=>fun p2 G2 n2=>qiz (q _ _ (qdxz n1.sub n2)),nofun⟩
  |some k=>
   rw[ek] at q;obtain⟨k1,k2,k3⟩:=qcyz ek;refine⟨nofun,fun _=>qzez (n1.sub _ _ hp) W (by omega) (by omega) (fun z=>?_) k1 (by omega) k3 fun p' G' n'=>q _ _ (qdxz n1.sub n')⟩;rw[z] at k2;have:k≤0:=k2;omega
def qb7z:Sp3:=fun ds G Q=>∃cs:List Clk,ds=[csD cs]/\cs.length≤60/\(∀z∈cs,0<z.1/\z.1≤1000)/\Q ((papO 10 cs (1,0)).getD .non) G
def qzgz:TS3:=sRet (eIf (eTest (eOp (rEq3 true) (eVar 1) (eLst (aNil)))) (eOp rIx3 (eVar 1) (eC (.int 0))) (eC .non))
def qm2z:TS3:=sSeq (sAsg (eCall (qbtz 40) (aCons (eCB qc8z (aCons (eVar 0) (aNil))) (aCons (eTup (aCons (eC (.int 1)) (aCons (eC (.int 0)) (aNil)))) (aNil)))) (hName 1)) qzgz
theorem qdyz{cs:List Clk}(hl:cs.length≤60)(hz:∀z∈cs,0<z.1/\z.1≤1000):Within 10 cs (1,0):=⟨⟨by decide,by decide,by decide⟩,by decide,by decide,hl,fun z h=>by
 obtain⟨h1,h2⟩:=hz z h;exact⟨Int.one_dvd _,h1,h2,by show z.1<1*2^10;omega⟩⟩
theorem qzhz:∀ds G Q,qb7z ds G Q->qm2z (endsOf Q) (start3 ["clocks","papers"] ds) G:=by
 rintro ds G Q ⟨cs,rfl,hl,hz,q⟩;intro p1 G1 n1;refine⟨p1,cs,(1,0),10,rfl,n1.at_,qdyz hl hz,by decide,by decide,fun p2 G2 n2=>?_⟩;intro p3 G3 n3;obtain⟨us,t1,t2,t3⟩:=qm1z (by decide) hl (n3.sub _ _ n2.at_);have s3:=(n1.sub.trans n2.sub).trans n3.sub;refine⟨_,_,t1,qaaz n3.at_ rfl,t2,fun h=>?_,fun h=>?_⟩
 ·have h':(!(Dat.D.lst us).eqb (.lst []))=true:=h;rw[qbcz,t3] at h';cases e:papO 10 cs (1,0) with
  |none=>
   rw[e] at h';cases h'
  |some d=>
   rw[e] at n2 q;exact⟨_,d,n3.sub _ _ n2.at_,rfl,qazz s3 q⟩
 ·have h':(!(Dat.D.lst us).eqb (.lst []))=false:=h;rw[qbcz,t3] at h';cases e:papO 10 cs (1,0) with
  |none=>
   rw[e] at q;exact qazz s3 q
  |some d=>
   rw[e] at h';cases h'
end My
namespace My
open PySem L2 L3
def sub(c:Clk)(n w:Nat):Clk:=(c.1*(n:Int),c.2+c.1*(w:Int))
def Dvs(cs:List Clk)(c:Clk)(n:Nat):Prop:=∀z∈cs,c.1*(n:Int)∣z.1
inductive Spl:List Clk->Clk->Prop
 |leaf (c:Clk):Spl [c] c
 |node {cs:List Clk} {c:Clk} (k:Nat) (h2:2≤k) (hd:Dvs cs c k) (h:∀t,t<k->Spl (insF cs (sub c k t)) (sub c k t)):Spl cs c
theorem qhcz(c:Clk)(a b t u:Nat):sub (sub c a t) b u=sub c (a*b) (t+a*u):=by
 unfold sub;refine Prod.ext ?_ ?_
 ·show c.1*(a:Int)*(b:Int)=c.1*((a*b:Nat):Int);rw[Int.natCast_mul,Int.mul_assoc]
 ·show c.2+c.1*(t:Int)+c.1*(a:Int)*(u:Int)=c.2+c.1*((t+a*u:Nat):Int);rw[Int.natCast_add,Int.natCast_mul,Int.mul_add,Int.mul_assoc];omega
theorem qb8z{c:Clk}(h:Valid c){n w:Nat}(hw:w<n):Valid (sub c n w):=by
 obtain⟨h1,h2,h3⟩:=h;have hn:(0:Int)<n:=by omega
 refine⟨Int.mul_pos h1 hn,?_,?_⟩
 ·show 0≤c.2+c.1*(w:Int);have:=Int.mul_nonneg (show 0≤c.1 by omega) (show (0:Int)≤w by omega);omega
 ·show c.2+c.1*(w:Int)<c.1*(n:Int);have:=Int.mul_le_mul_of_nonneg_left (show (w:Int)+1≤n by omega) (show 0≤c.1 by omega);rw[Int.mul_add,Int.mul_one] at this;omega
theorem qziz{c z:Clk}(hv:Valid c){a b t u:Nat}(ht:t<a)(h:insB z (sub c (a*b) (t+a*u))=true):insB z (sub c a t)=true:=by
 have hs:=qb8z hv ht;rw[←qhcz] at h;unfold insB at h ⊢;rw[Bool.and_eq_true] at h ⊢;obtain⟨h1,h2⟩:=h;generalize hp:sub c a t=p at *;have e1:(sub p b u).1=p.1*(b:Int):=rfl;have e2:(sub p b u).2=p.2+p.1*(u:Int):=rfl;unfold rg at h2 ⊢;rw[e1] at h1 h2;rw[e2] at h2;rw[beq_iff_eq] at h1 h2 ⊢;rw[beq_iff_eq];constructor
 ·exact Int.emod_eq_zero_of_dvd (Int.dvd_trans (Int.dvd_mul_right _ _) (Int.dvd_of_emod_eq_zero h1))
 ·have h3:=Int.emod_emod_of_dvd z.2 (Int.dvd_mul_right p.1 (b:Int));rw[←h3,h2,Int.add_mul_emod_self_left];exact Int.emod_eq_of_lt hs.2.1 hs.2.2
theorem qm3z{cs:List Clk}{c:Clk}(hv:Valid c){a b t u:Nat}(ht:t<a):insF (insF cs (sub c a t)) (sub c (a*b) (t+a*u))=insF cs (sub c (a*b) (t+a*u)):=by
 unfold insF;rw[List.filter_filter];refine List.filter_congr fun z _=>?_;cases h:insB z (sub c (a*b) (t+a*u)) with
 |false=>rfl
 |true=>rw[qziz hv ht h];rfl
theorem Spl.sub2{cs:List Clk}{c:Clk}(hv:Valid c){a b t u:Nat}(ht:t<a)(h:Spl (insF cs (sub c (a*b) (t+a*u))) (sub c (a*b) (t+a*u))):Spl (insF (insF cs (sub c a t)) (sub (sub c a t) b u)) (sub (sub c a t) b u):=by
 rw[qhcz,qm3z hv ht];exact h
theorem Spl.of2{cs:List Clk}{c:Clk}(hv:Valid c){a b t u:Nat}(ht:t<a)(h:Spl (insF (insF cs (sub c a t)) (sub (sub c a t) b u)) (sub (sub c a t) b u)):Spl (insF cs (sub c (a*b) (t+a*u))) (sub c (a*b) (t+a*u)):=by
 rw[qhcz,qm3z hv ht] at h;exact h
theorem qm4z{q k:Nat}{m:Int}(hc:Nat.Coprime q k)(h:(q:Int)∣(k:Int)*m):(q:Int)∣m:=by
 have h1:=Int.natAbs_dvd_natAbs.mpr h;rw[Int.natAbs_mul,Int.natAbs_natCast,Int.natAbs_natCast] at h1;have h2:=hc.dvd_of_dvd_mul_left h1;exact Int.natAbs_dvd_natAbs.mp (by rw[Int.natAbs_natCast];exact h2)
theorem Spl.swap{cs:List Clk}{c:Clk}(h:Spl cs c):Valid c->∀q:Nat,2≤q->(∀k,Nat.Coprime q k∨q∣k)->Dvs cs c q->∀t,t<q->Spl (insF cs (sub c q t)) (sub c q t):=by
 induction h with
 |leaf c=>
  intro hv q h2 _ hd;have h1:=hd c List.mem_cons_self;have h3:=Int.le_of_dvd hv.1 h1;have h4:=Int.mul_le_mul_of_nonneg_left (show (2:Int)≤q by omega) (show 0≤c.1 by have:=hv.1;omega);have:=hv.1;omega
 |node k h2 hd h ih=>
  rename_i cs c;intro hv q hq hpr hdq t ht;rcases hpr k with hc|⟨r,hr⟩
  ·refine .node k h2 (fun z hz=>?_) fun u hu=>?_
   ·have hz':z∈cs:=(List.mem_filter.mp hz).1;obtain⟨m,hm⟩:=hd z hz';have h3:=hdq z hz';rw[hm,Int.mul_assoc] at h3;have h4:(q:Int)∣(k:Int)*m:=Int.dvd_of_mul_dvd_mul_left (show c.1≠0 by have:=hv.1;omega) h3;have h5:(q:Int)∣m:=qm4z hc h4;obtain⟨n,rfl⟩:=h5;refine⟨n,?_⟩;show z.1=c.1*(q:Int)*(k:Int)*n;rw[hm,Int.mul_assoc,Int.mul_assoc,Int.mul_assoc,Int.mul_left_comm (k:Int)]
   ·refine Spl.sub2 hv ht ?_;have hw:t+q*u<q*k:=by
     have:=Nat.mul_le_mul_left q (show u+1≤k by omega);rw[Nat.mul_add,Nat.mul_one] at this;omega
    have hk0:0<k:=by omega
    have hm:=Nat.mod_lt (t+q*u) hk0;have hdv:(t+q*u) / k<q:=Nat.div_lt_of_lt_mul (by rw[Nat.mul_comm k q];exact hw);have key:=ih ((t+q*u)%k) hm (qb8z hv hm) q hq hpr (fun z hz=>?_) ((t+q*u) / k) hdv
    ·have:=Spl.of2 hv hm key;rw[Nat.mod_add_div,Nat.mul_comm k q] at this;exact this
    ·have hz':z∈cs:=(List.mem_filter.mp hz).1;obtain⟨m,hm2⟩:=hd z hz';have h3:=hdq z hz';rw[hm2,Int.mul_assoc] at h3;have h4:(q:Int)∣(k:Int)*m:=Int.dvd_of_mul_dvd_mul_left (show c.1≠0 by have:=hv.1;omega) h3;have h5:(q:Int)∣m:=qm4z hc h4;obtain⟨n,rfl⟩:=h5;refine⟨n,?_⟩;show z.1=c.1*(k:Int)*(q:Int)*n;rw[hm2,Int.mul_assoc,Int.mul_assoc,Int.mul_assoc]
  ·subst hr;by_cases h1:r=1
   ·subst h1;rw[Nat.mul_one] at h;exact h t ht
   ·have hr2:2≤r:=by
     rcases r with _|_|r
     ·omega
     ·omega
     ·omega
    refine .node r hr2 (fun z hz=>?_) fun u hu=>Spl.sub2 hv ht (h _ ?_)
    ·have hz':z∈cs:=(List.mem_filter.mp hz).1;have:=hd z hz';show c.1*(q:Int)*(r:Int)∣z.1;rw[Int.mul_assoc,←Int.natCast_mul];exact this
    ·have:=Nat.mul_le_mul_left q (show u+1≤r by omega);rw[Nat.mul_add,Nat.mul_one] at this;omega
end My
namespace My
open PySem L2 L3
theorem qm5z:∀ns:List Int,toDats0 (ns.map D.int)=some (ns.map Dat.D.int)
 |[]=>rfl
 |n::ns=>by
  show (match toDat0 (.int n) with
   |some x=>match toDats0 (ns.map D.int) with
    |some xs=>some (x::xs)
    |none=>none
   | none=>none)=_
  rw[qm5z ns];rfl
end My
namespace My
open PySem L2 L3
theorem qzjz(d:D)(os:List (Option D)):(some d::os).filterMap id=d::os.filterMap id:=rfl
theorem qzkz(os:List (Option D)):(none::os).filterMap id=os.filterMap id:=rfl
theorem qm6z(m:Nat)(cs:List Clk)(c:Clk):papO (m+1) cs c=if cs=[c] then some .non else (primeO cs c).bind fun k=>(seqO ((parts c k).map fun p=>papO m (insF cs p) p)).map fun ps=>.tup [.int k,.tup ps]:=rfl
theorem few{f:Clk->Option D}:∀(ps cs:List Clk),ps.Pairwise (fun p q=>∀z,insB z p=true->insB z q=true->False)->(∀p∈ps,f p≠none->∃z∈cs,insB z p=true)->((ps.map f).filterMap id).length≤cs.length
 |[],cs,_,_=>Nat.zero_le _
 |p::ps,cs,hd,h=>by
  have hd':=List.pairwise_cons.mp hd;cases e:f p with
  |none=>
   rw[List.map_cons,e,qzkz];exact few ps cs hd'.2 fun q hq=>h q (List.mem_cons_of_mem _ hq)
  |some d=>
   obtain⟨z,hz,hi⟩:=h p List.mem_cons_self (by rw[e];simp);rw[List.map_cons,e,qzjz,List.length_cons];have h1:=few ps (cs.filter fun y=>!insB y p) hd'.2 fun q hq hn=>by
    obtain⟨y,hy,hi2⟩:=h q (List.mem_cons_of_mem _ hq) hn;refine⟨y,List.mem_filter.mpr ⟨hy,?_⟩,hi2⟩;cases e2:insB y p with
    |false=>rfl
    |true=>exact (hd'.1 q hq y e2 hi2).elim
   have h2:(cs.filter fun y=>!insB y p).length<cs.length:=List.length_filter_lt_length_iff_exists.mpr ⟨z,hz,by rw[hi];simp⟩;omega
theorem qhdz{c:Clk}(hc:0<c.1)(k:Nat):(parts c k).Pairwise fun p q=>∀z,insB z p=true->insB z q=true->False:=by
 unfold parts;rw[List.pairwise_map];refine List.Pairwise.imp ?_ (List.pairwise_lt_range (n:=k));intro a b hab z h1 h2;have h1:(z.1%(c.1*(k:Int))==0&&z.2%(c.1*(k:Int))==c.2+c.1*(a:Int))=true:=h1;have h2:(z.1%(c.1*(k:Int))==0&&z.2%(c.1*(k:Int))==c.2+c.1*(b:Int))=true:=h2;rw[Bool.and_eq_true,beq_iff_eq,beq_iff_eq] at h1 h2;have e:c.1*(a:Int)=c.1*(b:Int):=by omega
 have:=Int.eq_of_mul_eq_mul_left (by omega) e;omega
end My
namespace My
open PySem L2 L3
theorem qm7z:∀{os:List (Option D)},(∀o∈os,o≠none)->∃ps,seqO os=some ps
 |[],_=>⟨[],rfl⟩
 |o::os,h=>by
  obtain⟨ps,e⟩:=qm7z (os:=os) fun x hx=>h x (List.mem_cons_of_mem _ hx);cases o with
  |none=>exact absurd rfl (h none List.mem_cons_self)
  |some d=>
   refine⟨d::ps,?_⟩;show (seqO os).map (d::·)=_;rw[e];rfl
theorem qm8z:∀{os:List (Option D)} {ps:List D},seqO os=some ps->∀o∈os,o≠none
 |[],_,_,o,h=>by cases h
 |x::os,ps,e,o,h=>by
  cases x with
  |none=>cases e
  |some d=>
   have e:(seqO os).map (d::·)=some ps:=e;cases e2:seqO os with
   |none=>rw[e2] at e;cases e
   |some qs=>
    rcases List.mem_cons.mp h with rfl|h
    ·exact nofun
    ·exact qm8z e2 o h
theorem qhez{m:Nat}{cs:List Clk}{c:Clk}{k:Nat}(W:Within m cs c)(h:DvB cs c k):Dvs cs c k:=fun z hz=>qmvz W.v.1 (W.all z hz).1 (h z hz)
theorem qzlz{cs:List Clk}{c:Clk}{k:Nat}(hc:0<c.1)(h:Dvs cs c k):DvB cs c k:=fun z hz=>by
 obtain⟨m,hm⟩:=h z hz;rw[hm,Int.mul_assoc,Int.mul_ediv_cancel_left _ (show c.1≠0 by omega)];exact Int.dvd_mul_right _ _
theorem qfbz{c:Clk}{k t:Nat}(h:t<k):sub c k t∈parts c k:=List.mem_map.mpr ⟨t,List.mem_range.mpr h,rfl⟩
theorem qm9z:∀{m:Nat} {cs:List Clk} {c:Clk},Within m cs c->papO m cs c≠none->Spl cs c:=by
 intro m
 induction m with
 |zero=>intro cs c W _;exact absurd W.lev (by decide)
 |succ m ih=>
  intro cs c W h;by_cases e:cs=[c]
  ·rw[e];exact .leaf c
  rw[qm6z,if_neg e] at h;cases hk:primeO cs c with
  |none=>rw[hk] at h;exact absurd rfl h
  |some k=>
   rw[hk] at h;have h:((seqO ((parts c k).map fun p=>papO m (insF cs p) p)).map fun ps=>D.tup [.int k,.tup ps])≠none:=h;obtain⟨k2,kl,kd⟩:=qcyz hk;have hne:cs≠[]:=fun z=>by rw[z] at kl;simp at kl;omega
   cases hs:seqO ((parts c k).map fun p=>papO m (insF cs p) p) with
   |none=>rw[hs] at h;exact absurd rfl h
   |some ps=>
    exact .node k k2 (qhez W kd) fun t ht=>ih (W.part hne k2 kd (qfbz ht)) (qm8z hs _ (List.mem_map.mpr ⟨_,qfbz ht,rfl⟩))
theorem Spl.ne{cs:List Clk}{c:Clk}(h:Spl cs c):cs≠[]:=by
 induction h with
 |leaf c=>exact nofun
 |node k h2 hd h ih=>
  intro z;subst z;exact ih 0 (by omega) rfl
theorem qzmz{cs:List Clk}{c:Clk}{q:Nat}(h:primeO cs c=some q):∀n,Nat.Coprime q n∨q∣n:=fun n=>by
 obtain⟨q2,ql,qd⟩:=qcyz h;have hmin:∀d,2≤d->d<q->¬DvB cs c d:=fun d d2 dq hd=>by
  unfold primeO twos at h;rw[List.find?_map] at h;cases hf:(List.range (cs.length-1)).find? ((fun k=>decide (DvB cs c k)) ∘ fun x=>x+2) with
  |none=>rw[hf] at h;cases h
  |some i=>
   rw[hf] at h;have hi:i+2=q:=Option.some.inj h;rw[List.find?_range_eq_some] at hf;have:=hf.2.2 (d-2) (by omega);have hd':decide (DvB cs c (d-2+2))=true:=decide_eq_true (by rw[show d-2+2=d by omega];exact hd);rw[show ((fun k=>decide (DvB cs c k)) ∘ fun x=>x+2) (d-2)=decide (DvB cs c (d-2+2)) from rfl,hd'] at this;cases this
 have hg:Nat.gcd q n∣q:=Nat.gcd_dvd_left _ _;have hg0:0<Nat.gcd q n:=Nat.gcd_pos_of_pos_left _ (by omega);have hle:=Nat.le_of_dvd (by omega) hg;by_cases h1:Nat.gcd q n=1
 ·exact .inl h1
 ·refine .inr ?_;have:Nat.gcd q n=q:=by
   refine Nat.le_antisymm hle (Nat.le_of_not_lt fun w=>hmin _ (by omega) w fun z hz=>Int.dvd_trans (Int.natCast_dvd_natCast.mpr hg) (qd z hz))
  rw[←this];exact Nat.gcd_dvd_right _ _
theorem qznz:∀{m:Nat} {cs:List Clk} {c:Clk},Within m cs c->Spl cs c->papO m cs c≠none:=by
 intro m
 induction m with
 |zero=>intro cs c W _;exact absurd W.lev (by decide)
 |succ m ih=>
  intro cs c W h;rw[qm6z];by_cases e:cs=[c]
  ·rw[if_pos e];exact nofun
  rw[if_neg e];have hne:=h.ne;obtain⟨k,k2,kd,hk⟩:∃k,2≤k/\Dvs cs c k/\∀t,t<k->Spl (insF cs (sub c k t)) (sub c k t):=by
   cases h with
   |leaf=>exact absurd rfl e
   |node k h2 hd h=>exact⟨k,h2,hd,h⟩
  have hkl:k≤cs.length:=by
   have:=few (f:=fun _=>some D.non) (parts c k) cs (qhdz W.v.1 k) fun p hp _=>by
    obtain⟨t,ht,rfl⟩:=List.mem_map.mp hp;have h0:=(hk t (List.mem_range.mp ht)).ne;obtain⟨z,hz⟩:=List.exists_mem_of_ne_nil _ h0;exact⟨z,(List.mem_filter.mp hz).1,(List.mem_filter.mp hz).2⟩
   have e2:((parts c k).map fun _=>some D.non).filterMap id=(parts c k).map fun _=>D.non:=by
    rw[List.filterMap_map]
    induction parts c k with
    |nil=>rfl
    |cons a as ih=>rw[List.filterMap_cons,List.map_cons,←ih];rfl
   rw[e2,List.length_map] at this;unfold parts at this;rw[List.length_map,List.length_range] at this;exact this
  cases hq:primeO cs c with
  |none=>
   unfold primeO at hq;rw[List.find?_eq_none] at hq;exact absurd (decide_eq_true (qzlz W.v.1 kd)) (hq k (twos_mem.mpr ⟨k2,by omega⟩))
  |some q=>
   obtain⟨q2,ql,qd⟩:=qcyz hq;have hsw:=h.swap W.v q q2 (qzmz hq) (qhez W qd);obtain⟨ps,eps⟩:=qm7z (os:=(parts c q).map fun p=>papO m (insF cs p) p) fun o ho=>by
    obtain⟨p,hp,rfl⟩:=List.mem_map.mp ho;obtain⟨t,ht,rfl⟩:=List.mem_map.mp hp;exact ih (W.part hne q2 qd hp) (hsw t (List.mem_range.mp ht))
   show ((seqO ((parts c q).map fun p=>papO m (insF cs p) p)).map fun ps=>D.tup [.int q,.tup ps])≠none;rw[eps];exact nofun
end My
namespace My
open PySem L2 L3
theorem qzoz{as bs:List Clk}(h:as.Perm bs)(p:Clk):(insF as p).Perm (insF bs p):=h.filter _
theorem Spl.perm{cs:List Clk}{c:Clk}(h:Spl cs c):∀{bs:List Clk},cs.Perm bs->Spl bs c:=by
 induction h with
 |leaf c=>
  intro bs hp;rw[←List.singleton_perm.mp hp];exact .leaf c
 |node k h2 hd h ih=>
  intro bs hp;exact .node k h2 (fun z hz=>hd z (hp.mem_iff.mpr hz)) fun t ht=>ih t ht (qzoz hp _)
theorem qnaz{x z p:Clk}(hz:0<z.1)(hp:Valid p)(h1:insB x z=true)(h2:insB z p=true):insB x p=true:=by
 unfold insB rg at *;rw[Bool.and_eq_true,beq_iff_eq,beq_iff_eq] at *;have d2:=Int.dvd_of_emod_eq_zero h2.1;refine⟨Int.emod_eq_zero_of_dvd (Int.dvd_trans d2 (Int.dvd_of_emod_eq_zero h1.1)),?_⟩;rw[←Int.emod_emod_of_dvd x.2 d2,h1.2];exact h2.2
theorem qzpz{c:Clk}(hv:Valid c){k t:Nat}(ht:t<k):insB (sub c k t) c=true:=by
 unfold insB rg;rw[Bool.and_eq_true,beq_iff_eq,beq_iff_eq];refine⟨Int.emod_eq_zero_of_dvd (Int.dvd_mul_right _ _),?_⟩;show (c.2+c.1*(t:Int))%c.1=c.2;rw[Int.add_mul_emod_self_left];exact Int.emod_eq_of_lt hv.2.1 hv.2.2
theorem qhfz{p:Clk}(hp:Valid p):insB p p=true:=by
 unfold insB rg;rw[Bool.and_eq_true,beq_iff_eq,beq_iff_eq];exact⟨Int.emod_self,Int.emod_eq_of_lt hp.2.1 hp.2.2⟩
theorem qzqz{c:Clk}(hv:Valid c){k t:Nat}(ht:t<k):(insF (parts c k) (sub c k t)).Perm [sub c k t]:=by
 have nd:(parts c k).Nodup:=by
  unfold parts;unfold List.Nodup;rw[List.pairwise_map];refine List.Pairwise.imp (fun {a b} hne h=>hne ?_) (show (List.range k).Pairwise (· ≠ ·) from List.nodup_range);have h2:c.2+c.1*(a:Int)=c.2+c.1*(b:Int):=congrArg Prod.snd h;have h3:c.1*(a:Int)=c.1*(b:Int):=by omega
  have:=Int.eq_of_mul_eq_mul_left (show c.1≠0 by have:=hv.1;omega) h3;omega
 refine (List.perm_ext_iff_of_nodup (nd.filter _) (by simp)).mpr fun x=>?_;rw[List.mem_singleton];constructor
 ·intro hx;obtain⟨h1,h2⟩:=List.mem_filter.mp hx;obtain⟨s,hs,rfl⟩:=List.mem_map.mp h1;have hs:=List.mem_range.mp hs;by_cases e:s=t
  ·rw[e];rfl
  ·have hap:=qhdz hv.1 k;have hsv:=qb8z hv hs;exfalso;have key:=List.pairwise_iff_getElem.mp hap;have hl:(parts c k).length=k:=by unfold parts;rw[List.length_map,List.length_range]
   have g:∀i (hi:i<k),(parts c k)[i]'(by omega)=sub c k i:=fun i hi=>by unfold parts sub;simp
   rcases Nat.lt_or_gt_of_ne e with w|w
   ·have:=key s t (by omega) (by omega) w (sub c k s);rw[g s hs,g t ht] at this;exact this (qhfz hsv) h2
   ·have:=key t s (by omega) (by omega) w (sub c k s);rw[g s hs,g t ht] at this;exact this h2 (qhfz hsv)
 ·rintro rfl;exact List.mem_filter.mpr ⟨qfbz ht,qhfz (qb8z hv ht)⟩
theorem qzrz{c:Clk}(hv:Valid c){k:Nat}(h2:2≤k):Spl (parts c k) c:=.node k h2 (fun z hz=>by
 obtain⟨t,_,rfl⟩:=List.mem_map.mp hz;exact Int.dvd_refl _) fun t ht=>(Spl.leaf (sub c k t)).perm (qzqz hv ht).symm
end My
namespace My
open PySem L2 L3
theorem qnbz{c z:Clk}(hv:Valid c){k:Nat}(hk:1≤k)(h:insB z c=true)(hd:c.1*(k:Int)∣z.1):∃t,t<k/\insB z (sub c k t)=true:=by
 unfold insB rg at h;rw[Bool.and_eq_true,beq_iff_eq,beq_iff_eq] at h;have hc:=hv.1;have hn:0<c.1*(k:Int):=Int.mul_pos hc (by omega);have r0:=Int.emod_nonneg z.2 (show c.1*(k:Int)≠0 by omega);have r1:=Int.emod_lt_of_pos z.2 hn;have r2:z.2%(c.1*(k:Int))%c.1=c.2:=by rw[Int.emod_emod_of_dvd _ (Int.dvd_mul_right _ _)];exact h.2
 have r3:=Int.emod_add_mul_ediv (z.2%(c.1*(k:Int))) c.1;rw[r2] at r3;have w0:0≤z.2%(c.1*(k:Int)) / c.1:=Int.ediv_nonneg r0 (by omega);have w1:z.2%(c.1*(k:Int)) / c.1<(k:Int):=Int.ediv_lt_of_lt_mul hc (by rw[Int.mul_comm (k:Int)];exact r1);refine⟨(z.2%(c.1*(k:Int)) / c.1).toNat,by omega,?_⟩;unfold insB rg;rw[Bool.and_eq_true,beq_iff_eq,beq_iff_eq];refine⟨Int.emod_eq_zero_of_dvd hd,?_⟩;show z.2%(c.1*(k:Int))=c.2+c.1*(((z.2%(c.1*(k:Int)) / c.1).toNat:Nat):Int);rw[Int.toNat_of_nonneg w0];exact r3.symm
theorem qncz{c x:Clk}(hv:Valid c){k s t:Nat}(hs:s<k)(ht:t<k)(h1:insB x (sub c k s)=true)(h2:insB x (sub c k t)=true):s=t:=by
 refine Decidable.byContradiction fun e=>?_;have key:=List.pairwise_iff_getElem.mp (qhdz hv.1 k);have hl:(parts c k).length=k:=by unfold parts;rw[List.length_map,List.length_range]
 have g:∀i (hi:i<k),(parts c k)[i]'(by omega)=sub c k i:=fun i hi=>by unfold parts sub;simp
 rcases Nat.lt_or_gt_of_ne e with w|w
 ·have:=key s t (by omega) (by omega) w x;rw[g s hs,g t ht] at this;exact this h1 h2
 ·have:=key t s (by omega) (by omega) w x;rw[g s hs,g t ht] at this;exact this h2 h1
theorem Spl.exch{cs:List Clk}{c:Clk}(h:Spl cs c):Valid c->(∀x∈cs,insB x c=true/\Valid x)->∀z∈cs,∀k:Nat,2≤k->Spl (cs.filter (fun x=>decide (x≠z))++parts z k) c:=by
 induction h with
 |leaf c=>
  intro hv _ z hz k k2;have:z=c:=List.mem_singleton.mp hz;subst this;rw[show [z].filter (fun x=>decide (x≠z))=[] by simp];exact qzrz hv k2
 |node n h2 hd h ih=>
  rename_i cs c;intro hv hin z hz k k2;obtain⟨hzc,hzv⟩:=hin z hz;refine .node n h2 (fun x hx=>?_) fun t ht=>?_
  ·rcases List.mem_append.mp hx with hx|hx
   ·exact hd x (List.mem_filter.mp hx).1
   ·obtain⟨s,_,rfl⟩:=List.mem_map.mp hx;exact Int.dvd_trans (hd z hz) (Int.dvd_mul_right _ _)
  ·have hpv:=qb8z hv ht;have inz:∀x∈parts z k,insB x z=true:=fun x hx=>by
    obtain⟨s,hs,rfl⟩:=List.mem_map.mp hx;exact qzpz hzv (List.mem_range.mp hs)
   have e0:insF (cs.filter (fun x=>decide (x≠z))++parts z k) (sub c n t)=insF (cs.filter (fun x=>decide (x≠z))) (sub c n t)++insF (parts z k) (sub c n t):=List.filter_append ..;have e1:insF (cs.filter (fun x=>decide (x≠z))) (sub c n t)=(insF cs (sub c n t)).filter (fun x=>decide (x≠z)):=by
    unfold insF;rw[List.filter_filter,List.filter_filter];exact List.filter_congr fun x _=>Bool.and_comm _ _
   rw[e0,e1];cases hzp:insB z (sub c n t) with
   |true=>
    have e2:insF (parts z k) (sub c n t)=parts z k:=List.filter_eq_self.mpr fun x hx=>qnaz hzv.1 hpv (inz x hx) hzp;rw[e2];exact ih t ht hpv (fun x hx=>⟨(List.mem_filter.mp hx).2,(hin x (List.mem_filter.mp hx).1).2⟩) z (List.mem_filter.mpr ⟨hz,hzp⟩) k k2
   |false=>
    have e2:insF (parts z k) (sub c n t)=[]:=List.filter_eq_nil_iff.mpr fun x hx hxp=>by
     obtain⟨s,hs,hzs⟩:=qnbz hv (by omega) hzc (hd z hz);have:=qncz hv hs ht (qnaz hzv.1 (qb8z hv hs) (inz x hx) hzs) hxp;rw[this,hzp] at hzs;cases hzs
    have e3:(insF cs (sub c n t)).filter (fun x=>decide (x≠z))=insF cs (sub c n t):=List.filter_eq_self.mpr fun x hx=>by
     refine decide_eq_true fun w=>?_;have:=(List.mem_filter.mp hx).2;rw[w,hzp] at this;cases this
    rw[e2,e3,List.append_nil];exact h t ht
end My
namespace My
open PySem L2 L3
def qczz:Sp3:=fun ds G Q=>∃a b:Int,ds=[.int a,.int b]/\a≤b/\Q .non G
def qndz:TS3:=sIf (eTest (eOp rGt3 (eVar 0) (eVar 1))) (sNever) (sNext)
theorem qzsz:∀ds G Q,qczz ds G Q->qndz (endsOf Q) (start3 ["many","most"] ds) G:=by
 rintro ds G Q ⟨a,b,rfl,h,q⟩;refine⟨fun h'=>?_,fun _=>⟨G,Sub.refl _,q⟩⟩;have:a > b:=of_decide_eq_true h';omega
def nums(c:Clk)(n:Nat):List Nat:=(List.range (cntR c.2 n c.1)).map fun i=>c.2.toNat+i*c.1.toNat
theorem qztz{c:Clk}(h:Valid c){n x:Nat}:x∈nums c n↔x<n/\rg x c=true:=by
 obtain⟨h1,h2,h3⟩:=h;unfold nums;rw[List.mem_map];obtain⟨s,hs⟩:∃s:Nat,c.1=(s:Int):=⟨c.1.toNat,by omega⟩;obtain⟨r,hr⟩:∃r:Nat,c.2=(r:Int):=⟨c.2.toNat,by omega⟩;have hrg:rg x c=true↔x%s=r:=by
  show ((x:Int)%c.1==c.2)=true↔_;rw[beq_iff_eq,hs,hr];constructor
  ·intro e;exact_mod_cast e
  ·intro e;exact_mod_cast e
 rw[hrg];have s0:0<s:=by omega
 have rs:r<s:=by omega
 have hc:∀i,i<cntR c.2 n c.1↔r+i*s<n:=fun i=>by
  unfold cntR;rw[hs,hr];split
  ·rename_i hlt;have hrn:r<n:=by omega
   rw[show ((n:Int)-(r:Int)-1) / (s:Int)+1=(((n-r-1) / s+1:Nat):Int) by
    rw[Int.natCast_add,Int.natCast_ediv,show ((n-r-1:Nat):Int)=(n:Int)-(r:Int)-1 by omega];rfl,Int.toNat_natCast,Nat.lt_succ_iff,Nat.le_div_iff_mul_le s0]
   omega
  ·rename_i hlt;have:¬r<n:=by omega
   constructor
   ·intro z;exact absurd z (Nat.not_lt_zero _)
   ·intro z;omega
 rw[hs,hr,Int.toNat_natCast,Int.toNat_natCast];constructor
 ·rintro⟨i,hi,rfl⟩;have hi:=List.mem_range.mp hi;rw[←hs,←hr] at hi;refine⟨(hc i).mp hi,?_⟩;rw[Nat.add_mul_mod_self_right,Nat.mod_eq_of_lt rs]
 ·rintro⟨hx,e⟩;have hd:s*(x / s)+x%s=x:=Nat.div_add_mod x s;refine⟨x / s,?_,?_⟩
  ·rw[List.mem_range,←hs,←hr,hc,Nat.mul_comm];omega
  ·rw[Nat.mul_comm];omega
theorem qzuz{c:Clk}(h:Valid c)(n:Nat):(nums c n).Nodup:=by
 unfold nums;unfold List.Nodup;rw[List.pairwise_map];refine List.Pairwise.imp ?_ (List.nodup_range (n:=cntR c.2 n c.1));intro a b hab e;have:=h.1;have h0:0<c.1.toNat:=by omega
 exact hab (Nat.eq_of_mul_eq_mul_right h0 (by omega))
def cntN(cs:List Clk)(x:Nat):Nat:=(cs.filter (rg x)).length
def tabD(f:Nat->Nat)(n:Nat):List D:=(List.range n).map fun x=>nD (f x)
theorem qzvz(f:Nat->Nat)(n:Nat):(tabD f n).length=n:=by simp[tabD]
def qzwz:Sp3:=fun ds G Q=>∃(cs:List Clk) (n:Nat),ds=[csD cs,.int n]/\ClOk 1000 cs/\cs.length≤1000/\n≤10000/\∀p G',New G p (.lst (tabD (cntN cs) n)) G'->Q (.obj p) G'
theorem qzxz(c:Clk)(cs:List Clk)(x:Nat):cntN (c::cs) x=(if rg x c=true then 1 else 0)+cntN cs x:=by
 unfold cntN;rw[List.filter_cons];split
 ·rw[List.length_cons];omega
 ·omega
end My
namespace My
open PySem L2 L3
def fmO(cs:List Clk):Option Nat:=(List.range (rnd cs)).find? fun x=>cntN cs x==0
def RndS(cs:List Clk):Prop:=ClOk 1000 cs/\cs.length≤12/\rnd cs≤10000
def missL(cs:List Clk):List Nat:=(List.range (rnd cs)).filter fun x=>cntN cs x==0
def qzyz:Sp3:=fun ds G Q=>∃cs:List Clk,ds=[csD cs]/\RndS cs/\∀p G',New G p (.lst ((missL cs).map nD)) G'->Q (.obj p) G'
def qzzz:TS3:=sRet (eComp ["number","many"] [] (iEnum (aCons (eVar 1) (aNil))) (hTup 2 (hCons (hName 0) (hCons (hName 1) (hNil)))) (eTest (eOp (rEq3 false) (eVar 1) (eC (.int 0)))) (eVar 0))
def qz0z:TS3:=sSeq (sAsg (eCall qzwz (aCons (eVar 0) (aCons (eCall qctz (aCons (eVar 0) (aNil))) (aNil)))) (hName 1)) qzzz
theorem qnez(f:Nat->Nat)(n:Nat):enumD (tabD f n)=(List.range n).map fun x=>D.tup [nD x,nD (f x)]:=by
 unfold enumD;rw[qzvz,rng0];unfold tabD;have:=qdrz nD (fun x=>nD (f x)) (List.range n) (List.range n);rw[this];have h:∀xs:List Nat,(xs.zip xs).map (fun p=>D.tup [nD p.1,nD (f p.2)])=xs.map fun x=>D.tup [nD x,nD (f x)]:=fun xs=>by
  induction xs with
  |nil=>rfl
  |cons x xs ih=>
   rw[List.zip_cons_cons,List.map_cons,ih];rfl
 exact h _
theorem qfcz(a b:Nat):((a:Int)==(b:Int))=(a==b):=by
 rw[Bool.eq_iff_iff,beq_iff_eq,beq_iff_eq];exact⟨fun h=>by exact_mod_cast h,fun h=>by rw[h]⟩
theorem q6ez:∀ds G Q,qzyz ds G Q->qz0z (endsOf Q) (start3 ["clocks","counts"] ds) G:=by
 rintro ds G Q ⟨cs,rfl,⟨ok,hl,hn⟩,q⟩;refine⟨cs,rfl,ok,by omega,cs,rnd cs,rfl,ok,by omega,hn,fun p G1 n1=>?_⟩;refine⟨_,n1.at_,?_,?_⟩
 ·show (enumD (tabD (cntN cs) (rnd cs))).length≤sizeLine;rw[qnez,List.length_map,List.length_range];exact Nat.le_trans hn (by decide)
 show compGo _ _ _ _ _ (enumD (tabD (cntN cs) (rnd cs))) _ _ _;rw[qnez];refine qaez (guard:=fun G=>G p=some (.lst (tabD (cntN cs) (rnd cs)))) (fun τ=>∃x y,τ=[x,y]) (fun x=>D.tup [nD x,nD (cntN cs x)]) (fun x=>cntN cs x==0) nD (G:=G1) n1.at_ (List.range (rnd cs)) [] _ ⟨none,none,rfl⟩ ?_ ?_
 ·rintro x hm τ K1 K2 ⟨y,z,rfl⟩ h1 h2;refine⟨rfl,_,_,rfl,rfl,Nat.zero_le _,fun h=>?_,fun h=>?_⟩
  ·have h':(((cntN cs x:Nat):Int)==((0:Nat):Int))=true:=h;rw[qfcz] at h';exact h1 h' _ ⟨_,_,rfl⟩
  ·have h':(((cntN cs x:Nat):Int)==((0:Nat):Int))=false:=h;rw[qfcz] at h';exact h2 h' _ ⟨_,_,rfl⟩
 ·intro p2 G2 n2;rw[List.nil_append] at n2;exact qiz (q p2 G2 ⟨n1.sub.of_none n2.non,n1.sub.trans n2.sub,n2.at_⟩)
def exB(cs:List Clk):Bool:=(decide (shT cs=1)&&decide (shB cs=1))&&(clashO cs).isNone
def qbfz:Sp3:=fun ds G Q=>∃cs:List Clk,ds=[csD cs]/\ClOk 1000 cs/\cs.length≤12/\Q (.bl (exB cs)) G
def qnfz:TS3:=sRet (eAndV (eOp (rEq3 false) (eCall qdnz (aCons (eVar 0) (aNil))) (eTup (aCons (eC (.int 1)) (aCons (eC (.int 1)) (aNil))))) (eOp (rIs3 false) (eCall qdqz (aCons (eVar 0) (aNil))) (eC .non)))
theorem qz1z:∀ds G Q,qbfz ds G Q->qnfz (endsOf Q) (start3 ["clocks"] ds) G:=by
 rintro ds G Q ⟨cs,rfl,ok,hl,q⟩;have e1:(Dat.D.tup [.int (shT cs:Nat),.int (shB cs:Nat)]).eqb (.tup [.int 1,.int 1])=(decide (shT cs=1)&&decide (shB cs=1)):=by
  show ((((shT cs:Nat):Int)==((1:Nat):Int))&&((((shB cs:Nat):Int)==((1:Nat):Int))&&true))=_;rw[qfcz,qfcz,Bool.and_true];rfl
 refine⟨cs,rfl,ok,hl,_,_,rfl,rfl,Nat.le_of_ble_eq_true rfl,fun h=>?_,fun h=>?_⟩
 ·have h':(Dat.D.tup [.int (shT cs:Nat),.int (shB cs:Nat)]).eqb (.tup [.int 1,.int 1])=true:=h;rw[e1] at h';refine⟨cs,rfl,ok,by omega,?_⟩;have:isNon (kD (clashO cs))=(clashO cs).isNone:=by cases clashO cs<;>rfl
  show (endsOf Q).rt (.bl (isNon (kD (clashO cs)))) G;unfold exB at q;rw[h',Bool.true_and] at q;rw[this];exact qiz q
 ·have h':(Dat.D.tup [.int (shT cs:Nat),.int (shB cs:Nat)]).eqb (.tup [.int 1,.int 1])=false:=h;rw[e1] at h';unfold exB at q;rw[h',Bool.false_and] at q;exact qiz q
end My
namespace My
open PySem L2 L3
def placeB(n:Nat):D->Bool
 |.int i=>decide (0≤i)&&decide (i<n)
 |_=>false
def qc0z:Sp3:=fun ds G Q=>∃(cs:List Clk) (d:D),ds=[csD cs,d]/\Known G d/\Q (.bl (placeB cs.length d)) G
def qngz:TS3:=sRet (eAndV (eCall qcnz (aCons (eVar 1) (aNil))) (eChain rLe3 rLtT3 (eC (.int 0)) (eVar 1) (eCB q0z (aCons (eVar 0) (aNil)))))
theorem qz2z:∀ds G Q,qc0z ds G Q->qngz (endsOf Q) (start3 ["things","thing"] ds) G:=by
 rintro ds G Q ⟨cs,d,rfl,hk,q⟩;refine⟨hk,?_⟩;cases d with
 |int i=>
  refine⟨fun _=>⟨fun h=>?_,fun h=>?_⟩,nofun⟩
  ·have h':decide ((0:Int)≤i)=true:=h;have e:placeB cs.length (.int i)=decide (i<(cs.length:Nat)):=by
    show (decide (0≤i)&&decide (i<(cs.length:Nat)))=_;rw[h',Bool.true_and]
   rw[e] at q;show (endsOf Q).rt (.bl (decide (i<((cs.map cD).length:Nat)))) G;rw[List.length_map];exact qiz q
  ·have h':decide ((0:Int)≤i)=false:=h;have e:placeB cs.length (.int i)=false:=by
    show (decide (0≤i)&&decide (i<(cs.length:Nat)))=_;rw[h',Bool.false_and]
   rw[e] at q;exact qiz q
 |_=>exact⟨nofun,fun _=>qiz q⟩
end My
namespace My
open PySem L2 L3
def Cov(cs:List Clk):Prop:=∀x:Nat,∃z∈cs,rg x z=true
theorem qdzz{cs:List Clk}{z:Clk}(h:z∈cs):z.1.toNat∣rnd cs:=qy3z h
theorem qz3z{z:Clk}(hz:0<z.1){N:Nat}(hd:z.1.toNat∣N)(x t:Int):rg (x+t*N) z=rg x z:=by
 have:z.1∣t*(N:Int):=by
  have h:=Int.natCast_dvd_natCast.mpr hd;rw[Int.toNat_of_nonneg (by omega)] at h;exact Int.dvd_mul_of_dvd_right h
 unfold rg;rw[Int.add_emod,Int.emod_eq_zero_of_dvd this,Int.add_zero,Int.emod_emod]
theorem qhgz{z:Clk}(hz:0<z.1){N:Nat}(hd:z.1.toNat∣N)(x:Nat):rg ((x%N:Nat):Int) z=rg x z:=by
 have e:(x:Int)=((x%N:Nat):Int)+((x / N:Nat):Int)*N:=by
  have:=Nat.mod_add_div x N;rw[Nat.mul_comm] at this;exact_mod_cast this.symm
 rw[e,qz3z hz hd]
theorem cnt_pos{cs:List Clk}{x:Nat}:cntN cs x≠0↔∃z∈cs,rg x z=true:=by
 unfold cntN;rw[Ne,List.length_eq_zero_iff,List.filter_eq_nil_iff];constructor
 ·intro h;refine Classical.byContradiction fun hn=>h fun z hz hr=>hn ⟨z,hz,hr⟩
 ·rintro⟨z,hz,hr⟩ h;exact h z hz hr
theorem qd0z{cs:List Clk}(h:∀z∈cs,0<z.1):0<rnd cs:=by
 have:∀(cs:List Clk) (a:Nat),(∀z∈cs,0<z.1)->0<a->0<rndF cs a:=by
  intro cs
  induction cs with
  |nil=>intro a _ h;exact h
  |cons z zs ih=>
   intro a hz ha;refine ih _ (fun y hy=>hz y (List.mem_cons_of_mem _ hy)) (Nat.lcm_pos ha ?_);have:=hz z List.mem_cons_self;omega
 exact this cs 1 h (by decide)
theorem qz4z{cs:List Clk}(h:∀z∈cs,0<z.1):fmO cs=none↔Cov cs:=by
 unfold fmO;rw[List.find?_eq_none];constructor
 ·intro hn x;have hx:x%rnd cs<rnd cs:=Nat.mod_lt _ (qd0z h);have h1:=hn (x%rnd cs) (List.mem_range.mpr hx);obtain⟨z,hz,hr⟩:=cnt_pos.mp (show cntN cs (x%rnd cs)≠0 by simpa using h1);exact⟨z,hz,by rw[qhgz (h z hz) (qdzz hz)] at hr;exact hr⟩
 ·intro hc x _ hx;have:=cnt_pos.mpr (hc x);rw[beq_iff_eq] at hx;exact this hx
theorem qfdz{c p:Clk}{k:Nat}(h:Valid c)(hp:p∈parts c k):Valid p/\p.1=c.1*(k:Int):=by
 obtain⟨t,ht,rfl⟩:=List.mem_map.mp hp;have ht:=List.mem_range.mp ht;exact⟨qwnz h (by omega) (by omega),rfl⟩
def rest1(cs:List Clk)(i:Nat):List Clk:=cs.take i++cs.drop (i+1)
def qd1z:Sp3:=fun ds G Q=>∃(cs:List Clk) (i:Nat),ds=[csD cs,.int i]/\i<cs.length/\Q .non G
def qnhz:TS3:=sIf (eNot (eTest (eCall qc0z (aCons (eVar 0) (aCons (eVar 1) (aNil)))))) (sNever) (sNext)
theorem qz5z{n i:Nat}(h:i<n):placeB n (.int i)=true:=by
 show (decide ((0:Int)≤(i:Int))&&decide ((i:Int)<(n:Nat)))=true;rw[decide_eq_true (by omega),decide_eq_true (by omega)];rfl
theorem qz6z:∀ds G Q,qd1z ds G Q->qnhz (endsOf Q) (start3 ["things","thing"] ds) G:=by
 rintro ds G Q ⟨cs,i,rfl,hi,q⟩;refine⟨cs,.int i,rfl,trivial,fun h=>?_,fun h=>⟨G,Sub.refl _,q⟩⟩;rw[qz5z hi] at h;cases h
def qz7z:Sp3:=fun ds G Q=>∃(cs:List Clk) (i k:Nat) (c:Clk),ds=[csD cs,.int i,.int k]/\cs[i]?=some c/\ClOk 1000 cs/\cs.length+k≤13/\c.1*(k:Int)≤1000/\2≤k ∧
 ∀cs' G',Sub G G'->(∀z,z∈cs'↔z∈rest1 cs i∨z∈parts c k)->Rise cs'->cs'.length≤12->Q (csD cs') G'
end My
namespace My
open PySem L2 L3
theorem qniz{α:Type}{p:α->Bool}:∀{l:List α},2≤(l.filter p).length->∃(i j:Nat) (a b:α),i<j/\l[i]?=some a/\l[j]?=some b/\p a=true/\p b=true
 |[],h=>absurd h (by simp)
 |x::l,h=>by
  by_cases hx:p x=true
  ·rw[List.filter_cons_of_pos hx,List.length_cons] at h;have:l.filter p≠[]:=fun z=>by
    rw[z] at h;exact absurd h (by simp)
   obtain⟨y,hy⟩:=List.exists_mem_of_ne_nil _ this;obtain⟨h1,h2⟩:=List.mem_filter.mp hy;obtain⟨j,hj,e⟩:=List.getElem_of_mem h1;exact⟨0,j+1,x,y,by omega,rfl,by rw[List.getElem?_cons_succ,List.getElem?_eq_getElem hj,e],hx,h2⟩
  ·rw[List.filter_cons_of_neg hx] at h;obtain⟨i,j,a,b,h1,h2,h3,h4,h5⟩:=qniz h;exact⟨i+1,j+1,a,b,by omega,h2,h3,h4,h5⟩
theorem qz8z{a b:Clk}(ha:Valid a)(hb:Valid b){x:Nat}(h1:rg x a=true)(h2:rg x b=true):meetO a b≠none:=by
 have hL:0<Nat.lcm a.1.toNat b.1.toNat:=Nat.lcm_pos (by have:=ha.1;omega) (by have:=hb.1;omega);have e1:=qhgz ha.1 (Nat.dvd_lcm_left a.1.toNat b.1.toNat) x;have e2:=qhgz hb.1 (Nat.dvd_lcm_right a.1.toNat b.1.toNat) x;rw[h1,←qbqz ha,rg2_iff] at e1;rw[h2,←qbqz hb,rg2_iff] at e2;have M:Meets a b ((x%Nat.lcm a.1.toNat b.1.toNat:Nat):Int):=⟨by omega,by
  have:=Nat.mod_lt x hL;exact_mod_cast this,e1,e2⟩
 rw[ql5z ha hb M];simp
theorem qz9z{cs:List Clk}(hv:∀c∈cs,Valid c)(h:clashO cs=none)(x:Nat):cntN cs x≤1:=by
 refine Classical.byContradiction fun hn=>?_;obtain⟨i,j,a,b,hij,ha,hb,ra,rb⟩:=qniz (l:=cs) (p:=rg x) (show 2≤(cs.filter (rg x)).length by unfold cntN at hn;omega);have hi:i<cs.length:=(List.getElem?_eq_some_iff.mp ha).1;have hj:j<cs.length:=(List.getElem?_eq_some_iff.mp hb).1;unfold clashO at h;rw[List.findSome?_eq_none_iff] at h;have h1:=h i (List.mem_range.mpr hi);unfold rowO at h1;rw[List.findSome?_eq_none_iff] at h1;have h2:=h1 (j-(i+1)) (List.mem_range.mpr (by omega));rw[show i+1+(j-(i+1))=j by omega] at h2;unfold pairO at h2;rw[ha,hb] at h2;have h2:(meetO a b).map (fun m=>(i,j,m.2))=none:=h2;rw[Option.map_eq_none_iff] at h2;exact qz8z (hv a (List.mem_of_getElem? ha)) (hv b (List.mem_of_getElem? hb)) ra rb h2
theorem q0az{c:Clk}(h:Valid c){N:Nat}(hd:c.1.toNat∣N)(h0:0<N):(nums c N).length=N / c.1.toNat:=by
 obtain⟨h1,h2,h3⟩:=h;obtain⟨s,hs⟩:∃s:Nat,c.1=(s:Int):=⟨c.1.toNat,by omega⟩;obtain⟨r,hr⟩:∃r:Nat,c.2=(r:Int):=⟨c.2.toNat,by omega⟩;unfold nums;rw[List.length_map,List.length_range];rw[hs,Int.toNat_natCast] at hd ⊢;have s0:0<s:=by omega
 have hle:s≤N:=Nat.le_of_dvd h0 hd;unfold cntR;rw[hr,if_pos (by omega)];obtain⟨q,rfl⟩:=hd;rw[Nat.mul_div_cancel_left q s0];have hq:1≤q:=by
  cases q with
  |zero=>simp at h0
  |succ q=>omega
 have e:(((s*q:Nat):Int)-(r:Int)-1) / (s:Int)=(q:Int)-1:=by
  have:((s*q:Nat):Int)-(r:Int)-1=((s:Int)-r-1)+(s:Int)*((q:Int)-1):=by
   rw[Int.natCast_mul,Int.mul_sub,Int.mul_one];omega
  rw[this,Int.add_mul_ediv_left _ _ (by omega),Int.ediv_eq_zero_of_lt (by omega) (by omega)];omega
 rw[e];omega
theorem q0bz{c:Clk}(h:Valid c){N:Nat}(hd:c.1.toNat∣N)(h0:0<N):((List.range N).filter fun x:Nat=>rg x c).length=N / c.1.toNat:=by
 rw[←q0az h hd h0];refine List.Perm.length_eq ((List.perm_ext_iff_of_nodup (List.nodup_range.filter _) (qzuz h N)).mpr fun x=>?_);rw[qztz h,List.mem_filter,List.mem_range]
theorem qnjz{p:Nat->Bool}:∀xs:List Nat,(xs.map fun x=>if p x=true then 1 else 0).sum=(xs.filter p).length
 |[]=>rfl
 |x::xs=>by
  rw[List.map_cons,List.sum_cons,qnjz xs,List.filter_cons];split
  ·rw[List.length_cons];omega
  ·omega
theorem qnkz{f g:Nat->Nat}:∀xs:List Nat,(xs.map fun x=>f x+g x).sum=(xs.map f).sum+(xs.map g).sum
 |[]=>rfl
 |x::xs=>by
  rw[List.map_cons,List.sum_cons,qnkz xs,List.map_cons,List.sum_cons,List.map_cons,List.sum_cons];omega
theorem qhhz{N:Nat}(h0:0<N):∀{cs:List Clk},(∀c∈cs,Valid c/\c.1.toNat∣N)->((List.range N).map (cntN cs)).sum=topN cs N
 |[],_=>by
  have:∀xs:List Nat,(xs.map (cntN [])).sum=0:=fun xs=>by
   induction xs with
   |nil=>rfl
   |cons x xs ih=>rw[List.map_cons,List.sum_cons,ih];rfl
  rw[this];rfl
 |c::cs,h=>by
  have hc:=h c List.mem_cons_self;have e:(List.range N).map (cntN (c::cs))=(List.range N).map fun x:Nat=>(if rg x c=true then 1 else 0)+cntN cs x:=List.map_congr_left fun x _=>qzxz c cs x;rw[e,qnkz,qnjz (p:=fun x:Nat=>rg x c),q0bz hc.1 hc.2 h0,qhhz h0 fun d hd=>h d (List.mem_cons_of_mem _ hd)];unfold topN;rw[List.map_cons,List.sum_cons]
theorem qnlz:∀{l:List Nat},(∀v∈l,v≤1)->l.length≤l.sum->∀v∈l,v=1
 |[],_,_,v,hv=>nomatch hv
 |x::l,h,hs,v,hv=>by
  have hx:=h x List.mem_cons_self;rw[List.length_cons,List.sum_cons] at hs;have hle:l.sum≤l.length:=by
   have:∀l:List Nat,(∀v∈l,v≤1)->l.sum≤l.length:=fun l=>by
    induction l with
    |nil=>intro _;exact Nat.le_refl _
    |cons y l ih=>
     intro hy;have h1:=hy y List.mem_cons_self;have h2:=ih fun v hv=>hy v (List.mem_cons_of_mem _ hv);rw[List.sum_cons,List.length_cons];omega
   exact this l fun v hv=>h v (List.mem_cons_of_mem _ hv)
  rcases List.mem_cons.mp hv with rfl|hv
  ·omega
  ·exact qnlz (fun v hv=>h v (List.mem_cons_of_mem _ hv)) (by omega) v hv
theorem q0cz{cs:List Clk}(h0:0<rnd cs)(h1:shT cs=1)(h2:shB cs=1):topN cs (rnd cs)=rnd cs:=by
 unfold shT at h1;unfold shB at h2;have g1:=Nat.gcd_dvd_left (topN cs (rnd cs)) (rnd cs);have g2:=Nat.gcd_dvd_right (topN cs (rnd cs)) (rnd cs);have e1:=Nat.div_mul_cancel g1;have e2:=Nat.div_mul_cancel g2;rw[h1,Nat.one_mul] at e1;rw[h2,Nat.one_mul] at e2;omega
theorem q0dz{cs:List Clk}(ok:ClOk 1000 cs)(h:exB cs=true):∀x,x<rnd cs->cntN cs x=1:=by
 unfold exB at h;rw[Bool.and_eq_true,Bool.and_eq_true,decide_eq_true_iff,decide_eq_true_iff] at h;obtain⟨⟨h1,h2⟩,h3⟩:=h;have hpos:=qd0z fun z hz=>(ok z hz).1.1;have hcl:clashO cs=none:=by
  cases e:clashO cs with
  |none=>rfl
  |some v=>rw[e] at h3;cases h3
 have hs:=qhhz hpos (cs:=cs) fun c hc=>⟨(ok c hc).1,qdzz hc⟩;rw[q0cz hpos h1 h2] at hs;intro x hx;refine qnlz (l:=(List.range (rnd cs)).map (cntN cs)) (fun v hv=>?_) ?_ _ (List.mem_map.mpr ⟨x,List.mem_range.mpr hx,rfl⟩)
 ·obtain⟨y,_,rfl⟩:=List.mem_map.mp hv;exact qz9z (fun c hc=>(ok c hc).1) hcl y
 ·rw[hs,List.length_map,List.length_range];exact Nat.le_refl _
theorem qb9z{cs:List Clk}{i:Nat}{c:Clk}(hi:cs[i]?=some c)(z:Clk):z∈cs↔z∈rest1 cs i∨z=c:=by
 have hl:i<cs.length:=(List.getElem?_eq_some_iff.mp hi).1;have e:cs[i]=c:=(List.getElem?_eq_some_iff.mp hi).2;have hd:cs=cs.take i++c::cs.drop (i+1):=by
  rw[←e,←List.drop_eq_getElem_cons hl,List.take_append_drop]
 unfold rest1;rw[List.mem_append];constructor
 ·intro h;rw[hd,List.mem_append,List.mem_cons] at h;rcases h with h|h|h
  ·exact .inl (.inl h)
  ·exact .inr h
  ·exact .inl (.inr h)
 ·rintro ((h|h)|rfl)
  ·exact List.mem_of_mem_take h
  ·exact List.mem_of_mem_drop h
  ·exact List.mem_of_getElem? hi
end My
namespace L3
open PySem PySem.Spec PyProof.Rows L2
theorem len1{us:List Value}(h:us.length=1):∃a,us=[a]:=List.length_eq_one_iff.mp h
theorem len2{us:List Value}(h:us.length=2):∃a b,us=[a,b]:=by
 rcases us with _|⟨a,us⟩
 ·cases h
 ·obtain⟨b,rfl⟩:=len1 (us:=us) (Nat.succ.inj h);exact⟨a,b,rfl⟩
theorem len3{us:List Value}(h:us.length=3):∃a b c,us=[a,b,c]:=by
 rcases us with _|⟨a,us⟩
 ·cases h
 ·obtain⟨b,c,rfl⟩:=len2 (us:=us) (Nat.succ.inj h);exact⟨a,b,c,rfl⟩
theorem len4{us:List Value}(h:us.length=4):∃a b c d,us=[a,b,c,d]:=by
 rcases us with _|⟨a,us⟩
 ·cases h
 ·obtain⟨b,c,d,rfl⟩:=len3 (us:=us) (Nat.succ.inj h);exact⟨a,b,c,d,rfl⟩
end L3
namespace L3
open PySem PySem.Spec PyProof.Rows L2
section
variable {X:Cx} {e:Expr} {ta:TE3} {pos p p' pos':Pos}
def setT(P:Program)(w:World)(K:PySem.W.Frag)(H:Hp)(Q:VK)(nss:List (List Int)):Prop:=
 ∀(b:Addr) (zs:List (List Int×Addr)),H b=none->(∀p∈zs,SqT K H p.2 (p.1.map V.int))->(∀ns,ns∈zs.map (·.1)↔ns∈nss)->(zs.map (·.1)).Nodup->zs.length≤nss.length->Q (.ref b) (upd H b (.ext (setφ P w b zs)))
theorem q0ez(hc:X.calm=true)(hu:X.A.units+64<cLine):CallR X (.type "set") (fun vs H Q=>∃(a:Addr) (xs:List V) (nss:List (List Int)),vs=[.ref a]/\(SqL X.K H a xs∨SqT X.K H a xs)/\Hvs X.K H (nss.map tupI) xs/\nss.length≤60/\setT X.prog X.w X.K H Q nss):=by
 intro pins s σ H vs us Q I r ⟨a,xs,nss,e1,hl,hv,hz,q⟩;rcases hl with hl|hl
 ·exact qkvz hc hu pins s σ H vs us Q I r ⟨a,xs,nss,e1,hl,hv,hz,q⟩
 ·exact qv1z hc hu pins s σ H vs us Q I r ⟨a,xs,nss,e1,hl,hv,hz,q⟩
def listT(G:Gp):D->List (List Int)->Prop
 |.obj a,nss=>G a=some (.lst (nss.map tupI))
 |.tup ds,nss=>ds=nss.map tupI
 |_,_=>False
theorem q0fz{K:PySem.W.Frag}{H:Hp}{G:Gp}{d:D}{v:V}{nss:List (List Int)}(h:listT G d nss)(hv:Hv K H d v)(R:RepG K G H):∃a xs,v=.ref a/\(SqL K H a xs∨SqT K H a xs)/\Hvs K H (nss.map tupI) xs:=by
 cases d with
 |obj a=>
  obtain⟨xs,e2,e3⟩:=R a _ h;exact⟨a,xs,qzz hv,.inl (.of e2),e3⟩
 |tup ds=>
  obtain⟨a,xs,rfl,e2,e3⟩:=qagz hv;exact⟨a,xs,rfl,.inr e2,(show ds=nss.map tupI from h)▸e3⟩
 |_=>exact h.elim
def eSortSetA(ta:TE3):TE3:=fun τ G Q=>ta τ G fun x G1=>∃nss:List (List Int),listT G1 x nss/\nss.length≤60/\(∀ns∈nss,ns≠[]) ∧
 ∀(p:Addr) (mss:List (List Int)) (G':Gp),New G1 p (.lst (mss.map tupI)) G'->(∀ns,ns∈mss↔ns∈nss)->mss.Nodup->RiseL mss->mss.length≤nss.length->Q (.obj p) G'
theorem q0gz(hu:X.A.units+64<cLine)(ha:PE3 X e ta)(hm:X.mg "sorted" = none)(hm2:X.mg "set" = none)(hc:X.calm=true:=by rfl)(hg:Gl X "sorted":=by rfl)(hg2:Gl X "set":=by rfl)(he2:notStar e=true:=by rfl):
  PE3 X (.Call (.Name "sorted" p) [.Call (.Name "set" p') [e] [] pos'] [] pos) (eSortSetA ta):=
 qyz (qa6z (qkwz hc hu) hg hm rfl (qbiz (qcez (q0ez hc hu) hg2 hm2 rfl (qbiz ha qbvz (qpz he2)) (he:=qpz he2) (hpl:=q4z rfl)) qbvz (qpz rfl)) (he:=qpz rfl) (hpl:=q4z rfl)) fun σ H Q ⟨τ,G,Q3,RS,RG,h,k⟩=>by
  refine⟨τ,G,_,RS,RG,h,fun v H1 d G1 h1 S1 R1 q1=>?_⟩;obtain⟨nss,e1,hz,hne,q⟩:=q1;obtain⟨a,xs,rfl,e2,e3⟩:=q0fz e1 h1 R1;refine⟨a,xs,nss,rfl,e2,e3,hz,fun b zs hb hk hmem hnd hlen=>?_⟩;have E2:Ext H1 (upd H1 b (.ext (setφ X.prog X.w b zs))):=.laid hb;refine⟨b,zs,rfl,qwz,fun p hp=>SqT.ext E2 (hk p hp),by omega,fun p hp=>hne _ ((hmem _).mp (List.mem_map.mpr ⟨p,hp,rfl⟩)),fun p mss ys hp hpm hr hv=>?_⟩;have R2:RepG X.K G1 (upd H1 b (.ext (setφ X.prog X.w b zs))):=R1.laid hb;refine k _ _ (.obj p) _ qa8z ((S1.trans (.laid hb)).trans (.laidG hp)) (R2.newL hp hv) (q p mss _ (.mk' (R2.free hp)) (fun ns=>?_) ?_ hr ?_)
  ·rw[hpm.mem_iff];exact hmem ns
  ·exact hpm.nodup_iff.mpr hnd
  ·rw[hpm.length_eq,List.length_map];exact hlen
theorem q0hz(hu:X.A.units+64<cLine)(ha:QE X e ta)(hm:X.mg "sorted" = none)(hm2:X.mg "set" = none)(hc:X.calm=true:=by rfl)(hg:Gl X "sorted":=by rfl)(hg2:Gl X "set":=by rfl)(he2:notStar e=true:=by rfl):
  QE X (.Call (.Name "sorted" p) [.Call (.Name "set" p') [e] [] pos'] [] pos) (eSortSetA ta):=⟨q0gz hu ha.of hm hm2 hc hg hg2 he2⟩
end
end L3
namespace My
open PySem L2 L3
theorem qnmz(cs:List Clk):(Dat.D.tup (cs.map cX)).dep≤50:=by
 show Dat.deps (cs.map cX)+1≤50;have:=qb5z cs;omega
theorem q0iz(cs:List Clk):(Dat.D.tup (cs.map cX)).eqb (.tup (cs.map cX))=true:=by
 show Dat.eqbs (cs.map cX) (cs.map cX)=true;rw[qg1z];simp
def qc1z:Sp3:=fun ds G Q=>∃(d:D) (cs:List Clk),ds=[d]/\listT G d (cs.map toL)/\cs.length≤60/\∀cs' G',Sub G G'->(∀z,z∈cs'↔z∈cs)->Rise cs'->cs'.length≤cs.length->Q (csD cs') G'
def qnnz:TS3:=sRet (eCB qa3z (aCons (eSortSetA (eVar 0)) (aNil)))
theorem q0jz:∀ds G Q,qc1z ds G Q->qnnz (endsOf Q) (start3 ["things"] ds) G:=by
 rintro ds G Q ⟨d,cs,rfl,e,hl,q⟩;refine⟨cs.map toL,e,by rw[List.length_map];exact hl,qe6z,fun p3 mss G3 n3 hmem nd hr hl3=>?_⟩;obtain⟨cs',rfl,hmem2,hr2,hl2⟩:=qlpz hmem nd hr hl3;rw[qb6z] at n3;exact⟨_,n3.at_,qiz (q cs' G3 n3.sub hmem2 hr2 hl2)⟩
theorem q0kz{G:Gp}(cs:List Clk):listT G (csD cs) (cs.map toL):=by
 show cs.map cD=(cs.map toL).map tupI;rw[qb6z]
theorem qcaz{a b:Clk}(h:cLt a b)(h2:cLt b a):False:=by
 rcases h with h|⟨h,h'⟩<;>rcases h2 with g|⟨g,g'⟩<;>omega
theorem q0lz{as bs:List Clk}(ha:Rise as)(hb:Rise bs)(h:∀z,z∈as↔z∈bs):as=bs:=by
 induction as generalizing bs with
 |nil=>cases bs with
  |nil=>rfl
  |cons b bs=>exact absurd ((h b).mpr List.mem_cons_self) (by simp)
 |cons a as ih=>cases bs with
  |nil=>exact absurd ((h a).mp List.mem_cons_self) (by simp)
  |cons b bs=>
   have ha':=List.pairwise_cons.mp ha;have hb':=List.pairwise_cons.mp hb;have e:a=b:=by
    refine Classical.byContradiction fun ne=>?_;have h1:a∈bs:=((List.mem_cons.mp ((h a).mp List.mem_cons_self)).resolve_left ne);have h2:b∈as:=((List.mem_cons.mp ((h b).mpr List.mem_cons_self)).resolve_left (Ne.symm ne));exact qcaz (ha'.1 b h2) (hb'.1 a h1)
   subst e;rw[ih ha'.2 hb'.2 fun z=>⟨fun hz=>((List.mem_cons.mp ((h z).mp (List.mem_cons_of_mem _ hz))).resolve_left fun q=>qcaz (q▸ha'.1 z hz) (q▸ha'.1 z hz)),fun hz=>((List.mem_cons.mp ((h z).mpr (List.mem_cons_of_mem _ hz))).resolve_left fun q=>qcaz (q▸hb'.1 z hz) (q▸hb'.1 z hz))⟩]
theorem q0mz(i:Int)(n:Nat):rngL i n=((List.range n).map fun k:Nat=>i+(k:Int)).map D.int:=by
 unfold rngL;rw[List.map_map];rfl
end My
namespace My
open PySem L2 L3
def strc(C c:Clk):Clk:=(C.1*c.1,C.2+C.1*c.2)
theorem q0nz{C c:Clk}(hC:0<C.1)(n:Int):rg2 (C.2+C.1*n) (strc C c)=rg2 n c:=by
 rw[Bool.eq_iff_iff,rg2_iff,rg2_iff];show C.1*c.1∣C.2+C.1*n-(C.2+C.1*c.2)↔_;rw[show C.2+C.1*n-(C.2+C.1*c.2)=C.1*(n-c.2) by rw[Int.mul_sub];omega];exact Int.mul_dvd_mul_iff_left (by omega)
theorem qbuz{cs:List Clk}(h:Rise cs):cs.Nodup:=h.imp fun {a b} q e=>by
 subst e;exact qcaz q q
theorem q0oz{f:Clk->Clk}:∀{cs:List Clk},cs.Nodup->(∀a∈cs,∀b∈cs,f a=f b->a=b)->(cs.map f).Nodup:=by
 intro cs
 induction cs with
 |nil=>intro _ _;exact List.nodup_nil
 |cons c cs ih=>
  intro h q;obtain⟨h1,h2⟩:=List.nodup_cons.mp h;rw[List.map_cons,List.nodup_cons];refine⟨fun z=>?_,ih h2 fun a ha b hb=>q a (List.mem_cons_of_mem _ ha) b (List.mem_cons_of_mem _ hb)⟩;obtain⟨b,hb,e⟩:=List.mem_map.mp z;exact h1 (q b (List.mem_cons_of_mem _ hb) c List.mem_cons_self e▸hb)
end My
namespace My
open PySem L2 L3
end My
namespace My
open PySem L2 L3
def CovZ(cs:List Clk):Prop:=∀n:Int,cs.any (rg2 n)=true
theorem qnoz{c:Clk}{N:Nat}(hd:c.1.toNat∣N)(hc:0<c.1)(n t:Int):rg2 (n+(N:Int)*t) c=rg2 n c:=by
 have d:c.1∣(N:Int)*t:=by
  have:=Int.natCast_dvd_natCast.mpr hd;rw[Int.toNat_of_nonneg (by omega)] at this;exact Int.dvd_trans this (Int.dvd_mul_right _ _)
 rw[Bool.eq_iff_iff,rg2_iff,rg2_iff,show n+(N:Int)*t-c.2=(n-c.2)+(N:Int)*t by omega];exact⟨fun h=>by
  have:=Int.dvd_sub h d;rwa [Int.add_sub_cancel] at this,fun h=>Int.dvd_add h d⟩
theorem covz{cs:List Clk}(hv:∀c∈cs,Valid c):(fmO cs).isNone=true↔CovZ cs:=by
 have hp:∀c∈cs,0<c.1:=fun c h=>(hv c h).1;rw[Option.isNone_iff_eq_none,qz4z hp];constructor
 ·intro h n;have hN:=qd0z hp;have hx:((n%(rnd cs:Nat)).toNat:Int)=n%(rnd cs:Nat):=Int.toNat_of_nonneg (Int.emod_nonneg _ (by omega));obtain⟨z,hz,hr⟩:=h (n%(rnd cs:Nat)).toNat;refine List.any_eq_true.mpr ⟨z,hz,?_⟩;rw[←qbqz (hv z hz),hx] at hr;have e:=Int.mul_ediv_add_emod n (rnd cs:Nat);rw[show n=n%(rnd cs:Nat)+(rnd cs:Nat)*(n / (rnd cs:Nat)) by omega,qnoz (qdzz hz) (hp z hz)];exact hr
 ·intro h x;obtain⟨z,hz,hr⟩:=List.any_eq_true.mp (h (x:Int));exact⟨z,hz,by rw[←qbqz (hv z hz)];exact hr⟩
def Once(cs:List Clk):Prop:=∀n:Int,(cs.filter (rg2 n)).length=1
theorem qnpz{c:Clk}:rg2 c.2 c=true:=by
 rw[rg2_iff,Int.sub_self];exact Int.dvd_zero _
theorem Once.nodup{cs:List Clk}(h:Once cs):cs.Nodup:=by
 rw[List.nodup_iff_count];intro c;have h1:=h c.2;have:cs.count c≤(cs.filter (rg2 c.2)).length:=by
  rw[←List.countP_eq_length_filter];unfold List.count;refine List.countP_mono_left fun x _ hx=>?_;rw[eq_of_beq hx];exact qnpz
 omega
theorem q0pz{c:Clk}{os:List Clk}(hc:0<c.1)(h:Once os)(n:Int):((os.map (strc c)).filter (rg2 n)).length=if rg2 n c=true then 1 else 0:=by
 by_cases q:rg2 n c=true
 ·rw[if_pos q];obtain⟨m,hm⟩:=rg2_iff.mp q;rw[List.filter_map,List.length_map,←h m];refine congrArg List.length (List.filter_congr fun y _=>?_);show rg2 n (strc c y)=rg2 m y;rw[show n=c.2+c.1*m by omega];exact q0nz hc m
 ·rw[if_neg q,List.length_eq_zero_iff,List.filter_eq_nil_iff];intro z hz e;obtain⟨y,_,rfl⟩:=List.mem_map.mp hz;refine q (rg2_iff.mpr ?_);have d:=rg2_iff.mp e;have d1:c.1∣n-(c.2+c.1*y.2):=Int.dvd_trans (Int.dvd_mul_right c.1 y.1) d;have:=Int.dvd_add d1 (Int.dvd_mul_right c.1 y.2);rwa [show n-(c.2+c.1*y.2)+c.1*y.2=n-c.2 by omega] at this
theorem qnqz{cs:List Clk}{i:Nat}{c:Clk}(hi:cs[i]?=some c):cs=cs.take i++c::cs.drop (i+1):=by
 obtain⟨hl,e⟩:=List.getElem?_eq_some_iff.mp hi;rw[←e,List.getElem_cons_drop,List.take_append_drop]
theorem qfez{cs os:List Clk}{i:Nat}{c:Clk}(hc:0<c.1)(hi:cs[i]?=some c)(ho:Once os)(n:Int):((rest1 cs i++os.map (strc c)).filter (rg2 n)).length=(cs.filter (rg2 n)).length:=by
 have e:(cs.filter (rg2 n)).length=((cs.take i).filter (rg2 n)).length+((if rg2 n c=true then 1 else 0)+((cs.drop (i+1)).filter (rg2 n)).length):=by
  conv=>lhs;rw[qnqz hi]
  rw[List.filter_append,List.length_append];by_cases q:rg2 n c=true
  ·rw[List.filter_cons_of_pos q,List.length_cons,if_pos q];omega
  ·rw[List.filter_cons_of_neg q,if_neg q];omega
 rw[e,List.filter_append,List.length_append,q0pz hc ho];unfold rest1;rw[List.filter_append,List.length_append];omega
theorem qnrz{cs:List Clk}(ok:ClOk 1000 cs)(h:exB cs=true):Once cs:=fun n=>by
 have hv:∀c∈cs,Valid c:=fun c hc=>(ok c hc).1;have hN:=qd0z fun z hz=>(hv z hz).1;have hx:((n%(rnd cs:Nat)).toNat:Int)=n%(rnd cs:Nat):=Int.toNat_of_nonneg (Int.emod_nonneg _ (by omega));have hlt:(n%(rnd cs:Nat)).toNat<rnd cs:=by
  have:=Int.emod_lt_of_pos n (show (0:Int)<(rnd cs:Nat) by omega);omega
 have h1:=q0dz ok h _ hlt;unfold cntN at h1;rw[hx] at h1;rw[←h1];refine congrArg List.length (List.filter_congr fun c hc=>?_);rw[←qbqz (hv c hc)];have e:=Int.mul_ediv_add_emod n (rnd cs:Nat);conv=>lhs;rw[show n=n%(rnd cs:Nat)+(rnd cs:Nat)*(n / (rnd cs:Nat)) by omega]
 exact qnoz (qdzz hc) (hv c hc).1 _ _
theorem q0qz{α:Type}{p:α->Bool}{l:List α}{i j:Nat}{a b:α}(hij:i<j)(ha:l[i]?=some a)(hb:l[j]?=some b)(pa:p a=true)(pb:p b=true):2≤(l.filter p).length:=by
 rw[←List.take_append_drop j l,List.filter_append,List.length_append];have h1:0<((l.take j).filter p).length:=List.length_pos_of_mem (List.mem_filter.mpr ⟨List.mem_of_getElem? (i:=i) (by rw[List.getElem?_take,if_pos hij];exact ha),pa⟩);have h2:0<((l.drop j).filter p).length:=List.length_pos_of_mem (List.mem_filter.mpr ⟨List.mem_of_getElem? (i:=0) (by rw[List.getElem?_drop];exact hb),pb⟩);omega
theorem qhiz{cs:List Clk}(ok:ClOk 1000 cs)(h:Once cs):exB cs=true:=by
 have hv:∀c∈cs,Valid c:=fun c hc=>(ok c hc).1;have hpos:=qd0z fun z hz=>(hv z hz).1;have hone:∀x:Nat,cntN cs x=1:=fun x=>by
  unfold cntN;rw[←h (x:Int)];exact congrArg List.length (List.filter_congr fun c hc=>(qbqz (hv c hc) _).symm)
 have hs:=qhhz hpos (cs:=cs) fun c hc=>⟨hv c hc,qdzz hc⟩;have ht:topN cs (rnd cs)=rnd cs:=by
  rw[←hs,show (List.range (rnd cs)).map (cntN cs)=List.replicate (rnd cs) 1 from List.eq_replicate_iff.mpr ⟨by simp,fun b hb=>by
   obtain⟨x,_,rfl⟩:=List.mem_map.mp hb;exact hone x⟩,List.sum_replicate_nat,Nat.mul_one]
 have hcl:clashO cs=none:=by
  cases e:clashO cs with
  |none=>rfl
  |some v=>
   exfalso;unfold clashO at e;obtain⟨i,_,e1⟩:=List.exists_of_findSome?_eq_some e;unfold rowO at e1;obtain⟨j,_,e2⟩:=List.exists_of_findSome?_eq_some e1;unfold pairO at e2;cases ha:cs[i]? with
   |none=>rw[ha] at e2;cases e2
   |some a=>
    cases hb:cs[i+1+j]? with
    |none=>rw[ha,hb] at e2;cases e2
    |some b=>
     rw[ha,hb] at e2;have e2:(meetO a b).map (fun m=>(i,i+1+j,m.2))=some v:=e2;obtain⟨m,hm,_⟩:=Option.map_eq_some_iff.mp e2;obtain⟨_,m1,_,m3,m4⟩:=qxwz hm;have:=q0qz (p:=rg2 m.2) (show i<i+1+j by omega) ha hb (rg2_iff.mpr m3) (rg2_iff.mpr m4);rw[h] at this;omega
 unfold exB shT shB;rw[ht,hcl,Nat.gcd_self,Nat.div_self hpos];rfl
end My
namespace My
open PySem L2 L3
structure Made(cs:List Clk):Prop where
 v:∀c∈cs,Valid c
 n:∃N:Nat,0<N/\N≤2^(cs.length-1)/\∀c∈cs,c.1.toNat∣N
 once:Once cs
 top:cs=[(1,0)]∨∃M:Int,(∀c∈cs,c.1≤M)/\2≤(cs.filter fun c=>c.1==M).length
theorem Made.perm{cs cs':List Clk}(h:Made cs)(p:cs.Perm cs'):Made cs':=by
 refine⟨fun c hc=>h.v c (p.mem_iff.mpr hc),?_,fun n=>?_,?_⟩
 ·obtain⟨N,h1,h2,h3⟩:=h.n;exact⟨N,h1,by rw[←p.length_eq];exact h2,fun c hc=>h3 c (p.mem_iff.mpr hc)⟩
 ·rw[←(p.filter _).length_eq];exact h.once n
 ·rcases h.top with e|⟨M,h1,h2⟩
  ·rw[e] at p;exact .inl (List.singleton_perm.mp p).symm
  ·exact .inr ⟨M,fun c hc=>h1 c (p.mem_iff.mpr hc),by rw[←(p.filter _).length_eq];exact h2⟩
theorem q0rz{k t0:Nat}(h:t0<k){p:Nat->Bool}(hp:∀t,t<k->(p t=true↔t=t0)):((List.range k).filter p).length=1:=by
 have e:(List.range k).filter p=(List.range k).filter (· == t0):=List.filter_congr fun t ht=>by
  rw[Bool.eq_iff_iff,hp t (List.mem_range.mp ht),beq_iff_eq]
 rw[e,←List.countP_eq_length_filter];show (List.range k).count t0=1;have h1:0<(List.range k).count t0:=List.count_pos_iff.mpr (List.mem_range.mpr h);have h2:=List.nodup_iff_count.mp (List.nodup_range (n:=k)) t0;omega
theorem qffz{k:Nat}(hk:0<k):Once (parts (1,0) k):=fun n=>by
 unfold parts;rw[List.filter_map,List.length_map];have k0:(0:Int)<(k:Int):=by omega
 have m0:=Int.emod_nonneg n (show (k:Int)≠0 by omega);have m1:=Int.emod_lt_of_pos n k0;refine q0rz (t0:=(n%(k:Int)).toNat) (by omega) fun t ht=>?_;show ((n-(0+1*(t:Int)))%(1*(k:Int))==0)=true↔_;rw[Int.zero_add,Int.one_mul,Int.one_mul,beq_iff_eq,←Int.emod_eq_emod_iff_emod_sub_eq_zero,Int.emod_eq_of_lt (show (0:Int)≤(t:Int) by omega) (by omega)];omega
theorem qfgz(c:Clk)(k:Nat):(parts (1,0) k).map (strc c)=parts c k:=by
 unfold parts;rw[List.map_map];refine List.map_congr_left fun t _=>?_;show (c.1*(1*(k:Int)),c.2+c.1*(0+1*(t:Int)))=_;rw[Int.one_mul,Int.one_mul,Int.zero_add]
theorem Made.split{cs:List Clk}{i k:Nat}{c:Clk}(h:Made cs)(hi:cs[i]?=some c)(k2:2≤k):Made (cs.eraseIdx i++parts c k):=by
 have hm:=List.mem_of_getElem? hi;have vc:=h.v c hm;have il:i<cs.length:=(List.getElem?_eq_some_iff.mp hi).1;have le:(cs.eraseIdx i).length=cs.length-1:=List.length_eraseIdx_of_lt il;refine⟨fun z hz=>?_,?_,fun n=>?_,.inr ?_⟩
 ·rcases List.mem_append.mp hz with z1|z1
  ·exact h.v z (List.mem_of_mem_eraseIdx z1)
  ·exact (qfdz vc z1).1
 ·obtain⟨N,h1,h2,h3⟩:=h.n;refine⟨N*k,Nat.mul_pos h1 (by omega),?_,fun z hz=>?_⟩
  ·rw[List.length_append,le,q3z,show cs.length-1+k-1=(cs.length-1)+(k-1) by omega,Nat.pow_add];have:k-1<2^(k-1):=Nat.lt_two_pow_self;exact Nat.mul_le_mul h2 (by omega)
  ·rcases List.mem_append.mp hz with z1|z1
   ·exact Nat.dvd_trans (h3 z (List.mem_of_mem_eraseIdx z1)) (Nat.dvd_mul_right _ _)
   ·rw[(qfdz vc z1).2,Int.toNat_mul (by have:=vc.1;omega) (by omega),Int.toNat_natCast];exact Nat.mul_dvd_mul_right (h3 c hm) k
 ·rw[List.eraseIdx_eq_take_drop_succ,←qfgz];have:=qfez vc.1 hi (qffz (show 0<k by omega)) n;rw[h.once n] at this;exact this
 ·have pe:∀z∈parts c k,z.1=c.1*(k:Int):=fun z hz=>(qfdz vc hz).2;have gt:c.1<c.1*(k:Int):=by
   have h0:=vc.1;have:c.1*2≤c.1*(k:Int):=Int.mul_le_mul_of_nonneg_left (by omega) (by omega);omega
  have pl:((parts c k).filter fun z=>z.1==c.1*(k:Int)).length=k:=by
   rw[List.filter_eq_self.mpr fun z hz=>by rw[pe z hz];exact beq_self_eq_true _,q3z]
  rcases h.top with e|⟨M,h1,h2⟩
  ·rw[e] at hi il;have i0:i=0:=by simpa using il
   rw[e,i0];refine⟨c.1*(k:Int),fun z hz=>?_,?_⟩
   ·have hz:z∈parts c k:=by simpa using hz
    rw[pe z hz];exact Int.le_refl _
   ·show 2≤((parts c k).filter fun z=>z.1==c.1*(k:Int)).length;omega
  ·rcases Int.le_total M (c.1*(k:Int)) with w|w
   ·refine⟨c.1*(k:Int),fun z hz=>?_,?_⟩
    ·rcases List.mem_append.mp hz with z1|z1
     ·exact Int.le_trans (h1 z (List.mem_of_mem_eraseIdx z1)) w
     ·rw[pe z z1];exact Int.le_refl _
    ·rw[List.filter_append,List.length_append,pl];omega
   ·refine⟨M,fun z hz=>?_,?_⟩
    ·rcases List.mem_append.mp hz with z1|z1
     ·exact h1 z (List.mem_of_mem_eraseIdx z1)
     ·rw[pe z z1];exact w
    ·rw[List.filter_append,List.length_append];have hne:(c.1==M)=false:=by
      rw[beq_eq_false_iff_ne];omega
     have:((cs.eraseIdx i).filter fun z=>z.1==M).length=(cs.filter fun z=>z.1==M).length:=by
      have e1:cs=cs.take i++c::cs.drop (i+1):=by
       rw[←(List.getElem?_eq_some_iff.mp hi).2,←List.drop_eq_getElem_cons il,List.take_append_drop]
      conv=>rhs;rw[e1]
      rw[List.eraseIdx_eq_take_drop_succ,List.filter_append,List.filter_append,List.filter_cons,hne];rfl
     omega
theorem Made.le{cs:List Clk}{c:Clk}{j:Nat}(h:Made cs)(hl:cs.length≤j+1)(hc:c∈cs):c.1≤((2^j:Nat):Int):=by
 obtain⟨N,h1,h2,h3⟩:=h.n;have:=Nat.le_of_dvd h1 (h3 c hc);have h4:2^(cs.length-1)≤2^j:=Nat.pow_le_pow_right (by decide) (by omega);have h0:=(h.v c hc).1;omega
theorem q0sz:Made [(1,0)]:=by
 refine⟨fun c hc=>?_,⟨1,by decide,by decide,fun c hc=>?_⟩,fun n=>?_,.inl rfl⟩
 ·simp at hc;subst hc;exact⟨by decide,by decide,by decide⟩
 ·simp at hc;subst hc;exact Nat.dvd_refl 1
 ·have:rg2 n (1,0)=true:=by
   show ((n-0)%1==0)=true;rw[Int.emod_one];rfl
  rw[List.filter_cons,if_pos this];rfl
def qc2z:Sp3:=fun ds G Q=>∃(p:Addr) (l m:Int),ds=[.obj p,.int l,.int m]/\G p=some .pen/\(l≤m/\1≤m/\m≤8)/\∀q cs G',Made cs->Rise cs->l≤(cs.length:Int)->(cs.length:Int)≤m->1≤cs.length->New G q (.lst (cs.map cD)) G'->Q (.obj q) G'
abbrev qnsz:=qwvz
def PartsAgain2(G:Gp)(p:Addr)(l m:Int)(k:Nat):S3->Gp->Prop:=fun τ' G'=>∃m',m' < k/\∃q cs x4 x5 x6,τ'=[some (.obj p),some (.int l),some (.int m),some (.obj q),x4,x5,x6]/\New G q (.lst (cs.map cD)) G'/\Made cs/\1≤cs.length/\(cs.length:Int)≤m/\(m':Int)+cs.length=m
theorem q0tz{G G1:Gp}{D3:Ends3}{p:Addr}{l m:Int}{q1:Addr}{cs:List Clk}{x5 x6:Option D}{k:Nat}{k1:Int}(hp:G p=some .pen)(hm:m≤8)
  (n1:New G q1 (.lst (cs.map cD)) G1) (ok:Made cs) (l1:1≤cs.length) (l2:(cs.length:Int)<m) (hk:(k:Int)+cs.length=m) (h1:2≤k1) (h2:k1≤5) (h3:(cs.length:Int)-1+k1≤m)
  (hnx:D3.nx=PartsAgain2 G p l m k):qlsz D3 [some (.obj p),some (.int l),some (.int m),some (.obj q1),some (.int k1),x5,x6] G1:=by
 have hp1:=n1.sub p _ hp;have e1:=n1.at_;refine⟨⟨q1,_,rfl,e1⟩,_,e1,p,_,rfl,hp1,⟨by rw[List.length_map];omega,qmz (by rw[List.length_map];omega) (by rw[List.length_map];omega)⟩,fun r a b=>?_⟩;rw[List.length_map] at b;obtain⟨c,ec,hc,_⟩:=qg2z cD a b;obtain⟨s,r'⟩:=c;refine⟨_,r.toNat,cD (s,r'),e1,⟨by omega,by omega⟩,by rw[List.length_map];exact qlqz a b,by rw[List.getElem?_map,ec];rfl,rfl,?_⟩;rw[qg5z];have n2:New G q1 (.lst ((cs.eraseIdx r.toNat).map cD)) (upd3 G1 q1 (.lst ((cs.eraseIdx r.toNat).map cD))):=wrote n1;generalize upd3 G1 q1 (.lst ((cs.eraseIdx r.toNat).map cD))=G2 at n2;have hv:=ok.v _ hc;have hs:s≤((2^6:Nat):Int):=ok.le (j:=6) (by omega) hc;have hs:s≤64:=hs;have hv1:0<s:=hv.1;have hlen:(cs.eraseIdx r.toNat).length=cs.length-1:=List.length_eraseIdx_of_lt (by omega);have hmul:s*k1≤320:=by
  have h4:s*k1≤64*k1:=Int.mul_le_mul_of_nonneg_right hs (by omega);omega
 refine⟨⟨qmz (by omega) (by omega),qmz (by omega) (by omega)⟩,fun hg=>?_,fun hg=>?_⟩
 ·have hg':1000<s*k1:=of_decide_eq_true hg;omega
 ·refine⟨⟨by omega,by omega⟩,?_,?_⟩
  ·show (rngL 0 k1.toNat).length≤sizeLine;rw[qbkz];exact line1000 (by omega)
  refine qaez (fun τ=>∃x,τ=[x,some (.int s),some (.int k1),some (.int r')]) (fun i:Nat=>D.int (0+(i:Int))) (fun _=>true) (fun i:Nat=>cD (s*k1,r'+s*(0+(i:Int)))) trivial (List.range k1.toNat) [] _ ⟨none,rfl⟩ ?_ ?_
  ·rintro i hi τ K1 K2 ⟨x,rfl⟩ g1 g2;have hi':(i:Int)<k1:=by have:=List.mem_range.mp hi;omega
   have b1:Big s:=qmz (by omega) (by omega);refine⟨fun _=>⟨⟨b1,qmz (by omega) (by omega)⟩,⟨b1,qmz (by omega) (by omega)⟩,?_⟩,nofun⟩;exact g1 rfl _ ⟨_,rfl⟩
  ·intro q3 G3 n3;rw[List.nil_append,List.filter_eq_self.mpr (fun _ _=>rfl)] at n3;have em:((List.range k1.toNat).map fun i:Nat=>cD (s*k1,r'+s*(0+(i:Int))))=(parts (s,r') k1.toNat).map cD:=by
    unfold parts;rw[List.map_map];refine List.map_congr_left fun i _=>?_;show cD (s*k1,r'+s*(0+(i:Int)))=cD (s*((k1.toNat:Nat):Int),r'+s*(i:Int));rw[Int.zero_add,Int.toNat_of_nonneg (by omega)]
   rw[em] at n3;refine⟨_,_,n3.sub _ _ n2.at_,n3.at_,?_,fun q4 G4 n4=>?_⟩
   ·rw[List.length_map,List.length_map,q3z,hlen];exact line1000 (by omega)
   rw[←List.map_append] at n4;show D3.nx _ G4;rw[hnx];have s3:=n2.sub.trans n3.sub;have hl':((cs.eraseIdx r.toNat)++parts (s,r') k1.toNat).length=cs.length-1+k1.toNat:=by
    rw[List.length_append,hlen,q3z]
   exact⟨(m-((cs.length:Int)-1+k1)).toNat,by omega,q4,_,_,_,_,rfl,⟨s3.of_none n4.non,s3.trans n4.sub,n4.at_⟩,ok.split ec (by omega),by omega,by omega,by omega⟩
theorem q0uz:∀ds G Q,qc2z ds G Q->qnsz (endsOf Q) (start3 ["pen","least","most","clocks","k","step","rest"] ds) G:=by
 rintro ds G Q ⟨p,l,m,rfl,hp,hm,q⟩;intro q0 G0 n0;refine⟨fun k τ G'=>∃q cs x4 x5 x6,τ=[some (.obj p),some (.int l),some (.int m),some (.obj q),x4,x5,x6]/\New G q (.lst (cs.map cD)) G'/\Made cs/\1≤cs.length/\(cs.length:Int)≤m/\(k:Int)+cs.length=m,⟨(m-1).toNat,q0,[(1,0)],_,_,_,rfl,n0,q0sz,by decide,by simp;omega,by simp;omega⟩,?_⟩;rintro k τ G1 ⟨q1,cs,x4,x5,x6,rfl,n1,ok,l1,l2,hk⟩;have hp1:=n1.sub p _ hp;have e1:=n1.at_;have stop:l≤(cs.length:Int)->qg7z (endsOf Q) [some (.obj p),some (.int l),some (.int m),some (.obj q1),x4,x5,x6] G1:=fun hl=>by
  refine⟨_,qg4z n1.at_,by rw[List.length_map];omega,qe6z,fun p2 mss G2 hp2 hpm hr=>?_⟩;obtain⟨cs',rfl,_⟩:=qwqz hpm;rw[qb6z] at hp2;have hp':cs'.Perm cs:=by
   have back:∀us:List Clk,(us.map toL).map (fun l=>((l.getD 0 0,l.getD 1 0):Clk))=us:=fun us=>by
    rw[List.map_map];exact List.map_id _
   have:=hpm.map (fun l:List Int=>((l.getD 0 0,l.getD 1 0):Clk));rwa [back,back] at this
  exact qiz (q p2 cs' _ (ok.perm hp'.symm) (qloz hr (List.pairwise_map.mpr ((ok.perm hp'.symm).once.nodup.imp fun h e=>h (qlnz e)))) (by rw[hp'.length_eq];exact hl) (by rw[hp'.length_eq];exact l2) (by rw[hp'.length_eq];exact l1) ⟨n1.sub.of_none hp2.non,n1.sub.trans hp2.sub,hp2.at_⟩)
 have go:(cs.length:Int)<m->qltz { endsOf Q with nx:=PartsAgain2 G p l m k,ct:=PartsAgain2 G p l m k,bk:=qg7z (endsOf Q)} [some (.obj p),some (.int l),some (.int m),some (.obj q1),x4,x5,x6] G1:=by
  intro hlt;refine⟨p,6,rfl,hp1,⟨by decide,qmz (by decide) (by decide)⟩,fun r h1 h2=>?_⟩;obtain⟨k0,hk0,ek⟩:=qlmz (ns:=[2,2,3,2,3,5]) h1 h2;refine⟨.int k0,ek,_,e1,?_⟩;have hk2:2≤k0/\k0≤5:=by simp at hk0;omega
  refine q0tz hp (by omega) n1 ok l1 hlt hk ?_ ?_ ?_ rfl
  ·rw[List.length_map];split<;>split<;>omega
  ·rw[List.length_map];split<;>split<;>omega
  ·rw[List.length_map];split<;>split<;>omega
 have hll:((cs.map cD).length:Int)=(cs.length:Int):=by rw[List.length_map]
 refine⟨_,e1,fun h=>⟨fun _=>go ?_,nofun⟩,fun h=>⟨p,4,rfl,hp1,⟨by decide,qmz (by decide) (by decide)⟩,fun r a b=>⟨fun h2=>⟨_,e1,fun h3=>go ?_,fun h3=>stop ?_⟩,fun h2=>⟨nofun,fun _=>stop ?_⟩⟩⟩⟩
 ·have h':((cs.map cD).length:Int)<l:=of_decide_eq_true h;omega
 ·have h':((cs.map cD).length:Int)<m:=of_decide_eq_true h3;omega
 ·have h':¬((cs.map cD).length:Int)<l:=of_decide_eq_false h;omega
 ·have h':¬((cs.map cD).length:Int)<l:=of_decide_eq_false h;omega
def Small(cs:List Clk):Prop:=(∀c∈cs,c.1≤12)∨∃N:Nat,0<N/\N≤1000/\∀c∈cs,c.1.toNat∣N
theorem Small.sub{cs cs':List Clk}(h:Small cs)(hs:∀c∈cs',c∈cs):Small cs':=by
 rcases h with h|⟨N,h1,h2,h3⟩
 ·exact .inl fun c hc=>h c (hs c hc)
 ·exact .inr ⟨N,h1,h2,fun c hc=>h3 c (hs c hc)⟩
def ClB(cs:List Clk):Prop:=ClOk 1000 cs/\Small cs/\∀c∈cs,c.1≤64
def qd2z:Sp3:=fun ds G Q=>∃(p:Addr),ds=[.obj p,.int 8]/\G p=some .pen/\∀cs,ClB cs->cs.length≤8->Rise cs->Q (csD cs) G
def q0vz:TS3:=sSeq (sIf (eTest (eOp (rEq3 false) (eVar 2) (eC (.int 0)))) (sAsg (eComp ["turn"] [0] (iRng1 (aCons (eCall qadz (aCons (eVar 0) (aCons (eOp rAdd3 (eVar 1) (eC (.int 1))) (aNil)))) (aNil))) (hName 0) (tNoTest3) (eCall qcsz (aCons (eVar 1) (aCons (eC (.int 12)) (aNil))))) (hName 3)) (sIf (eTest (eOp (rEq3 false) (eVar 2) (eC (.int 1)))) (sSeq (sAsg (eLst (aCons (eC (.int 2)) (aCons (eC (.int 3)) (aCons (eC (.int 4)) (aCons (eC (.int 6)) (aCons (eC (.int 8)) (aCons (eC (.int 12)) (aCons (eC (.int 24)) (aNil))))))))) (hName 4)) qwzz) (sSeq (sAsg (eCall qc2z (aCons (eVar 0) (aCons (eC (.int 1)) (aCons (eCB qc7z (aCons (eC (.int 1)) (aCons (eOp rSub3 (eVar 1) (eC (.int 1))) (aNil)))) (aNil))))) (hName 3)) qw0z))) qg8z
def qntz:TS3:=sSeq (sAsg (eCall qadz (aCons (eVar 0) (aCons (eC (.int 5)) (aNil)))) (hName 2)) q0vz
theorem qfhz{G G1:Gp}{Q:V3}{p:Addr}{q1:Addr}{cs:List Clk}{x2 x4 x5 x6:Option D}(q:∀cs,ClB cs->cs.length≤8->Rise cs->Q (csD cs) G)
  (n1:New G q1 (.lst (cs.map cD)) G1) (ok:ClB cs) (hl:cs.length≤60):qg8z (endsOf Q) [some (.obj p),some (.int 8),x2,some (.obj q1),x4,x5,x6] G1:=by
 refine⟨_,qg4z n1.at_,by rw[List.length_map];exact hl,qe6z,fun p1 mss G2 hp1 hmem nd hr hlen=>?_⟩;obtain⟨cs',rfl,hmem,hr,hlen⟩:=qlpz hmem nd hr hlen;rw[qb6z] at hp1;refine⟨_,hp1.at_,?_⟩;show (endsOf Q).rt (.tup (cut3 (cs'.map cD) none (some ((8:Nat):Int)))) G2;rw[qdkz,qlkz];have sb:∀c∈cs'.take 8,c∈cs:=fun c hc=>(hmem c).mp (List.mem_of_mem_take hc);refine qazz (n1.sub.trans hp1.sub) (q _ ⟨fun c hc=>ok.1 c (sb c hc),ok.2.1.sub sb,fun c hc=>ok.2.2 c (sb c hc)⟩ ?_ (hr.take 8));rw[List.length_take];omega
theorem q0wz:∀ds G Q,qd2z ds G Q->qntz (endsOf Q) (start3 ["pen","most","way","found","steps","turn","step"] ds) G:=by
 rintro ds G Q ⟨p,rfl,hp,q⟩;refine⟨p,5,rfl,hp,⟨by decide,qmz (by decide) (by decide)⟩,fun way w1 w2=>?_⟩;refine⟨_,_,rfl,rfl,Nat.zero_le _,fun _=>?_,fun _=>⟨_,_,rfl,rfl,Nat.zero_le _,fun _=>?_,fun _=>?_⟩⟩
 ·refine⟨p,_,rfl,hp,⟨by omega,qmz (by omega) (by omega)⟩,fun n h1 h2=>⟨⟨by omega,by omega⟩,?_,?_⟩⟩
  ·show (rngL 0 n.toNat).length≤sizeLine;rw[qbkz];exact line1000 (by omega)
  refine qg6z (fun ds acc τ G'=>(∃cs:List Clk,acc=cs.map cD/\(∀c∈cs,Valid c/\c.1≤12)/\cs.length+ds.length≤50)/\G'=G/\∃x,τ=[x,some (.obj p)]) (fun _ _ _ _ _=>trivial) ?_ ?_ _ _ _ _ ⟨⟨[],rfl,(fun c hc=>nomatch hc),?_⟩,rfl,none,rfl⟩
  ·rintro d ds acc τ G' K1 K2 ⟨⟨cs,rfl,ok,hl⟩,rfl,x,rfl⟩ g1 g2;refine⟨fun _=>⟨p,12,rfl,hp,⟨by decide,by decide⟩,fun c hv hc=>?_⟩,nofun⟩;refine g1 _ _ _ ⟨⟨cs++[c],by simp,fun c' hc'=>?_,?_⟩,rfl,_,rfl⟩
   ·rcases List.mem_append.mp hc' with z|z
    ·exact ok c' z
    ·have:c'=c:=by simpa using z
     rw[this];exact⟨hv,hc⟩
   ·rw[List.length_append,List.length_singleton];simp only[List.length_cons] at hl;omega
  ·rintro acc τ G' ⟨⟨cs,rfl,ok,hl⟩,rfl,x,rfl⟩;intro q1 G1 n1;exact qfhz q n1 ⟨fun c hc=>⟨(ok c hc).1,by have:=(ok c hc).2;omega⟩,.inl fun c hc=>(ok c hc).2,fun c hc=>by have:=(ok c hc).2;omega⟩ (by simp at hl;omega)
  ·show ([]:List Clk).length+(rngL 0 n.toNat).length≤50;rw[qbkz];simp;omega
 ·intro st G0 hst q1 G1 n1;have hp1:=n1.sub _ _ (hst.sub _ _ hp);refine⟨p,_,rfl,hp1,⟨by omega,qmz (by omega) (by omega)⟩,fun n h1 h2=>⟨⟨by omega,by omega⟩,?_⟩⟩;refine qafz (fun ds τ G'=>∃(cs:List Clk) (x5 x6:Option D),τ=[some (.obj p),some (.int 8),some (.int way),some (.obj q1),some (.obj st),x5,x6]/\New G q1 (.lst (cs.map cD)) G'/\G' st=some (.lst (([2,3,4,6,8,12,24]:List Int).map D.int))/\(∀c∈cs,Valid c/\c.1∣24)/\cs.length+ds.length≤50) (fun _ _ _ _=>trivial) ?_ ?_ _ _ _ ?_
  ·rintro d ds τ G2 N ⟨cs,x5,x6,rfl,n2,e3,ok,hl⟩ hN;have hp2:=n2.sub p _ hp;have e2:=n2.at_;refine⟨p,7,rfl,hp2,⟨by decide,qmz (by decide) (by decide)⟩,fun r a b=>?_⟩;obtain⟨stp,hm',es⟩:=qlmz (ns:=[2,3,4,6,8,12,24]) a b;have hs:(2≤stp/\stp≤24)/\stp∣24:=by
    simp at hm';rcases hm' with rfl|rfl|rfl|rfl|rfl|rfl|rfl<;>decide
   refine⟨_,.int stp,e3,es,⟨q1,_,rfl,e2⟩,p,stp,rfl,hp2,⟨by omega,qmz (by omega) (by omega)⟩,fun r2 h3 h4=>?_⟩;simp only[List.length_cons] at hl;refine⟨_,e2,by rw[List.length_map];exact Nat.lt_of_le_of_lt (show cs.length≤50 by omega) (by decide),?_⟩;have hne:st≠q1:=fun z=>by
    rw[z,e2] at e3;cases cs with
    |nil=>simp at e3
    |cons c cs=>simp[cD] at e3
   refine hN _ _ ⟨cs++[(stp,r2)],_,_,rfl,⟨n2.non,Sub.updN n2.sub n2.non,?_⟩,?_,fun c hc=>?_,?_⟩
   ·rw[qajz,List.map_append];rfl
   ·rw[qabz hne];exact e3
   ·rcases List.mem_append.mp hc with hc|hc
    ·exact ok c hc
    ·have:c=(stp,r2):=by simpa using hc
     subst this;exact⟨⟨by show 0<stp;omega,h3,h4⟩,hs.2⟩
   ·rw[List.length_append,List.length_singleton];omega
  ·rintro τ G2 ⟨cs,x5,x6,rfl,n2,e3,ok,hl⟩;refine qfhz q n2 ⟨fun c hc=>⟨(ok c hc).1,?_⟩,.inr ⟨24,by decide,by decide,fun c hc=>?_⟩,fun c hc=>by have:=Int.le_of_dvd (by decide) (ok c hc).2;omega⟩ (by simp at hl;omega)
   ·have:=Int.le_of_dvd (by decide) (ok c hc).2;omega
   ·have h0:=(ok c hc).1.1;refine Int.natCast_dvd_natCast.mp ?_;rw[Int.toNat_of_nonneg (by omega)];exact (ok c hc).2
  ·refine⟨[],_,_,rfl,⟨hst.sub.of_none n1.non,hst.sub.trans n1.sub,n1.at_⟩,n1.sub _ _ hst.at_,(fun c hc=>nomatch hc),?_⟩;show ([]:List Clk).length+(rngL 0 n.toNat).length≤50;rw[qbkz];simp;omega
 ·refine⟨p,1,_,rfl,hp,⟨by decide,by decide,by decide⟩,fun q1 cs G1 ok _ _ l2 l1 n1=>?_⟩;have l2:(cs.length:Int)≤7:=l2;have l3:cs.length≤7:=by omega
  have hp1:=n1.sub _ _ hp;obtain⟨N,N1,N2,N3⟩:=ok.n;have N64:N≤64:=Nat.le_trans N2 (Nat.le_trans (Nat.pow_le_pow_right (by decide) (show cs.length-1≤6 by omega)) (by decide));have c64:∀c∈cs,c.1≤64:=fun c hc=>by
   have:c.1≤((2^6:Nat):Int):=ok.le (j:=6) (by omega) hc;exact this
  have cl:∀c∈cs,Valid c/\c.1≤1000:=fun c hc=>⟨ok.v c hc,by
   have:=c64 c hc;omega⟩
  have pop:∀{q1:Addr} {cs:List Clk} {G1:Gp},ClB cs->1≤cs.length->cs.length≤51->New G q1 (.lst (cs.map cD)) G1->qluz { endsOf Q with nx:=qg8z (endsOf Q)} [some (.obj p),some (.int 8),some (.int way),some (.obj q1),none,none,none] G1:=by
   intro q1 cs G1 ok l1 l3 n1;refine⟨_,_,rfl,rfl,Nat.zero_le _,fun _=>?_,fun _=>qfhz q n1 ok (by omega)⟩;have e1:=n1.at_;refine⟨⟨q1,_,rfl,e1⟩,_,e1,p,_,rfl,n1.sub _ _ hp,⟨by rw[List.length_map];omega,qmz (by rw[List.length_map];omega) (by rw[List.length_map];omega)⟩,fun r a b=>?_⟩;rw[List.length_map] at b;obtain⟨c,ec,hc,_⟩:=qg2z cD a b;refine⟨_,r.toNat,cD c,e1,⟨by omega,by omega⟩,by rw[List.length_map];exact qlqz a b,by rw[List.getElem?_map,ec];rfl,?_⟩;rw[qg5z];exact qfhz q (wrote n1) ⟨fun c hc=>ok.1 c (List.mem_of_mem_eraseIdx hc),ok.2.1.sub fun c hc=>List.mem_of_mem_eraseIdx hc,fun c hc=>ok.2.2 c (List.mem_of_mem_eraseIdx hc)⟩ (Nat.le_trans (qf0z cs _) (by omega))
  refine⟨_,_,rfl,rfl,Nat.zero_le _,fun _=>?_,fun _=>pop ⟨cl,.inr ⟨N,N1,by omega,N3⟩,c64⟩ l1 (by omega) n1⟩;refine⟨p,6,rfl,hp1,⟨by decide,by decide⟩,fun c hv hc=>?_⟩;intro q2 G2 n2;refine⟨_,_,n2.sub _ _ n1.at_,n2.at_,?_,fun q3 G3 n3=>?_⟩
  ·rw[List.length_map];exact line1000 (by simp;omega)
  have n3':New G q3 (.lst ((cs++[c]).map cD)) G3:=⟨(n1.sub.trans n2.sub).of_none n3.non,(n1.sub.trans n2.sub).trans n3.sub,by rw[n3.at_,List.map_append];rfl⟩;have h0:=hv.1;have one:∀c':Clk,c'∈cs++[c]->c'∈cs∨c'=c:=fun c' hc'=>by
   rcases List.mem_append.mp hc' with z|z
   ·exact .inl z
   ·exact .inr (by simpa using z)
  refine pop ⟨fun c' hc'=>?_,.inr ⟨N*c.1.toNat,Nat.mul_pos N1 (by omega),?_,fun c' hc'=>?_⟩,fun c' hc'=>?_⟩ (by simp) (by simp;omega) n3'
  ·rcases one c' hc' with z|rfl
   ·exact cl c' z
   ·exact⟨hv,by omega⟩
  ·have:N*c.1.toNat≤64*6:=Nat.mul_le_mul N64 (by omega);omega
  ·rcases one c' hc' with z|rfl
   ·exact Nat.dvd_trans (N3 c' z) (Nat.dvd_mul_right _ _)
   ·exact Nat.dvd_mul_left _ _
  ·rcases one c' hc' with z|rfl
   ·exact c64 c' z
   ·omega
end My
namespace My
open PySem L2 L3
def whF(c:Clk)(k:Nat):Clk:=(c.1 / (k:Int),c.2)
def jnB(cs:List Clk)(c:Clk)(k:Nat):Bool:=decide (c.1%(k:Int)=0)&&(parts (whF c k) k).all fun z=>decide (z∈cs)
def jnP(cs:List Clk)(c:Clk)(k:Nat):List Int:=(parts (whF c k) k).map fun z=>((cs.idxOf z:Nat):Int)
def rawJ(cs:List Clk):List (List Int):=cs.flatMap fun c=>((twos (cs.length-1)).filter (jnB cs c)).map (jnP cs c)
theorem qhjz{cs:List Clk}{c:Clk}{k:Nat}(ok:∀z∈cs,Valid z)(hc:Valid c)(h2:2≤k)(h:jnB cs c k=true):(whF c k).1*(k:Int)=c.1/\Valid (whF c k)/\∀z∈parts (whF c k) k,z∈cs:=by
 unfold jnB at h;rw[Bool.and_eq_true,decide_eq_true_iff,List.all_eq_true] at h;obtain⟨h1,h3⟩:=h;have hd:(k:Int)∣c.1:=Int.dvd_of_emod_eq_zero h1;have e:c.1 / (k:Int)*(k:Int)=c.1:=Int.ediv_mul_cancel hd;have hm:∀z∈parts (whF c k) k,z∈cs:=fun z hz=>of_decide_eq_true (h3 z hz);have h0:=hc.1;have hp:0<c.1 / (k:Int):=Int.ediv_pos_of_pos_of_dvd h0 (by omega) hd;have hz:=ok _ (hm (c.1 / (k:Int)*(k:Int),c.2+c.1 / (k:Int)*((k-1:Nat):Int)) (List.mem_map.mpr ⟨k-1,List.mem_range.mpr (by omega),rfl⟩));have hz2:c.2+c.1 / (k:Int)*((k-1:Nat):Int)<c.1 / (k:Int)*(k:Int):=hz.2.2;rw[show ((k-1:Nat):Int)=(k:Int)-1 by omega,Int.mul_sub,Int.mul_one] at hz2;exact⟨e,⟨hp,hc.2.1,by show c.2<c.1 / (k:Int);omega⟩,hm⟩
theorem qnuz{p q r:Clk->Bool}(h1:∀z,p z=true->q z=false)(h2:∀z,p z=true->r z=false)(h3:∀z,q z=true->r z=false)(cs:List Clk):(cs.filter p).length+(cs.filter q).length+(cs.filter r).length≤cs.length:=by
 induction cs with
 |nil=>exact Nat.le_refl _
 |cons z zs ih=>
  rw[List.filter_cons,List.filter_cons,List.filter_cons,List.length_cons];have a1:=h1 z;have a2:=h2 z;have a3:=h3 z;cases hp:p z with
  |true=>
   rw[a1 hp,a2 hp];simp;omega
  |false=>
   cases hq:q z with
   |true=>
    rw[a3 hq];simp;omega
   |false=>
    cases hr:r z with
    |true=>
     simp;omega
    |false=>
     simp;omega
def tOf(k:Nat)(z:Clk):Int:=z.2 / (z.1 / (k:Int))
def sh(k t:Nat)(c:Clk):Clk:=(c.1,c.2+c.1 / (k:Int)*(t:Int))
theorem sh_t{c:Clk}{k t:Nat}(h:Valid (whF c k)):tOf k (sh k t c)=(t:Int):=by
 have h1:0<c.1 / (k:Int):=h.1;have h2:0≤c.2:=h.2.1;have h3:c.2<c.1 / (k:Int):=h.2.2;show (c.2+c.1 / (k:Int)*(t:Int)) / (c.1 / (k:Int))=(t:Int);rw[Int.add_mul_ediv_left _ _ (by omega),Int.ediv_eq_zero_of_lt h2 h3,Int.zero_add]
theorem qd3z{cs:List Clk}{k t:Nat}(ok:∀z∈cs,Valid z)(nd:cs.Nodup)(h2:2≤k)(ht:t<k):(cs.filter fun c=>jnB cs c k).length≤(cs.filter fun z=>decide (tOf k z=(t:Int))).length:=by
 rw[←List.length_map (sh k t)];refine List.Nodup.length_le_of_subset (q0oz (nd.filter _) fun a _ b _ e=>?_) fun z hz=>?_
 ·have e1:a.1=b.1:=(congrArg Prod.fst e:(sh k t a).1=(sh k t b).1);have e2:a.2+a.1 / (k:Int)*(t:Int)=b.2+b.1 / (k:Int)*(t:Int):=(congrArg Prod.snd e:(sh k t a).2=(sh k t b).2);rw[e1] at e2;exact Prod.ext e1 (by omega)
 ·obtain⟨c,hc,rfl⟩:=List.mem_map.mp hz;obtain⟨hc1,hc2⟩:=List.mem_filter.mp hc;obtain⟨f1,f2,f3⟩:=qhjz ok (ok c hc1) h2 hc2;refine List.mem_filter.mpr ⟨f3 _ (List.mem_map.mpr ⟨t,List.mem_range.mpr ht,?_⟩),decide_eq_true (sh_t f2)⟩;show ((whF c k).1*(k:Int),c.2+c.1 / (k:Int)*(t:Int))=_;rw[f1];rfl
theorem q0xz{cs:List Clk}(ok:∀z∈cs,Valid z)(nd:cs.Nodup):2*(cs.filter fun c=>jnB cs c 2).length≤cs.length:=by
 have a:=qd3z (t:=0) ok nd (Nat.le_refl 2) (by decide);have b:=qd3z (t:=1) ok nd (Nat.le_refl 2) (by decide);have c:=qnuz (p:=fun z=>decide (tOf 2 z=((0:Nat):Int))) (q:=fun z=>decide (tOf 2 z=((1:Nat):Int))) (r:=fun _=>false) (fun z h=>decide_eq_false (by have:=of_decide_eq_true h;omega)) (fun _ _=>rfl) (fun _ _=>rfl) cs;omega
theorem q0yz{cs:List Clk}{k:Nat}(ok:∀z∈cs,Valid z)(nd:cs.Nodup)(h:3≤k):3*(cs.filter fun c=>jnB cs c k).length≤cs.length:=by
 have a:=qd3z (k:=k) (t:=0) ok nd (by omega) (by omega);have b:=qd3z (k:=k) (t:=1) ok nd (by omega) (by omega);have c:=qd3z (k:=k) (t:=2) ok nd (by omega) (by omega);have d:=qnuz (p:=fun z=>decide (tOf k z=((0:Nat):Int))) (q:=fun z=>decide (tOf k z=((1:Nat):Int))) (r:=fun z=>decide (tOf k z=((2:Nat):Int))) (fun z h=>decide_eq_false (by have:=of_decide_eq_true h;omega)) (fun z h=>decide_eq_false (by have:=of_decide_eq_true h;omega)) (fun z h=>decide_eq_false (by have:=of_decide_eq_true h;omega)) cs;omega
theorem q0zz(f:Clk->Nat->Bool)(c:Clk)(cs:List Clk)(ks:List Nat):(ks.filter (f c)).length+(ks.map fun k=>(cs.filter fun c=>f c k).length).sum=(ks.map fun k=>((c::cs).filter fun c=>f c k).length).sum:=by
 induction ks with
 |nil=>rfl
 |cons k ks ih=>
  rw[List.map_cons,List.map_cons,List.sum_cons,List.sum_cons,←ih,List.filter_cons,List.filter_cons];cases f c k with
  |true=>
   simp;omega
  |false=>
   simp;omega
theorem q00z(f:Clk->Nat->Bool)(ks:List Nat)(cs:List Clk):(cs.map fun c=>(ks.filter (f c)).length).sum=(ks.map fun k=>(cs.filter fun c=>f c k).length).sum:=by
 induction cs with
 |nil=>
  show 0=_
  induction ks with
  |nil=>rfl
  |cons k ks ih=>
   rw[List.map_cons,List.sum_cons,←ih];rfl
 |cons c cs ih=>rw[List.map_cons,List.sum_cons,ih,q0zz]
theorem sum_bound{g:Nat->Nat}(h2:g 2≤6)(h3:∀k,3≤k->g k≤4)(m:Nat):((twos m).map g).sum≤4*m+2:=by
 induction m with
 |zero=>exact Nat.zero_le _
 |succ m ih=>
  have e:twos (m+1)=twos m++[m+2]:=by
   unfold twos;rw[List.range_succ,List.map_append];rfl
  rw[e,List.map_append,List.sum_append];show _+(g (m+2)+0)≤_;cases m with
  |zero=>
   show 0+(g 2+0)≤_;omega
  |succ m=>
   have:=h3 (m+1+2) (by omega);omega
theorem qnvz{cs:List Clk}(ok:∀z∈cs,Valid z)(nd:cs.Nodup)(hl:cs.length≤12):(rawJ cs).length<64:=by
 have e:(rawJ cs).length=(cs.map fun c=>((twos (cs.length-1)).filter (jnB cs c)).length).sum:=by
  unfold rawJ;rw[List.length_flatMap];refine congrArg List.sum (List.map_congr_left fun c _=>?_);rw[List.length_map]
 rw[e,q00z];have h2:=q0xz ok nd;have:=sum_bound (g:=fun k=>(cs.filter fun c=>jnB cs c k).length) (by show (cs.filter fun c=>jnB cs c 2).length≤6;omega) (fun k hk=>by
  have:=q0yz ok nd hk;show (cs.filter fun c=>jnB cs c k).length≤4;omega) (cs.length-1)
 omega
theorem raw_mem{cs:List Clk}{ps:List Int}:ps∈rawJ cs↔∃c∈cs,∃k,(2≤k/\k≤cs.length)/\jnB cs c k=true/\ps=jnP cs c k:=by
 unfold rawJ;rw[List.mem_flatMap];constructor
 ·rintro⟨c,hc,h⟩;obtain⟨k,hk,rfl⟩:=List.mem_map.mp h;obtain⟨hk1,hk2⟩:=List.mem_filter.mp hk;have:=twos_mem.mp hk1;exact⟨c,hc,k,⟨this.1,by omega⟩,hk2,rfl⟩
 ·rintro⟨c,hc,k,hk,h,rfl⟩;exact⟨c,hc,List.mem_map.mpr ⟨k,List.mem_filter.mpr ⟨twos_mem.mpr ⟨hk.1,by omega⟩,h⟩,rfl⟩⟩
theorem q01z{cs:List Clk}{ps:List Int}(h:ps∈rawJ cs):ps≠[]:=by
 obtain⟨c,_,k,hk,_,rfl⟩:=raw_mem.mp h;intro e;have:=congrArg List.length e;unfold jnP at this;rw[List.length_map,q3z] at this;simp at this;omega
theorem qcbz{cs:List Clk}{z:Clk}(h:z∈cs):cs.idxOf z<cs.length/\cs[cs.idxOf z]?=some z:=by
 have h1:cs.idxOf z<cs.length:=List.idxOf_lt_length_of_mem h;exact⟨h1,by rw[List.getElem?_eq_getElem h1,List.getElem_idxOf h1]⟩
theorem q02z{cs:List Clk}{a b:Clk}(hr:Rise cs)(ha:a∈cs)(hb:b∈cs)(h:cLt a b):cs.idxOf a<cs.idxOf b:=by
 obtain⟨a1,a2⟩:=qcbz ha;obtain⟨b1,b2⟩:=qcbz hb;refine Classical.byContradiction fun hn=>?_;rcases Nat.lt_or_eq_of_le (Nat.le_of_not_lt hn) with hlt|he
 ·have:=List.pairwise_iff_getElem.mp hr _ _ b1 a1 hlt;rw[List.getElem_idxOf,List.getElem_idxOf] at this;exact qcaz h this
 ·rw[he,a2] at b2;cases b2;exact qcaz h h
theorem q03z{cs:List Clk}{z:Clk}{i:Nat}(nd:cs.Nodup)(hi:cs[i]?=some z):cs.idxOf z=i:=by
 obtain⟨a1,a2⟩:=qcbz (List.mem_of_getElem? hi);exact (List.getElem?_inj a1 nd).mp (a2.trans hi.symm)
theorem qnwz{c:Clk}(hv:Valid c)(k:Nat):(parts c k).Pairwise cLt:=by
 unfold parts;rw[List.pairwise_map];refine List.pairwise_lt_range.imp fun {a b} h=>.inr ⟨rfl,?_⟩;have h0:=hv.1;have:c.1*(a:Int)<c.1*(b:Int):=Int.mul_lt_mul_of_pos_left (by omega) h0;show c.2+c.1*(a:Int)<c.2+c.1*(b:Int);omega
theorem q04z{cs:List Clk}{c:Clk}{k:Nat}(hr:Rise cs)(hv:Valid (whF c k))(hm:∀z∈parts (whF c k) k,z∈cs):(jnP cs c k).Pairwise (· < ·):=by
 unfold jnP;rw[List.pairwise_map];refine List.Pairwise.imp_of_mem (fun {a b} ha hb h=>?_) (qnwz hv k);have:=q02z hr (hm a ha) (hm b hb) h;omega
theorem qnxz{cs:List Clk}{c:Clk}{k i:Nat}{z:Clk}(nd:cs.Nodup)(hm:∀z∈parts (whF c k) k,z∈cs)(hi:cs[i]?=some z):((i:Nat):Int)∈jnP cs c k↔z∈parts (whF c k) k:=by
 unfold jnP;rw[List.mem_map];constructor
 ·rintro⟨y,hy,e⟩;have e':cs.idxOf y=i:=by omega
  have:=(qcbz (hm y hy)).2;rw[e',hi] at this;cases this;exact hy
 ·intro h;exact⟨z,h,by rw[q03z nd hi]⟩
end My
namespace My
open PySem L2 L3
theorem qhkz{c:Clk}(hv:Valid c)(k:Nat):(parts c k).Nodup:=(qnwz hv k).imp fun {a b} h e=>by
 subst e;exact qcaz h h
theorem qfiz{cs:List Clk}{i:Nat}{c:Clk}(nd:cs.Nodup)(hi:cs[i]?=some c):(rest1 cs i).Nodup/\c∉rest1 cs i:=by
 have e:=qnqz hi;rw[e] at nd;unfold rest1;obtain⟨h1,h2,h3⟩:=List.nodup_append.mp nd;obtain⟨h4,h5⟩:=List.nodup_cons.mp h2;refine⟨List.nodup_append.mpr ⟨h1,h5,fun a ha b hb=>h3 a ha b (List.mem_cons_of_mem _ hb)⟩,fun h=>?_⟩;rcases List.mem_append.mp h with h|h
 ·exact h3 c h c List.mem_cons_self rfl
 ·exact h4 h
theorem qnyz{cs us:List Clk}{i k:Nat}{c:Clk}(hv:Valid c)(nd:cs.Nodup)(hi:cs[i]?=some c)(hr:Rise us)(hu:∀z,z∈us↔z∈rest1 cs i∨z∈parts c k)(hno:∀z∈parts c k,z∉rest1 cs i):us.Perm (rest1 cs i++parts c k):=by
 refine (List.perm_ext_iff_of_nodup (qbuz hr) (List.nodup_append.mpr ⟨(qfiz nd hi).1,qhkz hv k,fun a ha b hb e=>?_⟩)).mpr fun z=>by rw[hu,List.mem_append]
 subst e;exact hno a hb ha
theorem q05z{cs us:List Clk}{i k:Nat}{c:Clk}(hv:Valid c)(hk:0<k)(nd:cs.Nodup)(hi:cs[i]?=some c)(hr:Rise us)(hu:∀z,z∈us↔z∈rest1 cs i∨z∈parts c k)(hno:∀z∈parts c k,z∉rest1 cs i):Once us↔Once cs:=by
 have hp:=qnyz hv nd hi hr hu hno;have key:∀n,(us.filter (rg2 n)).length=(cs.filter (rg2 n)).length:=fun n=>by
  rw[(hp.filter _).length_eq,←qfgz,qfez hv.1 hi (qffz hk)]
 exact⟨fun h n=>by rw[←key];exact h n,fun h n=>by rw[key];exact h n⟩
theorem qnzz{cs:List Clk}(ok:ClOk 1000 cs):exB cs=true↔Once cs:=⟨qnrz ok,qhiz ok⟩
theorem q06z{cs us:List Clk}{i k:Nat}{c:Clk}(ok:ClOk 1000 cs)(ok2:ClOk 1000 us)(hk:0<k)(nd:cs.Nodup)(hi:cs[i]?=some c)(hr:Rise us)(hu:∀z,z∈us↔z∈rest1 cs i∨z∈parts c k)(hno:∀z∈parts c k,z∉rest1 cs i):exB us=exB cs:=by
 rw[Bool.eq_iff_iff,qnzz ok,qnzz ok2];exact q05z (ok c (List.mem_of_getElem? hi)).1 hk nd hi hr hu hno
theorem q07z{p:Clk->Bool}{cs:List Clk}{a b:Clk}(hne:a≠b)(ha:a∈cs)(hb:b∈cs)(pa:p a=true)(pb:p b=true):(cs.filter p).length≠1:=fun h=>by
 obtain⟨x,hx⟩:=List.length_eq_one_iff.mp h;have h1:a∈cs.filter p:=List.mem_filter.mpr ⟨ha,pa⟩;have h2:b∈cs.filter p:=List.mem_filter.mpr ⟨hb,pb⟩;rw[hx] at h1 h2;simp at h1 h2;exact hne (h1.trans h2.symm)
theorem q08z{cs us:List Clk}{k:Nat}{w:Clk}(hs:Once cs)(hw:Valid w)(h2:2≤k)(hm:∀z∈parts w k,z∈cs)(hr:Rise us)(hu:∀z,z∈us↔(z∈cs/\z∉parts w k)∨z=w):Once us:=by
 have hw0:(w.1*(k:Int),w.2+w.1*((0:Nat):Int))∈parts w k:=List.mem_map.mpr ⟨0,List.mem_range.mpr (by omega),rfl⟩;have hwc:w∉cs:=fun h=>by
  refine q07z (p:=rg2 w.2) (fun e=>?_) h (hm _ hw0) qnpz ?_ (hs w.2)
  ·have e1:w.1=w.1*(k:Int):=congrArg Prod.fst e;have h0:=hw.1;have:w.1*2≤w.1*(k:Int):=Int.mul_le_mul_of_nonneg_left (by omega) (by omega);omega
  ·rw[rg2_iff];show _∣w.2-(w.2+w.1*((0:Nat):Int));simp
 have hwu:w∈us:=(hu w).mpr (.inr rfl);obtain⟨i,hi⟩:=List.getElem?_of_mem hwu;have hnr:=qfiz (qbuz hr) hi;have hmr:=qb9z hi;have mr:∀z,z∈rest1 us i↔z∈cs/\z∉parts w k:=fun z=>by
  constructor
  ·intro h;rcases (hu z).mp ((hmr z).mpr (.inl h)) with q|q
   ·exact q
   ·subst q;exact absurd h hnr.2
  ·intro h;rcases (hmr z).mp ((hu z).mpr (.inl h)) with q|q
   ·exact q
   ·subst q;exact absurd h.1 hwc
 have hp:cs.Perm (rest1 us i++parts w k):=by
  refine (List.perm_ext_iff_of_nodup hs.nodup (List.nodup_append.mpr ⟨hnr.1,qhkz hw k,fun a ha b hb e=>?_⟩)).mpr fun z=>?_
  ·subst e;exact ((mr a).mp ha).2 hb
  ·rw[List.mem_append,mr];constructor
   ·intro h;by_cases q:z∈parts w k
    ·exact .inr q
    ·exact .inl ⟨h,q⟩
   ·rintro (h|h)
    ·exact h.1
    ·exact hm z h
 intro n;have:=qfez hw.1 hi (qffz (show 0<k by omega)) n;rw[qfgz,←(hp.filter _).length_eq,hs n] at this;exact this.symm
theorem q09z{z p:Clk}{n:Int}(hz:rg2 n z=true)(hp:rg2 n p=true)(hd:p.1∣z.1)(hv:Valid p):insB z p=true:=by
 show (z.1%p.1==0&&rg z.2 p)=true;rw[Int.emod_eq_zero_of_dvd hd,←qbqz hv];have h1:=rg2_iff.mp hz;have h2:=rg2_iff.mp hp;have:rg2 z.2 p=true:=rg2_iff.mpr (by
  have h3:=Int.dvd_sub h2 (Int.dvd_trans hd h1);rwa [show n-p.2-(n-z.2)=z.2-p.2 by omega] at h3)
 rw[this];rfl
theorem q1az{cs:List Clk}{c:Clk}(h:Spl cs c):Valid c->∀n,rg2 n c=true->(cs.filter (rg2 n)).length=1:=by
 induction h with
 |leaf c=>
  intro _ n hn;rw[List.filter_cons,if_pos hn];rfl
 |@node cs c k h2 hd h ih=>
  intro hv n hn;obtain⟨m,hm⟩:=rg2_iff.mp hn;have h0:=hv.1;have m1:0≤m%(k:Int):=Int.emod_nonneg _ (by omega);have m2:m%(k:Int)<(k:Int):=Int.emod_lt_of_pos _ (by omega);have ht:(m%(k:Int)).toNat<k:=by omega
  have hr:rg2 n (sub c k (m%(k:Int)).toNat)=true:=rg2_iff.mpr (by
   show c.1*(k:Int)∣n-(c.2+c.1*((m%(k:Int)).toNat:Int));rw[Int.toNat_of_nonneg m1,show n-(c.2+c.1*(m%(k:Int)))=c.1*m-c.1*(m%(k:Int)) by omega,←Int.mul_sub];refine Int.mul_dvd_mul_left _ ?_;exact Int.dvd_self_sub_emod)
  have hvs:=qb8z hv ht;rw[←ih _ ht hvs n hr];unfold insF;rw[List.filter_filter];refine congrArg List.length (List.filter_congr fun z hz=>?_);cases q:rg2 n z with
  |false=>rfl
  |true=>
   have:insB z (sub c k (m%(k:Int)).toNat)=true:=q09z q hr (hd z hz) hvs;rw[this];rfl
theorem q1bz(n:Int):rg2 n (1,0)=true:=by
 show ((n-0)%1==0)=true;rw[Int.emod_one];rfl
theorem qn0z{z:Clk}:insB z (1,0)=true:=by
 show (z.1%1==0&&(z.2%1==0))=true;rw[Int.emod_one,Int.emod_one];rfl
theorem q1cz{cs:List Clk}(ok:ClOk 1000 cs)(h:Spl cs (1,0)):exB cs=true:=qhiz ok fun n=>q1az h ⟨by decide,by decide,by decide⟩ n (q1bz n)
structure MadeBy(e:Nat)(A:List Clk)(d:D)(c:Clk):Prop where
 g:gB d=true
 dep:depD d≤e
 mkL:∃L,madeO (fun _=>true) d c=some L/\L.Perm A/\szD d+3≤4*L.length
theorem q1dz{e:Nat}{f:Clk->Option D}{A:Clk->List Clk}:∀{xs:List Clk} {ps:List D},seqO (xs.map f)=some ps->(∀x∈xs,∀d,f x=some d->MadeBy e (A x) d x) ->
  (∀p∈ps,gB p=true/\depD p≤e)/\∃L,mz (fun _=>true) (ps.zip xs)=some L/\L.Perm (xs.flatMap A)/\szDs ps+3*xs.length≤4*L.length:=by
 intro xs
 induction xs with
 |nil=>
  intro ps h _;cases h;exact⟨nofun,[],rfl,List.Perm.refl _,by rw[qe8z];exact Nat.le_refl _⟩
 |cons x xs ih=>
  intro ps h hf;have h:(f x).bind (fun d=>(seqO (xs.map f)).map (d::·))=some ps:=h;cases e1:f x with
  |none=>rw[e1] at h;cases h
  |some d=>
   rw[e1] at h;have h:(seqO (xs.map f)).map (d::·)=some ps:=h;cases e2:seqO (xs.map f) with
   |none=>rw[e2] at h;cases h
   |some qs=>
    rw[e2] at h;cases h;obtain⟨g1,L,g2,g3,g4⟩:=ih e2 fun y hy=>hf y (List.mem_cons_of_mem _ hy);have M:=hf x List.mem_cons_self d e1;obtain⟨L1,l1,l2,l3⟩:=M.mkL;refine⟨fun p hp=>?_,L1++L,?_,?_,?_⟩
    ·rcases List.mem_cons.mp hp with rfl|hp
     ·exact⟨M.g,M.dep⟩
     ·exact g1 p hp
    ·show (madeO (fun _=>true) d x).bind (fun a=>(mz (fun _=>true) (qs.zip xs)).map (a++·))=_;rw[l1,g2];rfl
    ·rw[List.flatMap_cons];exact l2.append g3
    ·rw[qa1z,List.length_cons,List.length_append];omega
theorem q1ez{c:Clk}{cs:List Clk}{k:Nat}(hv:Valid c)(hk:1≤k)(nd:cs.Nodup)(hi:∀x∈cs,insB x c=true)(hd:Dvs cs c k):((parts c k).flatMap (insF cs)).Perm cs:=by
 refine (List.perm_ext_iff_of_nodup ?_ nd).mpr fun z=>?_
 ·show List.Pairwise _ _;rw[List.pairwise_flatMap];refine⟨fun p _=>nd.filter _,?_⟩;unfold parts;rw[List.pairwise_map];refine List.Pairwise.imp_of_mem (fun {a b} ha hb hab x hx y hy e=>?_) List.pairwise_lt_range;subst e;have:=qncz hv (List.mem_range.mp ha) (List.mem_range.mp hb) (List.mem_filter.mp hx).2 (List.mem_filter.mp hy).2;omega
 ·rw[List.mem_flatMap];constructor
  ·rintro⟨p,_,h⟩;exact (List.mem_filter.mp h).1
  ·intro h;obtain⟨t,ht,hs⟩:=qnbz hv hk (hi z h) (hd z h);exact⟨sub c k t,qfbz ht,List.mem_filter.mpr ⟨h,hs⟩⟩
theorem q1fz:∀{m:Nat} {cs:List Clk} {c:Clk} {d:D},Within m cs c->(∀x∈cs,insB x c=true)->cs.Nodup->papO m cs c=some d->MadeBy (2*m) cs d c:=by
 intro m
 induction m with
 |zero=>intro cs c d _ _ _ h;cases h
 |succ m ih=>
  intro cs c d W hi nd h;unfold papO at h;split at h
  ·rename_i e;cases h;refine⟨by rw[gB],by rw[depD];omega,[c],by rw[madeO];rfl,by rw[e],by rw[szD];exact Nat.le_refl _⟩
  ·rename_i hne;cases ek:primeO cs c with
   |none=>rw[ek] at h;cases h
   |some k=>
    rw[ek] at h;have h:(seqO ((parts c k).map fun p=>papO m (insF cs p) p)).map (fun ps=>D.tup [.int k,.tup ps])=some d:=h;cases es:seqO ((parts c k).map fun p=>papO m (insF cs p) p) with
    |none=>rw[es] at h;cases h
    |some ps=>
     rw[es] at h;cases h;obtain⟨k1,k2,k3⟩:=qcyz ek;have hcs:cs≠[]:=fun e=>by
      rw[e] at k2;simp at k2;omega
     obtain⟨g1,L,g2,g3,g4⟩:=q1dz (e:=2*m) (A:=insF cs) es fun p hp d hd=>ih (W.part hcs k1 k3 hp) (fun x hx=>(List.mem_filter.mp hx).2) (nd.filter _) hd;have hl:ps.length=k:=by rw[qhbz es,List.length_map,q3z]
     have hf:formB (.int k) (.tup ps)=true:=by
      show (decide ((2:Int)≤(k:Int))&&(((ps.length:Nat):Int)==(k:Int)))=true;rw[hl,decide_eq_true (by omega),beq_self_eq_true];rfl
     refine⟨qyhz k1 hl fun p hp=>(g1 p hp).1,?_,L,?_,g3.trans (q1ez W.v (by omega) nd hi (qhez W k3)),?_⟩
     ·have h1:depDs ps≤2*m:=qmaz fun p hp=>(g1 p hp).2;rw[qbdz,depDs,depDs,depDs,qbdz,depD];omega
     ·rw[qduz _ _ _ _ hf];exact g2
     ·rw[q3z] at g4;rw[qcuz,qa1z,qa1z,qe8z,qcuz,szD];omega
theorem q1gz{cs:List Clk}(h:Rise cs):RiseL (cs.map toL):=by
 show List.Pairwise _ _;rw[List.pairwise_map];refine h.imp fun {a b} q=>?_;obtain⟨s,r⟩:=a;obtain⟨s',r'⟩:=b;simp only[toL,SortV.lx];rcases q with q|⟨q1,q2⟩
 ·simp only at q;rw[if_neg (by omega)];exact decide_eq_false (by omega)
 ·simp only at q1 q2;rw[if_pos q1.symm,if_neg (by omega)];exact decide_eq_false (by omega)
theorem q1hz{cs:List Clk}{d:D}(ok:ClOk 1000 cs)(hr:Rise cs)(hl:cs.length≤12)(h:papO 10 cs (1,0)=some d):(∀G,KnD G d)/\depD d<40/\szD d≤63/\SplitP cs d:=by
 have W:Within 10 cs (1,0):=qdyz (by omega) fun z hz=>⟨(ok z hz).1.1,(ok z hz).2⟩;have M:=q1fz W (fun x _=>qn0z) (qbuz hr) h;obtain⟨L,l1,l2,l3⟩:=M.mkL;have:=M.dep;have e:=l2.length_eq;exact⟨fun G=>qmkz (depD d) (Nat.le_refl _) M.g,by omega,by omega,L,l1,l2,q1gz hr⟩
end My
namespace L3
open PySem PySem.Spec PyProof.Rows L2
theorem q1iz{M:Model}{A:Around}{E:Value->Shared->Prop}{s:Shared}{β:Type}(f:Nat->β->Sem (ForInStep β))(I:List Nat->β->Shared->Prop)(Q:β->Shared->Prop)
  (turn:∀x rest b s,I (x::rest) b s->wpAny M A (f x b) (fun r s'=>match r with | .yield b'=>I rest b' s' | .done b'=>Q b' s') E s)
  (fin:∀b s,I [] b s->Q b s) (n:Nat) (b:β) (h:I (List.range' 0 n) b s):wpAny M A (forIn [0:n] b f) Q E s:=by
 rw[Std.Legacy.Range.forIn_eq_forIn_range'];exact wpAny_forIn_list f I Q turn fin _ b (by simpa [Std.Legacy.Range.size] using h)
theorem q1jz(l:Addr)(items:Array Value)(n:Nat)(dd:Option Addr)(sl:Array (Option Value))(x:Value)(e:Value->Bool)(j:Nat)(hj:j<items.size)(hit:e items[j]=true)(hno:∀m (hm:m<items.size),m<j->e items[m]=false):
  Meets (Builtin.«tuple.index» ⟨[.ref l,x],[]⟩)
   (fun A R s=>s.heap.get? l=some { cls:=.type "tuple",dict:=dd,data:=.seq items n,slots:=sl }/\(∀y,y∈items->SeqAt.EqAt A.in1 s y x (e y))/\R (.ok (.ret (.int j s.toks))) { s with toks:=s.toks+1 }):=
 .of_wp fun prog w A R s h=>by
  obtain⟨hp,g,d,tk,os⟩:=s;obtain⟨hl,he,h⟩:=h;wp_walk using wpAny_loadPart' hl,q1iz _ (fun rest b s'=>b.1=none/\s'=⟨hp,g,d,tk,os⟩/\∃i,i≤j/\rest=List.range' i (items.size-i)) _
  case turn=>
   rintro i rest b s' ⟨hb,rfl,k,hk,hr⟩;have hlt:k<items.size:=by omega
   obtain⟨m,hm⟩:∃m,items.size-k=m+1:=⟨items.size-k-1,by omega⟩;rw[hm,List.range'_succ] at hr;injection hr with h1 h2;subst h1;rw[getElem?_pos items i hlt];refine wpAny_bind (he _ (Array.getElem_mem hlt) prog w _ _ ?_);by_cases hij:i=j
   ·subst hij;rw[hit];wp_walk;exact⟨_,rfl,h⟩
   ·rw[hno i hlt (by omega)];wp_walk;refine⟨rfl,rfl,i+1,by omega,?_⟩;rw[h2,show items.size-(i+1)=m by omega]
  case fin=>
   rintro b s' ⟨hb,rfl,k,hk,hr⟩;have:=congrArg List.length hr;simp at this;omega
  case h=>
   exact⟨rfl,rfl,0,Nat.zero_le _,by simp⟩
end L3
namespace L3
open PySem PySem.Spec PyProof.Rows L2
theorem q1kz{X:Cx}{pins:List (Addr×Obj)}{σ:L2.St}{H:Hp}{s:Shared}{a:Addr}{xs:List V}(I:Inv X pins σ H s)(h:SqT X.K H a xs):∀b,Value.ref a=.ref b->∃o,s.heap.get? b=some o/\o.dict=none:=by
 rcases h with h|⟨o,its,n,hk,hc,hd,hs,hz,r⟩
 ·obtain⟨z,its,r,p⟩:=h.ok I.hok;exact p.noDict
 ·intro b e;cases e;exact⟨o,I.kIn a o hk,hd⟩
def eTIx(ta:TE3)(tb:TA3):TE3:=fun τ G Q=>ta τ G fun x G1=>match x with
 |.tup ds=>tb τ G1 fun ys G2=>match ys with
  |[y]=>∃us u j,toDats0 ds=some us/\toDat G2 y=some u/\Dat.deps us≤50/\(us[j]?).map (fun v=>v.eqb u)=some true/\(∀i,i<j->(us[i]?).map (fun v=>v.eqb u)=some false)/\Q (.int ((j:Nat):Int)) G2
  |_=>False
 |_=>False
theorem qn1z{h:Heap}:∀{us:List Dat.D} {its:List Value} {i:Nat} {u:Dat.D},Dat.Hvs h us its->us[i]?=some u->∃v,its[i]?=some v/\Dat.Hv h u v
 |[],its,i,u,p,e=>by cases e
 |d::us,its,i,u,p,e=>by
  unfold Dat.Hvs at p;obtain⟨v,r,rfl,h1,h2⟩:=p;cases i with
  |zero=>cases e;exact⟨v,rfl,h1⟩
  |succ i=>
   have:=qn1z (us:=us) (its:=r) (i:=i) h2 e;exact this
theorem q1lz{X:Cx}{o e:Expr}{ta:TE3}{tb:TA3}{apos cpos:Pos}(hu:X.A.units+64<cLine)(ho:PE3 X o ta)(ha:PA3 X [e] tb)
  (hbase:attributeBase o "index" X.env (eval o X.env)=eval o X.env:=by rfl)
  (hfew:((backTo cpos (starEach [e] X.env)).all (fun x=>!x.1)&&(backToKw cpos (keywordEach [] X.env)).all (fun x=>x.1.isSome)
   && decide ([e].length+([]:List Keyword).length+(if ([]:List Keyword).isEmpty then 0 else 1)<30))=true:=by rfl)
  (hline:(apos.endLine==cpos.line)=true:=by rfl) (he:notStar e=true:=by rfl):
  PE3 X (.Call (.Attribute o "index" apos) [e] [] cpos) (eTIx ta tb):=by
 intro pins s σ H Q I ⟨τ,G,Q3,RS,RG,h,k⟩;refine wpAny_Call_method_late hbase hfew hline rfl (thn (ho pins s σ H (fun v H1=>∃d G1,Hv X.K H1 d v/\Step H G H1 G1/\RepG X.K G1 H1/\(match d with
  | .tup ds=>tb τ G1 fun ys G2=>(match ys with
   |[y]=>∃us u j,toDats0 ds=some us/\toDat G2 y=some u/\Dat.deps us≤50/\(us[j]?).map (fun v=>v.eqb u)=some true/\(∀i,i<j->(us[i]?).map (fun v=>v.eqb u)=some false)/\Q3 (.int ((j:Nat):Int)) G2
   | _=>False)
  | _=>False)) I ⟨τ,G,_,RS,RG,h,fun v H1 d G1 a b c q=>⟨d,G1,a,b,c,q⟩⟩) fun v s1 ⟨x,H1,I1,r1,d,G1,hv,S1,R1,q⟩=>?_)
 cases d with
 |tup ds=>
  obtain⟨a,vs,rfl,e1,e2⟩:=qagz hv;cases r1;obtain⟨its,rv,p,hz⟩:=I1.tuple e1;refine⟨"tuple","tuple.index",F.plainAttrs_tuple,F.slot_tuple_index,F.type_tuple_index,p.typeIs,q1kz I1 e1,?_⟩;have hA:=ha cpos pins s1 σ H1 (fun ws H2=>∃ys G2,Hvs X.K H2 ys ws/\Step H1 G1 H2 G2/\RepG X.K G2 H2/\(match ys with
   |[y]=>∃us u j,toDats0 ds=some us/\toDat G2 y=some u/\Dat.deps us≤50/\(us[j]?).map (fun v=>v.eqb u)=some true/\(∀i,i<j->(us[i]?).map (fun v=>v.eqb u)=some false)/\Q3 (.int ((j:Nat):Int)) G2
   | _=>False)) I1 ⟨τ,G1,_,RS.ext (S1.ext RG),R1,q,fun ws H2 ys G2 a b c q=>⟨ys,G2,a,b,c,q⟩⟩
  have hs:starEach [e] X.env=(false,eval e X.env)::starEach [] X.env:=qpz he;rw[hs] at hA ⊢;refine Calls.callWith_builtin rfl (Calls.evalArgs_plain ?_);refine thn hA fun us s2 ⟨ws,H2,I2,r2,ys,G2,hy,S2,R2,q2⟩=>?_;rcases ys with _|⟨y,_|⟨y2,ys⟩⟩
  ·exact q2.elim
  ·obtain⟨w,rfl,hw⟩:=hvs1 hy;obtain⟨u,rfl,ru⟩:=r2.one;obtain⟨vs',y',j,t1,t2,t3,t4,t5,q2⟩:=q2;have hT:Hv X.K H2 (.tup ds) (.ref a):=hv.ext (S2.ext R1);have dT:=qavz I2 R2 hT (show RelV (.ref a) (.ref a) from rfl) (show toDat G2 (.tup ds)=some (.tup vs') by show toDat0 (.tup ds)=_;unfold toDat0;rw[t1]);have dy:=qavz I2 R2 hw ru t2;unfold Dat.Hv at dT;obtain⟨a',its',e3,hl,hvs⟩:=dT;cases e3;obtain⟨⟨cls,dd,data,sl⟩,ho2,hc2,n2,hd2⟩:=id hl;simp only at hc2 hd2;subst hc2 hd2;have get:∀{i:Nat} {b:Bool},(vs'[i]?).map (fun v=>v.eqb y')=some b->∃v0,its'[i]?=some v0/\eqF s2.heap vs' y' v0=b:=fun {i b} hi=>by
    cases hd:vs'[i]? with
    |none=>rw[hd] at hi;cases hi
    |some d0=>
     rw[hd] at hi;obtain⟨v0,g1,g2⟩:=qn1z hvs hd;refine⟨v0,g1,?_⟩;rw[qdbz (List.mem_of_getElem? hd) g2];exact Option.some.inj hi
   obtain⟨v0,g1,g2⟩:=get t4;have hj:j<its'.length:=(List.getElem?_eq_some_iff.mp g1).1;refine call_meets F.slot_tuple_index ⟨_,ho2,rfl⟩ F.entry_tuple_index (F.args_tuple_index_2 _ _) (q1jz a its'.toArray n2 dd sl u (eqF s2.heap vs' y') j (by simpa using hj) ?_ fun m hm hmj=>?_) ⟨ho2,fun z hz2=>?_,?_⟩
   ·simp only[List.getElem_toArray];rw[(List.getElem?_eq_some_iff.mp g1).2];exact g2
   ·obtain⟨v1,g3,g4⟩:=get (t5 m hmj);simp only[List.getElem_toArray];rw[(List.getElem?_eq_some_iff.mp g3).2];exact g4
   ·obtain⟨d,hd',hv'⟩:=qeyz hvs (by simpa using hz2);rw[qdbz hd' hv'];exact Dat.eqAt d y' z u _ hv' dy (by
     have:=Dat.dep_mem hd';have h1:X.A.in1.units=X.A.units+1:=rfl;omega)
   ·exact⟨.int ((j:Nat):Int),H2,I2.tok _,⟨_,rfl⟩,k _ H2 (.int ((j:Nat):Int)) G2 qakz (S1.trans S2) R2 q2⟩
  ·exact q2.elim
 |_=>exact q.elim
theorem qn2z{X:Cx}{o e:Expr}{ta:TE3}{tb:TA3}{apos cpos:Pos}(hu:X.A.units+64<cLine)(ho:QE X o ta)(ha:QA X [e] tb)
  (hbase:attributeBase o "index" X.env (eval o X.env)=eval o X.env:=by rfl)
  (hfew:((backTo cpos (starEach [e] X.env)).all (fun x=>!x.1)&&(backToKw cpos (keywordEach [] X.env)).all (fun x=>x.1.isSome)
   && decide ([e].length+([]:List Keyword).length+(if ([]:List Keyword).isEmpty then 0 else 1)<30))=true:=by rfl)
  (hline:(apos.endLine==cpos.line)=true:=by rfl) (he:notStar e=true:=by rfl):
  QE X (.Call (.Attribute o "index" apos) [e] [] cpos) (eTIx ta tb):=⟨q1lz hu ho.of ha.of hbase hfew hline he⟩
end L3
namespace My
open PySem L2 L3
def qc3z:Sp3:=fun ds G Q=>∃(c:Clk) (k:Nat),ds=[cD c,.int k]/\0<k/\k≤1000/\Q (cD (whF c k)) G
def qn3z:TS3:=sRet (eTup (aCons (eOp rDiv3 (eOp rIx3 (eVar 0) (eC (.int 0))) (eVar 1)) (aCons (eOp rIx3 (eVar 0) (eC (.int 1))) (aNil))))
theorem q1mz:∀ds G Q,qc3z ds G Q->qn3z (endsOf Q) (start3 ["clock","k"] ds) G:=by
 rintro ds G Q ⟨c,k,rfl,h1,h2,q⟩;exact⟨_,rfl,⟨show (0:Int)<(k:Int) by omega,qmz (by omega) (by omega)⟩,_,rfl,qiz q⟩
def pfL(c:Clk)(k:Nat):List Clk:=if c.1%(k:Int)=0 then parts (whF c k) k else []
def qd4z:Sp3:=fun ds G Q=>∃(c:Clk) (k:Nat),ds=[cD c,.int k]/\0<k/\k≤1000/\Valid c/\c.1≤1000/\∀p G',New G p (.lst ((pfL c k).map cD)) G'->Q (.obj p) G'
def q1nz:TS3:=sRet (eCall qa4z (aCons (eCall qc3z (aCons (eVar 0) (aCons (eVar 1) (aNil)))) (aCons (eVar 1) (aNil))))
def qn4z:TS3:=sSeq (sIf (eTest (eOp (rEq3 true) (eOp rMod3 (eOp rIx3 (eVar 0) (eC (.int 0))) (eVar 1)) (eC (.int 0)))) (sRet (eLst (aNil))) (sNext)) q1nz
theorem q1oz:∀ds G Q,qd4z ds G Q->qn4z (endsOf Q) (start3 ["clock","k"] ds) G:=by
 rintro ds G Q ⟨c,k,rfl,h1,h2,hv,h3,q⟩;refine⟨_,rfl,show (0:Int)<(k:Int) by omega,_,_,rfl,rfl,Nat.zero_le _,fun h=>?_,fun h=>?_⟩
 ·have h':(!(c.1%(k:Int)==0))=true:=h;have e:¬c.1%(k:Int)=0:=by simpa using h'
  intro p G1 n1;refine qiz (q p G1 ?_);unfold pfL;rw[if_neg e];exact n1
 ·have h':(!(c.1%(k:Int)==0))=false:=h;have e:c.1%(k:Int)=0:=by simpa using h'
  have e1:c.1 / (k:Int)≤c.1:=Int.ediv_le_self _ (by have:=hv.1;omega);have e2:0≤c.1 / (k:Int):=Int.ediv_nonneg (by have:=hv.1;omega) (by omega);refine⟨c,k,rfl,h1,h2,whF c k,k,rfl,by omega,qmz (by show -10^80<c.1 / (k:Int);omega) (by show c.1 / (k:Int)<10^80;omega),fun p G1 n1=>qiz (q p G1 ?_)⟩;unfold pfL;rw[if_pos e];exact n1
def qccz:Sp3:=fun ds G Q=>∃cs:List Clk,ds=[csD cs]/\ClOk 1000 cs/\Rise cs/\cs.length≤12/\∀(p:Addr) (js:List (List Int)) (G':Gp),js.Perm (rawJ cs)->RiseL js->New G p (.lst (js.map tupI)) G'->Q (.obj p) G'
def q1pz:TS3:=sIf (eAnd (eTest (eOp (rEq3 true) (eVar 4) (eLst (aNil)))) (eTest (eCB qcgz (aCons (eComp ["part"] [0] (iSeq (eVar 4)) (hName 0) (tNoTest3) (eOp (rIn3 false) (eVar 0) (eVar 1))) (aNil))))) (sDrop (eM qepz (eVar 1) (aCons (eCB qa3z (aCons (eComp ["part"] [0] (iSeq (eVar 4)) (hName 0) (tNoTest3) (eTIx (eVar 1) (aCons (eVar 0) (aNil)))) (aNil))) (aNil)))) (sNext)
def q1qz:TS3:=sSeq (sAsg (eCall qd4z (aCons (eVar 2) (aCons (eVar 3) (aNil)))) (hName 4)) q1pz
def q1rz:TS3:=sFor (iRng2 (aCons (eC (.int 2)) (aCons (eOp rAdd3 (eCB q0z (aCons (eVar 0) (aNil))) (eC (.int 1))) (aNil)))) (hName 3) (q1qz)
def q1sz:TS3:=sRet (eCB qb2z (aCons (eVar 1) (aNil)))
def q1tz:TS3:=sSeq (sFor (iSeq (eVar 0)) (hName 2) (q1rz)) q1sz
def qn5z:TS3:=sSeq (sAsg (eLst (aNil)) (hName 1)) q1tz
theorem qn6z{cs:List Clk}{c:Clk}{k:Nat}(hk:2≤k):jnB cs c k=(!(pfL c k).isEmpty&&(pfL c k).all fun z=>decide (z∈cs)):=by
 unfold jnB pfL;by_cases h:c.1%(k:Int)=0
 ·rw[if_pos h,decide_eq_true h];have:(parts (whF c k) k).isEmpty=false:=by
   cases e:parts (whF c k) k with
   |nil=>
    have:=congrArg List.length e;rw[q3z] at this;simp at this;omega
   |cons a as=>rfl
  rw[this];rfl
 ·rw[if_neg h,decide_eq_false h];rfl
theorem q1uz{c:Clk}{k:Nat}:(pfL c k).length≤k:=by
 unfold pfL;split
 ·rw[q3z];exact Nat.le_refl _
 ·exact Nat.zero_le _
theorem q1vz{G:Gp}{cs:List Clk}{z:Clk}{Q:V3}(q:Q (.bl (decide (z∈cs))) G):rIn3 false (cD z) (csD cs) G Q:=by
 refine⟨cX z,cs.map cX,rfl,.inr (qcwz cs),Nat.le_trans (qb5z cs) (by decide),?_⟩;show Q (.bl ((cs.map cX).any fun v=>v.eqb (cX z))) G;rw[qfaz];exact q
theorem q1wz{cs:List Clk}{z:Clk}(h:z∈cs):((cs.map cX)[cs.idxOf z]?).map (fun v=>v.eqb (cX z))=some true/\∀i,i<cs.idxOf z->((cs.map cX)[i]?).map (fun v=>v.eqb (cX z))=some false:=by
 obtain⟨h1,h2⟩:=qcbz h;constructor
 ·rw[List.getElem?_map,h2];show some ((cX z).eqb (cX z))=some true;rw[qdiz,decide_eq_true rfl]
 ·intro i hi;have hl:i<cs.length:=by omega
  rw[List.getElem?_map,List.getElem?_eq_getElem hl];show some ((cX cs[i]).eqb (cX z))=some false;rw[qdiz];refine congrArg some (decide_eq_false fun e=>?_);have:=List.not_of_lt_findIdx (p:=(· == z)) (xs:=cs) (i:=i) hi;rw[e] at this;simp at this
theorem qn7z{guard:Gp->Prop}{G:Gp}{cs zs:List Clk}{Q:List D->Gp->Prop}(hz:∀z∈zs,z∈cs)(hg:guard G)(q:Q (zs.map fun z=>D.int ((cs.idxOf z:Nat):Int)) G):
  compGo guard (hName 0) tNoTest3 (eTIx (eVar 1) (aCons (eVar 0) aNil)) Q (zs.map cD) [] [none,some (csD cs)] G:=by
 refine qaez (fun τ=>∃x,τ=[x,some (csD cs)]) cD (fun _=>true) (fun z=>D.int ((cs.idxOf z:Nat):Int)) (G:=G) hg zs [] _ ⟨none,rfl⟩ ?_ ?_
 ·rintro z hm τ K1 K2 ⟨x,rfl⟩ g1 g2;obtain⟨h1,h2⟩:=q1wz (hz z hm);exact⟨fun _=>⟨cs.map cX,cX z,cs.idxOf z,qa0z cs,rfl,Nat.le_trans (qb5z cs) (by decide),h1,h2,g1 rfl _ ⟨_,rfl⟩⟩,nofun⟩
 ·rw[filter_all,List.nil_append];exact q
theorem q1xz:∀ds G Q,qccz ds G Q->qn5z (endsOf Q) (start3 ["clocks","found","clock","k","parts"] ds) G:=by
 rintro ds G Q ⟨cs,rfl,ok,hr,hl,q⟩;have hlm:(cs.map cD).length=cs.length:=List.length_map ..;have okv:∀z∈cs,Valid z:=fun z hz=>(ok z hz).1;intro q0 G0 n0;refine qafz (fun ds τ G'=>∃(dn zs:List Clk) (x2 x3 x4:Option D),ds=zs.map cD/\dn++zs=cs/\τ=[some (csD cs),some (.obj q0),x2,x3,x4]/\New G q0 (.lst ((dn.flatMap fun c=>((twos (cs.length-1)).filter (jnB cs c)).map (jnP cs c)).map tupI)) G') (fun _ _ _ _=>trivial) ?_ ?_ _ _ _ ⟨[],cs,none,none,none,rfl,rfl,rfl,n0⟩
 ·rintro d ds τ G1 N ⟨dn,zs,x2,x3,x4,e1,e2,rfl,n1⟩ hN;cases zs with
  |nil=>cases e1
  |cons c zs=>
   cases e1;have hc:c∈cs:=by rw[←e2];simp
   refine⟨⟨by decide,by decide,by rw[hlm];omega,by rw[hlm];omega⟩,?_⟩;show forGo _ _ _ _ (rngL 2 ((((cs.map cD).length:Nat):Int)+1-2).toNat) _ _;rw[hlm,show ((cs.length:Int)+1-2).toNat=cs.length-1 by omega,rng2];generalize hacc:(dn.flatMap fun c=>((twos (cs.length-1)).filter (jnB cs c)).map (jnP cs c))=acc at n1;refine qafz (fun ds τ G2=>∃(kd ks:List Nat) (x3 x4:Option D),ds=ks.map nD/\kd++ks=twos (cs.length-1)/\τ=[some (csD cs),some (.obj q0),some (cD c),x3,x4]/\New G q0 (.lst ((acc++(kd.filter (jnB cs c)).map (jnP cs c)).map tupI)) G2) (fun _ _ _ _=>trivial) ?_ ?_ _ _ _ ⟨[],_,x3,x4,rfl,rfl,rfl,by rw[List.filter_nil,List.map_nil,List.append_nil];exact n1⟩
   ·rintro d ds τ G2 N2 ⟨kd,ks,x3,x4,e3,e4,rfl,n2⟩ hN2;cases ks with
    |nil=>cases e3
    |cons k ks=>
     cases e3;have hk:=twos_mem.mp (show k∈twos (cs.length-1) by rw[←e4];simp);have hkl:k≤12:=by omega
     have hpl:=q1uz (c:=c) (k:=k);refine⟨c,k,rfl,by omega,by omega,okv c hc,(ok c hc).2,fun p3 G3 n3=>?_⟩;intro p4 G4 n4;have s4:=n3.sub.trans n4.sub;have e34:=n4.sub _ _ n3.at_;have skip:jnB cs c k=false->∀G5,Sub G4 G5->N2 [some (csD cs),some (.obj q0),some (cD c),some (nD k),some (.obj p3)] G5:=fun hf G5 s5=>by
      refine hN2 _ _ ⟨kd++[k],ks,_,_,rfl,by rw[←e4];simp,rfl,?_⟩;rw[List.filter_append,List.filter_cons,hf];simp only[Bool.false_eq_true,if_false,List.filter_nil,List.append_nil];exact⟨n2.non,n2.sub.trans (s4.trans s5),s5 _ _ (s4 _ _ n2.at_)⟩
     refine⟨_,_,qaaz e34 (qa0z _),qaaz n4.at_ rfl,qcrz _,fun h=>?_,fun h=>?_⟩
     ·have h':(!((Dat.D.lst ((pfL c k).map cX)).eqb (.lst [])))=true:=h;rw[qbcz,qdjz] at h';refine⟨_,e34,?_,?_⟩
      ·show ((pfL c k).map cD).length≤sizeLine;rw[List.length_map];exact line1000 (by omega)
      refine qaez (fun τ=>∃x,τ=[x,some (csD cs)]) cD (fun _=>true) (fun z=>D.bl (decide (z∈cs))) (G:=G4) e34 (pfL c k) [] _ ⟨none,rfl⟩ ?_ ?_
      ·rintro z hm τ K1 K2 ⟨x,rfl⟩ g1 g2;exact⟨fun _=>q1vz (g1 rfl _ ⟨_,rfl⟩),nofun⟩
      intro p5 G5 n5;rw[filter_all,List.nil_append] at n5;refine⟨_,_,n5.at_,qe7z _ _,?_⟩;rw[all_map];have hj:jnB cs c k=(pfL c k).all fun z=>decide (z∈cs):=by rw[qn6z hk.1,h',Bool.true_and]
      refine⟨fun ht=>?_,fun hf=>skip (by rw[hj];exact hf) _ n5.sub⟩;have hB:jnB cs c k=true:=by rw[hj];exact ht
      have ep:pfL c k=parts (whF c k) k:=by
       unfold jnB at hB;rw[Bool.and_eq_true,decide_eq_true_iff] at hB;unfold pfL;rw[if_pos hB.1]
      have hq5:=n5.sub _ _ (s4 _ _ n2.at_);refine⟨⟨q0,_,rfl,hq5⟩,_,n5.sub _ _ e34,by show ((pfL c k).map cD).length≤sizeLine;rw[List.length_map];exact line1000 (by omega),qn7z (fun z hz=>of_decide_eq_true (List.all_eq_true.mp ht z hz)) (n5.sub _ _ e34) fun p6 G6 n6=>?_⟩;refine⟨_,n6.at_,_,n6.sub _ _ hq5,?_,?_⟩
      ·rw[List.length_map];have hb:=qnvz okv (qbuz hr) hl;have e5:(rawJ cs).length=((dn++c::zs).flatMap fun c=>((twos (cs.length-1)).filter (jnB cs c)).map (jnP cs c)).length:=by
        rw[e2];rfl
       rw[List.flatMap_append,hacc,List.flatMap_cons,List.length_append,List.length_append,List.length_map,←e4,List.filter_append,List.length_append] at e5;refine Nat.lt_of_le_of_lt (m:=63) ?_ (by decide);rw[List.length_append,List.length_map];omega
      ·refine hN2 _ _ ⟨kd++[k],ks,_,_,rfl,by rw[←e4];simp,rfl,?_⟩;rw[List.filter_append,List.filter_cons,hB];simp only[if_true,List.filter_nil,List.map_append,List.map_cons,List.map_nil];have n7:New G q0 (.lst ((acc++(kd.filter (jnB cs c)).map (jnP cs c)).map tupI)) G6:=⟨n2.non,n2.sub.trans (s4.trans (n5.sub.trans n6.sub)),n6.sub _ _ hq5⟩;have n8:=wrote (o':=.lst ((acc++(kd.filter (jnB cs c)).map (jnP cs c)).map tupI++[D.tup ((pfL c k).map fun z=>D.int ((cs.idxOf z:Nat):Int))])) n7;have ee:D.tup ((pfL c k).map fun z=>D.int ((cs.idxOf z:Nat):Int))=tupI (jnP cs c k):=by
        unfold tupI jnP;rw[List.map_map,ep];rfl
       rw[ee] at n8;rw[List.map_append,List.append_assoc] at n8;rw[ee,List.append_assoc];exact n8
     ·refine⟨nofun,fun _=>skip ?_ _ (Sub.refl _)⟩;have h':(!((Dat.D.lst ((pfL c k).map cX)).eqb (.lst [])))=false:=h;rw[qbcz,qdjz] at h';rw[qn6z hk.1,h',Bool.false_and]
   ·rintro τ G2 ⟨kd,ks,x3,x4,e3,e4,rfl,n2⟩;have e0:ks=[]:=by cases ks with
     |nil=>rfl
     |cons z zs=>cases e3
    subst e0;rw[List.append_nil] at e4;refine hN _ _ ⟨dn++[c],zs,_,_,_,rfl,by rw[←e2];simp,rfl,?_⟩;rw[List.flatMap_append,hacc,List.flatMap_cons,List.flatMap_nil,List.append_nil,←e4];exact n2
 ·rintro τ G1 ⟨dn,zs,x2,x3,x4,e1,e2,rfl,n1⟩;have e0:zs=[]:=by cases zs with
   |nil=>rfl
   |cons z zs=>cases e1
  subst e0;rw[List.append_nil] at e2;subst e2;exact⟨rawJ dn,n1.at_,qnvz okv (qbuz hr) hl,fun ns hn=>q01z hn,fun p mss G2 n2 hp hr2=>qiz (q p mss G2 hp hr2 ⟨n1.sub.of_none n2.non,n1.sub.trans n2.sub,n2.at_⟩)⟩
end My
namespace My
open PySem L2 L3
def tX(ns:List Int):Dat.D:=.tup (ns.map Dat.D.int)
theorem qhlz{G:Gp}(ns:List Int):toDat G (tupI ns)=some (tX ns):=by
 show toDat0 (.tup (ns.map D.int))=_;rw[toDat0,qm5z];rfl
theorem q1yz(nss:List (List Int)):toDats0 (nss.map tupI)=some (nss.map tX):=by
 induction nss with
 |nil=>rfl
 |cons ns nss ih=>
  show toDats0 (tupI ns::nss.map tupI)=_;have h:toDat0 (tupI ns)=some (tX ns):=qhlz (G:=fun _=>none) ns;rw[toDats0,h,ih];rfl
theorem q1zz(ms ns:List Int):Dat.eqbs (ms.map Dat.D.int) (ns.map Dat.D.int)=decide (ms=ns):=by
 induction ms generalizing ns with
 |nil=>cases ns<;>rfl
 |cons m ms ih=>
  cases ns with
  |nil=>rfl
  |cons n ns=>
   show ((m==n)&&Dat.eqbs (ms.map Dat.D.int) (ns.map Dat.D.int))=_;rw[ih,Bool.eq_iff_iff];simp
theorem qn8z(ms ns:List Int):(tX ms).eqb (tX ns)=decide (ms=ns):=q1zz ms ns
theorem qn9z(ns:List Int):Dat.deps (ns.map Dat.D.int)=0:=by
 induction ns with
 |nil=>rfl
 |cons n ns ih=>
  show max 0 (Dat.deps (ns.map Dat.D.int))=0;omega
theorem q10z(nss:List (List Int)):Dat.deps (nss.map tX)≤1:=by
 induction nss with
 |nil=>exact Nat.zero_le _
 |cons ns nss ih=>
  show max (Dat.deps (ns.map Dat.D.int)+1) (Dat.deps (nss.map tX))≤1;rw[qn9z];omega
theorem q11z(nss:List (List Int))(ns:List Int):(nss.map tX).any (fun v=>v.eqb (tX ns))=decide (ns∈nss):=by
 rw[List.any_map,Bool.eq_iff_iff,List.any_eq_true,decide_eq_true_iff];constructor
 ·rintro⟨x,hx,h⟩;have h':(tX x).eqb (tX ns)=true:=h;rw[qn8z,decide_eq_true_iff] at h';rw[←h'];exact hx
 ·intro h;exact⟨ns,h,by show (tX ns).eqb (tX ns)=true;rw[qn8z,decide_eq_true rfl]⟩
theorem q12z(ns:List Int)(n:Int):(ns.map Dat.D.int).any (fun v=>v.eqb (.int n))=decide (n∈ns):=by
 rw[List.any_map,Bool.eq_iff_iff,List.any_eq_true,decide_eq_true_iff];constructor
 ·rintro⟨x,hx,h⟩;have h':(x==n)=true:=h;rw[←eq_of_beq h'];exact hx
 ·intro h;exact⟨n,h,by show (n==n)=true;exact beq_self_eq_true n⟩
theorem qoaz{G:Gp}{p:Addr}{js:List (List Int)}{ps:List Int}{Q:V3}(hp:G p=some (.lst (js.map tupI)))(q:Q (.bl (!decide (ps∈js))) G):rIn3 true (tupI ps) (.obj p) G Q:=by
 refine⟨tX ps,js.map tX,qhlz ps,.inl (qaaz hp (q1yz js)),Nat.le_trans (q10z js) (by decide),?_⟩;show Q (.bl (!((js.map tX).any fun v=>v.eqb (tX ps)))) G;rw[q11z];exact q
def qd5z:Sp3:=fun ds G Q=>∃(cs:List Clk) (ps:List Int),ds=[csD cs,tupI ps]/\(∀x∈ps,0≤x/\x<(cs.length:Nat))/\ps.Pairwise (· < ·)/\ps.length≤1000/\Q (.bl true) G
def q13z:TS3:=sRet (eCB qcgz (aCons (eComp ["ahead","place"] [] (iZip (aCons (eVar 1) (aCons (eSl (eVar 1) (oSome (eC (.int 1))) (oNone)) (aNil)))) (hTup 2 (hCons (hName 0) (hCons (hName 1) (hNil)))) (tNoTest3) (eOp rLtT3 (eVar 0) (eVar 1))) (aNil)))
def qobz:TS3:=sSeq (sIf (eOr (eNot (eTest (eInst "tuple" (eVar 1)))) (eNot (eTest (eCB qcgz (aCons (eComp ["place"] [0] (iSeq (eVar 1)) (hName 0) (tNoTest3) (eCall qc0z (aCons (eVar 1) (aCons (eVar 0) (aNil))))) (aNil)))))) (sRet (eC (.bl false))) (sNext)) q13z
theorem q14z{ps:List Int}(h:ps.Pairwise (· < ·)):((ps.zip (ps.drop 1)).all fun p=>decide (p.1<p.2))=true:=by
 rw[List.all_eq_true];intro p hp;obtain⟨i,hi,e⟩:=List.getElem_of_mem hp;rw[List.length_zip,List.length_drop] at hi;rw[List.getElem_zip,List.getElem_drop] at e;rw[←e];exact decide_eq_true (List.pairwise_iff_getElem.mp h i (1+i) (by omega) (by omega) (by omega))
theorem q15z:∀ds G Q,qd5z ds G Q->qobz (endsOf Q) (start3 ["things","thing"] ds) G:=by
 rintro ds G Q ⟨cs,ps,rfl,hb,hr,hl,q⟩;refine⟨nofun,fun _=>⟨?_,?_⟩⟩
 ·show (ps.map D.int).length≤sizeLine;rw[List.length_map];exact line1000 hl
 refine qaez (fun τ=>∃x,τ=[x,some (csD cs)]) D.int (fun _=>true) (fun x=>D.bl (placeB cs.length (.int x))) (G:=G) trivial ps [] _ ⟨none,rfl⟩ ?_ ?_
 ·rintro x hx τ K1 K2 ⟨y,rfl⟩ h1 h2;exact⟨fun _=>⟨cs,.int x,rfl,trivial,h1 rfl _ ⟨_,rfl⟩⟩,nofun⟩
 intro p1 G1 n1;rw[filter_all,List.nil_append] at n1;refine⟨_,_,n1.at_,qe7z _ _,?_⟩;rw[all_map];have ha:(ps.all fun x=>placeB cs.length (.int x))=true:=List.all_eq_true.mpr fun x hx=>by
  show (decide (0≤x)&&decide (x<(cs.length:Nat)))=true;rw[decide_eq_true (hb x hx).1,decide_eq_true (hb x hx).2];rfl
 rw[ha];refine⟨nofun,fun _=>?_⟩;have hcut:cut3 (ps.map D.int) (some 1) none=(ps.drop 1).map D.int:=by
  rw[qdkz,show (some (1:Int))=some ((1:Nat):Int) from rfl,qllz]
 refine⟨_,_,rfl,rfl,?_⟩;rw[hcut];rw[qdrz D.int D.int];refine⟨?_,?_⟩
 ·show ((ps.zip (ps.drop 1)).map _).length≤sizeLine;rw[List.length_map,List.length_zip];exact line1000 (by omega)
 refine qaez (fun τ=>∃x y,τ=[x,y]) (fun p:Int×Int=>D.tup [D.int p.1,D.int p.2]) (fun _=>true) (fun p=>.bl (decide (p.1<p.2))) (G:=G1) ⟨rfl,rfl⟩ (ps.zip (ps.drop 1)) [] _ ⟨none,none,rfl⟩ ?_ ?_
 ·rintro⟨a,b⟩ hm τ K1 K2 ⟨x,y,rfl⟩ h1 h2;exact⟨rfl,fun _=>h1 rfl _ ⟨_,_,rfl⟩,nofun⟩
 ·intro p2 G2 n2;rw[filter_all,List.nil_append] at n2;refine⟨_,_,n2.at_,qe7z _ _,?_⟩;rw[all_map,q14z hr];exact qazz (n1.sub.trans n2.sub) q
def qc4z:Sp3:=fun ds G Q=>∃(cs:List Clk) (c:Clk) (k:Nat),ds=[csD cs,tupI (jnP cs c k)]/\ClOk 1000 cs/\Rise cs/\cs.length≤12/\c∈cs/\(2≤k/\k≤cs.length)/\jnB cs c k=true ∧
 ∀us G',Sub G G'->(∀z,z∈us↔(z∈cs/\z∉parts (whF c k) k)∨z=whF c k)->Rise us->us.length≤cs.length->Q (csD us) G'
def q16z:TS3:=sRet (eCall qc1z (aCons (eOp rAdd3 (eVar 3) (eLst (aCons (eVar 2) (aNil)))) (aNil)))
def qocz:TS3:=sSeq (sAsg (eComp ["place","clock"] [1] (iEnum (aCons (eVar 0) (aNil))) (hTup 2 (hCons (hName 0) (hCons (hName 1) (hNil)))) (eTest (eOp (rIn3 true) (eVar 0) (eVar 2))) (eVar 1)) (hName 3)) q16z
def q17z:TS3:=sSeq (sAsg (eCall qc3z (aCons (eOp rIx3 (eVar 0) (eOp rIx3 (eVar 1) (eC (.int 0)))) (aCons (eCB q0z (aCons (eVar 1) (aNil))) (aNil)))) (hName 2)) qocz
def qodz:TS3:=sSeq (sIf (eOr (eNot (eTest (eCall qd5z (aCons (eVar 0) (aCons (eVar 1) (aNil)))))) (eTest (eOp (rIn3 true) (eVar 1) (eCall qccz (aCons (eVar 0) (aNil)))))) (sNever) (sNext)) q17z
theorem mem_enum{cs:List Clk}{i:Nat}{z:Clk}:(i,z)∈(List.range cs.length).zip cs↔cs[i]?=some z:=by
 constructor
 ·intro h;obtain⟨j,hj,e⟩:=List.getElem_of_mem h;rw[List.getElem_zip,List.getElem_range] at e;rw[List.length_zip,List.length_range] at hj;cases e;exact List.getElem?_eq_getElem (by omega)
 ·intro h;obtain⟨hl,e⟩:=List.getElem?_eq_some_iff.mp h;have hz:i<((List.range cs.length).zip cs).length:=by rw[List.length_zip,List.length_range];omega
  have:=List.getElem_mem hz;rw[List.getElem_zip,List.getElem_range,e] at this;exact this
theorem q18z{cs:List Clk}{c:Clk}{k:Nat}:(jnP cs c k).length=k:=by
 unfold jnP;rw[List.length_map,q3z]
theorem q19z{cs:List Clk}{c:Clk}{k:Nat}(hk:0<k)(e:(whF c k).1*(k:Int)=c.1):(jnP cs c k)[0]?=some ((cs.idxOf c:Nat):Int):=by
 unfold jnP parts;rw[List.getElem?_map,List.getElem?_map,List.getElem?_range hk];show some ((cs.idxOf ((whF c k).1*(k:Int),c.2+(whF c k).1*((0:Nat):Int)):Nat):Int)=_;rw[e];simp
def othL2(cs:List Clk)(ps:List Int):List Clk:=(((List.range cs.length).zip cs).filter fun p=>!decide ((p.1:Int)∈ps)).map (·.2)
theorem q2az{cs:List Clk}{ps:List Int}{z:Clk}:z∈othL2 cs ps↔∃i,cs[i]?=some z/\((i:Nat):Int)∉ps:=by
 unfold othL2;rw[List.mem_map];constructor
 ·rintro⟨⟨i,y⟩,h,rfl⟩;obtain⟨h1,h2⟩:=List.mem_filter.mp h;exact⟨i,mem_enum.mp h1,by simpa using h2⟩
 ·rintro⟨i,h1,h2⟩;exact⟨(i,z),List.mem_filter.mpr ⟨mem_enum.mpr h1,by simpa using h2⟩,rfl⟩
theorem q2bz{cs:List Clk}{ps:List Int}{i:Nat}{z:Clk}(hi:cs[i]?=some z)(hp:((i:Nat):Int)∈ps):(othL2 cs ps).length<cs.length:=by
 unfold othL2;rw[List.length_map];have h1:(((List.range cs.length).zip cs).filter fun p=>!decide ((p.1:Int)∈ps)).length<((List.range cs.length).zip cs).length:=by
  refine List.length_filter_lt_length_iff_exists.mpr ⟨(i,z),mem_enum.mpr hi,?_⟩;simp[hp]
 rw[List.length_zip,List.length_range] at h1;omega
theorem q2cz{Q:V3}{G G1:Gp}{cs:List Clk}{ps:List Int}{w:Clk}{x1:D}{x3:Option D}(hl:cs.length≤12)(s1:Sub G G1)
  (q:∀us G',Sub G G'->(∀z,z∈us↔z∈othL2 cs ps++[w])->Rise us->us.length≤(othL2 cs ps++[w]).length->Q (csD us) G'):qocz (endsOf Q) [some (csD cs),some (tupI ps),some (cD w),x3] G1:=by
 refine⟨cs.map cD,rfl,?_⟩;rw[qyaz cD cs];have hzl:((List.range cs.length).zip cs).length=cs.length:=by rw[List.length_zip,List.length_range];omega
 refine⟨?_,?_⟩
 ·show (((List.range cs.length).zip cs).map _).length≤sizeLine;rw[List.length_map,hzl];exact line1000 (by omega)
 refine qaez (guard:=fun G=>seqD G (csD cs) (cs.map cD)) (fun τ=>∃x y,τ=[x,y,some (tupI ps)]) (fun p:Nat×Clk=>D.tup [nD p.1,cD p.2]) (fun p=>!decide ((p.1:Int)∈ps)) (fun p=>cD p.2) (G:=G1) rfl ((List.range cs.length).zip cs) [] _ ⟨none,none,rfl⟩ ?_ ?_
 ·rintro⟨i,z⟩ hm τ K1 K2 ⟨x,y,rfl⟩ g1 g2;refine⟨rfl,.int (i:Int),ps.map Dat.D.int,rfl,.inr (qhlz ps),by rw[qn9z];decide,?_⟩;rw[q12z];exact⟨fun h=>g1 h _ ⟨_,_,rfl⟩,fun h=>g2 h _ ⟨_,_,rfl⟩⟩
 intro p2 G2 n2;rw[List.nil_append,show ((((List.range cs.length).zip cs).filter fun p=>!decide ((p.1:Int)∈ps)).map fun p=>cD p.2)=(othL2 cs ps).map cD by unfold othL2;rw[List.map_map];rfl] at n2;have hol:(othL2 cs ps).length≤12:=by
  unfold othL2;rw[List.length_map];exact Nat.le_trans (List.length_filter_le _ _) (by omega)
 intro p3 G3 n3;refine⟨_,_,n3.sub _ _ n2.at_,n3.at_,by rw[List.length_map];exact line1000 (by simp;omega),fun p4 G4 n4=>?_⟩;refine⟨.obj p4,othL2 cs ps++[w],rfl,?_,by simp;omega,fun us G5 s5 hm hr hl5=>qiz (q us G5 ((((s1.trans n2.sub).trans n3.sub).trans n4.sub).trans s5) hm hr hl5)⟩;show G4 p4=some (.lst (((othL2 cs ps++[w]).map toL).map tupI));rw[qb6z,List.map_append];exact n4.at_
theorem q2dz:∀ds G Q,qc4z ds G Q->qodz (endsOf Q) (start3 ["clocks","places","whole","others"] ds) G:=by
 rintro ds G Q ⟨cs,c,k,rfl,ok,hr,hl,hc,hk,hB,q⟩;have okv:∀z∈cs,Valid z:=fun z hz=>(ok z hz).1;have nd:=qbuz hr;obtain⟨f1,f2,f3⟩:=qhjz okv (okv c hc) hk.1 hB;have hlen:(jnP cs c k).length=k:=q18z;have hix:=qcbz hc;refine⟨cs,jnP cs c k,rfl,fun x hx=>?_,q04z hr f2 f3,by omega,nofun,fun _=>?_⟩
 ·obtain⟨z,hz,rfl⟩:=List.mem_map.mp hx;have:=(qcbz (f3 z hz)).1;omega
 refine⟨cs,rfl,ok,hr,hl,fun p1 js G1 hp hrl n1=>qoaz n1.at_ ?_⟩;have hin:jnP cs c k∈js:=hp.mem_iff.mpr (raw_mem.mpr ⟨c,hc,k,hk,hB,rfl⟩);rw[decide_eq_true hin];refine⟨nofun,fun _=>?_⟩;have h0:=q19z (cs:=cs) (by omega) f1;refine⟨.int ((cs.idxOf c:Nat):Int),qbjz (j:=0) (by rw[List.getElem?_map,h0];rfl),cD c,qbjz (by rw[List.getElem?_map,hix.2];rfl),c,k,?_,by omega,by omega,?_⟩
 ·show [cD c,D.int ((((jnP cs c k).map D.int).length:Nat):Int)]=_;rw[List.length_map,hlen]
 refine q2cz (x1:=.non) hl n1.sub fun us G2 s2 hm hru hlu=>q us G2 s2 (fun z=>?_) hru ?_
 ·rw[hm,List.mem_append,List.mem_singleton,q2az];constructor
  ·rintro (⟨i,hi,hn⟩|e)
   ·exact .inl ⟨List.mem_of_getElem? hi,fun h=>hn ((qnxz nd f3 hi).mpr h)⟩
   ·exact .inr e
  ·rintro (⟨h1,h2⟩|e)
   ·obtain⟨i,hi⟩:=List.getElem?_of_mem h1;exact .inl ⟨i,hi,fun h=>h2 ((qnxz nd f3 hi).mp h)⟩
   ·exact .inr e
 ·have:=q2bz hix.2 (ps:=jnP cs c k) (List.mem_of_getElem? h0);rw[List.length_append] at hlu;simp at hlu;omega
end My
namespace My
open PySem L2 L3
def qd6z:Sp3:=qz7z
def q2ez:TS3:=sRet (eCall qc1z (aCons (eOp rAdd3 (eVar 4) (eCB qa3z (aCons (eCall qa4z (aCons (eVar 3) (aCons (eVar 2) (aNil)))) (aNil)))) (aNil)))
def q2fz:TS3:=sSeq (sDrop (eCall qczz (aCons (eVar 5) (aCons (eC (.int 1000)) (aNil))))) q2ez
def q2gz:TS3:=sSeq (sDrop (eCall qczz (aCons (eOp rSub3 (eOp rAdd3 (eCB q0z (aCons (eVar 4) (aNil))) (eVar 2)) (eCB q0z (aCons (eVar 6) (aNil)))) (aCons (eC (.int 12)) (aNil))))) q2fz
def q2hz:TS3:=sSeq (sAsg (eComp ["other"] [5,3] (iSeq (eVar 4)) (hName 0) (eAnd (eTest (eOp (rEq3 false) (eOp rIx3 (eVar 0) (eC (.int 0))) (eVar 1))) (eTest (eCall qcxz (aCons (eVar 0) (aCons (eVar 2) (aNil)))))) (eVar 0)) (hName 6)) q2gz
def qoez:TS3:=sSeq (sAsg (eOp rMul3 (eOp rIx3 (eVar 3) (eC (.int 0))) (eVar 2)) (hName 5)) q2hz
def q2iz:TS3:=sSeq (sAsg (eOp rAdd3 (eSl (eVar 0) (oNone) (oSome (eVar 1))) (eSl (eVar 0) (oSome (eOp rAdd3 (eVar 1) (eC (.int 1)))) (oNone))) (hName 4)) qoez
def q2jz:TS3:=sSeq (sAsg (eOp rIx3 (eVar 0) (eVar 1)) (hName 3)) q2iz
def qofz:TS3:=sSeq (sDrop (eCall qd1z (aCons (eVar 0) (aCons (eVar 1) (aNil))))) q2jz
theorem q2kz:∀ds G Q,qd6z ds G Q->qofz (endsOf Q) (start3 ["clocks","place","k","clock","others","step","twice"] ds) G:=by
 rintro ds G Q ⟨cs,i,k,c,rfl,hi,ok,hl,hk,k2,q⟩;have hm:=List.mem_of_getElem? hi;have hil:i<cs.length:=(List.getElem?_eq_some_iff.mp hi).1;have hv:=(ok c hm).1;have v1:=hv.1;have h1000:=(ok c hm).2;have e1:cut3 (cs.map cD) none (some (i:Int))=(cs.take i).map cD:=by rw[qdkz,qlkz]
 have e2:cut3 (cs.map cD) (some ((i:Int)+1)) none=(cs.drop (i+1)).map cD:=by
  rw[qdkz,show ((i:Int)+1)=((i+1:Nat):Int) by omega,qllz]
 have hlr:(rest1 cs i).length=cs.length-1:=by
  unfold rest1;rw[List.length_append,List.length_take,List.length_drop];omega
 refine⟨cs,i,rfl,hil,cD c,qbjz (by rw[List.getElem?_map,hi];rfl),?_⟩;show ((cut3 (cs.map cD) none (some (i:Int))).length+(cut3 (cs.map cD) (some ((i:Int)+1)) none).length≤sizeLine)/\_;rw[e1,e2,←List.length_append,←List.map_append];show ((rest1 cs i).map cD).length≤sizeLine/\qoez (endsOf Q) [some (csD cs),some (.int i),some (.int k),some (cD c),some (.tup ((rest1 cs i).map cD)),none,none] G;refine⟨by rw[List.length_map];exact line1000 (by omega),_,rfl,⟨qmz (by omega) (by omega),qmz (by omega) (by omega)⟩,?_,?_⟩
 ·show ((rest1 cs i).map cD).length≤sizeLine;rw[List.length_map];exact line1000 (by omega)
 refine qaez (fun τ=>∃x,τ=[x,some (.int (c.1*(k:Int))),some (cD c)]) cD (fun z=>z.1==c.1*(k:Int)&&insB z c) cD (G:=G) trivial (rest1 cs i) [] _ ⟨none,rfl⟩ ?_ ?_
 ·rintro z hz τ K1 K2 ⟨x,rfl⟩ h1 h2;refine⟨_,rfl,_,_,rfl,rfl,Nat.zero_le _,fun h3=>⟨z,c,rfl,v1,fun h4=>h1 ?_ _ ⟨_,rfl⟩,fun h4=>h2 ?_ _ ⟨_,rfl⟩⟩,fun h3=>⟨nofun,fun _=>h2 ?_ _ ⟨_,rfl⟩⟩⟩
  ·have h3':(z.1==c.1*(k:Int))=true:=h3;rw[h3',h4];rfl
  ·rw[h4,Bool.and_false]
  ·have h3':(z.1==c.1*(k:Int))=false:=h3;rw[h3',Bool.false_and]
 intro p1 G1 n1;rw[List.nil_append] at n1;refine⟨_,n1.at_,_,_,rfl,?_,_,_,rfl,hk,?_⟩
 ·rw[List.length_map];have:=List.length_map cD (as:=rest1 cs i);omega
 refine⟨c,k,rfl,by omega,qmz (by omega) (by omega),fun p2 G2 n2=>⟨_,n2.at_,?_⟩⟩;have hpl2:=q3z c k;refine⟨?_,csD (rest1 cs i++parts c k),rest1 cs i++parts c k,?_,q0kz _,?_,fun cs' G3 s3 hmem hr hl3=>?_⟩
 ·rw[List.length_map,List.length_map];exact line1000 (by omega)
 ·rw[←List.map_append];rfl
 ·rw[List.length_append];omega
 rw[List.length_append] at hl3;refine qiz (q cs' G3 ((n1.sub.trans n2.sub).trans s3) (fun z=>?_) hr (by omega));rw[hmem,List.mem_append]
theorem q2lz{cs us:List Clk}{i k:Nat}{c:Clk}(hv:Valid c)(hk:0<k)(hi:cs[i]?=some c)(hu:∀z,z∈us↔z∈rest1 cs i∨z∈parts c k)(n:Int):us.any (rg2 n)=cs.any (rg2 n):=by
 have e:=qfez hv.1 hi (qffz hk) n;rw[qfgz] at e;rw[Bool.eq_iff_iff];constructor
 ·intro h;obtain⟨z,hz,r⟩:=List.any_eq_true.mp h;have hp:=List.length_pos_of_mem (List.mem_filter.mpr ⟨List.mem_append.mpr ((hu z).mp hz),r⟩);rw[e] at hp;obtain⟨y,hy⟩:=List.exists_mem_of_length_pos hp;obtain⟨h1,h2⟩:=List.mem_filter.mp hy;exact List.any_eq_true.mpr ⟨y,h1,h2⟩
 ·intro h;obtain⟨z,hz,r⟩:=List.any_eq_true.mp h;have hp:=List.length_pos_of_mem (List.mem_filter.mpr ⟨hz,r⟩);rw[←e] at hp;obtain⟨y,hy⟩:=List.exists_mem_of_length_pos hp;obtain⟨h1,h2⟩:=List.mem_filter.mp hy;exact List.any_eq_true.mpr ⟨y,(hu y).mpr (List.mem_append.mp h1),h2⟩
theorem qogz{cs:List Clk}(ok:∀z∈cs,Valid z)(n:Int):(cs.filter (rg n)).isEmpty = !(cs.any (rg2 n)):=by
 rw[List.filter_congr fun z hz=>(qbqz (ok z hz) n).symm]
 induction cs with
 |nil=>rfl
 |cons z zs ih=>
  rw[List.filter_cons,List.any_cons];cases rg2 n z with
  |true=>rfl
  |false=>exact ih fun y hy=>ok y (List.mem_cons_of_mem _ hy)
theorem qohz{a b:Bool}(h:a=b):(!(Dat.D.bl a).eqb (.bl b))=false:=by
 subst h;cases a<;>rfl
structure Cl8(cs:List Clk):Prop where
 ok:ClOk 1000 cs
 r:Rise cs
 l:cs.length≤8
theorem Cl8.v{cs:List Clk}(h:Cl8 cs):∀z∈cs,Valid z:=fun z hz=>(h.ok z hz).1
structure SpA(cs us:List Clk)(i k:Nat)(c:Clk):Prop where
 cl:Cl8 cs
 hi:cs[i]?=some c
 k2:2≤k
 k5:k≤5
 st:c.1*(k:Int)≤1000
 m:∀z,z∈us↔z∈rest1 cs i∨z∈parts c k
 r:Rise us
 l:us.length≤12
theorem SpA.vc{cs us:List Clk}{i k:Nat}{c:Clk}(S:SpA cs us i k c):Valid c:=S.cl.v c (List.mem_of_getElem? S.hi)
theorem SpA.ok{cs us:List Clk}{i k:Nat}{c:Clk}(S:SpA cs us i k c):ClOk 1000 us:=fun z hz=>by
 rcases (S.m z).mp hz with h|h
 ·exact S.cl.ok z ((qb9z S.hi z).mpr (.inl h))
 ·obtain⟨h1,h2⟩:=qfdz S.vc h;exact⟨h1,by rw[h2];exact S.st⟩
theorem SpA.v{cs us:List Clk}{i k:Nat}{c:Clk}(S:SpA cs us i k c):∀z∈us,Valid z:=fun z hz=>(S.ok z hz).1
def zc(c:Clk)(k:Nat):Clk:=(c.1*(k:Int),c.2)
theorem qhmz{c:Clk}{k:Nat}(hk:0<k):whF (zc c k) k=c:=by
 show (c.1*(k:Int) / (k:Int),c.2)=c;rw[Int.mul_ediv_cancel _ (by omega)]
theorem q2mz{c:Clk}{k:Nat}(hk:0<k):zc c k∈parts c k:=List.mem_map.mpr ⟨0,List.mem_range.mpr hk,by unfold zc;simp⟩
theorem SpA.jn{cs us:List Clk}{i k:Nat}{c:Clk}(S:SpA cs us i k c):zc c k∈us/\(2≤k/\k≤us.length)/\jnB us (zc c k) k=true:=by
 have k2:=S.k2;have hm:∀z∈parts c k,z∈us:=fun z hz=>(S.m z).mpr (.inr hz);refine⟨hm _ (q2mz (by omega)),⟨k2,?_⟩,?_⟩
 ·have:=(qhkz S.vc k).length_le_of_subset hm;rw[q3z] at this;exact this
 ·unfold jnB;rw[qhmz (by omega),Bool.and_eq_true];exact⟨decide_eq_true (Int.mul_emod_left _ _),List.all_eq_true.mpr fun z hz=>decide_eq_true (hm z hz)⟩
theorem SpA.back{cs us vs:List Clk}{i k:Nat}{c:Clk}(S:SpA cs us i k c)(hno:∀z∈parts c k,z∉cs)(hm:∀z,z∈vs↔(z∈us/\z∉parts (whF (zc c k) k) k)∨z=whF (zc c k) k)(hr:Rise vs):vs=cs:=by
 rw[qhmz (by have:=S.k2;omega)] at hm;refine q0lz hr S.cl.r fun z=>?_;rw[hm,qb9z S.hi z];constructor
 ·rintro (⟨h1,h2⟩|h)
  ·rcases (S.m z).mp h1 with h|h
   ·exact .inl h
   ·exact absurd h h2
  ·exact .inr h
 ·rintro (h|h)
  ·exact .inl ⟨(S.m z).mpr (.inl h),fun hp=>hno z hp ((qb9z S.hi z).mpr (.inl h))⟩
  ·exact .inr h
theorem SpA.ex{cs us:List Clk}{i k:Nat}{c:Clk}(S:SpA cs us i k c)(hno:∀z∈parts c k,z∉cs):exB us=exB cs:=
 q06z S.cl.ok S.ok (by have:=S.k2;omega) (qbuz S.cl.r) S.hi S.r S.m fun z hz h=>hno z hz ((qb9z S.hi z).mpr (.inl h))
theorem q2nz{m:Nat}{cs:List Clk}{c:Clk}(h:papO m cs c=some .non):cs=[c]:=by
 cases m with
 |zero=>cases h
 |succ m=>
  unfold papO at h;split at h
  ·rename_i e;exact e
  ·cases ek:primeO cs c with
   |none=>rw[ek] at h;cases h
   |some k=>
    rw[ek] at h;have h:(seqO ((parts c k).map fun p=>papO m (insF cs p) p)).map (fun ps=>D.tup [.int k,.tup ps])=some .non:=h;cases es:seqO ((parts c k).map fun p=>papO m (insF cs p) p) with
    |none=>rw[es] at h;cases h
    |some ps=>rw[es] at h;cases h
theorem SpA.pap{cs us:List Clk}{i k:Nat}{c:Clk}(S:SpA cs us i k c)(hno:∀z∈parts c k,z∉cs)(h:papO 10 cs (1,0)≠none):∃d,papO 10 us (1,0)=some d/\d≠.non:=by
 have k2:=S.k2;have v0:Valid (1,0):=⟨by decide,by decide,by decide⟩;have W:Within 10 cs (1,0):=qdyz (by have:=S.cl.l;omega) fun z hz=>⟨(S.cl.v z hz).1,(S.cl.ok z hz).2⟩;have W2:Within 10 us (1,0):=qdyz (by have:=S.l;omega) fun z hz=>⟨(S.v z hz).1,(S.ok z hz).2⟩;have h1:=(qm9z W h).exch v0 (fun x hx=>⟨qn0z,S.cl.v x hx⟩) c (List.mem_of_getElem? S.hi) k k2;have nd:=qbuz S.cl.r;have hp:us.Perm (cs.filter (fun x=>decide (x≠c))++parts c k):=by
  refine (qnyz S.vc nd S.hi S.r S.m fun z hz h=>hno z hz ((qb9z S.hi z).mpr (.inl h))).trans (List.Perm.append_right _ ?_);refine (List.perm_ext_iff_of_nodup (qfiz nd S.hi).1 (nd.filter _)).mpr fun z=>?_;rw[List.mem_filter,qb9z S.hi z];constructor
  ·intro hz;exact⟨.inl hz,decide_eq_true fun e=>(qfiz nd S.hi).2 (e▸hz)⟩
  ·rintro⟨h2|h2,h3⟩
   ·exact h2
   ·exact absurd h2 (of_decide_eq_true h3)
 have h2:=qznz W2 (h1.perm hp.symm);cases e:papO 10 us (1,0) with
 |none=>exact absurd e h2
 |some d=>
  refine⟨d,rfl,fun hd=>?_⟩;subst hd;have h3:=q2nz e;have:=S.jn.2.1;rw[h3] at this;simp at this;omega
def qd7z:Sp3:=fun ds G Q=>∃(cs:List Clk) (i k:Nat) (c:Clk) (far:Int),ds=[csD cs,.int i,.int k,.int far]/\Cl8 cs/\cs[i]?=some c/\2≤k/\k≤5/\c.1*(k:Int)≤1000/\Q (.bl true) G
def q2oz:TS3:=sIf (eTest (eOp (rEq3 true) (eOp (rEq3 false) (eCall qcqz (aCons (eVar 0) (aCons (eVar 5) (aNil)))) (eLst (aNil))) (eOp (rEq3 false) (eCall qcqz (aCons (eVar 4) (aCons (eVar 5) (aNil)))) (eLst (aNil))))) (sRet (eC (.bl false))) (sNext)
def qhnz:TS3:=sIf (eAnd (eTest (eOp (rIs3 true) (eCall qb7z (aCons (eVar 0) (aNil))) (eC .non))) (eTest (eOp (rIs3 false) (eCall qb7z (aCons (eVar 4) (aNil))) (eC .non)))) (sRet (eC (.bl false))) (sNext)
def q2pz:TS3:=sSeq (sIf (eTest (eOp (rEq3 true) (eCall qbfz (aCons (eVar 4) (aNil))) (eCall qbfz (aCons (eVar 0) (aNil))))) (sRet (eC (.bl false))) (sNext)) qhnz
def qoiz:TS3:=sSeq (sIf (eOr (eTest (eOp (rIn3 true) (eVar 7) (eCall qccz (aCons (eVar 4) (aNil))))) (eTest (eOp (rEq3 true) (eCall qc4z (aCons (eVar 4) (aCons (eVar 7) (aNil)))) (eVar 0)))) (sRet (eC (.bl false))) (sNext)) q2pz
def q2qz:TS3:=sRet (eC (.bl true))
def q2rz:TS3:=sSeq (sIf (eTest (eOp (rEq3 false) (eComp ["part"] [0] (iSeq (eVar 6)) (hName 0) (eTest (eOp (rIn3 false) (eVar 0) (eVar 1))) (eVar 0)) (eLst (aNil)))) (sSeq (sAsg (eCB qa3z (aCons (eComp ["part"] [4] (iSeq (eVar 6)) (hName 0) (tNoTest3) (eTIx (eVar 1) (aCons (eVar 0) (aNil)))) (aNil))) (hName 7)) qoiz) (sNext)) q2qz
def qojz:TS3:=sSeq (sAsg (eCall qdsz (aCons (eOp rIx3 (eVar 0) (eVar 1)) (aCons (eVar 2) (aNil)))) (hName 6)) q2rz
def q2sz:TS3:=sSeq (sFor (iSeq (eOp rAdd3 (eLR2 (aCons (eUn rNeg3 (eC (.int 6))) (aCons (eC (.int 40)) (aNil)))) (eLst (aCons (eVar 3) (aCons (eOp rSub3 (eC (.int 0)) (eVar 3)) (aNil)))))) (hName 5) (q2oz)) qojz
def qokz:TS3:=sSeq (sAsg (eCall qd6z (aCons (eVar 0) (aCons (eVar 1) (aCons (eVar 2) (aNil))))) (hName 4)) q2sz
theorem q2tz{D3:Ends3}{G1:Gp}{cs us:List Clk}{i k:Nat}{c:Clk}{x1 x2 x3 x5 x6 x7:Option D}(S:SpA cs us i k c)(hno:∀z∈parts c k,z∉cs)(q:∀τ,D3.nx τ G1):qhnz D3 [some (csD cs),x1,x2,x3,some (csD us),x5,x6,x7] G1:=by
 refine⟨cs,rfl,by have:=S.cl.l;omega,fun z hz=>⟨(S.cl.v z hz).1,(S.cl.ok z hz).2⟩,?_⟩;cases e:papO 10 cs (1,0) with
 |none=>exact⟨nofun,fun _=>⟨nofun,fun _=>q _⟩⟩
 |some d=>
  obtain⟨d',e',hd'⟩:=S.pap hno (by rw[e];exact nofun);have rest:qhnz D3 [some (csD cs),x1,x2,x3,some (csD us),x5,x6,x7] G1->True:=fun _=>trivial;refine⟨fun _=>⟨us,rfl,by have:=S.l;omega,fun z hz=>⟨(S.v z hz).1,(S.ok z hz).2⟩,?_⟩,fun _=>⟨nofun,fun _=>q _⟩⟩;rw[e'];refine⟨fun h=>?_,fun _=>q _⟩;have h':isNon d'=true:=h;cases d' with
  |non=>exact absurd rfl hd'
  |_=>cases h'
theorem q2uz{D3:Ends3}{G1:Gp}{cs us:List Clk}{i k:Nat}{c:Clk}{x1 x2 x3 x5 x6:Option D}(S:SpA cs us i k c)(hno:∀z∈parts c k,z∉cs)(q:∀τ G2,Sub G1 G2->D3.nx τ G2):qoiz D3 [some (csD cs),x1,x2,x3,some (csD us),x5,x6,some (tupI (jnP us (zc c k) k))] G1:=by
 obtain⟨j1,j2,j3⟩:=S.jn;refine⟨us,rfl,S.ok,S.r,S.l,fun p js G2 hp hrl n2=>qoaz n2.at_ ?_⟩;have hin:jnP us (zc c k) k∈js:=hp.mem_iff.mpr (raw_mem.mpr ⟨_,j1,k,j2,j3,rfl⟩);rw[decide_eq_true hin];refine⟨nofun,fun _=>⟨us,zc c k,k,rfl,S.ok,S.r,S.l,j1,j2,j3,fun vs G3 s3 hm hr hl=>?_⟩⟩;have e:=S.back hno hm hr;subst e;refine⟨_,_,qcwz vs,qcwz vs,qnmz vs,fun h=>?_,fun _=>?_⟩
 ·have h':(!(Dat.D.tup (vs.map cX)).eqb (.tup (vs.map cX)))=true:=h;rw[q0iz] at h';cases h'
 ·refine⟨us,rfl,S.ok,S.l,vs,rfl,S.cl.ok,by have:=S.cl.l;omega,_,_,rfl,rfl,Nat.zero_le _,fun h=>?_,fun _=>q2tz S hno fun τ=>q τ _ (n2.sub.trans s3)⟩;have h':(!(Dat.D.bl (exB us)).eqb (.bl (exB vs)))=true:=h;rw[qohz (S.ex hno)] at h';cases h'
theorem q2vz{Q:V3}{G G1:Gp}{cs us:List Clk}{i k:Nat}{c:Clk}{x3 x5 x6 x7:Option D}(S:SpA cs us i k c)(s:Sub G G1)(q:Q (.bl true) G):qojz (endsOf Q) [some (csD cs),some (.int i),some (.int k),x3,some (csD us),x5,x6,x7] G1:=by
 have k5:=S.k5;have hpl:=q3z c k;have hc:=S.cl.ok c (List.mem_of_getElem? S.hi);have h1:=hc.1.1;refine⟨cD c,qbjz (by rw[List.getElem?_map,S.hi];rfl),c,k,rfl,by omega,qmz (by have:=hc.2;omega) (by have:=hc.2;omega),fun p2 G2 n2=>?_⟩;refine⟨_,n2.at_,?_,?_⟩
 ·show ((parts c k).map cD).length≤sizeLine;rw[List.length_map];exact line1000 (by omega)
 refine qaez (fun τ=>∃x,τ=[x,some (csD cs)]) cD (fun z=>decide (z∈cs)) cD (G:=G2) n2.at_ (parts c k) [] _ ⟨none,rfl⟩ ?_ ?_
 ·rintro z hm τ K1 K2 ⟨x,rfl⟩ g1 g2;refine⟨cX z,cs.map cX,rfl,.inr (qcwz cs),Nat.le_trans (qb5z cs) (by decide),?_⟩;rw[qfaz];exact⟨fun h=>g1 h _ ⟨_,rfl⟩,fun h=>g2 h _ ⟨_,rfl⟩⟩
 intro p3 G3 n3;rw[List.nil_append] at n3;intro p4 G4 n4;have s4:=(s.trans n2.sub).trans (n3.sub.trans n4.sub);refine⟨_,_,qaaz (n4.sub _ _ n3.at_) (qa0z _),qaaz n4.at_ rfl,qcrz _,fun h=>?_,fun h=>qazz s4 q⟩;have h':(Dat.D.lst (((parts c k).filter fun z=>decide (z∈cs)).map cX)).eqb (.lst [])=true:=h;rw[qbcz,qdjz,List.isEmpty_iff,List.filter_eq_nil_iff] at h';have hno:∀z∈parts c k,z∉cs:=fun z hz hz2=>h' z hz (decide_eq_true hz2);have e24:=n4.sub _ _ (n3.sub _ _ n2.at_);refine⟨_,e24,by show ((parts c k).map cD).length≤sizeLine;rw[List.length_map];exact line1000 (by omega),qn7z (fun z hz=>(S.m z).mpr (.inr hz)) e24 fun p5 G5 n5=>⟨_,n5.at_,?_⟩⟩;have ee:D.tup ((parts c k).map fun z=>D.int ((us.idxOf z:Nat):Int))=tupI (jnP us (zc c k) k):=by
  unfold tupI jnP;rw[List.map_map,qhmz (by have:=S.k2;omega)];rfl
 rw[ee];exact q2uz S hno fun τ G6 s6=>qazz (s4.trans (n5.sub.trans s6)) q
theorem q2wz:∀ds G Q,qd7z ds G Q->qokz (endsOf Q) (start3 ["clocks","place","k","far","split","number","parts","places"] ds) G:=by
 rintro ds G Q ⟨cs,i,k,c,far,rfl,cl,hi,k2,k5,hst,q⟩;refine⟨cs,i,k,c,rfl,hi,cl.ok,by have:=cl.l;omega,hst,k2,fun us G1 s1 hm hr hl=>?_⟩;have S:SpA cs us i k c:=⟨cl,hi,k2,k5,hst,hm,hr,hl⟩;refine⟨⟨by decide,by decide,by decide,by decide⟩,by decide,fun p1 G2 n1 p2 G3 n2=>⟨_,_,n2.sub _ _ n1.at_,n2.at_,?_,fun p3 G4 n3=>?_⟩⟩
 ·rw[qbkz];exact line1000 (show (40 - -6:Int).toNat+2≤1000 by decide)
 have s4:=s1.trans ((n1.sub.trans n2.sub).trans n3.sub);refine⟨_,n3.at_,?_⟩;refine qafz (fun ds τ G'=>(∃is:List Int,ds=is.map D.int)/\Sub G4 G'/\∃x5,τ=[some (csD cs),some (.int i),some (.int k),some (.int far),some (csD us),x5,none,none]) (fun _ _ _ h=>h.2.1 _ _ n3.at_) ?_ ?_ _ _ _ ⟨⟨((List.range 46).map fun k:Nat=>(-6:Int)+(k:Int))++[far,0-far],by rw[List.map_append,←q0mz];rfl⟩,Sub.refl _,_,rfl⟩
 ·rintro d ds τ G5 N ⟨⟨is,e⟩,s5,x5,rfl⟩ hN;cases is with
  |nil=>cases e
  |cons n is=>
   cases e;refine⟨cs,n,rfl,fun z hz=>(cl.v z hz).1,by have:=cl.l;omega,fun p6 G6 n6 p7 G7 n7=>⟨_,_,qaaz (n7.sub _ _ n6.at_) (qa0z _),qaaz n7.at_ rfl,qcrz _,?_⟩⟩;refine⟨us,n,rfl,fun z hz=>(S.v z hz).1,by omega,fun p8 G8 n8 p9 G9 n9=>⟨_,_,qaaz (n9.sub _ _ n8.at_) (qa0z _),qaaz n9.at_ rfl,qcrz _,_,_,rfl,rfl,Nat.zero_le _,fun h=>?_,fun _=>hN _ _ ⟨⟨is,rfl⟩,s5.trans ((n6.sub.trans n7.sub).trans (n8.sub.trans n9.sub)),_,rfl⟩⟩⟩;have h':(!(Dat.D.bl ((Dat.D.lst ((cs.filter (rg n)).map cX)).eqb (.lst []))).eqb (.bl ((Dat.D.lst ((us.filter (rg n)).map cX)).eqb (.lst []))))=true:=h;rw[qohz (by rw[qbcz,qbcz,qdjz,qdjz,qogz cl.v,qogz S.v,q2lz S.vc (by omega) hi hm])] at h';cases h'
 ·rintro τ G5 ⟨_,s5,x5,rfl⟩;exact q2vz S (s4.trans s5) q
def qd8z:Sp3:=fun ds G Q=>∃cs:List Clk,ds=[csD cs]/\Cl8 cs/\Q (.bl true) G
def q2xz:TS3:=sRet (eAndV (eOp rIsB3 (eCall qdvz (aCons (eVar 0) (aCons (eVar 1) (aNil)))) (eC (.bl true))) (eOp rIsB3 (eCall qbfz (aCons (eVar 0) (aNil))) (eC (.bl true))))
def q2yz:TS3:=sSeq (sIf (eTest (eOp (rIs3 false) (eVar 1) (eC .non))) (sRet (eC (.bl true))) (sNext)) q2xz
def qolz:TS3:=sSeq (sAsg (eCall qb7z (aCons (eVar 0) (aNil))) (hName 1)) q2yz
theorem q2zz:∀ds G Q,qd8z ds G Q->qolz (endsOf Q) (start3 ["clocks","paper"] ds) G:=by
 rintro ds G Q ⟨cs,rfl,cl,q⟩;have hl:=cl.l;refine⟨cs,rfl,by omega,fun z hz=>⟨(cl.v z hz).1,(cl.ok z hz).2⟩,fun _=>qiz q,fun h=>?_⟩;cases e:papO 10 cs (1,0) with
 |none=>
  rw[e] at h;cases h
 |some d=>
  obtain⟨t1,t2,t3,t4⟩:=q1hz cl.ok cl.r (by omega) e;have W:Within 10 cs (1,0):=qdyz (by omega) fun z hz=>⟨(cl.v z hz).1,(cl.ok z hz).2⟩;refine⟨cs,d,rfl,t1 G,t2,t3,by omega,fun b hb=>?_⟩;rw[hb.mpr t4];refine⟨fun _=>⟨cs,rfl,cl.ok,by omega,?_⟩,nofun⟩;rw[q1cz cl.ok (qm9z W (by rw[e];exact nofun))];exact qiz q
end My
namespace My
open PySem L2 L3
def sp_law:Sp3:=fun ds G Q=>∃ns:List Int,ds=[.scr (ns.map .int)]/\ns.length≤63/\Q (.bl true) G
def q20z:TS3:=sIf (eAnd (eTest (eOp rLe3 (eOp rMul3 (eOp rIx3 (eOp rIx3 (eVar 4) (eVar 5)) (eC (.int 0))) (eVar 6)) (eC (.int 1000)))) (eNot (eTest (eCall qd7z (aCons (eVar 4) (aCons (eVar 5) (aCons (eVar 6) (aCons (eVar 3) (aNil))))))))) (sRet (eC (.bl false))) (sNext)
def q21z:TS3:=sSeq (sAsg (eOp rAdd3 (eC (.int 2)) (eCall qadz (aCons (eVar 2) (aCons (eC (.int 4)) (aNil))))) (hName 6)) q20z
def q22z:TS3:=sIf (eAnd (eTest (eCall qbfz (aCons (eVar 4) (aNil)))) (eNot (eTest (eCall qbfz (aCons (eCall qc4z (aCons (eVar 4) (aCons (eVar 7) (aNil)))) (aNil)))))) (sRet (eC (.bl false))) (sNext)
def q23z:TS3:=sFor (iSeq (eCall qccz (aCons (eVar 4) (aNil)))) (hName 7) (q22z)
def qhoz:TS3:=sSeq (sIf (eNot (eTest (eCall qd8z (aCons (eVar 4) (aNil))))) (sRet (eC (.bl false))) (sNext)) q23z
def qomz:TS3:=sSeq (sIf (eTest (eOp (rEq3 true) (eVar 4) (eTup (aNil)))) (sSeq (sAsg (eCall qadz (aCons (eVar 2) (aCons (eCB q0z (aCons (eVar 4) (aNil))) (aNil)))) (hName 5)) q21z) (sNext)) qhoz
def q24z:TS3:=sFor (iSeq (eLst (aCons (eCall qd2z (aCons (eVar 2) (aCons (eC (.int 8)) (aNil)))) (aCons (eCB qa3z (aCons (eCall qc2z (aCons (eVar 2) (aCons (eC (.int 1)) (aCons (eC (.int 8)) (aNil))))) (aNil))) (aNil))))) (hName 4) (qomz)
def q25z:TS3:=sSeq (sAsg (eCall qadz (aCons (eVar 2) (aCons (eOp rPow3 (eC (.int 10)) (eC (.int 40))) (aNil)))) (hName 3)) q24z
def q26z:TS3:=sSeq (sAsg (eCall qg0z (aCons (eVar 1) (aNil))) (hName 2)) q25z
def q27z:TS3:=sRet (eC (.bl true))
def qonz:TS3:=sSeq (sFor (iSeq (eOp rAdd3 (eLst (aCons (eCall qdhz (aCons (eVar 0) (aCons (eC (.int 0)) (aNil)))) (aNil))) (eSl (eVar 0) (oSome (eC (.int 1))) (oSome (eC (.int 4)))))) (hName 1) (q26z)) q27z
theorem q28z{cs us:List Clk}{c:Clk}{k:Nat}(ok:ClOk 1000 cs)(hc:c∈cs)(hv:Valid (whF c k))(hm:∀z,z∈us↔(z∈cs/\z∉parts (whF c k) k)∨z=whF c k):ClOk 1000 us:=fun z hz=>by
 rcases (hm z).mp hz with h|h
 ·exact ok z h.1
 ·subst h;refine⟨hv,?_⟩;have h1:=(ok c hc).1.1;have h2:=(ok c hc).2;have:c.1 / (k:Int)≤c.1:=Int.ediv_le_self _ (by omega);show c.1 / (k:Int)≤1000;omega
theorem q29z{D3:Ends3}{G1:Gp}{us:List Clk}{x0 x1 x2 x3 x5 x6 x7:Option D}(cl:Cl8 us)(q:∀y7 G2,Sub G1 G2->D3.nx [x0,x1,x2,x3,some (csD us),x5,x6,y7] G2):qhoz D3 [x0,x1,x2,x3,some (csD us),x5,x6,x7] G1:=by
 have hl:=cl.l;refine⟨us,rfl,cl,nofun,fun _=>?_⟩;refine⟨us,rfl,cl.ok,cl.r,by omega,fun p js G2 hp hrl n2=>⟨_,n2.at_,?_⟩⟩;refine qafz (fun ds τ G'=>∃(ks:List (List Int)) (y7:Option D),ds=ks.map tupI/\(∀j∈ks,j∈rawJ us)/\Sub G2 G'/\τ=[x0,x1,x2,x3,some (csD us),x5,x6,y7]) (fun _ _ _ h=>by obtain⟨_,_,_,_,s,_⟩:=h;exact s _ _ n2.at_) ?_ ?_ _ _ _ ⟨js,x7,rfl,fun j hj=>hp.mem_iff.mp hj,Sub.refl _,rfl⟩
 ·rintro d ds τ G3 N ⟨ks,y7,e,hk,s3,rfl⟩ hN;cases ks with
  |nil=>cases e
  |cons j ks=>
   cases e;obtain⟨c,hc,k,hkk,hB,rfl⟩:=raw_mem.mp (hk j List.mem_cons_self);have nx:∀G4,Sub G3 G4->N [x0,x1,x2,x3,some (csD us),x5,x6,some (tupI (jnP us c k))] G4:=fun G4 s4=>hN _ _ ⟨ks,_,rfl,fun y hy=>hk y (List.mem_cons_of_mem _ hy),s3.trans s4,rfl⟩;obtain⟨f1,f2,f3⟩:=qhjz cl.v (cl.v c hc) hkk.1 hB;refine⟨us,rfl,cl.ok,by omega,fun h=>⟨us,c,k,rfl,cl.ok,cl.r,by omega,hc,hkk,hB,fun vs G4 s4 hm hr hlv=>?_⟩,fun _=>⟨nofun,fun _=>nx _ (Sub.refl _)⟩⟩;have okv:=q28z cl.ok hc f2 hm;refine⟨vs,rfl,okv,by omega,fun h2=>?_,fun _=>nx _ s4⟩;have h2':(!(exB vs))=true:=h2;rw[qhiz okv (q08z (qnrz cl.ok h) f2 hkk.1 f3 hr hm)] at h2';cases h2'
 ·rintro τ G3 ⟨ks,y7,e,hk,s3,rfl⟩;exact q _ _ (n2.sub.trans s3)
theorem q3az{D3:Ends3}{G1:Gp}{us:List Clk}{pp:Addr}{far:Int}{x0 x1 x5 x6 x7:Option D}(hpp:G1 pp=some .pen)(cl:Cl8 us)(q:∀y5 y6 y7 G2,Sub G1 G2->D3.nx [x0,x1,some (.obj pp),some (.int far),some (csD us),y5,y6,y7] G2):
  qomz D3 [x0,x1,some (.obj pp),some (.int far),some (csD us),x5,x6,x7] G1:=by
 have hl:=cl.l;have hlm:(us.map cD).length=us.length:=List.length_map ..;have rest:∀y5 y6,qhoz D3 [x0,x1,some (.obj pp),some (.int far),some (csD us),y5,y6,x7] G1:=fun y5 y6=>q29z cl fun y7 G2 s2=>q _ _ _ _ s2;refine⟨_,_,qcwz us,rfl,qnmz us,fun h=>?_,fun _=>rest _ _⟩;have hne:us≠[]:=fun z=>by
  rw[z] at h;cases h
 have h0:0<us.length:=List.length_pos_iff.mpr hne;refine⟨pp,_,rfl,hpp,⟨by show (0:Int)<(((us.map cD).length:Nat):Int);rw[hlm];omega,by show Big (((us.map cD).length:Nat):Int);rw[hlm];exact qmz (by omega) (by omega)⟩,fun r r1 r2=>?_⟩;have r2:r<(((us.map cD).length:Nat):Int):=r2;rw[hlm] at r2;obtain⟨i,rfl⟩:∃i:Nat,r=(i:Int):=⟨r.toNat,by omega⟩;have hi:i<us.length:=by omega
 have hc:=cl.ok us[i] (List.getElem_mem hi);have hc1:=hc.1.1;refine⟨pp,4,rfl,hpp,⟨by decide,qmz (by decide) (by decide)⟩,fun t t1 t2=>?_⟩;obtain⟨j,rfl⟩:∃j:Nat,t=(j:Int):=⟨t.toNat,by omega⟩;refine⟨cD us[i],qbjz (by rw[List.getElem?_map,List.getElem?_eq_getElem hi];rfl),_,rfl,⟨qmz (by have:=hc.2;omega) (by have:=hc.2;omega),qmz (by omega) (by omega)⟩,fun hst=>?_,fun _=>⟨nofun,fun _=>rest _ _⟩⟩;have hst':us[i].1*(2+(j:Int))≤1000:=of_decide_eq_true hst;have ek:(2:Int)+(j:Int)=((j+2:Nat):Int):=by omega
 rw[ek] at hst';refine⟨us,i,j+2,us[i],far,?_,cl,List.getElem?_eq_getElem hi,by omega,by omega,hst',nofun,fun _=>rest _ _⟩;show [csD us,D.int (i:Int),D.int (2+(j:Int)),D.int far]=_;rw[ek]
theorem q3bz{cs:List Clk}(h:Made cs)(hr:Rise cs)(hl:cs.length≤8):Cl8 cs:=⟨fun c hc=>⟨h.v c hc,by
 have:c.1≤((2^7:Nat):Int):=h.le (j:=7) (by omega) hc;have:c.1≤128:=this;omega⟩,hr,hl⟩
theorem q3cz:∀ds G Q,sp_law ds G Q->qonz (endsOf Q) (start3 ["script","cell","pen","far","clocks","place","k","places"] ds) G:=by
 rintro ds G Q ⟨ns,rfl,hl,q⟩;refine⟨ns,0,rfl,fun i=>?_⟩;intro q0 G0 n0 q1 G1 n1;rw[qdkz] at n1;have hcl:=qwmz ns (some 1) (some 4);refine⟨_,_,n1.sub _ _ n0.at_,n1.at_,?_,fun q2 G2 n2=>?_⟩
 ·rw[List.length_map];exact line1000 (by simp;omega)
 have s2:=(n0.sub.trans n1.sub).trans n2.sub;refine⟨_,n2.at_,?_⟩;refine qafz (fun ds τ G'=>(∃is:List Int,ds=is.map D.int)/\Sub G2 G'/\∃x1 x2 x3 x4 x5 x6 x7,τ=[some (.scr (ns.map .int)),x1,x2,x3,x4,x5,x6,x7]) (fun _ _ _ h=>h.2.1 _ _ n2.at_) ?_ ?_ _ _ _ ⟨⟨i::cutG ns (some 1) (some 4),rfl⟩,Sub.refl _,_,_,_,_,_,_,_,rfl⟩
 ·rintro d ds τ G3 N ⟨⟨is,e⟩,s3,x1,x2,x3,x4,x5,x6,x7,rfl⟩ hN;cases is with
  |nil=>cases e
  |cons cc is=>
   cases e;refine⟨cc,rfl,fun pp G4 n4=>?_⟩;refine⟨⟨by decide,by decide⟩,?_⟩;refine⟨pp,10^40,rfl,n4.at_,⟨by decide,qmz (by decide) (by decide)⟩,fun far f1 f2=>?_⟩;refine⟨pp,rfl,n4.at_,fun cs hb hl8 hr=>⟨pp,1,8,rfl,n4.at_,⟨by decide,by decide,by decide⟩,fun q5 ms G5 hm hrm l2 l8 l1 n5=>⟨_,n5.at_,fun q6 G6 n6=>⟨_,n6.at_,?_⟩⟩⟩⟩;have s6:=s3.trans (n4.sub.trans (n5.sub.trans n6.sub));refine qafz (fun ds τ G'=>(∃us:List (List Clk),ds=us.map csD/\∀u∈us,Cl8 u)/\Sub G6 G'/\∃y4 y5 y6 y7,τ=[some (.scr (ns.map .int)),some (.int cc),some (.obj pp),some (.int far),y4,y5,y6,y7]) (fun _ _ _ h=>h.2.1 _ _ n6.at_) ?_ ?_ _ _ _ ⟨⟨[cs,ms],rfl,fun u hu=>?_⟩,Sub.refl _,_,_,_,_,rfl⟩
   ·rintro d ds τ G7 N7 ⟨⟨us,e7,hu⟩,s7,y4,y5,y6,y7,rfl⟩ hN7;cases us with
    |nil=>cases e7
    |cons u us=>
     cases e7;exact q3az (s7 _ _ (n6.sub _ _ (n5.sub _ _ n4.at_))) (hu u List.mem_cons_self) fun z5 z6 z7 G8 s8=>hN7 _ _ ⟨⟨us,rfl,fun v hv=>hu v (List.mem_cons_of_mem _ hv)⟩,s7.trans s8,_,_,_,_,rfl⟩
   ·rintro τ G7 ⟨_,s7,y4,y5,y6,y7,rfl⟩;exact hN _ _ ⟨⟨is,rfl⟩,s6.trans s7,_,_,_,_,_,_,_,rfl⟩
   ·rcases List.mem_cons.mp hu with rfl|hu
    ·exact⟨hb.1,hr,hl8⟩
    ·rw[List.mem_singleton.mp hu];exact q3bz hm hrm (by omega)
 ·rintro τ G3 ⟨_,s3,x1,x2,x3,x4,x5,x6,x7,rfl⟩;exact qazz (s2.trans s3) q
end My
namespace My
open PySem L2 L3
def top(i:Nat):Stmt:=PySem.Challenge.pw_coverclocks_k37_whole_splits_and_joins.main.body.getD i (.Pass ⟨0,0,0,0⟩)
abbrev qhpz:Stmt:=top 5
abbrev q3dz:List Str:=["thing"]
theorem q3ez:FnScope q3dz ["thing"] (defScope qhpz):=⟨rfl,rfl,rfl,by decide +kernel,rfl,by decide +kernel,by decide +kernel⟩
abbrev qhqz:Stmt:=top 6
abbrev q3fz:List Str:=["things","thing"]
theorem q3gz:FnScope q3fz ["things","thing"] (defScope qhqz):=⟨rfl,rfl,rfl,by decide +kernel,rfl,by decide +kernel,by decide +kernel⟩
abbrev qhrz:Stmt:=top 7
abbrev q3hz:List Str:=["things","thing"]
theorem q3iz:FnScope q3hz ["things","thing"] (defScope qhrz):=⟨rfl,rfl,rfl,by decide +kernel,rfl,by decide +kernel,by decide +kernel⟩
abbrev qd9z:Stmt:=top 8
abbrev qhsz:List Str:=["things","thing"]
theorem q3jz:FnScope qhsz ["things","thing"] (defScope qd9z):=⟨rfl,rfl,rfl,by decide +kernel,rfl,by decide +kernel,by decide +kernel⟩
abbrev qhtz:Stmt:=top 9
abbrev q3kz:List Str:=["k","papers"]
theorem q3lz:FnScope q3kz ["k","papers"] (defScope qhtz):=⟨rfl,rfl,rfl,by decide +kernel,rfl,by decide +kernel,by decide +kernel⟩
abbrev qhuz:Stmt:=top 10
abbrev q3mz:List Str:=["things"]
theorem q3nz:FnScope q3mz ["things"] (defScope qhuz):=⟨rfl,rfl,rfl,by decide +kernel,rfl,by decide +kernel,by decide +kernel⟩
abbrev qhvz:Stmt:=top 11
abbrev q3oz:List Str:=["many","most"]
theorem q3pz:FnScope q3oz ["many","most"] (defScope qhvz):=⟨rfl,rfl,rfl,by decide +kernel,rfl,by decide +kernel,by decide +kernel⟩
abbrev qhwz:Stmt:=top 12
abbrev q3qz:List Str:=["one","other","left"]
theorem sc_z7:FnScope q3qz ["one","other"] (defScope qhwz):=⟨rfl,rfl,rfl,by decide +kernel,rfl,by decide +kernel,by decide +kernel⟩
abbrev qhxz:Stmt:=top 13
abbrev q3rz:List Str:=["numbers","least","number"]
theorem sc_z4:FnScope q3rz ["numbers"] (defScope qhxz):=⟨rfl,rfl,rfl,by decide +kernel,rfl,by decide +kernel,by decide +kernel⟩
abbrev qhyz:Stmt:=top 14
abbrev q3sz:List Str:=["number","bound","high","low","high_factor","low_factor","turns","left","left_factor"]
theorem sc_z24:FnScope q3sz ["number","bound"] (defScope qhyz):=⟨rfl,rfl,rfl,by decide +kernel,rfl,by decide +kernel,by decide +kernel⟩
abbrev qhzz:Stmt:=top 15
abbrev q3tz:List Str:=["top","bottom","shared"]
theorem sc_z15:FnScope q3tz ["top","bottom"] (defScope qhzz):=⟨rfl,rfl,rfl,by decide +kernel,rfl,by decide +kernel,by decide +kernel⟩
abbrev qh0z:Stmt:=top 19
abbrev q3uz:List Str:=["clock","number"]
theorem q3vz:FnScope q3uz ["clock","number"] (defScope qh0z):=⟨rfl,rfl,rfl,by decide +kernel,rfl,by decide +kernel,by decide +kernel⟩
abbrev qfjz:Stmt:=top 20
abbrev qooz:List Str:=["clocks","number"]
theorem q3wz:FnScope qooz ["clocks","number"] (defScope qfjz):=⟨rfl,rfl,rfl,by decide +kernel,rfl,by decide +kernel,by decide +kernel⟩
abbrev qfkz:Stmt:=top 21
abbrev qopz:List Str:=["clocks"]
theorem q3xz:FnScope qopz ["clocks"] (defScope qfkz):=⟨rfl,rfl,rfl,by decide +kernel,rfl,by decide +kernel,by decide +kernel⟩
abbrev qh1z:Stmt:=top 22
abbrev q3yz:List Str:=["one","other","shared","apart","many","turns"]
theorem sc_z40:FnScope q3yz ["one","other"] (defScope qh1z):=⟨rfl,rfl,rfl,by decide +kernel,rfl,by decide +kernel,by decide +kernel⟩
abbrev qh2z:Stmt:=top 23
abbrev q3zz:List Str:=["one","other"]
theorem q30z:FnScope q3zz ["one","other"] (defScope qh2z):=⟨rfl,rfl,rfl,by decide +kernel,rfl,by decide +kernel,by decide +kernel⟩
abbrev qflz:Stmt:=top 24
abbrev qoqz:List Str:=["clock","k"]
theorem q31z:FnScope qoqz ["clock","k"] (defScope qflz):=⟨rfl,rfl,rfl,by decide +kernel,rfl,by decide +kernel,by decide +kernel⟩
abbrev qfmz:Stmt:=top 26
abbrev qorz:List Str:=["clocks","place","k","clock","others","step","twice"]
theorem sc_z36:FnScope qorz ["clocks","place","k"] (defScope qfmz):=⟨rfl,rfl,rfl,by decide +kernel,rfl,by decide +kernel,by decide +kernel⟩
abbrev qeaz:Stmt:=top 27
abbrev qh3z:List Str:=["clocks","found","clock","k","parts"]
theorem sc_z37:FnScope qh3z ["clocks"] (defScope qeaz):=⟨rfl,rfl,rfl,by decide +kernel,rfl,by decide +kernel,by decide +kernel⟩
abbrev qh4z:Stmt:=top 28
abbrev q32z:List Str:=["clock","k"]
theorem q33z:FnScope q32z ["clock","k"] (defScope qh4z):=⟨rfl,rfl,rfl,by decide +kernel,rfl,by decide +kernel,by decide +kernel⟩
abbrev qh5z:Stmt:=top 29
abbrev q34z:List Str:=["clock","k"]
theorem q35z:FnScope q34z ["clock","k"] (defScope qh5z):=⟨rfl,rfl,rfl,by decide +kernel,rfl,by decide +kernel,by decide +kernel⟩
abbrev qfnz:Stmt:=top 30
abbrev qosz:List Str:=["clocks","places","whole","others"]
theorem sc_z42:FnScope qosz ["clocks","places"] (defScope qfnz):=⟨rfl,rfl,rfl,by decide +kernel,rfl,by decide +kernel,by decide +kernel⟩
abbrev qh6z:Stmt:=top 31
abbrev q36z:List Str:=["clocks","thing","made"]
theorem sc_z26:FnScope q36z ["clocks","thing"] (defScope qh6z):=⟨rfl,rfl,rfl,by decide +kernel,rfl,by decide +kernel,by decide +kernel⟩
abbrev qh7z:Stmt:=top 32
abbrev q37z:List Str:=["clocks","thing","clock","made","paper","part","more"]
theorem sc_z41:FnScope q37z ["clocks","thing","clock"] (defScope qh7z):=⟨rfl,rfl,rfl,by decide +kernel,rfl,by decide +kernel,by decide +kernel⟩
abbrev qh8z:Stmt:=top 33
abbrev q38z:List Str:=["clocks","papers"]
theorem sc_z18:FnScope q38z ["clocks"] (defScope qh8z):=⟨rfl,rfl,rfl,by decide +kernel,rfl,by decide +kernel,by decide +kernel⟩
abbrev qfoz:Stmt:=top 34
abbrev qotz:List Str:=["clocks","clock","k","papers","part","found"]
theorem sc_z8:FnScope qotz ["clocks","clock"] (defScope qfoz):=⟨rfl,rfl,rfl,by decide +kernel,rfl,by decide +kernel,by decide +kernel⟩
abbrev qh9z:Stmt:=top 35
abbrev q39z:List Str:=["clocks","clock","shared","inner","k"]
theorem sc_z28:FnScope q39z ["clocks","clock"] (defScope qh9z):=⟨rfl,rfl,rfl,by decide +kernel,rfl,by decide +kernel,by decide +kernel⟩
abbrev qfpz:Stmt:=top 37
abbrev qouz:List Str:=["clocks","bottom"]
theorem sc_z27:FnScope qouz ["clocks"] (defScope qfpz):=⟨rfl,rfl,rfl,by decide +kernel,rfl,by decide +kernel,by decide +kernel⟩
abbrev qiaz:Stmt:=top 38
abbrev q4az:List Str:=["clocks","place","other","met"]
theorem sc_z34:FnScope q4az ["clocks"] (defScope qiaz):=⟨rfl,rfl,rfl,by decide +kernel,rfl,by decide +kernel,by decide +kernel⟩
abbrev qibz:Stmt:=top 39
abbrev q4bz:List Str:=["clocks"]
theorem q4cz:FnScope q4bz ["clocks"] (defScope qibz):=⟨rfl,rfl,rfl,by decide +kernel,rfl,by decide +kernel,by decide +kernel⟩
abbrev qicz:Stmt:=top 41
abbrev q4dz:List Str:=["script","k"]
theorem q4ez:FnScope q4dz ["script","k"] (defScope qicz):=⟨rfl,rfl,rfl,by decide +kernel,rfl,by decide +kernel,by decide +kernel⟩
abbrev qidz:Stmt:=top 42
abbrev q4fz:List Str:=["seed"]
theorem sc_z38:FnScope q4fz ["seed"] (defScope qidz):=⟨rfl,rfl,rfl,by decide +kernel,rfl,by decide +kernel,by decide +kernel⟩
abbrev qiez:Stmt:=top 43
abbrev q4gz:List Str:=["cell","left"]
theorem sc_z20:FnScope q4gz ["cell"] (defScope qiez):=⟨rfl,rfl,rfl,by decide +kernel,rfl,by decide +kernel,by decide +kernel⟩
abbrev qifz:Stmt:=top 44
abbrev q4hz:List Str:=["pen","many","found"]
theorem sc_z39:FnScope q4hz ["pen","many"] (defScope qifz):=⟨rfl,rfl,rfl,by decide +kernel,rfl,by decide +kernel,by decide +kernel⟩
abbrev qigz:Stmt:=top 45
abbrev q4iz:List Str:=["pen","most","step"]
theorem sc_z13:FnScope q4iz ["pen","most"] (defScope qigz):=⟨rfl,rfl,rfl,by decide +kernel,rfl,by decide +kernel,by decide +kernel⟩
abbrev qfqz:Stmt:=top 46
abbrev qovz:List Str:=["pen","least","most","clocks","k","step","rest"]
theorem sc_z12:FnScope qovz ["pen","least","most"] (defScope qfqz):=⟨rfl,rfl,rfl,by decide +kernel,rfl,by decide +kernel,by decide +kernel⟩
abbrev qfrz:Stmt:=top 47
abbrev qowz:List Str:=["pen","most","way","found","steps","turn","step"]
theorem sc_z9:FnScope qowz ["pen","most"] (defScope qfrz):=⟨rfl,rfl,rfl,by decide +kernel,rfl,by decide +kernel,by decide +kernel⟩
abbrev qfsz:Stmt:=top 48
abbrev qoxz:List Str:=["clock","k"]
theorem q4jz:FnScope qoxz ["clock","k"] (defScope qfsz):=⟨rfl,rfl,rfl,by decide +kernel,rfl,by decide +kernel,by decide +kernel⟩
abbrev qebz:Stmt:=top 49
abbrev qihz:List Str:=["clocks","place","k","far","split","number","parts","places"]
theorem sc_z2:FnScope qihz ["clocks","place","k","far"] (defScope qebz):=⟨rfl,rfl,rfl,by decide +kernel,rfl,by decide +kernel,by decide +kernel⟩
abbrev qiiz:Stmt:=top 50
abbrev q4kz:List Str:=["clocks","paper"]
theorem sc_z3:FnScope q4kz ["clocks"] (defScope qiiz):=⟨rfl,rfl,rfl,by decide +kernel,rfl,by decide +kernel,by decide +kernel⟩
abbrev qijz:Stmt:=top 51
abbrev q4lz:List Str:=["script","cell","pen","far","clocks","place","k","places"]
theorem sc_law:FnScope q4lz ["script"] (defScope qijz):=⟨rfl,rfl,rfl,by decide +kernel,rfl,by decide +kernel,by decide +kernel⟩
set_option genInjectivity false in
structure Adr where
 f_z21:Addr
 d_z21:FuncData
 f_z23:Addr
 d_z23:FuncData
 f_z5:Addr
 d_z5:FuncData
 f_z0:Addr
 d_z0:FuncData
 f_z1:Addr
 d_z1:FuncData
 f_z16:Addr
 d_z16:FuncData
 f_z11:Addr
 d_z11:FuncData
 f_z7:Addr
 d_z7:FuncData
 f_z4:Addr
 d_z4:FuncData
 f_z24:Addr
 d_z24:FuncData
 f_z15:Addr
 d_z15:FuncData
 f_z43:Addr
 d_z43:FuncData
 f_z32:Addr
 d_z32:FuncData
 f_z33:Addr
 d_z33:FuncData
 f_z40:Addr
 d_z40:FuncData
 f_z29:Addr
 d_z29:FuncData
 f_z35:Addr
 d_z35:FuncData
 f_z36:Addr
 d_z36:FuncData
 f_z37:Addr
 d_z37:FuncData
 f_z25:Addr
 d_z25:FuncData
 f_z19:Addr
 d_z19:FuncData
 f_z42:Addr
 d_z42:FuncData
 f_z26:Addr
 d_z26:FuncData
 f_z41:Addr
 d_z41:FuncData
 f_z18:Addr
 d_z18:FuncData
 f_z8:Addr
 d_z8:FuncData
 f_z28:Addr
 d_z28:FuncData
 f_z27:Addr
 d_z27:FuncData
 f_z34:Addr
 d_z34:FuncData
 f_z22:Addr
 d_z22:FuncData
 f_z17:Addr
 d_z17:FuncData
 f_z38:Addr
 d_z38:FuncData
 f_z20:Addr
 d_z20:FuncData
 f_z39:Addr
 d_z39:FuncData
 f_z13:Addr
 d_z13:FuncData
 f_z12:Addr
 d_z12:FuncData
 f_z9:Addr
 d_z9:FuncData
 f_z30:Addr
 d_z30:FuncData
 f_z2:Addr
 d_z2:FuncData
 f_z3:Addr
 d_z3:FuncData
 f_law:Addr
 d_law:FuncData
 t_MOST_CLOCKS:Tok
 t_MOST_STEP:Tok
structure Txt(K:PySem.W.Frag)(mg:Str->Option Value)(t:Adr):Prop where
 F_z21:Fun K "whole_good" "whole_good" qhpz t.f_z21 t.d_z21
 m_z21:mg "whole_good" = some (.ref t.f_z21)
 b_z21:Binds K t.d_z21 ["thing"] []
 F_z23:Fun K "place_good" "place_good" qhqz t.f_z23 t.d_z23
 m_z23:mg "place_good" = some (.ref t.f_z23)
 b_z23:Binds K t.d_z23 ["things","thing"] []
 F_z5:Fun K "refuse_no_place" "refuse_no_place" qhrz t.f_z5 t.d_z5
 m_z5:mg "refuse_no_place" = some (.ref t.f_z5)
 b_z5:Binds K t.d_z5 ["things","thing"] []
 F_z0:Fun K "rising_places_good" "rising_places_good" qd9z t.f_z0 t.d_z0
 m_z0:mg "rising_places_good" = some (.ref t.f_z0)
 b_z0:Binds K t.d_z0 ["things","thing"] []
 F_z1:Fun K "split_form_good" "split_form_good" qhtz t.f_z1 t.d_z1
 m_z1:mg "split_form_good" = some (.ref t.f_z1)
 b_z1:Binds K t.d_z1 ["k","papers"] []
 F_z16:Fun K "rising_once" "rising_once" qhuz t.f_z16 t.d_z16
 m_z16:mg "rising_once" = some (.ref t.f_z16)
 b_z16:Binds K t.d_z16 ["things"] []
 F_z11:Fun K "refuse_above" "refuse_above" qhvz t.f_z11 t.d_z11
 m_z11:mg "refuse_above" = some (.ref t.f_z11)
 b_z11:Binds K t.d_z11 ["many","most"] []
 F_z7:Fun K "common_divisor" "common_divisor" qhwz t.f_z7 t.d_z7
 m_z7:mg "common_divisor" = some (.ref t.f_z7)
 b_z7:Binds K t.d_z7 ["one","other"] []
 F_z4:Fun K "common_multiple" "common_multiple" qhxz t.f_z4 t.d_z4
 m_z4:mg "common_multiple" = some (.ref t.f_z4)
 b_z4:Binds K t.d_z4 ["numbers"] []
 F_z24:Fun K "inverse_of" "inverse_of" qhyz t.f_z24 t.d_z24
 m_z24:mg "inverse_of" = some (.ref t.f_z24)
 b_z24:Binds K t.d_z24 ["number","bound"] []
 F_z15:Fun K "lowest_terms" "lowest_terms" qhzz t.f_z15 t.d_z15
 m_z15:mg "lowest_terms" = some (.ref t.f_z15)
 b_z15:Binds K t.d_z15 ["top","bottom"] []
 F_z43:Fun K "rings" "rings" qh0z t.f_z43 t.d_z43
 m_z43:mg "rings" = some (.ref t.f_z43)
 b_z43:Binds K t.d_z43 ["clock","number"] []
 F_z32:Fun K "rings_at" "rings_at" qfjz t.f_z32 t.d_z32
 m_z32:mg "rings_at" = some (.ref t.f_z32)
 b_z32:Binds K t.d_z32 ["clocks","number"] []
 F_z33:Fun K "round_of" "round_of" qfkz t.f_z33 t.d_z33
 m_z33:mg "round_of" = some (.ref t.f_z33)
 b_z33:Binds K t.d_z33 ["clocks"] []
 F_z40:Fun K "meet_of" "meet_of" qh1z t.f_z40 t.d_z40
 m_z40:mg "meet_of" = some (.ref t.f_z40)
 b_z40:Binds K t.d_z40 ["one","other"] []
 F_z29:Fun K "inside_of" "inside_of" qh2z t.f_z29 t.d_z29
 m_z29:mg "inside_of" = some (.ref t.f_z29)
 b_z29:Binds K t.d_z29 ["one","other"] []
 F_z35:Fun K "parts_of" "parts_of" qflz t.f_z35 t.d_z35
 m_z35:mg "parts_of" = some (.ref t.f_z35)
 b_z35:Binds K t.d_z35 ["clock","k"] []
 F_z36:Fun K "split_at" "split_at" qfmz t.f_z36 t.d_z36
 m_z36:mg "split_at" = some (.ref t.f_z36)
 b_z36:Binds K t.d_z36 ["clocks","place","k"] []
 F_z37:Fun K "joins_of" "joins_of" qeaz t.f_z37 t.d_z37
 m_z37:mg "joins_of" = some (.ref t.f_z37)
 b_z37:Binds K t.d_z37 ["clocks"] []
 F_z25:Fun K "parts_from" "parts_from" qh4z t.f_z25 t.d_z25
 m_z25:mg "parts_from" = some (.ref t.f_z25)
 b_z25:Binds K t.d_z25 ["clock","k"] []
 F_z19:Fun K "whole_from" "whole_from" qh5z t.f_z19 t.d_z19
 m_z19:mg "whole_from" = some (.ref t.f_z19)
 b_z19:Binds K t.d_z19 ["clock","k"] []
 F_z42:Fun K "join_at" "join_at" qfnz t.f_z42 t.d_z42
 m_z42:mg "join_at" = some (.ref t.f_z42)
 b_z42:Binds K t.d_z42 ["clocks","places"] []
 F_z26:Fun K "split_good" "split_good" qh6z t.f_z26 t.d_z26
 m_z26:mg "split_good" = some (.ref t.f_z26)
 b_z26:Binds K t.d_z26 ["clocks","thing"] []
 F_z41:Fun K "made_of" "made_of" qh7z t.f_z41 t.d_z41
 m_z41:mg "made_of" = some (.ref t.f_z41)
 b_z41:Binds K t.d_z41 ["clocks","thing","clock"] []
 F_z18:Fun K "split_paper" "split_paper" qh8z t.f_z18 t.d_z18
 m_z18:mg "split_paper" = some (.ref t.f_z18)
 b_z18:Binds K t.d_z18 ["clocks"] []
 F_z8:Fun K "papers_making" "papers_making" qfoz t.f_z8 t.d_z8
 m_z8:mg "papers_making" = some (.ref t.f_z8)
 b_z8:Binds K t.d_z8 ["clocks","clock"] []
 F_z28:Fun K "prime_for" "prime_for" qh9z t.f_z28 t.d_z28
 m_z28:mg "prime_for" = some (.ref t.f_z28)
 b_z28:Binds K t.d_z28 ["clocks","clock"] []
 F_z27:Fun K "shares_of" "shares_of" qfpz t.f_z27 t.d_z27
 m_z27:mg "shares_of" = some (.ref t.f_z27)
 b_z27:Binds K t.d_z27 ["clocks"] []
 F_z34:Fun K "clash_of" "clash_of" qiaz t.f_z34 t.d_z34
 m_z34:mg "clash_of" = some (.ref t.f_z34)
 b_z34:Binds K t.d_z34 ["clocks"] []
 F_z22:Fun K "exact_good" "exact_good" qibz t.f_z22 t.d_z22
 m_z22:mg "exact_good" = some (.ref t.f_z22)
 b_z22:Binds K t.d_z22 ["clocks"] []
 F_z17:Fun K "_law_cell_at" "_law_cell_at" qicz t.f_z17 t.d_z17
 m_z17:mg "_law_cell_at" = some (.ref t.f_z17)
 b_z17:Binds K t.d_z17 ["script","k"] []
 F_z38:Fun K "_law_next" "_law_next" qidz t.f_z38 t.d_z38
 m_z38:mg "_law_next" = some (.ref t.f_z38)
 b_z38:Binds K t.d_z38 ["seed"] []
 F_z20:Fun K "_law_pen_of" "_law_pen_of" qiez t.f_z20 t.d_z20
 m_z20:mg "_law_pen_of" = some (.ref t.f_z20)
 b_z20:Binds K t.d_z20 ["cell"] []
 F_z39:Fun K "_law_draw" "_law_draw" qifz t.f_z39 t.d_z39
 m_z39:mg "_law_draw" = some (.ref t.f_z39)
 b_z39:Binds K t.d_z39 ["pen","many"] []
 F_z13:Fun K "_law_clock_by" "_law_clock_by" qigz t.f_z13 t.d_z13
 m_z13:mg "_law_clock_by" = some (.ref t.f_z13)
 b_z13:Binds K t.d_z13 ["pen","most"] []
 F_z12:Fun K "_law_parts_by" "_law_parts_by" qfqz t.f_z12 t.d_z12
 m_z12:mg "_law_parts_by" = some (.ref t.f_z12)
 b_z12:Binds K t.d_z12 ["pen","least","most"] []
 F_z9:Fun K "_law_clocks_by" "_law_clocks_by" qfrz t.f_z9 t.d_z9
 m_z9:mg "_law_clocks_by" = some (.ref t.f_z9)
 b_z9:Binds K t.d_z9 ["pen","most"] []
 F_z30:Fun K "_law_parts" "_law_parts" qfsz t.f_z30 t.d_z30
 m_z30:mg "_law_parts" = some (.ref t.f_z30)
 b_z30:Binds K t.d_z30 ["clock","k"] []
 F_z2:Fun K "_law_split_right" "_law_split_right" qebz t.f_z2 t.d_z2
 m_z2:mg "_law_split_right" = some (.ref t.f_z2)
 b_z2:Binds K t.d_z2 ["clocks","place","k","far"] []
 F_z3:Fun K "_law_paper_right" "_law_paper_right" qiiz t.f_z3 t.d_z3
 m_z3:mg "_law_paper_right" = some (.ref t.f_z3)
 b_z3:Binds K t.d_z3 ["clocks"] []
 F_law:Fun K "law" "law" qijz t.f_law t.d_law
 m_law:mg "law" = some (.ref t.f_law)
 b_law:Binds K t.d_law ["script"] []
 m_MOST_CLOCKS:mg "MOST_CLOCKS" = some (.int 12 t.t_MOST_CLOCKS)
 m_MOST_STEP:mg "MOST_STEP" = some (.int 1000 t.t_MOST_STEP)
 m_all:mg "all" = none
 m_bool:mg "bool" = none
 m_enumerate:mg "enumerate" = none
 m_int:mg "int" = none
 m_isinstance:mg "isinstance" = none
 m_len:mg "len" = none
 m_list:mg "list" = none
 m_max:mg "max" = none
 m_min:mg "min" = none
 m_range:mg "range" = none
 m_set:mg "set" = none
 m_sorted:mg "sorted" = none
 m_sum:mg "sum" = none
 m_tuple:mg "tuple" = none
 m_zip:mg "zip" = none
section
variable {P:Program} {w:World} {K:PySem.W.Frag} {mg:Str->Option Value} {base:Heap} {t:Adr}
theorem q4mz:∀ds G Q,qcnz ds G Q->ds.length=1:=by
 intro ds G Q h
 first
  | (rcases ds with _|⟨_,_|⟨_,_|⟨_,_|⟨_,_⟩⟩⟩⟩<;>first|rfl|exact h.elim)
  | (obtain⟨rfl,_⟩:=h;rfl)
  | (obtain⟨_,rfl,_⟩:=h;rfl)
  | (obtain⟨_,_,rfl,_⟩:=h;rfl)
  | (obtain⟨_,_,_,rfl,_⟩:=h;rfl)
  | (obtain⟨_,_,_,_,rfl,_⟩:=h;rfl)
  | (obtain⟨_,_,_,_,_,rfl,_⟩:=h;rfl)
  | (obtain⟨_,_,_,_,_,_,rfl,_⟩:=h;rfl)
  | (obtain⟨_,_,_,_,_,_,_,rfl,_⟩:=h;rfl)
  | (obtain⟨_,_,_,_,_,_,_,_,rfl,_⟩:=h;rfl)
theorem qoyz(T:Txt K mg t):FnOk3 P w K mg base 1 t.f_z21 t.d_z21 ["thing"] qcnz:=by
 refine qfn3 (k:=0) (sp:=qcnz) T.F_z21 q3ez (by decide) q4mz qldz (fun cdv A outer s H E hr=>?_) qwdz;refine qfz (qjz ?_);refine qbbz (qdgz qu5z rfl (qaz (pv 0)) T.m_isinstance T.m_int rfl (by decide) (by decide)) ?_;refine qb3z (qv3z (qdgz qu6z rfl (qaz (pv 0)) T.m_isinstance T.m_bool rfl (by decide) (by decide)))
theorem q4nz:∀ds G Q,qc0z ds G Q->ds.length=2:=by
 intro ds G Q h;obtain⟨_,_,rfl,_⟩:=h;rfl
theorem qozz(T:Txt K mg t):FnOk3 P w K mg base 2 t.f_z23 t.d_z23 ["things","thing"] qc0z:=by
 refine qfn3 (k:=1) (sp:=qc0z) T.F_z23 q3gz (by decide) q4nz qngz (fun cdv A outer s H E hr=>?_) qz2z;refine qfz (qjz ?_);refine qbbz (qgz ((qoyz T).mono (by decide)) hr T.m_z21 T.F_z21.kp T.b_z21 (qbz (qaz (pv 1)) qcz)) ?_;refine qb3z (qwbz l_le qc6z qisz (qc5z hr.units0) qdz (qaz (pv 1)) (q9z hr.units T.m_len (qbz (qaz (pv 0)) qcz)))
theorem q4oz:∀ds G Q,qd1z ds G Q->ds.length=2:=by
 intro ds G Q h;obtain⟨_,_,rfl,_⟩:=h;rfl
theorem q4pz(T:Txt K mg t):FnOk3 P w K mg base 3 t.f_z5 t.d_z5 ["things","thing"] qd1z:=by
 refine qfn3 (k:=2) (sp:=qd1z) T.F_z5 q3iz (by decide) q4oz qnhz (fun cdv A outer s H E hr=>?_) qz6z;refine qfz (qrz (qbaz (qanz ?_)) (qfz qgtz) qsz);refine qgz ((qozz T).mono (by decide)) hr T.m_z23 T.F_z23.kp T.b_z23 (qbz (qaz (pv 0)) (qbz (qaz (pv 1)) qcz))
theorem q4qz:∀ds G Q,qd5z ds G Q->ds.length=2:=by
 intro ds G Q h;obtain⟨_,_,rfl,_⟩:=h;rfl
theorem q4rz(T:Txt K mg t):FnOk3 P w K mg base 3 t.f_z0 t.d_z0 ["things","thing"] qd5z:=by
 refine qfn3 (k:=2) (sp:=qd5z) T.F_z0 q3jz (by decide) q4qz qobz (fun cdv A outer s H E hr=>?_) q15z;refine qez (qrz (qaxz ?_) (qfz (qjz qarz)) qsz) (qfz (qjz (qgyz hr.units T.m_all (qbz ?_ qcz))));refine qcjz (qbaz (qanz (qdgz kit_tuple rfl (qaz (pv 1)) T.m_isinstance T.m_tuple rfl (by decide) (by decide)))) ?_;refine qddz (qbaz (qanz (qgyz hr.units T.m_all (qbz ?_ qcz))));refine qasz rfl (show CmpOk qhsz (defScope qd9z) _ ["place"] [0] from⟨rfl,by decide +kernel,by decide +kernel,by decide +kernel,by decide +kernel,by decide +kernel⟩) ?_ ?_;refine q2z (qaz (pv 1));intro s0 H0 fp0;refine⟨(qqz (i:=0) (show (["place","things"]:List Str).Nodup by decide +kernel)),qayz,?_⟩;refine qgz ((qozz T).mono (by decide)) hr T.m_z23 T.F_z23.kp T.b_z23 (qbz (qaz (pv 1)) (qbz (qaz (pv 0)) qcz));refine qasz rfl (show CmpOk qhsz (defScope qd9z) _ ["ahead","place"] [] from⟨rfl,by decide +kernel,by decide +kernel,by decide +kernel,by decide +kernel,by decide +kernel⟩) ?_ ?_;refine qlbz T.m_zip (qbz (qaz (pv 1)) (qbz (qdfz (qaz (pv 1)) (qclz qdz) qe1z) qcz));intro s0 H0 fp0;refine⟨(qe0z rfl ?_),qayz,(qahz qc6z (qc5z hr.units0) (qaz (pv 0)) (qaz (pv 1)) (nomark _))⟩;refine qbpz (qqz (i:=0) (show (["ahead","place"]:List Str).Nodup by decide +kernel)) ?_;refine qbpz (qqz (i:=1) (show (["ahead","place"]:List Str).Nodup by decide +kernel)) qezz
theorem q4sz:∀ds G Q,qdtz ds G Q->ds.length=2:=by
 intro ds G Q h;obtain⟨_,_,rfl,_⟩:=h;rfl
theorem q4tz(T:Txt K mg t):FnOk3 P w K mg base 2 t.f_z1 t.d_z1 ["k","papers"] qdtz:=by
 refine qfn3 (k:=1) (sp:=qdtz) T.F_z1 q3lz (by decide) q4sz qmez (fun cdv A outer s H E hr=>?_) qyez;refine qfz (qjz ?_);refine qbbz (qgz ((qoyz T).mono (by decide)) hr T.m_z21 T.F_z21.kp T.b_z21 (qbz (qaz (pv 0)) qcz)) ?_;refine qbbz (qahz l_ge qitz (qaz (pv 0)) qdz (nomark _)) ?_;refine qbbz (qdgz kit_tuple rfl (qaz (pv 1)) T.m_isinstance T.m_tuple rfl (by decide) (by decide)) ?_;refine qb3z (qahz l_eq (q7z hr.units) (q9z hr.units T.m_len (qbz (qaz (pv 1)) qcz)) (qaz (pv 0)) (nomark _))
theorem q4uz:∀ds G Q,qc1z ds G Q->ds.length=1:=by
 intro ds G Q h;obtain⟨_,_,rfl,_⟩:=h;rfl
theorem qo0z(T:Txt K mg t):FnOk3 P w K mg base 1 t.f_z16 t.d_z16 ["things"] qc1z:=by
 refine qfn3 (k:=0) (sp:=qc1z) T.F_z16 q3nz (by decide) q4uz qnnz (fun cdv A outer s H E hr=>?_) q0jz;refine qfz (qjz (qb4z hr.units T.m_tuple (qbz (q0hz hr.units (qaz (pv 0)) T.m_sorted T.m_set) qcz)))
theorem q4vz:∀ds G Q,qczz ds G Q->ds.length=2:=by
 intro ds G Q h;obtain⟨_,_,rfl,_⟩:=h;rfl
theorem qo1z(T:Txt K mg t):FnOk3 P w K mg base 1 t.f_z11 t.d_z11 ["many","most"] qczz:=by
 refine qfn3 (k:=0) (sp:=qczz) T.F_z11 q3pz (by decide) q4vz qndz (fun cdv A outer s H E hr=>?_) qzsz;refine qfz (qrz (qnz l_gt qfxz (qaz (pv 0)) (qaz (pv 1)) (nomark _)) (qfz qgtz) qsz)
theorem q4wz:∀ds G Q,qbrz ds G Q->ds.length=2:=by
 intro ds G Q h;obtain⟨_,_,rfl,_⟩:=h;rfl
theorem qftz(T:Txt K mg t):FnOk3 P w K mg base 1 t.f_z7 t.d_z7 ["one","other"] qbrz:=by
 refine qfn3 (k:=0) (sp:=qbrz) T.F_z7 sc_z7 (by decide) q4wz qlxz (fun cdv A outer s H E hr=>?_) qw6z;refine qez ?_ (qfz (qjz (qaz (pv 0))));refine qgvz PassesOwn.never (qnz l_ne (qawz hr.units) (qaz (pv 1)) qdz (nomark _)) ?_;refine qez (qkz (i:=2) sc_z7.nd (qhz qamz qaiz (qaz (pv 0)) (qaz (pv 1)))) ?_;refine qez (qkz (i:=0) sc_z7.nd (qaz (pv 1))) (qfz (qkz (i:=1) sc_z7.nd (qaz (pv 2))))
theorem q4xz:∀ds G Q,qdlz ds G Q->ds.length=1:=by
 intro ds G Q h;obtain⟨_,_,rfl,_⟩:=h;rfl
theorem q4yz(T:Txt K mg t):FnOk3 P w K mg base 2 t.f_z4 t.d_z4 ["numbers"] qdlz:=by
 refine qfn3 (k:=1) (sp:=qdlz) T.F_z4 sc_z4 (by decide) q4xz qlyz (fun cdv A outer s H E hr=>?_) qxaz;refine qez (qkz (i:=1) sc_z4.nd qdz) (qez ?_ (qfz (qjz (qaz (pv 1)))));refine qaoz PassesOwn.never rfl (q2z (qaz (pv 0))) (qqz (i:=2) sc_z4.nd) (qfz ?_);refine qkz (i:=1) sc_z4.nd (qhz q6z q5z (qaz (pv 1)) (qhz qauz qatz (qaz (pv 2)) ?_));refine qgz ((qftz T).mono (by decide)) hr T.m_z7 T.F_z7.kp T.b_z7 ?_;refine qbz (qaz (pv 1)) (qbz (qaz (pv 2)) qcz)
theorem q4zz:∀ds G Q,qdoz ds G Q->ds.length=2:=by
 intro ds G Q h;obtain⟨_,_,rfl,_⟩:=h;rfl
theorem q40z(T:Txt K mg t):FnOk3 P w K mg base 1 t.f_z24 t.d_z24 ["number","bound"] qdoz:=by
 refine qfn3 (k:=0) (sp:=qdoz) T.F_z24 sc_z24 (by decide) q4zz ql4z (fun cdv A outer s H E hr=>?_) qxuz;refine qez (qkz (i:=2) sc_z24.nd (qaz (pv 1))) ?_;refine qez (qkz (i:=3) sc_z24.nd (qhz qamz qaiz (qaz (pv 0)) (qaz (pv 1)))) ?_;refine qez (qkz (i:=4) sc_z24.nd qdz) (qez (qkz (i:=5) sc_z24.nd qdz) ?_);refine qez ?_ (qfz (qjz (qhz qamz qaiz (qaz (pv 4)) (qaz (pv 1)))));refine qgvz PassesOwn.never (qnz l_ne (qawz hr.units) (qaz (pv 3)) qdz (nomark _)) ?_;refine qez (qkz (i:=6) sc_z24.nd (qhz qauz qatz (qaz (pv 2)) (qaz (pv 3)))) ?_;refine qez (qkz (i:=7) sc_z24.nd (qhz qbmz qbhz (qaz (pv 2)) (qhz q6z q5z (qaz (pv 6)) (qaz (pv 3))))) ?_;refine qez (qkz (i:=8) sc_z24.nd (qhz qbmz qbhz (qaz (pv 4)) (qhz q6z q5z (qaz (pv 6)) (qaz (pv 5))))) ?_;refine qez (qkz (i:=2) sc_z24.nd (qaz (pv 3))) (qez (qkz (i:=4) sc_z24.nd (qaz (pv 5))) ?_);refine qez (qkz (i:=3) sc_z24.nd (qaz (pv 7))) (qfz (qkz (i:=5) sc_z24.nd (qaz (pv 8))))
theorem q41z:∀ds G Q,qdmz ds G Q->ds.length=2:=by
 intro ds G Q h;obtain⟨_,_,rfl,_⟩:=h;rfl
theorem q42z(T:Txt K mg t):FnOk3 P w K mg base 2 t.f_z15 t.d_z15 ["top","bottom"] qdmz:=by
 refine qfn3 (k:=1) (sp:=qdmz) T.F_z15 sc_z15 (by decide) q41z ql0z (fun cdv A outer s H E hr=>?_) qxez;refine qez (qkz (i:=2) sc_z15.nd ?_) ?_;refine qgz ((qftz T).mono (by decide)) hr T.m_z7 T.F_z7.kp T.b_z7 ?_;refine qbz (qaz (pv 0)) (qbz (qaz (pv 1)) qcz);refine qfz (qjz (qacz (qbz (qhz qauz qatz (qaz (pv 0)) (qaz (pv 2))) (qbz (qhz qauz qatz (qaz (pv 1)) (qaz (pv 2))) qcz))))
theorem q43z:∀ds G Q,qcpz ds G Q->ds.length=2:=by
 intro ds G Q h;obtain⟨_,_,rfl,_⟩:=h;rfl
theorem qo2z(T:Txt K mg t):FnOk3 P w K mg base 1 t.f_z43 t.d_z43 ["clock","number"] qcpz:=by
 refine qfn3 (k:=0) (sp:=qcpz) T.F_z43 q3vz (by decide) q43z qliz (fun cdv A outer s H E hr=>?_) qwkz;refine qfz (qjz (qahz l_eq (q7z hr.units) (qhz qamz qaiz (qaz (pv 1)) (qlz (qaz (pv 0)) qdz)) (qlz (qaz (pv 0)) qdz) (nomark _)))
theorem q44z:∀ds G Q,qcqz ds G Q->ds.length=2:=by
 intro ds G Q h;obtain⟨_,_,rfl,_⟩:=h;rfl
theorem qo3z(T:Txt K mg t):FnOk3 P w K mg base 2 t.f_z32 t.d_z32 ["clocks","number"] qcqz:=by
 refine qfn3 (k:=1) (sp:=qcqz) T.F_z32 q3wz (by decide) q44z qljz (fun cdv A outer s H E hr=>?_) qwlz;refine qfz (qjz ?_);refine qasz rfl (show CmpOk qooz (defScope qfjz) _ ["clock"] [1] from⟨rfl,by decide +kernel,by decide +kernel,by decide +kernel,by decide +kernel,by decide +kernel⟩) ?_ ?_;refine q2z (qaz (pv 0));intro s0 H0 fp0;refine⟨(qqz (i:=0) (show (["clock","number"]:List Str).Nodup by decide +kernel)),?_,(qaz (pv 0))⟩;refine qdez (qanz (qgz ((qo2z T).mono (by decide)) hr T.m_z43 T.F_z43.kp T.b_z43 (qbz (qaz (pv 0)) (qbz (qaz (pv 1)) qcz))))
theorem q45z:∀ds G Q,qctz ds G Q->ds.length=1:=by
 intro ds G Q h;obtain⟨_,rfl,_⟩:=h;rfl
theorem q46z(T:Txt K mg t):FnOk3 P w K mg base 3 t.f_z33 t.d_z33 ["clocks"] qctz:=by
 refine qfn3 (k:=2) (sp:=qctz) T.F_z33 q3xz (by decide) q45z qlzz (fun cdv A outer s H E hr=>?_) qxcz;refine qfz (qjz ?_);refine qgz ((q4yz T).mono (by decide)) hr T.m_z4 T.F_z4.kp T.b_z4 (qbz ?_ qcz);refine qasz rfl (show CmpOk qopz (defScope qfkz) _ ["clock"] [] from⟨rfl,by decide +kernel,by decide +kernel,by decide +kernel,by decide +kernel,by decide +kernel⟩) ?_ ?_;refine q2z (qaz (pv 0));intro s0 H0 fp0;refine⟨(qqz (i:=0) (show (["clock"]:List Str).Nodup by decide +kernel)),qayz,(qlz (qaz (pv 0)) qdz)⟩
theorem q47z:∀ds G Q,qdpz ds G Q->ds.length=2:=by
 intro ds G Q h;obtain⟨_,_,rfl,_⟩:=h;rfl
theorem q48z(T:Txt K mg t):FnOk3 P w K mg base 2 t.f_z40 t.d_z40 ["one","other"] qdpz:=by
 refine qfn3 (k:=1) (sp:=qdpz) T.F_z40 sc_z40 (by decide) q47z ql6z (fun cdv A outer s H E hr=>?_) qx3z;refine qez (qkz (i:=2) sc_z40.nd ?_) ?_;refine qgz ((qftz T).mono (by decide)) hr T.m_z7 T.F_z7.kp T.b_z7 ?_;refine qbz (qlz (qaz (pv 0)) qdz) (qbz (qlz (qaz (pv 1)) qdz) qcz);refine qez (qkz (i:=3) sc_z40.nd (qhz qbmz qbhz (qlz (qaz (pv 1)) qdz) (qlz (qaz (pv 0)) qdz))) ?_;refine qez (qrz (qnz l_ne (qawz hr.units) (qhz qamz qaiz (qaz (pv 3)) (qaz (pv 2))) qdz (nomark _)) (qfz (qjz q8z)) qsz) ?_;refine qez (qkz (i:=4) sc_z40.nd (qhz qauz qatz (qlz (qaz (pv 1)) qdz) (qaz (pv 2)))) ?_;refine qez (qkz (i:=5) sc_z40.nd ?_) (qfz (qjz ?_));refine qhz qamz qaiz (qhz q6z q5z (qhz qauz qatz (qaz (pv 3)) (qaz (pv 2))) ?_) (qaz (pv 4));refine qgz ((q40z T).mono (by decide)) hr T.m_z24 T.F_z24.kp T.b_z24 ?_;refine qbz (qhz qauz qatz (qlz (qaz (pv 0)) qdz) (qaz (pv 2))) (qbz (qaz (pv 4)) qcz);refine qacz (qbz (qhz q6z q5z (qlz (qaz (pv 0)) qdz) (qaz (pv 4))) ?_);refine qbz (qhz quz qtz (qlz (qaz (pv 0)) qdz) (qhz q6z q5z (qlz (qaz (pv 0)) qdz) (qaz (pv 5)))) qcz
theorem q49z:∀ds G Q,qcxz ds G Q->ds.length=2:=by
 intro ds G Q h;obtain⟨_,_,rfl,_⟩:=h;rfl
theorem qo4z(T:Txt K mg t):FnOk3 P w K mg base 2 t.f_z29 t.d_z29 ["one","other"] qcxz:=by
 refine qfn3 (k:=1) (sp:=qcxz) T.F_z29 q30z (by decide) q49z qmuz (fun cdv A outer s H E hr=>?_) qy4z;refine qfz (qjz ?_);refine qbbz (qahz l_eq (q7z hr.units) (qhz qamz qaiz (qlz (qaz (pv 0)) qdz) (qlz (qaz (pv 1)) qdz)) qdz (nomark _)) ?_;refine qb3z (qgz ((qo2z T).mono (by decide)) hr T.m_z43 T.F_z43.kp T.b_z43 (qbz (qaz (pv 1)) (qbz (qlz (qaz (pv 0)) qdz) qcz)))
theorem q5az:∀ds G Q,qa4z ds G Q->ds.length=2:=by
 intro ds G Q h;obtain⟨_,_,rfl,_⟩:=h;rfl
theorem qfuz(T:Txt K mg t):FnOk3 P w K mg base 1 t.f_z35 t.d_z35 ["clock","k"] qa4z:=by
 refine qfn3 (k:=0) (sp:=qa4z) T.F_z35 q31z (by decide) q5az qmcz (fun cdv A outer s H E hr=>?_) qybz;refine qfz (qjz ?_);refine qasz rfl (show CmpOk qoqz (defScope qflz) _ ["turn"] [0,1] from⟨rfl,by decide +kernel,by decide +kernel,by decide +kernel,by decide +kernel,by decide +kernel⟩) ?_ ?_;refine qckz T.m_range (qbz (qaz (pv 1)) qcz);intro s0 H0 fp0;refine⟨(qqz (i:=0) (show (["turn","clock","k"]:List Str).Nodup by decide +kernel)),qayz,?_⟩;refine qacz (qbz (qhz q6z q5z (qlz (qaz (pv 1)) qdz) (qaz (pv 2))) ?_);refine qbz (qhz quz qtz (qlz (qaz (pv 1)) qdz) (qhz q6z q5z (qlz (qaz (pv 1)) qdz) (qaz (pv 0)))) qcz
theorem q5bz:∀ds G Q,qd6z ds G Q->ds.length=3:=by
 intro ds G Q h
 first
  | (rcases ds with _|⟨_,_|⟨_,_|⟨_,_|⟨_,_⟩⟩⟩⟩<;>first|rfl|exact h.elim)
  | (obtain⟨rfl,_⟩:=h;rfl)
  | (obtain⟨_,rfl,_⟩:=h;rfl)
  | (obtain⟨_,_,rfl,_⟩:=h;rfl)
  | (obtain⟨_,_,_,rfl,_⟩:=h;rfl)
  | (obtain⟨_,_,_,_,rfl,_⟩:=h;rfl)
  | (obtain⟨_,_,_,_,_,rfl,_⟩:=h;rfl)
  | (obtain⟨_,_,_,_,_,_,rfl,_⟩:=h;rfl)
  | (obtain⟨_,_,_,_,_,_,_,rfl,_⟩:=h;rfl)
  | (obtain⟨_,_,_,_,_,_,_,_,rfl,_⟩:=h;rfl)
theorem q5cz(T:Txt K mg t):FnOk3 P w K mg base 4 t.f_z36 t.d_z36 ["clocks","place","k"] qd6z:=by
 refine qfn3 (k:=3) (sp:=qd6z) T.F_z36 sc_z36 (by decide) q5bz qofz (fun cdv A outer s H E hr=>?_) q2kz;refine qez (qboz ?_) ?_;refine qgz ((q4pz T).mono (by decide)) hr T.m_z5 T.F_z5.kp T.b_z5 ?_;refine qbz (qaz (pv 0)) (qbz (qaz (pv 1)) qcz);refine qez (qkz (i:=3) sc_z36.nd (qlz (qaz (pv 0)) (qaz (pv 1)))) ?_;refine qez (qkz (i:=4) sc_z36.nd ?_) ?_;refine qhz quz qtz (qdfz (qaz (pv 0)) qe1z (qclz (qaz (pv 1)))) ?_;refine qdfz (qaz (pv 0)) (qclz (qhz quz qtz (qaz (pv 1)) qdz)) qe1z;refine qez (qkz (i:=5) sc_z36.nd (qhz q6z q5z (qlz (qaz (pv 3)) qdz) (qaz (pv 2)))) ?_;refine qez ?_ ?_;refine qgzz (i:=6) rfl sc_z36.nd (show CmpOk qorz (defScope qfmz) _ ["other"] [5,3] from⟨rfl,by decide +kernel,by decide +kernel,by decide +kernel,by decide +kernel,by decide +kernel⟩) ?_ ?_;refine q2z (qaz (pv 4));intro s0 H0 fp0;refine⟨(qqz (i:=0) (show (["other","step","clock"]:List Str).Nodup by decide +kernel)),(qdez (qaxz ?_)),(qaz (pv 0))⟩;refine qciz (qnz l_eq (q7z hr.units) (qlz (qaz (pv 0)) qdz) (qaz (pv 1)) (nomark _)) (qchz ?_);refine qanz (qgz ((qo4z T).mono (by decide)) hr T.m_z29 T.F_z29.kp T.b_z29 (qbz (qaz (pv 0)) (qbz (qaz (pv 2)) qcz)));refine qez (qboz ?_) ?_;refine qgz ((qo1z T).mono (by decide)) hr T.m_z11 T.F_z11.kp T.b_z11 (qbz ?_ (qbz (qk7z T.m_MOST_CLOCKS) qcz));refine qhz qbmz qbhz (qhz quz qtz (q9z hr.units T.m_len (qbz (qaz (pv 4)) qcz)) (qaz (pv 2))) ?_;refine q9z hr.units T.m_len (qbz (qaz (pv 6)) qcz);refine qez (qboz ?_) (qfz (qjz ?_));refine qgz ((qo1z T).mono (by decide)) hr T.m_z11 T.F_z11.kp T.b_z11 ?_;refine qbz (qaz (pv 5)) (qbz (qk7z T.m_MOST_STEP) qcz);refine qgz ((qo0z T).mono (by decide)) hr T.m_z16 T.F_z16.kp T.b_z16 ?_;refine qbz (qhz quz qtz (qaz (pv 4)) (qb4z hr.units T.m_tuple ?_)) qcz;refine qbz (qgz ((qfuz T).mono (by decide)) hr T.m_z35 T.F_z35.kp T.b_z35 (qbz (qaz (pv 3)) (qbz (qaz (pv 2)) qcz))) (qcz)
theorem q5dz:∀ds G Q,qc3z ds G Q->ds.length=2:=by
 intro ds G Q h;obtain⟨_,_,rfl,_⟩:=h;rfl
theorem qo5z(T:Txt K mg t):FnOk3 P w K mg base 1 t.f_z19 t.d_z19 ["clock","k"] qc3z:=by
 refine qfn3 (k:=0) (sp:=qc3z) T.F_z19 q35z (by decide) q5dz qn3z (fun cdv A outer s H E hr=>?_) q1mz;refine qfz (qjz (qacz (qbz (qhz qauz qatz (qlz (qaz (pv 0)) qdz) (qaz (pv 1))) (qbz (qlz (qaz (pv 0)) qdz) qcz))))
theorem q5ez:∀ds G Q,qd4z ds G Q->ds.length=2:=by
 intro ds G Q h;obtain⟨_,_,rfl,_⟩:=h;rfl
theorem q5fz(T:Txt K mg t):FnOk3 P w K mg base 2 t.f_z25 t.d_z25 ["clock","k"] qd4z:=by
 refine qfn3 (k:=1) (sp:=qd4z) T.F_z25 q33z (by decide) q5ez qn4z (fun cdv A outer s H E hr=>?_) q1oz;refine qez ?_ (qfz (qjz ?_));refine qrz (qnz l_ne (qawz hr.units) (qhz qamz qaiz (qlz (qaz (pv 0)) qdz) (qaz (pv 1))) qdz (nomark _)) (qfz (qjz (qvz qcz))) (qsz);refine qgz ((qfuz T).mono (by decide)) hr T.m_z35 T.F_z35.kp T.b_z35 (qbz ?_ (qbz (qaz (pv 1)) qcz));refine qgz ((qo5z T).mono (by decide)) hr T.m_z19 T.F_z19.kp T.b_z19 (qbz (qaz (pv 0)) (qbz (qaz (pv 1)) qcz))
theorem q5gz:∀ds G Q,qccz ds G Q->ds.length=1:=by
 intro ds G Q h;obtain⟨_,rfl,_⟩:=h;rfl
theorem qikz(T:Txt K mg t):FnOk3 P w K mg base 3 t.f_z37 t.d_z37 ["clocks"] qccz:=by
 refine qfn3 (k:=2) (sp:=qccz) T.F_z37 sc_z37 (by decide) q5gz qn5z (fun cdv A outer s H E hr=>?_) q1xz;refine qez (qkz (i:=1) sc_z37.nd (qvz qcz)) ?_;refine qez ?_ (qfz (qjz (qe2z hr.units T.m_sorted (qbz (qaz (pv 1)) qcz))));refine qaoz PassesOwn.never rfl (q2z (qaz (pv 0))) (qqz (i:=2) sc_z37.nd) (qfz ?_);refine qaoz PassesOwn.never rfl ?_ (qqz (i:=3) sc_z37.nd) ?_;refine qgwz T.m_range (qbz qdz (qbz (qhz quz qtz (q9z hr.units T.m_len (qbz (qaz (pv 0)) qcz)) qdz) qcz));refine qez (qkz (i:=4) sc_z37.nd ?_) (qfz ?_);refine qgz ((q5fz T).mono (by decide)) hr T.m_z25 T.F_z25.kp T.b_z25 (qbz (qaz (pv 2)) (qbz (qaz (pv 3)) qcz));refine qrz (qaxz ?_) (qfz (qboz ?_)) qsz;refine qciz (qnz l_ne (qawz hr.units) (qaz (pv 4)) (qvz qcz) (nomark _)) (qchz (qanz (qgyz hr.units T.m_all (qbz ?_ qcz))));refine qasz rfl (show CmpOk qh3z (defScope qeaz) _ ["part"] [0] from⟨rfl,by decide +kernel,by decide +kernel,by decide +kernel,by decide +kernel,by decide +kernel⟩) ?_ ?_;refine q2z (qaz (pv 4));intro s0 H0 fp0;refine⟨(qqz (i:=0) (show (["part","clocks"]:List Str).Nodup by decide +kernel)),qayz,?_⟩;refine qahz l_in (qgqz hr.units) (qaz (pv 0)) (qaz (pv 1)) (by with_unfolding_all rfl);refine qcmz qf9z PySem.F.slot_list_append PySem.F.type_list_append qeez (qaz (pv 1)) (qbz (qb4z hr.units T.m_tuple (qbz ?_ qcz)) qcz);refine qasz rfl (show CmpOk qh3z (defScope qeaz) _ ["part"] [0] from⟨rfl,by decide +kernel,by decide +kernel,by decide +kernel,by decide +kernel,by decide +kernel⟩) ?_ ?_;refine q2z (qaz (pv 4));intro s0 H0 fp0;refine⟨(qqz (i:=0) (show (["part","clocks"]:List Str).Nodup by decide +kernel)),qayz,(qn2z hr.units (qaz (pv 1)) (qbz (qaz (pv 0)) qcz))⟩
theorem q5hz:∀ds G Q,qc4z ds G Q->ds.length=2:=by
 intro ds G Q h;obtain⟨_,_,_,rfl,_⟩:=h;rfl
theorem qo6z(T:Txt K mg t):FnOk3 P w K mg base 4 t.f_z42 t.d_z42 ["clocks","places"] qc4z:=by
 refine qfn3 (k:=3) (sp:=qc4z) T.F_z42 sc_z42 (by decide) q5hz qodz (fun cdv A outer s H E hr=>?_) q2dz;refine qez (qrz (qaxz ?_) (qfz qgtz) qsz) ?_;refine qcjz (qbaz (qanz ?_)) ?_;refine qgz ((q4rz T).mono (by decide)) hr T.m_z0 T.F_z0.kp T.b_z0 ?_;refine qbz (qaz (pv 0)) (qbz (qaz (pv 1)) qcz);refine qddz (qnz qgsz (qgrz hr.units) (qaz (pv 1)) ?_ (by with_unfolding_all rfl));refine qgz ((qikz T).mono (by decide)) hr T.m_z37 T.F_z37.kp T.b_z37 (qbz (qaz (pv 0)) qcz);refine qez (qkz (i:=2) sc_z42.nd ?_) ?_;refine qgz ((qo5z T).mono (by decide)) hr T.m_z19 T.F_z19.kp T.b_z19 ?_;refine qbz (qlz (qaz (pv 0)) (qlz (qaz (pv 1)) qdz)) (qbz (q9z hr.units T.m_len (qbz (qaz (pv 1)) qcz)) qcz);refine qez ?_ (qfz (qjz ?_));refine qgzz (i:=3) rfl sc_z42.nd (show CmpOk qosz (defScope qfnz) _ ["place","clock"] [1] from⟨rfl,by decide +kernel,by decide +kernel,by decide +kernel,by decide +kernel,by decide +kernel⟩) ?_ ?_;refine qv9z T.m_enumerate (qbz (qaz (pv 0)) qcz);intro s0 H0 fp0;refine⟨(qe0z rfl ?_),(qdez (qnz qgsz (qgrz hr.units) (qaz (pv 0)) (qaz (pv 2)) (by with_unfolding_all rfl))),(qaz (pv 1))⟩;refine qbpz (qqz (i:=0) (show (["place","clock","places"]:List Str).Nodup by decide +kernel)) ?_;refine qbpz (qqz (i:=1) (show (["place","clock","places"]:List Str).Nodup by decide +kernel)) qezz;refine qgz ((qo0z T).mono (by decide)) hr T.m_z16 T.F_z16.kp T.b_z16 ?_;refine qbz (qhz quz qtz (qaz (pv 3)) (qvz (qbz (qaz (pv 2)) qcz))) qcz
theorem q5iz(n:Nat):∀ds G Q,qbsz n ds G Q->ds.length=3:=by
 intro ds G Q h;obtain⟨_,_,_,rfl,_⟩:=h;rfl
theorem qo7z(T:Txt K mg t):∀n:Nat,FnOk3 P w K mg base (2+n) t.f_z41 t.d_z41 ["clocks","thing","clock"] (qbsz n)
 |0=>qlcz qyjz
 |n+1=>by
  have ih:=qo7z T n
  ·refine qfn3 (k:=2+n) (sp:=qbsz (n+1)) T.F_z41 sc_z41 (by decide) (q5iz (n+1)) (qmrz n) (fun cdv A outer s H E hr=>?_) (qyqz n);refine qez ?_ ?_;refine qrz (qnz l_is qcdz (qaz (pv 1)) q8z (nomark _)) (qfz ?_) qsz;refine qjz (qk8z (qnz l_in (qgqz hr.units) (qaz (pv 2)) (qaz (pv 0)) (by with_unfolding_all rfl)) (qvz (qbz (qaz (pv 2)) qcz)) q8z);refine qez (qrz (qaxz ?_) (qfz (qjz q8z)) qsz) ?_;refine qcjz (qbaz (qanz (qdgz kit_tuple rfl (qaz (pv 1)) T.m_isinstance T.m_tuple rfl (by decide) (by decide)))) ?_;refine qcjz (qnz l_ne (qawz hr.units) (q9z hr.units T.m_len (qbz (qaz (pv 1)) qcz)) qdz (nomark _)) (qddz (qbaz (qanz ?_)));refine qgz ((q4tz T).mono (Nat.le_trans (by decide:_≤2) (Nat.le_add_right _ _))) hr T.m_z1 T.F_z1.kp T.b_z1 ?_;refine qbz (qlz (qaz (pv 1)) qdz) (qbz (qlz (qaz (pv 1)) qdz) qcz);refine qez (qkz (i:=3) sc_z41.nd (qvz qcz)) (qez ?_ (qfz (qjz (qaz (pv 3)))));refine qaoz PassesOwn.never rfl (qlbz T.m_zip (qbz (qlz (qaz (pv 1)) qdz) (qbz ?_ qcz))) ?_ ?_;refine qgz ((qfuz T).mono (Nat.le_trans (by decide:_≤2) (Nat.le_add_right _ _))) hr T.m_z35 T.F_z35.kp T.b_z35 ?_;refine qbz (qaz (pv 2)) (qbz (qlz (qaz (pv 1)) qdz) qcz);refine qe0z rfl (qbpz (qqz (i:=4) sc_z41.nd) (qbpz (qqz (i:=5) sc_z41.nd) qezz));refine qez (qkz (i:=6) sc_z41.nd ?_) ?_;refine qgz (ih.mono (Nat.le_refl _)) hr T.m_z41 T.F_z41.kp T.b_z41 (qbz (qaz (pv 0)) (qbz (qaz (pv 4)) (qbz (qaz (pv 5)) qcz)));refine qez (qrz (qnz l_is qcdz (qaz (pv 6)) q8z (nomark _)) (qfz (qjz q8z)) qsz) ?_;refine qfz (qboz (qcmz qt0z PySem.F.slot_list_extend PySem.F.type_list_extend qrmz (qaz (pv 3)) (qbz (qaz (pv 6)) qcz)))
theorem q5jz(T:Txt K mg t):FnOk3 P w K mg base 42 t.f_z41 t.d_z41 ["clocks","thing","clock"] (qbsz 40):=(qo7z T 40)
theorem q5kz:∀ds G Q,qdvz ds G Q->ds.length=2:=by
 intro ds G Q h;obtain⟨_,_,rfl,_⟩:=h;rfl
theorem q5lz(T:Txt K mg t):FnOk3 P w K mg base 43 t.f_z26 t.d_z26 ["clocks","thing"] qdvz:=by
 refine qfn3 (k:=42) (sp:=qdvz) T.F_z26 sc_z26 (by decide) q5kz qmsz (fun cdv A outer s H E hr=>?_) qyvz;refine qez (qkz (i:=2) sc_z26.nd ?_) (qfz ?_);refine qgz ((q5jz T).mono (by decide)) hr T.m_z41 T.F_z41.kp T.b_z41 ?_;refine qbz (qaz (pv 0)) (qbz (qaz (pv 1)) (qbz (qacz (qbz qdz (qbz qdz qcz))) qcz));refine qjz (qbbz (qahz qf6z qfyz (qaz (pv 2)) q8z (nomark _)) (qb3z ?_));refine qahz l_eq (q7z hr.units) (qe2z hr.units T.m_sorted (qbz (qaz (pv 2)) qcz)) (qlaz hr.units T.m_list (qbz (qaz (pv 0)) qcz)) (nomark _)
theorem q5mz:∀ds G Q,qdwz ds G Q->ds.length=2:=by
 intro ds G Q h;obtain⟨_,_,_,rfl,_⟩:=h;rfl
theorem q5nz(T:Txt K mg t):FnOk3 P w K mg base 2 t.f_z28 t.d_z28 ["clocks","clock"] qdwz:=by
 refine qfn3 (k:=1) (sp:=qdwz) T.F_z28 sc_z28 (by decide) q5mz qmtz (fun cdv A outer s H E hr=>?_) qy1z;refine qez (qkz (i:=2) sc_z28.nd qdz) ?_;refine qez ?_ (qez ?_ (qfz (qjz q8z)));refine qaoz PassesOwn.never rfl (q2z (qaz (pv 0))) (qqz (i:=3) sc_z28.nd) (qfz (qkz (i:=2) sc_z28.nd ?_));refine qgz ((qftz T).mono (by decide)) hr T.m_z7 T.F_z7.kp T.b_z7 ?_;refine qbz (qaz (pv 2)) (qbz (qhz qauz qatz (qlz (qaz (pv 3)) qdz) (qlz (qaz (pv 1)) qdz)) qcz);refine qaoz PassesOwn.never rfl ?_ (qqz (i:=4) sc_z28.nd) ?_;refine qgwz T.m_range (qbz qdz (qbz (qhz quz qtz (q9z hr.units T.m_len (qbz (qaz (pv 0)) qcz)) qdz) qcz));refine qfz (qrz (qnz l_eq (q7z hr.units) (qhz qamz qaiz (qaz (pv 2)) (qaz (pv 4))) qdz (nomark _)) (qfz (qjz (qaz (pv 4)))) qsz)
theorem q5oz(n:Nat):∀ds G Q,qbtz n ds G Q->ds.length=2:=by
 intro ds G Q h;obtain⟨_,_,_,_,rfl,_⟩:=h;rfl
theorem qo8z(T:Txt K mg t):∀n:Nat,FnOk3 P w K mg base (2+n) t.f_z8 t.d_z8 ["clocks","clock"] (qbtz n)
 |0=>qlcz qy6z
 |n+1=>by
  have ih:=qo8z T n
  ·refine qfn3 (k:=2+n) (sp:=qbtz (n+1)) T.F_z8 sc_z8 (by decide) (q5oz (n+1)) (qm0z n) (fun cdv A outer s H E hr=>?_) (qzfz n);refine qez ?_ ?_;refine qrz (qnz l_eq (q7z hr.units) (qaz (pv 0)) (qvz (qbz (qaz (pv 1)) qcz)) (nomark _)) (qfz (qjz (qvz (qbz q8z qcz)))) (qsz);refine qez (qkz (i:=2) sc_z8.nd ?_) ?_;refine qgz ((q5nz T).mono (Nat.le_trans (by decide:_≤2) (Nat.le_add_right _ _))) hr T.m_z28 T.F_z28.kp T.b_z28 ?_;refine qbz (qaz (pv 0)) (qbz (qaz (pv 1)) qcz);refine qez (qrz (qnz l_is qcdz (qaz (pv 2)) q8z (nomark _)) (qfz (qjz (qvz qcz))) qsz) ?_;refine qez (qkz (i:=3) sc_z8.nd (qvz qcz)) ?_;refine qez ?_ ?_;refine qaoz PassesOwn.never rfl (q2z ?_) (qqz (i:=4) sc_z8.nd) ?_;refine qgz ((qfuz T).mono (Nat.le_trans (by decide:_≤2) (Nat.le_add_right _ _))) hr T.m_z35 T.F_z35.kp T.b_z35 ?_;refine qbz (qaz (pv 1)) (qbz (qaz (pv 2)) qcz);refine qez (qkz (i:=5) sc_z8.nd ?_) ?_;refine qgz (ih.mono (Nat.le_refl _)) hr T.m_z8 T.F_z8.kp T.b_z8 (qbz ?_ (qbz (qaz (pv 4)) qcz));refine qasz rfl (show CmpOk qotz (defScope qfoz) _ ["inner"] [4] from⟨rfl,by decide +kernel,by decide +kernel,by decide +kernel,by decide +kernel,by decide +kernel⟩) ?_ ?_;refine q2z (qaz (pv 0));intro s0 H0 fp0;refine⟨(qqz (i:=0) (show (["inner","part"]:List Str).Nodup by decide +kernel)),(qdez (qanz ?_)),(qaz (pv 0))⟩;refine qgz ((qo4z T).mono (Nat.le_trans (by decide:_≤2) (Nat.le_add_right _ _))) hr T.m_z29 T.F_z29.kp T.b_z29 ?_;refine qbz (qaz (pv 0)) (qbz (qaz (pv 1)) qcz);refine qez (qrz (qnz l_eq (q7z hr.units) (qaz (pv 5)) (qvz qcz) (nomark _)) (qfz (qjz (qvz qcz))) qsz) ?_;refine qfz (qboz (qcmz qf9z PySem.F.slot_list_append PySem.F.type_list_append qeez (qaz (pv 3)) (qbz (qlz (qaz (pv 5)) qdz) qcz)));refine qfz (qjz (qvz (qbz (qacz (qbz (qaz (pv 2)) (qbz (qb4z hr.units T.m_tuple (qbz (qaz (pv 3)) qcz)) qcz))) qcz)))
theorem q5pz(T:Txt K mg t):FnOk3 P w K mg base 42 t.f_z8 t.d_z8 ["clocks","clock"] (qbtz 40):=(qo8z T 40)
theorem q5qz:∀ds G Q,qb7z ds G Q->ds.length=1:=by
 intro ds G Q h;obtain⟨_,rfl,_⟩:=h;rfl
theorem qilz(T:Txt K mg t):FnOk3 P w K mg base 43 t.f_z18 t.d_z18 ["clocks"] qb7z:=by
 refine qfn3 (k:=42) (sp:=qb7z) T.F_z18 sc_z18 (by decide) q5qz qm2z (fun cdv A outer s H E hr=>?_) qzhz;refine qez (qkz (i:=1) sc_z18.nd ?_) ?_;refine qgz ((q5pz T).mono (by decide)) hr T.m_z8 T.F_z8.kp T.b_z8 ?_;refine qbz (qlaz hr.units T.m_list (qbz (qaz (pv 0)) qcz)) (qbz (qacz (qbz qdz (qbz qdz qcz))) qcz);refine qfz (qjz (qk8z (qnz l_ne (qawz hr.units) (qaz (pv 1)) (qvz qcz) (nomark _)) (qlz (qaz (pv 1)) qdz) q8z))
theorem q5rz:∀ds G Q,qdnz ds G Q->ds.length=1:=by
 intro ds G Q h;obtain⟨_,rfl,_⟩:=h;rfl
theorem q5sz(T:Txt K mg t):FnOk3 P w K mg base 4 t.f_z27 t.d_z27 ["clocks"] qdnz:=by
 refine qfn3 (k:=3) (sp:=qdnz) T.F_z27 sc_z27 (by decide) q5rz ql3z (fun cdv A outer s H E hr=>?_) qxgz;refine qez ?_ (qfz (qjz ?_));refine qkz (i:=1) sc_z27.nd (qgz ((q46z T).mono (by decide)) hr T.m_z33 T.F_z33.kp T.b_z33 (qbz (qaz (pv 0)) qcz));refine qgz ((q42z T).mono (by decide)) hr T.m_z15 T.F_z15.kp T.b_z15 ?_;refine qbz (qv8z hr.units T.m_sum (qbz ?_ qcz)) (qbz (qaz (pv 1)) qcz);refine qasz rfl (show CmpOk qouz (defScope qfpz) _ ["clock"] [1] from⟨rfl,by decide +kernel,by decide +kernel,by decide +kernel,by decide +kernel,by decide +kernel⟩) ?_ ?_;refine q2z (qaz (pv 0));intro s0 H0 fp0;refine⟨(qqz (i:=0) (show (["clock","bottom"]:List Str).Nodup by decide +kernel)),qayz,?_⟩;refine qhz qauz qatz (qaz (pv 1)) (qlz (qaz (pv 0)) qdz)
theorem q5tz:∀ds G Q,qdqz ds G Q->ds.length=1:=by
 intro ds G Q h;obtain⟨_,rfl,_⟩:=h;rfl
theorem q5uz(T:Txt K mg t):FnOk3 P w K mg base 3 t.f_z34 t.d_z34 ["clocks"] qdqz:=by
 refine qfn3 (k:=2) (sp:=qdqz) T.F_z34 sc_z34 (by decide) q5tz ql8z (fun cdv A outer s H E hr=>?_) qx8z;refine qez ?_ (qfz (qjz q8z));refine qaoz PassesOwn.never rfl (qckz T.m_range (qbz (q9z hr.units T.m_len (qbz (qaz (pv 0)) qcz)) qcz)) (qqz (i:=1) sc_z34.nd) ?_;refine qfz ?_;refine qaoz PassesOwn.never rfl ?_ (qqz (i:=2) sc_z34.nd) ?_;refine qgwz T.m_range (qbz (qhz quz qtz (qaz (pv 1)) qdz) (qbz (q9z hr.units T.m_len (qbz (qaz (pv 0)) qcz)) qcz));refine qez (qkz (i:=3) sc_z34.nd ?_) ?_;refine qgz ((q48z T).mono (by decide)) hr T.m_z40 T.F_z40.kp T.b_z40 ?_;refine qbz (qlz (qaz (pv 0)) (qaz (pv 1))) (qbz (qlz (qaz (pv 0)) (qaz (pv 2))) qcz);refine qfz (qrz (qnz qf6z qfyz (qaz (pv 3)) q8z (nomark _)) ?_ qsz);refine qfz (qjz (qacz (qbz (qaz (pv 1)) (qbz (qaz (pv 2)) (qbz (qlz (qaz (pv 3)) qdz) qcz)))))
theorem q5vz:∀ds G Q,qbfz ds G Q->ds.length=1:=by
 intro ds G Q h;obtain⟨_,rfl,_⟩:=h;rfl
theorem qecz(T:Txt K mg t):FnOk3 P w K mg base 5 t.f_z22 t.d_z22 ["clocks"] qbfz:=by
 refine qfn3 (k:=4) (sp:=qbfz) T.F_z22 q4cz (by decide) q5vz qnfz (fun cdv A outer s H E hr=>?_) qz1z;refine qfz (qjz ?_);refine qbbz ?_ (qb3z ?_);refine qahz l_eq (q7z hr.units) (qgz ((q5sz T).mono (by decide)) hr T.m_z27 T.F_z27.kp T.b_z27 (qbz (qaz (pv 0)) qcz)) ?_ (nomark _);refine qacz (qbz qdz (qbz qdz qcz));refine qahz l_is qcdz (qgz ((q5uz T).mono (by decide)) hr T.m_z34 T.F_z34.kp T.b_z34 (qbz (qaz (pv 0)) qcz)) q8z (nomark _)
theorem q5wz:∀ds G Q,qdhz ds G Q->ds.length=2:=by
 intro ds G Q h;obtain⟨_,_,rfl,_⟩:=h;rfl
theorem q5xz(T:Txt K mg t):FnOk3 P w K mg base 1 t.f_z17 t.d_z17 ["script","k"] qdhz:=by
 refine qfn3 (k:=0) (sp:=qdhz) T.F_z17 q4ez (by decide) q5wz qlez (fun cdv A outer s H E hr=>?_) qwez;refine qez ?_ (qfz (qjz qdz));refine qrz (qnz qc6z (qc5z hr.units0) (qaz (pv 1)) (q9z hr.units T.m_len (qbz (qaz (pv 0)) qcz)) (nomark _)) ?_ qsz;refine qfz (qjz (qlz (qaz (pv 0)) (qaz (pv 1))))
theorem q5yz:∀ds G Q,qcoz ds G Q->ds.length=1:=by
 intro ds G Q h;obtain⟨_,rfl,_⟩:=h;rfl
theorem qo9z(T:Txt K mg t):FnOk3 P w K mg base 1 t.f_z38 t.d_z38 ["seed"] qcoz:=by
 refine qfn3 (k:=0) (sp:=qcoz) T.F_z38 sc_z38 (by decide) q5yz qlfz (fun cdv A outer s H E hr=>?_) qwfz;refine qez (qkz (i:=0) sc_z38.nd (qhz qamz qaiz (qhz quz qtz (qaz (pv 0)) qdz) qdz)) ?_;refine qfz (qjz (qhz qamz qaiz ?_ qdz));refine qhz quz qtz (qhz quz qtz (qhz q6z q5z (qaz (pv 0)) (qaz (pv 0))) (qhz q6z q5z qdz (qaz (pv 0)))) qdz
theorem q5zz:∀ds G Q,qe4z ds G Q->ds.length=1:=by
 intro ds G Q h;obtain⟨_,rfl,_⟩:=h;rfl
theorem q50z(T:Txt K mg t):FnOk3 P w K mg base 1 t.f_z20 t.d_z20 ["cell"] qg0z:=by
 refine FnOk.imp ?_ qwjz;refine qfn3 (k:=0) (sp:=qe4z) T.F_z20 sc_z20 (by decide) q5zz qlhz (fun cdv A outer s H E hr=>?_) qwiz;refine qez (qkz (i:=1) sc_z20.nd (qgxz hr.units T.m_max (qbz (qaz (pv 0)) (qbz (qhz qbmz qbhz qdz (qaz (pv 0))) qcz)))) ?_;refine qfz (qjz (qvz (qbz (qaz (pv 1)) ?_)));refine qbz (qv5z hr.units T.m_int (qbz (qahz l_ge qitz (qaz (pv 1)) (qhz qjtz qirz qdz qdz) (nomark _)) qcz)) ?_;refine qbz (qhz qamz qaiz (qaz (pv 1)) qdz) qcz
theorem q51z:∀ds G Q,qe3z ds G Q->ds.length=2:=by
 intro ds G Q h;obtain⟨_,_,_,_,_,rfl,_⟩:=h;rfl
theorem qapz(T:Txt K mg t):FnOk3 P w K mg base 2 t.f_z39 t.d_z39 ["pen","many"] qadz:=by
 refine FnOk.imp ?_ qwhz;refine qfn3 (k:=1) (sp:=qe3z) T.F_z39 sc_z39 (by decide) q51z qlgz (fun cdv A outer s H E hr=>?_) qwgz;refine qez ?_ ?_;refine qrz (qnz l_eq (q7z hr.units) (qlz (qaz (pv 0)) qdz) qdz (nomark _)) ?_ qsz;refine qez (qkz (i:=2) sc_z39.nd (qhz qamz qaiz (qlz (qaz (pv 0)) qdz) (qaz (pv 1)))) ?_;refine qez (qguz (qhz qauz qatz (qlz (qaz (pv 0)) qdz) (qaz (pv 1))) (qk9z (qaz (pv 0)) qdz)) (qfz (qjz (qaz (pv 2))));refine qez (qguz ?_ (qk9z (qaz (pv 0)) qdz)) ?_;refine qgz ((qo9z T).mono (by decide)) hr T.m_z38 T.F_z38.kp T.b_z38 (qbz ?_ qcz);refine qhz quz qtz (qgz ((qo9z T).mono (by decide)) hr T.m_z38 T.F_z38.kp T.b_z38 (qbz (qlz (qaz (pv 0)) qdz) qcz)) (qdz);refine qfz (qjz (qhz qamz qaiz (qhz qauz qatz (qlz (qaz (pv 0)) qdz) qdz) (qaz (pv 1))))
theorem q52z:∀ds G Q,qcsz ds G Q->ds.length=2:=by
 intro ds G Q h;obtain⟨_,_,rfl,_⟩:=h;rfl
theorem qpaz(T:Txt K mg t):FnOk3 P w K mg base 3 t.f_z13 t.d_z13 ["pen","most"] qcsz:=by
 refine qfn3 (k:=2) (sp:=qcsz) T.F_z13 sc_z13 (by decide) q52z qlrz (fun cdv A outer s H E hr=>?_) qwpz;refine qez (qkz (i:=2) sc_z13.nd (qhz quz qtz qdz ?_)) (qfz (qjz (qacz (qbz (qaz (pv 2)) ?_))));refine qgz ((qapz T).mono (by decide)) hr T.m_z39 T.F_z39.kp T.b_z39 (qbz (qaz (pv 0)) (qbz (qaz (pv 1)) qcz));refine qbz (qgz ((qapz T).mono (by decide)) hr T.m_z39 T.F_z39.kp T.b_z39 (qbz (qaz (pv 0)) (qbz (qaz (pv 2)) qcz))) (qcz)
theorem q53z:∀ds G Q,qc2z ds G Q->ds.length=3:=by
 intro ds G Q h;obtain⟨_,_,_,rfl,_⟩:=h;rfl
theorem qpbz(T:Txt K mg t):FnOk3 P w K mg base 3 t.f_z12 t.d_z12 ["pen","least","most"] qc2z:=by
 refine qfn3 (k:=2) (sp:=qc2z) T.F_z12 sc_z12 (by decide) q53z qnsz (fun cdv A outer s H E hr=>?_) q0uz;refine qez (qkz (i:=3) sc_z12.nd (qvz (qbz (qacz (qbz qdz (qbz qdz qcz))) qcz))) ?_;refine qez ?_ (qfz (qjz (qe2z hr.units T.m_sorted (qbz (qaz (pv 3)) qcz))));refine qgvz PassesOwn.never (qaxz ?_) ?_;refine qcjz (qnz qc6z (qc5z hr.units0) (q9z hr.units T.m_len (qbz (qaz (pv 3)) qcz)) (qaz (pv 1)) (nomark _)) (qddz (qaxz ?_));refine qciz ?_ (qchz (qnz qc6z (qc5z hr.units0) (q9z hr.units T.m_len (qbz (qaz (pv 3)) qcz)) (qaz (pv 2)) (nomark _)));refine qnz l_gt qfxz (qgz ((qapz T).mono (by decide)) hr T.m_z39 T.F_z39.kp T.b_z39 (qbz (qaz (pv 0)) (qbz qdz qcz))) ?_ (nomark _);refine qdz;refine qez (qkz (i:=4) sc_z12.nd ?_) ?_;refine qv4z (qbz qdz (qbz qdz (qbz qdz (qbz qdz (qbz qdz (qbz qdz qcz)))))) ?_;refine qgz ((qapz T).mono (by decide)) hr T.m_z39 T.F_z39.kp T.b_z39 (qbz (qaz (pv 0)) (qbz qdz qcz));refine qez (qkz (i:=4) sc_z12.nd ?_) ?_;refine qv6z hr.units T.m_min (qbz (qaz (pv 4)) (qbz (qgxz hr.units T.m_max ?_) qcz));refine qbz qdz (qbz (qhz quz qtz (qhz qbmz qbhz (qaz (pv 2)) (q9z hr.units T.m_len (qbz (qaz (pv 3)) qcz))) qdz) qcz);refine qez ?_ ?_;refine qguz ?_ (qe0z rfl (qbpz (qqz (i:=5) sc_z12.nd) (qbpz (qqz (i:=6) sc_z12.nd) qezz)));refine qcmz qjxz PySem.F.slot_list_pop PySem.F.type_list_pop qi7z (qaz (pv 3)) (qbz ?_ qcz);refine qgz ((qapz T).mono (by decide)) hr T.m_z39 T.F_z39.kp T.b_z39 ?_;refine qbz (qaz (pv 0)) (qbz (q9z hr.units T.m_len (qbz (qaz (pv 3)) qcz)) qcz);refine qez ?_ ?_;refine qrz (qnz l_gt qfxz (qhz q6z q5z (qaz (pv 5)) (qaz (pv 4))) qdz (nomark _)) (qfz (qjz (qe2z hr.units T.m_sorted ?_))) qsz;refine qbz (qhz quz qtz (qaz (pv 3)) (qvz (qbz (qacz (qbz (qaz (pv 5)) (qbz (qaz (pv 6)) qcz))) qcz))) qcz;refine qfz (qkz (i:=3) sc_z12.nd (qhz quz qtz (qaz (pv 3)) ?_));refine qasz rfl (show CmpOk qovz (defScope qfqz) _ ["part"] [5,4,6] from⟨rfl,by decide +kernel,by decide +kernel,by decide +kernel,by decide +kernel,by decide +kernel⟩) ?_ ?_;refine qckz T.m_range (qbz (qaz (pv 4)) qcz);intro s0 H0 fp0;refine⟨(qqz (i:=0) (show (["part","step","k","rest"]:List Str).Nodup by decide +kernel)),qayz,?_⟩;refine qacz (qbz (qhz q6z q5z (qaz (pv 1)) (qaz (pv 2))) ?_);refine qbz (qhz quz qtz (qaz (pv 3)) (qhz q6z q5z (qaz (pv 1)) (qaz (pv 0)))) qcz
theorem q54z:∀ds G Q,qd2z ds G Q->ds.length=2:=by
 intro ds G Q h;obtain⟨_,rfl,_⟩:=h;rfl
theorem q55z(T:Txt K mg t):FnOk3 P w K mg base 4 t.f_z9 t.d_z9 ["pen","most"] qd2z:=by
 refine qfn3 (k:=3) (sp:=qd2z) T.F_z9 sc_z9 (by decide) q54z qntz (fun cdv A outer s H E hr=>?_) q0wz;refine qez (qkz (i:=2) sc_z9.nd ?_) ?_;refine qgz ((qapz T).mono (by decide)) hr T.m_z39 T.F_z39.kp T.b_z39 (qbz (qaz (pv 0)) (qbz qdz qcz));refine qez ?_ ?_;refine qrz (qnz l_eq (q7z hr.units) (qaz (pv 2)) qdz (nomark _)) (qfz ?_) (qfz ?_);refine qgzz (i:=3) rfl sc_z9.nd (show CmpOk qowz (defScope qfrz) _ ["turn"] [0] from⟨rfl,by decide +kernel,by decide +kernel,by decide +kernel,by decide +kernel,by decide +kernel⟩) ?_ ?_;refine qckz T.m_range (qbz ?_ qcz);refine qgz ((qapz T).mono (by decide)) hr T.m_z39 T.F_z39.kp T.b_z39 ?_;refine qbz (qaz (pv 0)) (qbz (qhz quz qtz (qaz (pv 1)) qdz) qcz);intro s0 H0 fp0;refine⟨(qqz (i:=0) (show (["turn","pen"]:List Str).Nodup by decide +kernel)),qayz,?_⟩;refine qgz ((qpaz T).mono (by decide)) hr T.m_z13 T.F_z13.kp T.b_z13 (qbz (qaz (pv 1)) (qbz qdz qcz));refine qrz (qnz l_eq (q7z hr.units) (qaz (pv 2)) qdz (nomark _)) ?_ ?_;refine qez (qkz (i:=4) sc_z9.nd ?_) (qez (qkz (i:=3) sc_z9.nd (qvz qcz)) (qfz ?_));refine qvz (qbz qdz (qbz qdz (qbz qdz (qbz qdz (qbz qdz (qbz qdz (qbz qdz qcz)))))));refine qaoz PassesOwn.never rfl (qckz T.m_range (qbz ?_ qcz)) (qqz (i:=5) sc_z9.nd) ?_;refine qgz ((qapz T).mono (by decide)) hr T.m_z39 T.F_z39.kp T.b_z39 ?_;refine qbz (qaz (pv 0)) (qbz (qhz quz qtz (qaz (pv 1)) qdz) qcz);refine qez (qkz (i:=6) sc_z9.nd ?_) (qfz (qboz ?_));refine qlz (qaz (pv 4)) (qgz ((qapz T).mono (by decide)) hr T.m_z39 T.F_z39.kp T.b_z39 (qbz (qaz (pv 0)) (qbz qdz qcz)));refine qcmz qf9z PySem.F.slot_list_append PySem.F.type_list_append qeez (qaz (pv 3)) (qbz (qacz (qbz (qaz (pv 6)) ?_)) qcz);refine qbz (qgz ((qapz T).mono (by decide)) hr T.m_z39 T.F_z39.kp T.b_z39 (qbz (qaz (pv 0)) (qbz (qaz (pv 6)) qcz))) (qcz);refine qez (qkz (i:=3) sc_z9.nd ?_) ?_;refine qgz ((qpbz T).mono (by decide)) hr T.m_z12 T.F_z12.kp T.b_z12 ?_;refine qbz (qaz (pv 0)) (qbz qdz (qbz (qgxz hr.units T.m_max (qbz qdz (qbz (qhz qbmz qbhz (qaz (pv 1)) qdz) qcz))) qcz));refine qez ?_ (qfz ?_);refine qrz (qnz l_eq (q7z hr.units) (qaz (pv 2)) qdz (nomark _)) (qfz ?_) qsz;refine qkz (i:=3) sc_z9.nd (qhz quz qtz (qaz (pv 3)) (qvz (qbz ?_ qcz)));refine qgz ((qpaz T).mono (by decide)) hr T.m_z13 T.F_z13.kp T.b_z13 (qbz (qaz (pv 0)) (qbz qdz qcz));refine qrz (qnz l_eq (q7z hr.units) (qaz (pv 2)) qdz (nomark _)) (qfz (qboz ?_)) qsz;refine qcmz qjxz PySem.F.slot_list_pop PySem.F.type_list_pop qi7z (qaz (pv 3)) (qbz ?_ qcz);refine qgz ((qapz T).mono (by decide)) hr T.m_z39 T.F_z39.kp T.b_z39 ?_;refine qbz (qaz (pv 0)) (qbz (q9z hr.units T.m_len (qbz (qaz (pv 3)) qcz)) qcz);refine qfz (qjz (qdfz (qb4z hr.units T.m_tuple (qbz (qv7z hr.units (qaz (pv 3)) T.m_sorted T.m_set) qcz)) qe1z (qclz (qaz (pv 1)))))
theorem q56z:∀ds G Q,qdsz ds G Q->ds.length=2:=by
 intro ds G Q h
 first
  | (rcases ds with _|⟨_,_|⟨_,_|⟨_,_|⟨_,_⟩⟩⟩⟩<;>first|rfl|exact h.elim)
  | (obtain⟨rfl,_⟩:=h;rfl)
  | (obtain⟨_,rfl,_⟩:=h;rfl)
  | (obtain⟨_,_,rfl,_⟩:=h;rfl)
  | (obtain⟨_,_,_,rfl,_⟩:=h;rfl)
  | (obtain⟨_,_,_,_,rfl,_⟩:=h;rfl)
  | (obtain⟨_,_,_,_,_,rfl,_⟩:=h;rfl)
  | (obtain⟨_,_,_,_,_,_,rfl,_⟩:=h;rfl)
  | (obtain⟨_,_,_,_,_,_,_,rfl,_⟩:=h;rfl)
  | (obtain⟨_,_,_,_,_,_,_,_,rfl,_⟩:=h;rfl)
theorem q57z(T:Txt K mg t):FnOk3 P w K mg base 1 t.f_z30 t.d_z30 ["clock","k"] qdsz:=by
 refine qfn3 (k:=0) (sp:=qdsz) T.F_z30 q4jz (by decide) q56z qmdz (fun cdv A outer s H E hr=>?_) qycz;refine qfz (qjz ?_);refine qasz rfl (show CmpOk qoxz (defScope qfsz) _ ["part"] [0,1] from⟨rfl,by decide +kernel,by decide +kernel,by decide +kernel,by decide +kernel,by decide +kernel⟩) ?_ ?_;refine qckz T.m_range (qbz (qaz (pv 1)) qcz);intro s0 H0 fp0;refine⟨(qqz (i:=0) (show (["part","clock","k"]:List Str).Nodup by decide +kernel)),qayz,?_⟩;refine qacz (qbz (qhz q6z q5z (qlz (qaz (pv 1)) qdz) (qaz (pv 2))) ?_);refine qbz (qhz quz qtz (qlz (qaz (pv 1)) qdz) (qhz q6z q5z (qlz (qaz (pv 1)) qdz) (qaz (pv 0)))) qcz
theorem q58z:∀ds G Q,qd7z ds G Q->ds.length=4:=by
 intro ds G Q h;obtain⟨_,_,_,_,_,rfl,_⟩:=h;rfl
theorem q59z(T:Txt K mg t):FnOk3 P w K mg base 44 t.f_z2 t.d_z2 ["clocks","place","k","far"] qd7z:=by
 refine qfn3 (k:=43) (sp:=qd7z) T.F_z2 sc_z2 (by decide) q58z qokz (fun cdv A outer s H E hr=>?_) q2wz;refine qez (qkz (i:=4) sc_z2.nd ?_) ?_;refine qgz ((q5cz T).mono (by decide)) hr T.m_z36 T.F_z36.kp T.b_z36 ?_;refine qbz (qaz (pv 0)) (qbz (qaz (pv 1)) (qbz (qaz (pv 2)) qcz));refine qez ?_ ?_;refine qaoz PassesOwn.never rfl (q2z ?_) (qqz (i:=5) sc_z2.nd) (qfz (qrz ?_ (qfz (qjz qarz)) qsz));refine qhz quz qtz (qwaz rfl T.m_range T.m_list (qbz (qv2z qdz) (qbz qdz qcz))) ?_;refine qvz (qbz (qaz (pv 3)) (qbz (qhz qbmz qbhz qdz (qaz (pv 3))) qcz));refine qnz l_ne (qawz hr.units) (qahz l_eq (q7z hr.units) ?_ (qvz qcz) (nomark _)) (qahz l_eq (q7z hr.units) ?_ (qvz qcz) (nomark _)) (nomark _);refine qgz ((qo3z T).mono (by decide)) hr T.m_z32 T.F_z32.kp T.b_z32 (qbz (qaz (pv 0)) (qbz (qaz (pv 5)) qcz));refine qgz ((qo3z T).mono (by decide)) hr T.m_z32 T.F_z32.kp T.b_z32 (qbz (qaz (pv 4)) (qbz (qaz (pv 5)) qcz));refine qez (qkz (i:=6) sc_z2.nd ?_) (qez ?_ (qfz (qjz qarz)));refine qgz ((q57z T).mono (by decide)) hr T.m_z30 T.F_z30.kp T.b_z30 ?_;refine qbz (qlz (qaz (pv 0)) (qaz (pv 1))) (qbz (qaz (pv 2)) qcz);refine qrz (qnz l_eq (q7z hr.units) ?_ (qvz qcz) (nomark _)) ?_ qsz;refine qasz rfl (show CmpOk qihz (defScope qebz) _ ["part"] [0] from⟨rfl,by decide +kernel,by decide +kernel,by decide +kernel,by decide +kernel,by decide +kernel⟩) ?_ ?_;refine q2z (qaz (pv 6));intro s0 H0 fp0;refine⟨(qqz (i:=0) (show (["part","clocks"]:List Str).Nodup by decide +kernel)),?_,(qaz (pv 0))⟩;refine qdez (qnz l_in (qgqz hr.units) (qaz (pv 0)) (qaz (pv 1)) (by with_unfolding_all rfl));refine qez ?_ ?_;refine qkz (i:=7) sc_z2.nd (qb4z hr.units T.m_tuple (qbz ?_ qcz));refine qasz rfl (show CmpOk qihz (defScope qebz) _ ["part"] [4] from⟨rfl,by decide +kernel,by decide +kernel,by decide +kernel,by decide +kernel,by decide +kernel⟩) ?_ ?_;refine q2z (qaz (pv 6));intro s0 H0 fp0;refine⟨(qqz (i:=0) (show (["part","split"]:List Str).Nodup by decide +kernel)),qayz,(qn2z hr.units (qaz (pv 1)) (qbz (qaz (pv 0)) qcz))⟩;refine qez (qrz (qaxz ?_) (qfz (qjz qarz)) qsz) ?_;refine qcjz (qnz qgsz (qgrz hr.units) (qaz (pv 7)) ?_ (by with_unfolding_all rfl)) (qddz (qnz l_ne (qawz hr.units) ?_ (qaz (pv 0)) (nomark _)));refine qgz ((qikz T).mono (by decide)) hr T.m_z37 T.F_z37.kp T.b_z37 (qbz (qaz (pv 4)) qcz);refine qgz ((qo6z T).mono (by decide)) hr T.m_z42 T.F_z42.kp T.b_z42 (qbz (qaz (pv 4)) (qbz (qaz (pv 7)) qcz));refine qez (qrz ?_ (qfz (qjz qarz)) qsz) (qfz (qrz (qaxz ?_) (qfz (qjz qarz)) qsz));refine qnz l_ne (qawz hr.units) (qgz ((qecz T).mono (by decide)) hr T.m_z22 T.F_z22.kp T.b_z22 (qbz (qaz (pv 4)) qcz)) ?_ (nomark _);refine qgz ((qecz T).mono (by decide)) hr T.m_z22 T.F_z22.kp T.b_z22 (qbz (qaz (pv 0)) qcz);refine qciz ?_ (qchz ?_);refine qnz qf6z qfyz (qgz ((qilz T).mono (by decide)) hr T.m_z18 T.F_z18.kp T.b_z18 (qbz (qaz (pv 0)) qcz)) ?_ (nomark _);refine q8z;refine qnz l_is qcdz (qgz ((qilz T).mono (by decide)) hr T.m_z18 T.F_z18.kp T.b_z18 (qbz (qaz (pv 4)) qcz)) ?_ (nomark _)
 refine q8z
theorem q6az:∀ds G Q,qd8z ds G Q->ds.length=1:=by
 intro ds G Q h;obtain⟨_,rfl,_⟩:=h;rfl
theorem q6bz(T:Txt K mg t):FnOk3 P w K mg base 44 t.f_z3 t.d_z3 ["clocks"] qd8z:=by
 refine qfn3 (k:=43) (sp:=qd8z) T.F_z3 sc_z3 (by decide) q6az qolz (fun cdv A outer s H E hr=>?_) q2zz;refine qez (qkz (i:=1) sc_z3.nd ?_) ?_;refine qgz ((qilz T).mono (by decide)) hr T.m_z18 T.F_z18.kp T.b_z18 (qbz (qaz (pv 0)) qcz);refine qez (qrz (qnz l_is qcdz (qaz (pv 1)) q8z (nomark _)) (qfz (qjz qarz)) qsz) (qfz (qjz ?_));refine qbbz (qahz qk5z qk4z ?_ qarz (nomark _)) (qb3z ?_);refine qgz ((q5lz T).mono (by decide)) hr T.m_z26 T.F_z26.kp T.b_z26 (qbz (qaz (pv 0)) (qbz (qaz (pv 1)) qcz));refine qahz qk5z qk4z (qgz ((qecz T).mono (by decide)) hr T.m_z22 T.F_z22.kp T.b_z22 (qbz (qaz (pv 0)) qcz)) qarz (nomark _)
theorem q6cz:∀ds G Q,sp_law ds G Q->ds.length=1:=by
 intro ds G Q h;obtain⟨_,rfl,_⟩:=h;rfl
theorem ok_law(T:Txt K mg t):FnOk3 P w K mg base 45 t.f_law t.d_law ["script"] sp_law:=by
 refine qfn3 (k:=44) (sp:=sp_law) T.F_law sc_law (by decide) q6cz qonz (fun cdv A outer s H E hr=>?_) q3cz;refine qez ?_ (qfz (qjz qarz));refine qaoz PassesOwn.never rfl (q2z ?_) (qqz (i:=1) sc_law.nd) ?_;refine qhz quz qtz (qvz ?_) (qdfz (qaz (pv 0)) (qclz qdz) (qclz qdz));refine qbz (qgz ((q5xz T).mono (by decide)) hr T.m_z17 T.F_z17.kp T.b_z17 (qbz (qaz (pv 0)) (qbz qdz qcz))) (qcz);refine qez ?_ ?_;refine qkz (i:=2) sc_law.nd (qgz ((q50z T).mono (by decide)) hr T.m_z20 T.F_z20.kp T.b_z20 (qbz (qaz (pv 1)) qcz));refine qez (qkz (i:=3) sc_law.nd ?_) (qfz ?_);refine qgz ((qapz T).mono (by decide)) hr T.m_z39 T.F_z39.kp T.b_z39 ?_;refine qbz (qaz (pv 2)) (qbz (qhz qjtz qirz qdz qdz) qcz);refine qaoz PassesOwn.never rfl (q2z (qvz ?_)) (qqz (i:=4) sc_law.nd) ?_;refine qbz ?_ (qbz (qb4z hr.units T.m_tuple (qbz ?_ qcz)) qcz);refine qgz ((q55z T).mono (by decide)) hr T.m_z9 T.F_z9.kp T.b_z9 (qbz (qaz (pv 2)) (qbz qdz qcz));refine qgz ((qpbz T).mono (by decide)) hr T.m_z12 T.F_z12.kp T.b_z12 ?_;refine qbz (qaz (pv 2)) (qbz qdz (qbz qdz qcz));refine qez ?_ ?_;refine qrz (qnz l_ne (qawz hr.units) (qaz (pv 4)) (qacz qcz) (nomark _)) ?_ qsz;refine qez (qkz (i:=5) sc_law.nd ?_) ?_;refine qgz ((qapz T).mono (by decide)) hr T.m_z39 T.F_z39.kp T.b_z39 ?_;refine qbz (qaz (pv 2)) (qbz (q9z hr.units T.m_len (qbz (qaz (pv 4)) qcz)) qcz);refine qez (qkz (i:=6) sc_law.nd (qhz quz qtz qdz ?_)) (qfz (qrz (qaxz ?_) (qfz (qjz qarz)) qsz));refine qgz ((qapz T).mono (by decide)) hr T.m_z39 T.F_z39.kp T.b_z39 (qbz (qaz (pv 2)) (qbz qdz qcz));refine qciz (qnz l_le qisz (qhz q6z q5z (qlz (qlz (qaz (pv 4)) (qaz (pv 5))) qdz) (qaz (pv 6))) qdz (nomark _)) ?_;refine qchz (qbaz (qanz ?_));refine qgz ((q59z T).mono (by decide)) hr T.m_z2 T.F_z2.kp T.b_z2 ?_;refine qbz (qaz (pv 4)) (qbz (qaz (pv 5)) (qbz (qaz (pv 6)) (qbz (qaz (pv 3)) qcz)));refine qez (qrz (qbaz ?_) (qfz (qjz qarz)) qsz) (qfz ?_);refine qanz (qgz ((q6bz T).mono (by decide)) hr T.m_z3 T.F_z3.kp T.b_z3 (qbz (qaz (pv 4)) qcz));refine qaoz PassesOwn.never rfl (q2z (qgz ((qikz T).mono (by decide)) hr T.m_z37 T.F_z37.kp T.b_z37 (qbz (qaz (pv 4)) qcz))) ?_ ?_;refine qqz (i:=7) sc_law.nd;refine qfz (qrz (qaxz ?_) (qfz (qjz qarz)) qsz);refine qciz (qanz (qgz ((qecz T).mono (by decide)) hr T.m_z22 T.F_z22.kp T.b_z22 (qbz (qaz (pv 4)) qcz))) ?_;refine qchz (qbaz (qanz ?_));refine qgz ((qecz T).mono (by decide)) hr T.m_z22 T.F_z22.kp T.b_z22 ?_;refine qbz (qgz ((qo6z T).mono (by decide)) hr T.m_z42 T.F_z42.kp T.b_z42 (qbz (qaz (pv 4)) (qbz (qaz (pv 7)) qcz))) qcz
end
def Has(K:PySem.W.Frag)(nm:Str)(st:Stmt):Prop:=∃f d,Fun K nm nm st f d/\PySem.W.nsIn K mainGlobals nm=some (some (.ref f))
theorem has_mk{K:PySem.W.Frag}{nm:Str}{st:Stmt}{f:Addr}{od an:Option Addr}{sl:Array (Option Value)}{oc kV dc pm cd ct:Value}(a:PySem.W.nsIn K mainGlobals nm=some (some (.ref f)))(l:K.lookup f=some ⟨oc,od,.func (PySem.W.fnOf nm nm (defArgs st) (defBody st) (defScope st) .none kV dc pm an cd ct),sl⟩)(c:PySem.W.codeIn K cd nm=true)(k:PySem.W.keepIn K (.ref f)=true):Has K nm st:=⟨f,_,qrsz l c k,a⟩
theorem txt_mk{K:PySem.W.Frag}{h:Heap}{mg:Str->Option Value}(X:K.In h)(G:h.Ns mainGlobals mg)
  (h0:Has K "whole_good" qhpz)
  (h1:Has K "place_good" qhqz)
  (h2:Has K "refuse_no_place" qhrz)
  (h3:Has K "rising_places_good" qd9z)
  (h4:Has K "split_form_good" qhtz)
  (h5:Has K "rising_once" qhuz)
  (h6:Has K "refuse_above" qhvz)
  (h7:Has K "common_divisor" qhwz)
  (h8:Has K "common_multiple" qhxz)
  (h9:Has K "inverse_of" qhyz)
  (h10:Has K "lowest_terms" qhzz)
  (h11:Has K "rings" qh0z)
  (h12:Has K "rings_at" qfjz)
  (h13:Has K "round_of" qfkz)
  (h14:Has K "meet_of" qh1z)
  (h15:Has K "inside_of" qh2z)
  (h16:Has K "parts_of" qflz)
  (h17:Has K "split_at" qfmz)
  (h18:Has K "joins_of" qeaz)
  (h19:Has K "parts_from" qh4z)
  (h20:Has K "whole_from" qh5z)
  (h21:Has K "join_at" qfnz)
  (h22:Has K "split_good" qh6z)
  (h23:Has K "made_of" qh7z)
  (h24:Has K "split_paper" qh8z)
  (h25:Has K "papers_making" qfoz)
  (h26:Has K "prime_for" qh9z)
  (h27:Has K "shares_of" qfpz)
  (h28:Has K "clash_of" qiaz)
  (h29:Has K "exact_good" qibz)
  (h30:Has K "_law_cell_at" qicz)
  (h31:Has K "_law_next" qidz)
  (h32:Has K "_law_pen_of" qiez)
  (h33:Has K "_law_draw" qifz)
  (h34:Has K "_law_clock_by" qigz)
  (h35:Has K "_law_parts_by" qfqz)
  (h36:Has K "_law_clocks_by" qfrz)
  (h37:Has K "_law_parts" qfsz)
  (h38:Has K "_law_split_right" qebz)
  (h39:Has K "_law_paper_right" qiiz)
  (h40:Has K "law" qijz)
  {t0:Tok} (gint0:PySem.W.nsIn K mainGlobals "MOST_CLOCKS" = some (some (.int 12 t0)))
  {t1:Tok} (gint1:PySem.W.nsIn K mainGlobals "MOST_STEP" = some (some (.int 1000 t1)))
  (z0:PySem.W.nsIn K mainGlobals "all" = some none)
  (z1:PySem.W.nsIn K mainGlobals "bool" = some none)
  (z2:PySem.W.nsIn K mainGlobals "enumerate" = some none)
  (z3:PySem.W.nsIn K mainGlobals "int" = some none)
  (z4:PySem.W.nsIn K mainGlobals "isinstance" = some none)
  (z5:PySem.W.nsIn K mainGlobals "len" = some none)
  (z6:PySem.W.nsIn K mainGlobals "list" = some none)
  (z7:PySem.W.nsIn K mainGlobals "max" = some none)
  (z8:PySem.W.nsIn K mainGlobals "min" = some none)
  (z9:PySem.W.nsIn K mainGlobals "range" = some none)
  (z10:PySem.W.nsIn K mainGlobals "set" = some none)
  (z11:PySem.W.nsIn K mainGlobals "sorted" = some none)
  (z12:PySem.W.nsIn K mainGlobals "sum" = some none)
  (z13:PySem.W.nsIn K mainGlobals "tuple" = some none)
  (z14:PySem.W.nsIn K mainGlobals "zip" = some none)
  : ∃t:Adr,Txt K mg t/\∀(s:Shared) (v:Value),BindsTo s t.d_law ⟨[v],[]⟩ [("script",v)]:=by
 obtain⟨f0,d0,F0,a0⟩:=h0;obtain⟨f1,d1,F1,a1⟩:=h1;obtain⟨f2,d2,F2,a2⟩:=h2;obtain⟨f3,d3,F3,a3⟩:=h3;obtain⟨f4,d4,F4,a4⟩:=h4;obtain⟨f5,d5,F5,a5⟩:=h5;obtain⟨f6,d6,F6,a6⟩:=h6;obtain⟨f7,d7,F7,a7⟩:=h7;obtain⟨f8,d8,F8,a8⟩:=h8;obtain⟨f9,d9,F9,a9⟩:=h9;obtain⟨f10,d10,F10,a10⟩:=h10;obtain⟨f11,d11,F11,a11⟩:=h11;obtain⟨f12,d12,F12,a12⟩:=h12;obtain⟨f13,d13,F13,a13⟩:=h13;obtain⟨f14,d14,F14,a14⟩:=h14;obtain⟨f15,d15,F15,a15⟩:=h15;obtain⟨f16,d16,F16,a16⟩:=h16;obtain⟨f17,d17,F17,a17⟩:=h17;obtain⟨f18,d18,F18,a18⟩:=h18;obtain⟨f19,d19,F19,a19⟩:=h19;obtain⟨f20,d20,F20,a20⟩:=h20;obtain⟨f21,d21,F21,a21⟩:=h21;obtain⟨f22,d22,F22,a22⟩:=h22;obtain⟨f23,d23,F23,a23⟩:=h23;obtain⟨f24,d24,F24,a24⟩:=h24;obtain⟨f25,d25,F25,a25⟩:=h25;obtain⟨f26,d26,F26,a26⟩:=h26;obtain⟨f27,d27,F27,a27⟩:=h27;obtain⟨f28,d28,F28,a28⟩:=h28;obtain⟨f29,d29,F29,a29⟩:=h29;obtain⟨f30,d30,F30,a30⟩:=h30;obtain⟨f31,d31,F31,a31⟩:=h31;obtain⟨f32,d32,F32,a32⟩:=h32;obtain⟨f33,d33,F33,a33⟩:=h33;obtain⟨f34,d34,F34,a34⟩:=h34;obtain⟨f35,d35,F35,a35⟩:=h35;obtain⟨f36,d36,F36,a36⟩:=h36;obtain⟨f37,d37,F37,a37⟩:=h37;obtain⟨f38,d38,F38,a38⟩:=h38;obtain⟨f39,d39,F39,a39⟩:=h39;obtain⟨f40,d40,F40,a40⟩:=h40;exact⟨⟨f0,d0,f1,d1,f2,d2,f3,d3,f4,d4,f5,d5,f6,d6,f7,d7,f8,d8,f9,d9,f10,d10,f11,d11,f12,d12,f13,d13,f14,d14,f15,d15,f16,d16,f17,d17,f18,d18,f19,d19,f20,d20,f21,d21,f22,d22,f23,d23,f24,d24,f25,d25,f26,d26,f27,d27,f28,d28,f29,d29,f30,d30,f31,d31,f32,d32,f33,d33,f34,d34,f35,d35,f36,d36,f37,d37,f38,d38,f39,d39,f40,d40,t0,t1⟩,⟨F0,
  PySem.W.mg_of X G a0,
  F0.binds (ps:=["thing"]) fun _ _ _ _ _ _ us hl=>by obtain⟨_,rfl⟩:=len1 hl;rfl,
  F1,
  PySem.W.mg_of X G a1,
  F1.binds (ps:=["things","thing"]) fun _ _ _ _ _ _ us hl=>by obtain⟨_,_,rfl⟩:=len2 hl;rfl,
  F2,
  PySem.W.mg_of X G a2,
  F2.binds (ps:=["things","thing"]) fun _ _ _ _ _ _ us hl=>by obtain⟨_,_,rfl⟩:=len2 hl;rfl,
  F3,
  PySem.W.mg_of X G a3,
  F3.binds (ps:=["things","thing"]) fun _ _ _ _ _ _ us hl=>by obtain⟨_,_,rfl⟩:=len2 hl;rfl,
  F4,
  PySem.W.mg_of X G a4,
  F4.binds (ps:=["k","papers"]) fun _ _ _ _ _ _ us hl=>by obtain⟨_,_,rfl⟩:=len2 hl;rfl,
  F5,
  PySem.W.mg_of X G a5,
  F5.binds (ps:=["things"]) fun _ _ _ _ _ _ us hl=>by obtain⟨_,rfl⟩:=len1 hl;rfl,
  F6,
  PySem.W.mg_of X G a6,
  F6.binds (ps:=["many","most"]) fun _ _ _ _ _ _ us hl=>by obtain⟨_,_,rfl⟩:=len2 hl;rfl,
  F7,
  PySem.W.mg_of X G a7,
  F7.binds (ps:=["one","other"]) fun _ _ _ _ _ _ us hl=>by obtain⟨_,_,rfl⟩:=len2 hl;rfl,
  F8,
  PySem.W.mg_of X G a8,
  F8.binds (ps:=["numbers"]) fun _ _ _ _ _ _ us hl=>by obtain⟨_,rfl⟩:=len1 hl;rfl,
  F9,
  PySem.W.mg_of X G a9,
  F9.binds (ps:=["number","bound"]) fun _ _ _ _ _ _ us hl=>by obtain⟨_,_,rfl⟩:=len2 hl;rfl,
  F10,
  PySem.W.mg_of X G a10,
  F10.binds (ps:=["top","bottom"]) fun _ _ _ _ _ _ us hl=>by obtain⟨_,_,rfl⟩:=len2 hl;rfl,
  F11,
  PySem.W.mg_of X G a11,
  F11.binds (ps:=["clock","number"]) fun _ _ _ _ _ _ us hl=>by obtain⟨_,_,rfl⟩:=len2 hl;rfl,
  F12,
  PySem.W.mg_of X G a12,
  F12.binds (ps:=["clocks","number"]) fun _ _ _ _ _ _ us hl=>by obtain⟨_,_,rfl⟩:=len2 hl;rfl,
  F13,
  PySem.W.mg_of X G a13,
  F13.binds (ps:=["clocks"]) fun _ _ _ _ _ _ us hl=>by obtain⟨_,rfl⟩:=len1 hl;rfl,
  F14,
  PySem.W.mg_of X G a14,
  F14.binds (ps:=["one","other"]) fun _ _ _ _ _ _ us hl=>by obtain⟨_,_,rfl⟩:=len2 hl;rfl,
  F15,
  PySem.W.mg_of X G a15,
  F15.binds (ps:=["one","other"]) fun _ _ _ _ _ _ us hl=>by obtain⟨_,_,rfl⟩:=len2 hl;rfl,
  F16,
  PySem.W.mg_of X G a16,
  F16.binds (ps:=["clock","k"]) fun _ _ _ _ _ _ us hl=>by obtain⟨_,_,rfl⟩:=len2 hl;rfl,
  F17,
  PySem.W.mg_of X G a17,
  F17.binds (ps:=["clocks","place","k"]) fun _ _ _ _ _ _ us hl=>by obtain⟨_,_,_,rfl⟩:=len3 hl;rfl,
  F18,
  PySem.W.mg_of X G a18,
  F18.binds (ps:=["clocks"]) fun _ _ _ _ _ _ us hl=>by obtain⟨_,rfl⟩:=len1 hl;rfl,
  F19,
  PySem.W.mg_of X G a19,
  F19.binds (ps:=["clock","k"]) fun _ _ _ _ _ _ us hl=>by obtain⟨_,_,rfl⟩:=len2 hl;rfl,
  F20,
  PySem.W.mg_of X G a20,
  F20.binds (ps:=["clock","k"]) fun _ _ _ _ _ _ us hl=>by obtain⟨_,_,rfl⟩:=len2 hl;rfl,
  F21,
  PySem.W.mg_of X G a21,
  F21.binds (ps:=["clocks","places"]) fun _ _ _ _ _ _ us hl=>by obtain⟨_,_,rfl⟩:=len2 hl;rfl,
  F22,
  PySem.W.mg_of X G a22,
  F22.binds (ps:=["clocks","thing"]) fun _ _ _ _ _ _ us hl=>by obtain⟨_,_,rfl⟩:=len2 hl;rfl,
  F23,
  PySem.W.mg_of X G a23,
  F23.binds (ps:=["clocks","thing","clock"]) fun _ _ _ _ _ _ us hl=>by obtain⟨_,_,_,rfl⟩:=len3 hl;rfl,
  F24,
  PySem.W.mg_of X G a24,
  F24.binds (ps:=["clocks"]) fun _ _ _ _ _ _ us hl=>by obtain⟨_,rfl⟩:=len1 hl;rfl,
  F25,
  PySem.W.mg_of X G a25,
  F25.binds (ps:=["clocks","clock"]) fun _ _ _ _ _ _ us hl=>by obtain⟨_,_,rfl⟩:=len2 hl;rfl,
  F26,
  PySem.W.mg_of X G a26,
  F26.binds (ps:=["clocks","clock"]) fun _ _ _ _ _ _ us hl=>by obtain⟨_,_,rfl⟩:=len2 hl;rfl,
  F27,
  PySem.W.mg_of X G a27,
  F27.binds (ps:=["clocks"]) fun _ _ _ _ _ _ us hl=>by obtain⟨_,rfl⟩:=len1 hl;rfl,
  F28,
  PySem.W.mg_of X G a28,
  F28.binds (ps:=["clocks"]) fun _ _ _ _ _ _ us hl=>by obtain⟨_,rfl⟩:=len1 hl;rfl,
  F29,
  PySem.W.mg_of X G a29,
  F29.binds (ps:=["clocks"]) fun _ _ _ _ _ _ us hl=>by obtain⟨_,rfl⟩:=len1 hl;rfl,
  F30,
  PySem.W.mg_of X G a30,
  F30.binds (ps:=["script","k"]) fun _ _ _ _ _ _ us hl=>by obtain⟨_,_,rfl⟩:=len2 hl;rfl,
  F31,
  PySem.W.mg_of X G a31,
  F31.binds (ps:=["seed"]) fun _ _ _ _ _ _ us hl=>by obtain⟨_,rfl⟩:=len1 hl;rfl,
  F32,
  PySem.W.mg_of X G a32,
  F32.binds (ps:=["cell"]) fun _ _ _ _ _ _ us hl=>by obtain⟨_,rfl⟩:=len1 hl;rfl,
  F33,
  PySem.W.mg_of X G a33,
  F33.binds (ps:=["pen","many"]) fun _ _ _ _ _ _ us hl=>by obtain⟨_,_,rfl⟩:=len2 hl;rfl,
  F34,
  PySem.W.mg_of X G a34,
  F34.binds (ps:=["pen","most"]) fun _ _ _ _ _ _ us hl=>by obtain⟨_,_,rfl⟩:=len2 hl;rfl,
  F35,
  PySem.W.mg_of X G a35,
  F35.binds (ps:=["pen","least","most"]) fun _ _ _ _ _ _ us hl=>by obtain⟨_,_,_,rfl⟩:=len3 hl;rfl,
  F36,
  PySem.W.mg_of X G a36,
  F36.binds (ps:=["pen","most"]) fun _ _ _ _ _ _ us hl=>by obtain⟨_,_,rfl⟩:=len2 hl;rfl,
  F37,
  PySem.W.mg_of X G a37,
  F37.binds (ps:=["clock","k"]) fun _ _ _ _ _ _ us hl=>by obtain⟨_,_,rfl⟩:=len2 hl;rfl,
  F38,
  PySem.W.mg_of X G a38,
  F38.binds (ps:=["clocks","place","k","far"]) fun _ _ _ _ _ _ us hl=>by obtain⟨_,_,_,_,rfl⟩:=len4 hl;rfl,
  F39,
  PySem.W.mg_of X G a39,
  F39.binds (ps:=["clocks"]) fun _ _ _ _ _ _ us hl=>by obtain⟨_,rfl⟩:=len1 hl;rfl,
  F40,
  PySem.W.mg_of X G a40,
  F40.binds (ps:=["script"]) fun _ _ _ _ _ _ us hl=>by obtain⟨_,rfl⟩:=len1 hl;rfl,
  PySem.W.mg_of X G gint0,
  PySem.W.mg_of X G gint1,
  PySem.W.mg_none_of X G z0,
  PySem.W.mg_none_of X G z1,
  PySem.W.mg_none_of X G z2,
  PySem.W.mg_none_of X G z3,
  PySem.W.mg_none_of X G z4,
  PySem.W.mg_none_of X G z5,
  PySem.W.mg_none_of X G z6,
  PySem.W.mg_none_of X G z7,
  PySem.W.mg_none_of X G z8,
  PySem.W.mg_none_of X G z9,
  PySem.W.mg_none_of X G z10,
  PySem.W.mg_none_of X G z11,
  PySem.W.mg_none_of X G z12,
  PySem.W.mg_none_of X G z13,
  PySem.W.mg_none_of X G z14⟩,fun s v=>by
  obtain⟨_,_,_,_,_,_,_,_,_,rfl,_⟩:=F40.ex;exact .of_eq rfl⟩
theorem q6dz(K:PySem.W.Frag)(H:Hp)(a:Addr)(ns:List Int)(hl:ns.length≤63)(ho:Only H)(hS:SqL K H a (ns.map V.int)):lowSp K sp_law [.ref a] H (fun v _=>v=.bl true) fun _ _ _=>False:=by
 refine⟨[.scr (ns.map .int)],fun _=>none,fun d _=>d=.bl true,.cons ?_ .nil,(fun _ _ e=>nomatch e),⟨ns,rfl,hl,rfl⟩,fun v H' d G' hv _ _ q=>?_⟩
 ·unfold Hv;refine⟨a,ns.map V.int,rfl,?_,Hvs.ints ns⟩;rcases hS with (h|h)|h
  ·rcases ho a with z|⟨o,xs,z⟩
   ·rw[z] at h;cases h
   ·rw[z] at h;cases h
  ·exact .inl h
  ·exact .inr h
 ·subst q;exact qbxz hv
theorem walk{l:PySem.W.OpenLaw}{q:Program}{loose:List Str}{XP:(Str->Option Value)->Heap->Prop}{YP:World->Heap->Prop}{d:DefRec}{K:Params->PySem.W.Frag}(hn:l.most=some 63)(hdf:d.params.defaults=[])
  (hY:∀(w:World) (h:Heap),YP w h->(K w.params).In h)
  (F:∀(w:World) (mg:Str->Option Value) (fa:Addr) (h:Heap),(K w.params).In h->h.Ns mainGlobals mg->mg d.name=some (.ref fa) ->
   ∃fd:FuncData,(∀(s:Shared) (u:Value),BindsTo s fd ⟨[u],[]⟩ [("script",u)])/\∀base:Heap,(K w.params).In base->base.Ns mainGlobals mg->FnOk l.prog w (K w.params) mg base CX0 45 fa fd ["script"] (lowSp (K w.params) sp_law)):
  PySem.W.WalkO q loose XP YP l.row.toRowW d [] (fun f vs=>PySem.call f vs):=
 L2.walk_of (n:=63) (k:=45) (x:="script") (CX:=fun _=>CX0) (sp:=fun w=>lowSp (K w.params) sp_law) hn (by decide) hdf ⟨rfl,by decide,by decide⟩ hY F (fun w H a ns hl ho hS=>q6dz (K w.params) H a ns hl ho hS) fun _ _ _ _ _ z=>z
end My
open PySem PySem.W PyProof.Rows
set_option maxRecDepth 100000 in
set_option maxHeartbeats 0 in
theorem PySem.Challenge.cw_coverclocks_k37_whole_splits_and_joins_holds : PySem.Challenge.rw_coverclocks_k37_whole_splits_and_joins.Holds := by
 w_on;o_law;k_head;(case hw=>w_witness2)
 k_fill
 refine My.walk (l:=PySem.Challenge.rw_coverclocks_k37_whole_splits_and_joins) rfl rfl (fun w h Y=>PySem.W.kIn_of Y) ?F
 case F=>
  intro w mg fa h KX G hmg
  refine' Exists.elim (My.txt_mk KX G (My.has_mk ?a0 ?l0 ?c0 ?k0) (My.has_mk ?a1 ?l1 ?c1 ?k1) (My.has_mk ?a2 ?l2 ?c2 ?k2) (My.has_mk ?a3 ?l3 ?c3 ?k3) (My.has_mk ?a4 ?l4 ?c4 ?k4) (My.has_mk ?a5 ?l5 ?c5 ?k5) (My.has_mk ?a6 ?l6 ?c6 ?k6) (My.has_mk ?a7 ?l7 ?c7 ?k7) (My.has_mk ?a8 ?l8 ?c8 ?k8) (My.has_mk ?a9 ?l9 ?c9 ?k9) (My.has_mk ?a10 ?l10 ?c10 ?k10) (My.has_mk ?a11 ?l11 ?c11 ?k11) (My.has_mk ?a12 ?l12 ?c12 ?k12) (My.has_mk ?a13 ?l13 ?c13 ?k13) (My.has_mk ?a14 ?l14 ?c14 ?k14) (My.has_mk ?a15 ?l15 ?c15 ?k15) (My.has_mk ?a16 ?l16 ?c16 ?k16) (My.has_mk ?a17 ?l17 ?c17 ?k17) (My.has_mk ?a18 ?l18 ?c18 ?k18) (My.has_mk ?a19 ?l19 ?c19 ?k19) (My.has_mk ?a20 ?l20 ?c20 ?k20) (My.has_mk ?a21 ?l21 ?c21 ?k21) (My.has_mk ?a22 ?l22 ?c22 ?k22) (My.has_mk ?a23 ?l23 ?c23 ?k23) (My.has_mk ?a24 ?l24 ?c24 ?k24) (My.has_mk ?a25 ?l25 ?c25 ?k25) (My.has_mk ?a26 ?l26 ?c26 ?k26) (My.has_mk ?a27 ?l27 ?c27 ?k27) (My.has_mk ?a28 ?l28 ?c28 ?k28) (My.has_mk ?a29 ?l29 ?c29 ?k29) (My.has_mk ?a30 ?l30 ?c30 ?k30) (My.has_mk ?a31 ?l31 ?c31 ?k31) (My.has_mk ?a32 ?l32 ?c32 ?k32) (My.has_mk ?a33 ?l33 ?c33 ?k33) (My.has_mk ?a34 ?l34 ?c34 ?k34) (My.has_mk ?a35 ?l35 ?c35 ?k35) (My.has_mk ?a36 ?l36 ?c36 ?k36) (My.has_mk ?a37 ?l37 ?c37 ?k37) (My.has_mk ?a38 ?l38 ?c38 ?k38) (My.has_mk ?a39 ?l39 ?c39 ?k39) (My.has_mk ?a40 ?l40 ?c40 ?k40) ?gint0 ?gint1 ?z0 ?z1 ?z2 ?z3 ?z4 ?z5 ?z6 ?z7 ?z8 ?z9 ?z10 ?z11 ?z12 ?z13 ?z14) ?fin
  case a0|l0|c0|k0|a1|l1|c1|k1|a2|l2|c2|k2|a3|l3|c3|k3|a4|l4|c4|k4|a5|l5|c5|k5|a6|l6|c6|k6|a7|l7|c7|k7|a8|l8|c8|k8|a9|l9|c9|k9=>k_is
  case a10|l10|c10|k10|a11|l11|c11|k11|a12|l12|c12|k12|a13|l13|c13|k13|a14|l14|c14|k14|a15|l15|c15|k15|a16|l16|c16|k16|a17|l17|c17|k17|a18|l18|c18|k18|a19|l19|c19|k19=>k_is
  case a20|l20|c20|k20|a21|l21|c21|k21|a22|l22|c22|k22|a23|l23|c23|k23|a24|l24|c24|k24|a25|l25|c25|k25|a26|l26|c26|k26|a27|l27|c27|k27|a28|l28|c28|k28|a29|l29|c29|k29=>k_is
  case a30|l30|c30|k30|a31|l31|c31|k31|a32|l32|c32|k32|a33|l33|c33|k33|a34|l34|c34|k34|a35|l35|c35|k35|a36|l36|c36|k36|a37|l37|c37|k37|a38|l38|c38|k38|a39|l39|c39|k39=>k_is
  case a40|l40|c40|k40|gint0|gint1|z0|z1|z2|z3|z4|z5|z6|z7|z8|z9|z10|z11|z12|z13|z14=>k_is
  case fin=>
   rintro t ⟨T,b⟩
   have e2:=hmg.symm.trans T.m_law
   cases e2
   exact⟨t.d_law,b,fun base _ _=>My.ok_law T⟩
