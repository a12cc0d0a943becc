import PyProof.Rows.All
import Wide.All
import OpenK.AllK
import Wide.FinOn
import Lean
import PyProof.EqAt
import PyProof.EqKinds
import PyProof.TupleCall
import PyProof.NeKinds
import KE.KSortAsk
import PySem.SetTable
import PyProof.SetKind
import PyProof.TupleKey
import PyProof.IsRules
import PyProof.DictKinds
import PyProof.FactsAll.set
import PyProof.RangeIter
import PyProof.Seq
import PyProof.ForAny
import PyProof.WalksMore
import PyProof.CollectWalk
import PyProof.CollectIter
import PyProof.WalksS
import PyProof.Rows.SetFrom
import KE.KSortTup
import PyProof.Draws
import PyProof.Rows.Range3
import PyProof.ExcClass2
import PyProof.InstSpecial
import PyProof.RaisesMany
import PyProof.Rows.Own
import KE.KTryDeep
import PyProof.InstStoreFacts
import PyProof.ExcArgs
import PyProof.SetRoads
import PyProof.Rows.CallKwBuiltin
import KE.KMinKey
import PySem.Challenge.RW_coverclocks_k39_rests_by_anybody
set_option Elab.async false
set_option linter.all false
set_option maxRecDepth 100000
set_option maxHeartbeats 6400000
namespace PySem.W.Fast
def tw10095326470992673659:=0
def tw10118322909826342632:=0
def tw10348594220224644985:=0
def tw10487699496968406096:=0
def tw1071440606499657435:=0
def tw11112677598988693843:=0
def tw11165678502597536758:=0
def tw11482191486264517461:=0
def tw11596390742311983089:=0
def tw11961057436699917255:=0
def tw11992174857113367240:=0
def tw12001512079011084390:=0
def tw12024441725620096911:=0
def tw120382340501813702:=0
def tw12045539000487531631:=0
def tw12173576738757828987:=0
def tw12678796724447048724:=0
def tw13092913825647062741:=0
def tw13224085852484068839:=0
def tw13372608311078873991:=0
def tw13475821517950289870:=0
def tw13700687132276661307:=0
def tw13867673005403769824:=0
def tw14056233583210159146:=0
def tw14092945143534078885:=0
def tw1409500039108468284:=0
def tw14129559865130455348:=0
def tw1427470204132088350:=0
def tw14356404812077086569:=0
def tw14446965828873259319:=0
def tw14456781025848128210:=0
def tw14527606626158650750:=0
def tw14610910816742553941:=0
def tw14615732487983340143:=0
def tw14730976945914417415:=0
def tw14751905732273481899:=0
def tw14756797205053589722:=0
def tw14838746661877952307:=0
def tw14951395413713411056:=0
def tw15322693795923317942:=0
def tw15905197770191795435:=0
def tw16003595483357649411:=0
def tw16505222497632077870:=0
def tw16606598763305367494:=0
def tw16774183263992675034:=0
def tw17162984057255939748:=0
def tw17216600879433011796:=0
def tw17592495078980668352:=0
def tw17676718312221053622:=0
def tw17768094963026221916:=0
def tw18173141332869436325:=0
def tw18211163515328520398:=0
def tw18310699092186606272:=0
def tw1893700262945426213:=0
def tw1966111651989041385:=0
def tw2015973500344979149:=0
def tw2166338939172861574:=0
def tw2238344053966944329:=0
def tw250019876696247740:=0
def tw2597836056926712750:=0
def tw2810792872864763903:=0
def tw2973261102649542985:=0
def tw3112424878279058798:=0
def tw3426753624157453539:=0
def tw3543306839940313605:=0
def tw3630792743718341184:=0
def tw3899305878685416319:=0
def tw4079414357242750010:=0
def tw4085719484883283022:=0
def tw4135687554339451356:=0
def tw4295032651777464479:=0
def tw4308131464578271238:=0
def tw4628176844304669516:=0
def tw4862434767123255318:=0
def tw5054232948392626646:=0
def tw5069231894921474376:=0
def tw5271775275121826611:=0
def tw5444022287048368046:=0
def tw5925008102075923277:=0
def tw5965493917303371136:=0
def tw6033024745348154759:=0
def tw6142920926153304583:=0
def tw6166872971355173712:=0
def tw6352336061124883386:=0
def tw6506659301140555839:=0
def tw6532756788580989973:=0
def tw6638216206795101904:=0
def tw6708240926756769443:=0
def tw6832896831705901873:=0
def tw7010279248560079018:=0
def tw7189904777755044541:=0
def tw7389552278689210059:=0
def tw7864932968573957413:=0
def tw7964398571756411960:=0
def tw7981587065310008378:=0
def tw8211024383668752110:=0
def tw8336042499845245516:=0
def tw8346104216825366649:=0
def tw8531163103501898668:=0
def tw8755968373086892592:=0
def tw8781380046180279149:=0
def tw8906106435542422968:=0
def tw8917773263918569737:=0
def tw900660984803157524:=0
def tw9139318124706331054:=0
def tw9212038018363228908:=0
def tw926325978640944055:=0
def tw9377632558601861778:=0
def tw952386166253656750:=0
def tw9733139829544015351:=0
def tw9808220897096823575:=0
def tw10147313163133235162:=0
def tw10769319345245860906:=0
def tw11595406529052018844:=0
def tw12302900151940894636:=0
def tw12485274612384133209:=0
def tw12618280819147552540:=0
def tw12741473348577319257:=0
def tw12978247544411787823:=0
def tw13805879794407481482:=0
def tw15479419473275727562:=0
def tw15872133406256830436:=0
def tw16024857069001790227:=0
def tw16028991762530104189:=0
def tw16067788278249176045:=0
def tw17032297145762713719:=0
def tw17465476573318507407:=0
def tw18317149509935233130:=0
def tw18327575877321328087:=0
def tw18339081269611981664:=0
def tw18373378088590029603:=0
def tw18416382027288851519:=0
def tw3104298177276104762:=0
def tw3718905857744829390:=0
def tw3963648608990399159:=0
def tw4366182184314551738:=0
def tw4647433967787370543:=0
def tw4654006473576630144:=0
def tw5087280719502077062:=0
def tw527879512238203385:=0
def tw560292571081554106:=0
def tw5717124845248086854:=0
def tw5777894701957108346:=0
def tw6032101598396212951:=0
def tw6250134585746535787:=0
def tw7041783159819236724:=0
def tw7239136779420338567:=0
def tw7891504551761679553:=0
def tw7978299278235353507:=0
def tw8012763818755024673:=0
def tw8145282369796475170:=0
def tw8276840252420004808:=0
def tw8548555931688051629:=0
def tw864652730866075455:=0
def tw9485247103930130761:=0
def tw9785959350969328412:=0
def tw10155906035244313009:=0
def tw10581008893568635421:=0
def tw10707531723456054972:=0
def tw11113765371246964430:=0
def tw11967196231907093287:=0
def tw12371989066740806353:=0
def tw12822321782227342678:=0
def tw13091444857460054604:=0
def tw14217536932147782942:=0
def tw14774143339468361541:=0
def tw14826388559369187551:=0
def tw15084536529336355110:=0
def tw15550946847271900161:=0
def tw16413434425813731115:=0
def tw1646350605167838244:=0
def tw1668248149974379717:=0
def tw16942320897552908480:=0
def tw17181723894844477170:=0
def tw17405501034386818833:=0
def tw17714211339358054604:=0
def tw17760134462181756675:=0
def tw17829481550417914003:=0
def tw17833316078466488293:=0
def tw1948420901337273053:=0
def tw2439935767224920687:=0
def tw3009095621678988800:=0
def tw4617357479711480691:=0
def tw4907372325054828632:=0
def tw5168705467220617454:=0
def tw6339479468034394624:=0
def tw6948828915924178034:=0
def tw7069345012576901715:=0
def tw7181947130562051439:=0
def tw7654229812865605442:=0
def tw7976739003715388014:=0
def tw9168640527126297560:=0
def tw10061197088480100521:=0
def tw10126754995019686901:=0
def tw1058572108017416560:=0
def tw10912580210910355215:=0
def tw11530793932523346415:=0
def tw12008608930382482829:=0
def tw13284410972124304184:=0
def tw13902639786294680845:=0
def tw16793239292971808048:=0
def tw16930156026840820531:=0
def tw3521047801985297150:=0
def tw4274828665921408238:=0
def tw441574114895328227:=0
def tw6020000064386665390:=0
def tw9205338089663619823:=0
def tw9744268372648326081:=0
def tw10648824567623077902:=0
def tw1168596876531090721:=0
def tw12738989181973517197:=0
def tw16221596461747102950:=0
def tw17778710094639572555:=0
def tw2216783890196904360:=0
def tw7534252652537996643:=0
def tw8451541951362615141:=0
def tw9250742875317015859:=0
def tw12311476597147072757:=0
def tw13725364317116550469:=0
def tw15388201326016656263:=0
def tw17601639788411808478:=0
def tw18053551980392709719:=0
def tw4269857360983101404:=0
def tw7815597675308480134:=0
def tw9931194120347571393:=0
end PySem.W.Fast
namespace L2
open PySem PySem.Spec PyProof.Rows
abbrev Key:=Sum Int Str
def keyIs:Key->Value->Bool
 |.inl k,v=>Value.isInt k v
 |.inr x,v=>Value.isStrOf x v
def keyH(w:World):Key->Int
 |.inl k=>hashInt k
 |.inr x=>hashStr w x
theorem qayz:∀{k:Key} {v:Value},keyIs k v=true->(∃i t,k=Sum.inl i/\v=Value.int i t)∨(∃x t,k=Sum.inr x/\v=Value.str x t)
 |.inl i,v,h=>by
  obtain⟨t,e⟩:=Value.isInt_shape (k:=i) (v:=v) h;exact .inl ⟨i,t,rfl,e⟩
 |.inr x,v,h=>by
  obtain⟨t,e⟩:=Value.isStrOf_shape (x:=x) (v:=v) h;exact .inr ⟨x,t,rfl,e⟩
theorem qk6z(a b:Int):decide ((Sum.inl a:Key)=Sum.inl b)=(a==b):=by
 by_cases e:a=b
 ·subst e;simp
 ·have h:¬(Sum.inl a:Key)=Sum.inl b:=fun q=>e (Sum.inl.inj q);rw[decide_eq_false h];exact (beq_eq_false_iff_ne.mpr e).symm
theorem qk7z(a b:Str):decide ((Sum.inr a:Key)=Sum.inr b)=decide (a=b):=by
 by_cases e:a=b
 ·subst e;simp
 ·have h:¬(Sum.inr a:Key)=Sum.inr b:=fun q=>e (Sum.inr.inj q);rw[decide_eq_false h,decide_eq_false e]
theorem qk8z(a:Int)(b:Str):decide ((Sum.inl a:Key)=Sum.inr b)=false:=decide_eq_false (fun q=>nomatch q)
theorem qk9z(a:Str)(b:Int):decide ((Sum.inr a:Key)=Sum.inl b)=false:=decide_eq_false (fun q=>nomatch q)
def mixKind(prog:Program)(w:World):PySem.KeyKind prog w Key where
 is:=keyIs
 hash:=keyH w
 inj:=fun v a b ha hb=>by
  rcases qayz ha with⟨i,t,rfl,rfl⟩|⟨x,t,rfl,rfl⟩
  ·rcases qayz hb with⟨j,u,rfl,e⟩|⟨y,u,rfl,e⟩
   ·injection e with e1 _;rw[e1]
   ·exact nomatch e
  ·rcases qayz hb with⟨j,u,rfl,e⟩|⟨y,u,rfl,e⟩
   ·exact nomatch e
   ·injection e with e1 _;rw[e1]
 byValue:=fun k v h=>by
  rcases qayz h with⟨i,t,rfl,rfl⟩|⟨x,t,rfl,rfl⟩<;>rfl
 pyHash:=fun hv h=>by
  rcases qayz hv with⟨i,t,rfl,rfl⟩|⟨x,t,rfl,rfl⟩
  ·exact wpAny_pyHash_int h
  ·exact wpAny_pyHash_str h
 eqBool:=fun hu hv h=>by
  rcases qayz hu with⟨i,t,rfl,rfl⟩|⟨x,t,rfl,rfl⟩
  ·rcases qayz hv with⟨j,u,rfl,rfl⟩|⟨y,u,rfl,rfl⟩
   ·rw[qk6z] at h;exact wpAny_eqBool_int h
   ·rw[qk8z] at h;exact SeqAt.EqAt.int_str i t y u _ _ _ _ h
  ·rcases qayz hv with⟨j,u,rfl,rfl⟩|⟨y,u,rfl,rfl⟩
   ·rw[qk9z] at h;exact SeqAt.EqAt.str_int x t j u _ _ _ _ h
   ·rw[qk7z] at h;exact wpAny_eqBool_str h
 «strs»:=fun k x t v h=>by
  rcases qayz h with⟨i,u,rfl,e⟩|⟨y,u,rfl,e⟩
  ·exact nomatch e
  ·injection e with e1 _;subst e1;cases v<;>rfl
end L2
namespace L2
open PySem PySem.Spec PyProof.Rows
inductive V where
 |non|bl (b:Bool)|int (i:Int)|str (x:Str)|byt (b:Array UInt8)|flt (b:UInt64)|ref (a:Addr)|ty (n:String)
 deriving DecidableEq
def RelV:V->Value->Prop
 |.non,u=>u=Value.none
 |.bl b,u=>u=Value.bool b
 |.int i,u=>∃t,u=Value.int i t
 |.str x,u=>∃t,u=Value.str x t
 |.byt b,u=>∃t,u=Value.bytes b t
 |.flt b,u=>∃t,u=Value.float b t
 |.ref a,u=>u=Value.ref a
 |.ty n,u=>u=Value.type n
abbrev Vals:List V->List Value->Prop:=Paired RelV
theorem Vals.length{xs:List V}{us:List Value}(r:Vals xs us):xs.length=us.length:=Paired.length r
theorem Vals.get:∀{xs:List V} {us:List Value} {i:Nat} {x:V},Vals xs us->xs[i]?=some x->∃u,us[i]?=some u/\RelV x u
 |_,_,_,_,.nil,e=>by simp at e
 |_,_,0,_,.cons r _,e=>by simp at e;subst e;exact⟨_,rfl,r⟩
 |_,_,i+1,x,.cons _ t,e=>by
  obtain⟨u,h1,h2⟩:=Vals.get (i:=i) (x:=x) t (by simpa using e);exact⟨u,by simpa using h1,h2⟩
theorem Vals.set{x:V}{u:Value}(r:RelV x u):∀{xs:List V} {us:List Value} (i:Nat),Vals xs us->Vals (xs.set i x) (us.set i u)
 |_,_,_,.nil=>.nil
 |_,_,0,.cons _ t=>.cons r t
 |_,_,i+1,.cons q t=>.cons q (Vals.set r i t)
theorem Vals.append:∀{xs ys:List V} {us ws:List Value},Vals xs us->Vals ys ws->Vals (xs++ys) (us++ws)
 |_,_,_,_,.nil,s=>s
 |_,_,_,_,.cons r t,s=>.cons r (Vals.append t s)
theorem Vals.take:∀{xs:List V} {us:List Value} (n:Nat),Vals xs us->Vals (xs.take n) (us.take n)
 |_,_,0,_=>.nil
 |_,_,_+1,.nil=>.nil
 |_,_,n+1,.cons r t=>.cons r (Vals.take n t)
theorem Vals.drop:∀{xs:List V} {us:List Value} (n:Nat),Vals xs us->Vals (xs.drop n) (us.drop n)
 |_,_,0,r=>r
 |_,_,_+1,.nil=>.nil
 |_,_,n+1,.cons _ t=>Vals.drop n t
def RelO:Option V->Option Value->Prop
 |some v,some u=>RelV v u
 |none,none=>True
 |_,_=>False
def KV{κ:Type}:List (κ×V)->List (κ×Value)->Prop:=Paired fun (p:κ×V) (q:κ×Value)=>p.1=q.1/\RelV p.2 q.2
def kV:Key->V
 |.inl i=>.int i
 |.inr x=>.str x
inductive HO where
 |lst (xs:List V)
 |tup (xs:List V)
 |dK (kvs:List (Key×V))|dT (kvs:List (List Key×V))
 |set (S:Int->Bool) (n:Nat)
 |ins (C dx:Addr) (fs:List (Str×V))
 |own (x:Addr)
 |xd (fs:List (Str×V))
 |met (f x:Addr)
 |rng (lo hi:Int)
 |frz (o:Obj) (u:HO)
 |tbl (ps:Array Value)
 |ext (φ:Heap->Prop)
abbrev Hp:=Addr->Option HO
def upd(H:Hp)(a:Addr)(o:HO):Hp:=fun b=>if b=a then some o else H b
theorem qoz{H:Hp}{a:Addr}{o:HO}:upd H a o a=some o:=by unfold upd;rw[if_pos rfl]
theorem qiz{H:Hp}{a b:Addr}{o:HO}(h:b≠a):upd H a o b=H b:=by unfold upd;rw[if_neg h]
theorem qa9z{H:Hp}{a b:Addr}{o:HO}(h:H a=some o)(h':H b=none):a≠b:=by
 intro e;subst e;rw[h] at h';cases h'
section
variable (P:Program) (w:World)
def ObjOk(H:Hp)(h:Heap)(a:Addr):HO->Prop
 |.lst xs=>xs.length≤sizeLine/\∃(its:List Value) (n:Nat),Vals xs its/\h.get? a=some { cls:=.type "list",data:=.seq its.toArray n }
 |.tup xs=>xs.length≤sizeLine/\∃its:List Value,Vals xs its/\IsTup h a its.toArray
 |.dK kvs=>kvs.length≤sizeLine/\(a==sysModules)=false/\∃vs,KV kvs vs/\h.DictOf (mixKind P w) a vs
 |.dT kvs=>kvs.length≤sizeLine/\(a==sysModules)=false/\∃xs:List (List Key×Addr×Value),
   Paired (fun (p:List Key×V) (q:List Key×Addr×Value)=>p.1=q.1/\H q.2.1=some (.tup (p.1.map kV))/\RelV p.2 q.2.2) kvs xs ∧
   ∃o es ep,h.get? a=some o/\o.ExactDict/\o.data=.dict es ep/\es.toList=xs.map (entryOfKey (tupleKind (mixKind P w)))/\(xs.map (·.1)).Nodup
 |.set S n=>h.SetOf (intKind P w) a S n
 |.ins C dx fs=>H dx=some (.own a)/\fs.length≤1000/\dx≠a/\h.get? a=some (PySem.W.instObj C dx) ∧
   ∃mA,h.Ns1 dx mA/\(∀f,RelO (fs.lookup f) (mA f))/\PySem.Within mA (fs.map (·.1))
 |.own _=>∃o,h.get? a=some o
 |.xd fs=>∃mA,h.Ns1 a mA/\∀f,RelO (fs.lookup f) (mA f)
 |.rng lo hi=>∃t u v,h.get? a=some { cls:=.type "range",data:=.fields #[.int lo t,.int hi u,.int 1 v]}
 |.frz o u=>h.get? a=some o/\ObjOk H h a u
 |.tbl ps=>h.get? a=some { cls:=.none,data:=.fields ps }
 |.met f x=>h.get? a=some (PySem.W.methodObj (.ref f) (.ref x))
 |.ext φ=>φ h/\(∃o,h.get? a=some o)/\∀h1 h2:Heap,φ h1->(∀o,h1.get? a=some o->h2.get? a=some o)->φ h2
def HOk(H:Hp)(h:Heap):Prop:=∀a o,H a=some o->ObjOk P w H h a o
end
section
variable {P:Program} {w:World} {H H':Hp} {h h':Heap} {a:Addr} {o:HO}
theorem ObjOk.lt(x:ObjOk P w H h a o):a<h.objs.size:=by
 cases o with
 |lst xs=>obtain⟨_,_,_,_,e⟩:=x;exact Heap.lt_size e
 |tup xs=>obtain⟨_,_,_,p⟩:=x;exact p.lt
 |dK kvs=>obtain⟨_,_,_,_,o,_,_,e,_⟩:=x;exact Heap.lt_size e
 |dT kvs=>obtain⟨_,_,_,_,o,_,_,e,_⟩:=x;exact Heap.lt_size e
 |set S n=>obtain⟨o,_,_,_,e,_⟩:=x;exact Heap.lt_size e
 |ins C dx fs=>obtain⟨_,_,_,e,_⟩:=x;exact Heap.lt_size e
 |own y=>obtain⟨_,e⟩:=x;exact Heap.lt_size e
 |xd fs=>obtain⟨_,⟨_,_,_,e,_⟩,_⟩:=x;exact Heap.lt_size e
 |rng lo hi=>obtain⟨_,_,_,e⟩:=x;exact Heap.lt_size e
 |frz ob u=>obtain⟨e,_⟩:=x;exact Heap.lt_size e
 |tbl ps=>exact Heap.lt_size (show h.get? a=some _ from x)
 |met f y=>exact Heap.lt_size (show h.get? a=some _ from x)
 |ext φ=>obtain⟨_,⟨_,e⟩,_⟩:=x;exact Heap.lt_size e
theorem Paired.mapP{α β:Type}{F G:α->β->Prop}:∀{l₁:List α} {l₂:List β},Paired F l₁ l₂->(∀a b,F a b->G a b)->Paired G l₁ l₂
 |_,_,.nil,_=>.nil
 |_,_,.cons r t,f=>.cons (f _ _ r) (Paired.mapP t f)
theorem ObjOk.stay(x:ObjOk P w H h a o)(k:∀b u,(b=a∨H b=some (.own a))->h.get? b=some u->h'.get? b=some u)
  (ho:∀b,H b=some (.own a)->H' b=some (.own a)) (ht:∀b xs,H b=some (.tup xs)->H' b=some (.tup xs)):ObjOk P w H' h' a o:=by
 induction o with
 |lst xs=>obtain⟨z,its,n,r,e⟩:=x;exact⟨z,its,n,r,k _ _ (.inl rfl) e⟩
 |tup xs=>obtain⟨z,its,r,ob,e,c⟩:=x;exact⟨z,its,r,ob,k _ _ (.inl rfl) e,c⟩
 |dK kvs=>obtain⟨z,y,vs,r,ob,es,ep,e,c⟩:=x;exact⟨z,y,vs,r,ob,es,ep,k _ _ (.inl rfl) e,c⟩
 |dT kvs=>
  obtain⟨z,y,xs,r,ob,es,ep,e,c⟩:=x;exact⟨z,y,xs,Paired.mapP r fun p q z=>⟨z.1,ht _ _ z.2.1,z.2.2⟩,ob,es,ep,k _ _ (.inl rfl) e,c⟩
 |set S n=>obtain⟨ob,es,ep,t,e,c⟩:=x;exact⟨ob,es,ep,t,k _ _ (.inl rfl) e,c⟩
 |ins C dx fs=>
  obtain⟨d,z,ne,e,mA,⟨od,es,ep,e2,c⟩,r⟩:=x;exact⟨ho _ d,z,ne,k _ _ (.inl rfl) e,mA,⟨od,es,ep,k _ _ (.inr d) e2,c⟩,r⟩
 |own y=>obtain⟨ob,e⟩:=x;exact⟨ob,k _ _ (.inl rfl) e⟩
 |xd fs=>obtain⟨mA,⟨od,es,ep,e,c⟩,r⟩:=x;exact⟨mA,⟨od,es,ep,k _ _ (.inl rfl) e,c⟩,r⟩
 |rng lo hi=>obtain⟨t,u,v,e⟩:=x;exact⟨t,u,v,k _ _ (.inl rfl) e⟩
 |frz ob u ih=>obtain⟨e,q⟩:=x;exact⟨k _ _ (.inl rfl) e,ih q⟩
 |tbl ps=>
  have e:h.get? a=some { cls:=.none,data:=.fields ps }:=x;show h'.get? a=some { cls:=.none,data:=.fields ps };exact k a _ (.inl rfl) e
 |met f y=>
  have e:h.get? a=some (PySem.W.methodObj (.ref f) (.ref y)):=x;show h'.get? a=some (PySem.W.methodObj (.ref f) (.ref y));exact k a _ (.inl rfl) e
 |ext φ=>obtain⟨p,⟨o,e⟩,st⟩:=x;exact⟨st _ _ p fun o q=>k _ _ (.inl rfl) q,⟨o,k _ _ (.inl rfl) e⟩,st⟩
theorem HOk.lt(x:HOk P w H h)(e:H a=some o):a<h.objs.size:=(x a o e).lt
theorem HOk.fresh(x:HOk P w H h)(e:h.objs.size≤a):H a=none:=by
 cases q:H a with
 |none=>rfl
 |some u=>exact absurd (Nat.lt_of_lt_of_le (x.lt q) e) (Nat.lt_irrefl _)
theorem HOk.kept(x:HOk P w H h)(k:∀b u,h.get? b=some u->h'.get? b=some u):HOk P w H h':=fun a o e=>
 (x a o e).stay (fun b u _ q=>k b u q) (fun _ q=>q) fun _ _ q=>q
theorem HOk.laid(x:HOk P w H h)(k:∀b u,h.get? b=some u->h'.get? b=some u)(hp:h.objs.size≤a)(new:ObjOk P w (upd H a o) h' a o):HOk P w (upd H a o) h':=fun b u e=>by
 have hn:=x.fresh hp;by_cases hb:b=a
 ·subst hb;rw[qoz] at e;cases e;exact new
 ·rw[qiz hb] at e;exact (x b u e).stay (fun c v _ q=>k c v q) (fun c q=>by rw[qiz (qa9z q hn)];exact q) fun c xs q=>by rw[qiz (qa9z q hn)];exact q
end
def Rd(H:Hp)(a:Addr)(u:HO):Prop:=H a=some u∨∃o,H a=some (.frz o u)
theorem Rd.ok{P:Program}{w:World}{H:Hp}{h:Heap}{a:Addr}{u:HO}(r:Rd H a u)(x:HOk P w H h):ObjOk P w H h a u:=by
 rcases r with r|⟨o,r⟩
 ·exact x a u r
 ·obtain⟨_,q⟩:=x a _ r;exact q
def Mut:Option HO->Prop
 |some (.lst _)=>True
 |some (.dK _)=>True
 |some (.dT _)=>True
 |some (.set _ _)=>True
 |some (.ins _ _ _)=>True
 |some (.ext _)=>True
 |_=>False
section
variable {P:Program} {w:World} {H:Hp} {h h':Heap} {x e:Addr} {o':HO}
theorem HOk.write(ok:HOk P w H h)(mu:Mut (H x))(he:e=x∨H e=some (.own x))(k:∀b u,b≠e->h.get? b=some u->h'.get? b=some u)(heo:∃u,h'.get? e=some u)
  (new:ObjOk P w (upd H x o') h' x o'):HOk P w (upd H x o') h':=fun b u q=>by
 have nown:∀c y,H c=some (.own y)->c≠x:=fun c y r z=>by subst z;rw[r] at mu;exact mu
 have ntup:∀c xs,H c=some (.tup xs)->c≠x:=fun c xs r z=>by subst z;rw[r] at mu;exact mu
 by_cases hb:b=x
 ·subst hb;rw[qoz] at q;cases q;exact new
 ·rw[qiz hb] at q;by_cases hbe:b=e
  ·have q':H b=some (.own x):=by
    rcases he with z|z
    ·exact absurd (hbe.trans z) hb
    ·rw[hbe];exact z
   rw[q] at q';cases q';obtain⟨v,hv⟩:=heo;exact⟨v,by rw[hbe];exact hv⟩
  ·refine (ok b u q).stay (fun c v hc r=>k c v ?_ r) (fun c r=>by rw[qiz (nown c b r)];exact r) fun c xs r=>by rw[qiz (ntup c xs r)];exact r
   rcases hc with rfl|hc
   ·exact hbe
   ·rintro rfl;rcases he with z|z
    ·exact nown c b hc z
    ·rw[hc] at z;cases z;exact hb rfl
end
structure Un(fs ex:List Addr)(H H':Hp)(h h':Heap):Prop where
 keep:∀b o,h.get? b=some o->H b=none->b∉fs->b∉ex->h'.get? b=some o
 slot:∀b o,h.get? b=some o->H b=none->b∈fs->b∉ex->∃sl,h'.get? b=some { o with slots:=sl }
 free:∀b o,h.get? b=some o->H b=none->b∉ex->H' b=none
 there:∀b o,h.get? b=some o->b∉ex->∃o',h'.get? b=some o'
 tups:∀b xs,H b=some (.tup xs)->H' b=some (.tup xs)
 frzs:∀b o u,H b=some (.frz o u)->H' b=some (.frz o u)
 tbls:∀b ps,H b=some (.tbl ps)->∃more,H' b=some (.tbl (ps++more))
section
variable {fs fs' ex ex':List Addr} {H H1 H2:Hp} {h h1 h2 h':Heap} {a x e:Addr} {o:HO}
theorem Un.any(u:Un fs ex H H1 h h1){b:Addr}{ob:Obj}(q:h.get? b=some ob)(n:H b=none)(hx:b∉ex):∃sl,h1.get? b=some { ob with slots:=sl }:=by
 by_cases hb:b∈fs
 ·exact u.slot b ob q n hb hx
 ·exact⟨ob.slots,u.keep b ob q n hb hx⟩
theorem Un.kept(k:∀b u,h.get? b=some u->h'.get? b=some u):Un fs ex H H h h':=
 ⟨fun b ob q _ _ _=>k b ob q,fun b ob q _ _ _=>⟨ob.slots,k b ob q⟩,fun _ _ _ n _=>n,fun b ob q _=>⟨ob,k b ob q⟩,fun _ _ q=>q,fun _ _ _ q=>q,fun _ ps q=>⟨#[],by rw[q];simp⟩⟩
theorem Un.refl:Un fs ex H H h h:=Un.kept fun _ _ q=>q
theorem Un.laid(k:∀b u,h.get? b=some u->h'.get? b=some u)(hp:h.objs.size≤a)(hn:H a=none):Un fs ex H (upd H a o) h h' where
 keep:=fun b u q _ _ _=>k b u q
 slot:=fun b u q _ _ _=>⟨u.slots,k b u q⟩
 free:=fun b u q n _=>by rw[qiz (Nat.ne_of_lt (Nat.lt_of_lt_of_le (Heap.lt_size q) hp))];exact n
 there:=fun b u q _=>⟨u,k b u q⟩
 tups:=fun b xs q=>by rw[qiz (qa9z q hn)];exact q
 frzs:=fun b u xs q=>by rw[qiz (qa9z q hn)];exact q
 tbls:=fun b ps q=>⟨#[],by rw[qiz (qa9z q hn),q];simp⟩
theorem Un.write(mu:Mut (H x))(he:e=x∨H e=some (.own x))(k:∀b u,b≠e->h.get? b=some u->h'.get? b=some u)(heo:∃u,h'.get? e=some u):Un fs ex H (upd H x o) h h':=by
 have hx:∀b,H b=none->b≠x:=fun b n z=>by subst z;rw[n] at mu;exact mu
 have hb:∀b,H b=none->b≠e:=fun b n z=>by
  subst z;rcases he with r|r
  ·exact hx b n r
  ·rw[n] at r;cases r
 have hm:∀b u,H b=some u->¬Mut (some u)->b≠x:=fun b u q nm z=>by subst z;rw[q] at mu;exact nm mu
 refine⟨fun b u q n _ _=>k b u (hb b n) q,fun b u q n _ _=>⟨u.slots,k b u (hb b n) q⟩,fun b u q n _=>by rw[qiz (hx b n)];exact n,fun b u q _=>?_,
  fun b xs q=>by rw[qiz (hm b _ q fun z=>z)];exact q,fun b u xs q=>by rw[qiz (hm b _ q fun z=>z)];exact q,fun b ps q=>⟨#[],by rw[qiz (hm b _ q fun z=>z),q];simp⟩⟩
 by_cases hbe:b=e
 ·subst hbe;exact heo
 ·exact⟨u,k b u hbe q⟩
end
def trk(h:Heap)(H:Hp):List Addr:=(List.range h.objs.size).filter fun a=>(H a).isSome
def hidT(h:Heap)(H:Hp):Heap:=PySem.W.hideAll h (trk h H)
theorem qlaz(h:Heap)(H:Hp):(hidT h H).objs.size=h.objs.size:=PySem.W.hideAll_size _ _
theorem qlbz{h:Heap}{H:Hp}{b:Addr}{o:Obj}(e:h.get? b=some o)(n:H b=none):(hidT h H).get? b=some o:=
 PySem.W.hideAll_get _ e fun hm=>by
  have q:(H b).isSome=true:=(List.mem_filter.mp hm).2;rw[n] at q;simp at q
theorem qlcz{h:Heap}{H:Hp}{b:Addr}{o:Obj}(e:(hidT h H).get? b=some o):h.get? b=some o/\H b=none:=by
 have e':h.get? b=some o:=PySem.W.of_hideAll (trk h H) e;refine⟨e',?_⟩;cases q:H b with
 |none=>rfl
 |some x=>
  have hm:b∈trk h H:=List.mem_filter.mpr ⟨List.mem_range.mpr (Heap.lt_size e'),by simp[q]⟩;have z:(hidT h H).get? b=none:=PySem.W.hideAll_none (trk h H) hm;rw[z] at e;cases e
end L2
namespace L2
open PySem PySem.Spec PyProof.Rows
structure Mod(K:PySem.W.Frag)(mg:Str->Option Value)(base:Heap):Prop where
 kin:K.In base
 glob:base.Ns mainGlobals mg
 blt:∃mb,base.Ns builtinsNs mb/\∀x:Str,x≠"__name__"->mb x=bootBuiltins x
 nolimit:base.NoLimit
structure Cx where
 prog:Program
 w:World
 K:PySem.W.Frag
 mg:Str->Option Value
 base:Heap
 A:Around
 N:List Str
 s₀:Shared
 H₀:Hp
 env:Env
 outer:List Env
 stack:List Env
 ex:List Addr
 fn:Str->Bool
 calm:Bool
 pn:List (Addr×Obj)
 xe:Value->Shared->Prop
def frs(l:List Env):List Addr:=l.filterMap (·.frame)
abbrev Cx.fs(X:Cx):List Addr:=frs X.outer
def Vis(sc:Scope)(x:Str):Prop:=sc.names.lookup x=some .local∨sc.names.lookup x=some .cell∨sc.names.lookup x=some .free
def Loc(sc:Scope)(x:Str):Prop:=sc.names.lookup x=some .local∨sc.names.lookup x=some .cell
def Look(env:Env)(h:Heap)(m:Str->Option Value)(x:Str)(u:Value):Prop:=
 (env.kindOf x=some .local/\m x=some u)∨((env.kindOf x=some .cell∨env.kindOf x=some .free)/\∃c,env.cells.lookup x=some c/\h.IsCell c (some u))
structure Cx.Ok(X:Cx):Prop where
 mod:Mod X.K X.mg X.base
 kind:X.env.scope.kind=.function
 glob:X.env.globals=mainGlobals
 blt:X.env.builtins=builtinsNs
 above:X.s₀.heap.objs.size≤X.env.locals
 inj:∀x y c,X.env.cells.lookup x=some c->X.env.cells.lookup y=some c->x=y
 has:∀x,(X.env.kindOf x=some .cell∨X.env.kindOf x=some .free)->∃c,X.env.cells.lookup x=some c
 cab:∀x c,X.fn x=true->X.env.cells.lookup x=some c->X.s₀.heap.objs.size≤c
 hd:X.calm=true->X.A.handled=none
 frames:X.A.frames=some X.stack
 stk:X.stack=X.outer∨(X.stack=X.env::X.outer/\X.env.frame=some X.env.locals)
 exf:∀b∈X.ex,b≠X.env.locals/\∀x c,X.env.cells.lookup x=some c->c≠b
 bs:∀b o,X.base.get? b=some o->X.s₀.heap.get? b=some o/\X.H₀ b=none
 bsz:X.base.objs.size≤X.s₀.heap.objs.size
 noex:∀b o,X.base.get? b=some o->b∉X.ex
 exfs:∀b∈X.ex,b∉X.fs
 funs:X.s₀.heap.FunFrames X.base X.outer
 frf:∀b∈X.fs,X.H₀ b=none
structure Inv(X:Cx)(pins:List (Addr×Obj))(σ:List (Option V))(H:Hp)(s:Shared):Prop where
 ok:X.Ok
 os:s.os=X.s₀.os
 bare:AllBare s.gens
 base:Un X.fs X.ex X.H₀ H X.s₀.heap s.heap
 loc:∃m,s.heap.Ns X.env.locals m/\∀(i:Nat) (x:Str) (v:V),X.N[i]?=some x->σ[i]?=some (some v)->Vis X.env.scope x->∃u,RelV v u/\Look X.env s.heap m x u
 cell:∀x c,X.env.cells.lookup x=some c->∃v,s.heap.IsCell c v
 free:H X.env.locals=none
 freeC:∀x c,X.env.cells.lookup x=some c->H c=none
 pin:∀p∈X.pn++pins,s.heap.get? p.1=some p.2/\H p.1=none/\p.1≠X.env.locals/\p.1∉X.fs/\∀v,p.2.data≠.cell v
 hok:HOk X.prog X.w H s.heap
 len:σ.length=X.N.length
section
variable {X:Cx} {pins:List (Addr×Obj)} {σ:List (Option V)} {H H':Hp} {s:Shared} {h':Heap}
theorem Cx.Ok.nofr(ok:X.Ok){b:Addr}{o:Obj}(e:X.base.get? b=some o):b∉X.fs:=fun hb=>by
 have:=(ok.funs.mem hb).1;rw[e] at this;cases this
theorem Inv.bs(I:Inv X pins σ H s):∀b o,X.base.get? b=some o->s.heap.get? b=some o/\H b=none:=fun b o e=>
 ⟨I.base.keep b o (I.ok.bs b o e).1 (I.ok.bs b o e).2 (I.ok.nofr e) (I.ok.noex b o e),I.base.free b o (I.ok.bs b o e).1 (I.ok.bs b o e).2 (I.ok.noex b o e)⟩
theorem Inv.bk(I:Inv X pins σ H s):∀b o,X.base.get? b=some o->s.heap.get? b=some o:=fun b o e=>(I.bs b o e).1
theorem Inv.mod(I:Inv X pins σ H s):Mod X.K X.mg X.base:=I.ok.mod
theorem Inv.kIn(I:Inv X pins σ H s):X.K.In s.heap:=I.ok.mod.kin.keeps I.bk
theorem Inv.nolimit(I:Inv X pins σ H s):s.heap.NoLimit:=I.ok.mod.nolimit.keeps I.bk
theorem Inv.lt(I:Inv X pins σ H s):X.env.locals<s.heap.objs.size:=let ⟨_,hn,_⟩:=I.loc;hn.lt
theorem Inv.sz(I:Inv X pins σ H s):X.s₀.heap.objs.size≤s.heap.objs.size:=Nat.le_trans I.ok.above (Nat.le_of_lt I.lt)
theorem Inv.nofs(I:Inv X pins σ H s){a:Addr}(h:s.heap.objs.size≤a):a∉X.fs:=fun hb=>by
 obtain⟨_,o,ho,_⟩:=I.ok.funs.mem hb;exact absurd (Nat.lt_of_lt_of_le (Heap.lt_size ho) (Nat.le_trans I.sz h)) (Nat.lt_irrefl _)
theorem Inv.cne(I:Inv X pins σ H s):∀x c,X.env.cells.lookup x=some c->c≠X.env.locals:=fun x c e z=>by
 obtain⟨v,o,ho,hd⟩:=I.cell x c e;obtain⟨m,⟨o',es,ep,ho',hd',_⟩,_⟩:=I.loc;rw[z,ho'] at ho;cases ho;rw[hd'] at hd;cases hd
theorem Inv.funs(I:Inv X pins σ H s):s.heap.FunFrames X.base X.outer:=by
 have all:∀(l:List Env),(∀b∈frs l,b∈X.fs)->X.s₀.heap.FunFrames X.base l->s.heap.FunFrames X.base l:=by
  intro l
  induction l with
  |nil=>intro _ _;trivial
  |cons env r ih=>
   intro hs hl;obtain⟨hk,⟨L,o,hf,hn,ho,hd⟩,hr⟩:=hl;have hL:L∈X.fs:=hs L (by unfold frs;rw[List.filterMap_cons,hf];exact List.mem_cons_self);obtain⟨sl,e⟩:=I.base.slot L o ho (I.ok.frf L hL) hL fun z=>I.ok.exfs L z hL;exact⟨hk,⟨L,_,hf,hn,e,hd⟩,ih (fun b hb=>hs b (by unfold frs;rw[List.filterMap_cons,hf];exact List.mem_cons_of_mem _ hb)) hr⟩
 exact all X.outer (fun _ hb=>hb) I.ok.funs
theorem Inv.stack(I:Inv X pins σ H s):s.heap.FunFrames X.base X.stack:=by
 rcases I.ok.stk with e|⟨e,hf⟩
 ·rw[e];exact I.funs
 ·rw[e];obtain⟨m,hn,_⟩:=I.loc;refine .cons (by rw[I.ok.kind];decide) hf hn ?_ I.funs;exact Heap.get?_none_of_le (Nat.le_trans I.ok.bsz I.ok.above)
theorem Inv.stkSub(I:Inv X pins σ H s):∀b∈frs X.stack,b∈X.env.locals::X.fs:=fun b hb=>by
 rcases I.ok.stk with e|⟨e,hf⟩
 ·rw[e] at hb;exact List.mem_cons_of_mem _ hb
 ·rw[e] at hb;unfold frs at hb;rw[List.filterMap_cons,hf] at hb;exact hb
theorem Inv.stkFree(I:Inv X pins σ H s):∀b∈frs X.stack,H b=none:=fun b hb=>by
 rcases List.mem_cons.mp (I.stkSub b hb) with e|hb
 ·rw[e];exact I.free
 ·obtain⟨_,o,ho,_⟩:=I.ok.funs.mem hb;exact I.base.free b o ho (I.ok.frf b hb) fun z=>I.ok.exfs b z hb
theorem Inv.step{g':Array GenState}{t':Nat}{d':Drawn}{ch:List Addr}(I:Inv X pins σ H s)
  (hch:∀b∈ch,(b∈X.ex∨X.s₀.heap.objs.size≤b)/\b≠X.env.locals/\(∀x c,X.env.cells.lookup x=some c->c≠b)/\∀p∈X.pn++pins,p.1≠b)
  (keep:∀b o,b≠X.env.locals->b∉X.fs->b∉ch->s.heap.get? b=some o->H b=none->h'.get? b=some o)
  (slot:∀b o,b≠X.env.locals->b∈X.fs->b∉ch->s.heap.get? b=some o->H b=none->∃sl,h'.get? b=some { o with slots:=sl }) (free:∀b o,b∉ch->s.heap.get? b=some o->H b=none->H' b=none)
  (there:∀b o,b∉ch->s.heap.get? b=some o->∃o',h'.get? b=some o')
  (tups:∀b xs,H b=some (.tup xs)->H' b=some (.tup xs)) (frzs:∀b o u,H b=some (.frz o u)->H' b=some (.frz o u)) (tbls:∀b ps,H b=some (.tbl ps)->∃more,H' b=some (.tbl (ps++more)))
  (ns:∀m,s.heap.Ns X.env.locals m->h'.Ns X.env.locals m) (hok:HOk X.prog X.w H' h') (hg:AllBare g'):
  Inv X pins σ H' { s with heap:=h',gens:=g',drawn:=d',toks:=t' }:=by
 have neL:∀b o,X.s₀.heap.get? b=some o->b≠X.env.locals:=fun b o e=>Nat.ne_of_lt (Nat.lt_of_lt_of_le (Heap.lt_size e) I.ok.above);have neC:∀b o,X.s₀.heap.get? b=some o->b∉X.ex->b∉ch:=fun b o e hx hb=>by
  rcases (hch b hb).1 with z|z
  ·exact hx z
  ·exact absurd (Nat.lt_of_lt_of_le (Heap.lt_size e) z) (Nat.lt_irrefl _)
 have cellK:∀x c,X.env.cells.lookup x=some c->∀v,s.heap.IsCell c v->h'.IsCell c v:=fun x c e v ⟨o,ho,hd⟩=>by
  have nch:c∉ch:=fun z=>(hch c z).2.2.1 x c e rfl;by_cases hc:c∈X.fs
  ·obtain⟨sl,q⟩:=slot c o (I.cne x c e) hc nch ho (I.freeC x c e);exact⟨_,q,hd⟩
  ·exact⟨o,keep c o (I.cne x c e) hc nch ho (I.freeC x c e),hd⟩
 refine⟨I.ok,I.os,hg,⟨fun b o e n hb hx=>?_,fun b o e n hb hx=>?_,fun b o e n hx=>?_,fun b o e hx=>?_,fun b xs e=>tups b xs (I.base.tups b xs e),fun b o xs e=>frzs b o xs (I.base.frzs b o xs e),fun b ps e=>?_⟩,?_,fun x c e=>?_,?_,fun x c e=>?_,fun p hp=>?_,hok,I.len⟩
 ·exact keep b o (neL b o e) hb (neC b o e hx) (I.base.keep b o e n hb hx) (I.base.free b o e n hx)
 ·obtain⟨sl,e1⟩:=I.base.slot b o e n hb hx;obtain⟨sl',e2⟩:=slot b _ (neL b o e) hb (neC b o e hx) e1 (I.base.free b o e n hx);exact⟨sl',e2⟩
 ·obtain⟨o',e1⟩:=I.base.there b o e hx;exact free b o' (neC b o e hx) e1 (I.base.free b o e n hx)
 ·obtain⟨o',e1⟩:=I.base.there b o e hx;exact there b o' (neC b o e hx) e1
 ·obtain⟨m1,e1⟩:=I.base.tbls b ps e;obtain⟨m2,e2⟩:=tbls b _ e1;exact⟨m1++m2,by rw[e2,Array.append_assoc]⟩
 ·obtain⟨m,hn,hl⟩:=I.loc;refine⟨m,ns m hn,fun i x v e1 e2 e3=>?_⟩;obtain⟨u,r,l⟩:=hl i x v e1 e2 e3;refine⟨u,r,?_⟩;rcases l with l|⟨k,c,e,z⟩
  ·exact .inl l
  ·exact .inr ⟨k,c,e,cellK x c e _ z⟩
 ·obtain⟨v,z⟩:=I.cell x c e;exact⟨v,cellK x c e v z⟩
 ·obtain⟨m,⟨o,_,_,ho,_⟩,_⟩:=I.loc;exact free _ o (fun z=>(hch _ z).2.1 rfl) ho I.free
 ·obtain⟨v,o,ho,hd⟩:=I.cell x c e;exact free c o (fun z=>(hch c z).2.2.1 x c e rfl) ho (I.freeC x c e)
 ·obtain⟨e,n,ne,nf,d⟩:=I.pin p hp;have nch:p.1∉ch:=fun z=>(hch p.1 z).2.2.2 p hp rfl;exact⟨keep p.1 p.2 ne nf nch e n,free p.1 p.2 nch e n,ne,nf,d⟩
theorem Inv.un{t':Nat}(I:Inv X pins σ H s)(u:Un X.fs [] H H' s.heap h')(hok:HOk X.prog X.w H' h'):Inv X pins σ H' { s with heap:=h',toks:=t' }:=by
 obtain⟨m,⟨o,es,ep,ho,r⟩,_⟩:=id I.loc;obtain⟨sl,hL⟩:=u.any ho I.free (by simp);exact I.step (g':=s.gens) (d':=s.drawn) (ch:=[]) (fun _ z=>nomatch z) (fun b o _ hb _ e n=>u.keep b o e n hb (by simp)) (fun b o _ hb _ e n=>u.slot b o e n hb (by simp)) (fun b o _ e n=>u.free b o e n (by simp)) (fun b o _ e=>u.there b o e (by simp)) u.tups u.frzs u.tbls (fun m' hm=>by
  obtain⟨o',es',ep',ho',r'⟩:=hm;rw[ho] at ho';cases ho';exact⟨_,es',ep',hL,r'⟩) hok I.bare
theorem Inv.call{g':Array GenState}{t':Nat}{d':Drawn}{ch:List Addr}(I:Inv X pins σ H s)(u:Un (frs X.stack) ch H H' s.heap h')(hok:HOk X.prog X.w H' h')(hg:AllBare g')
  (hch:∀b∈ch,(b∈X.ex∨X.s₀.heap.objs.size≤b)/\b≠X.env.locals/\(∀x c,X.env.cells.lookup x=some c->c≠b)/\∀p∈X.pn++pins,p.1≠b):
  Inv X pins σ H' { s with heap:=h',gens:=g',drawn:=d',toks:=t' }:=by
 obtain⟨m,⟨o,es,ep,ho,r⟩,_⟩:=id I.loc;obtain⟨sl,hL⟩:=u.any ho I.free fun z=>(hch _ z).2.1 rfl;exact I.step (ch:=ch) hch (fun b o hL hb hc e n=>u.keep b o e n (fun z=>(List.mem_cons.mp (I.stkSub b z)).elim hL hb) hc) (fun b o _ _ hc e n=>u.any e n hc) (fun b o hc e n=>u.free b o e n hc) (fun b o hc e=>u.there b o e hc) u.tups u.frzs u.tbls (fun m' hm=>by
  obtain⟨o',es',ep',ho',r'⟩:=hm;rw[ho] at ho';cases ho';exact⟨_,es',ep',hL,r'⟩) hok hg
theorem Inv.turned{t':Nat}{it:Addr}(I:Inv X pins σ H s)(k:∀b o,b≠it->s.heap.get? b=some o->h'.get? b=some o)(hn:H it=none)(hL:it≠X.env.locals)
  (h1:it∈X.ex∨X.s₀.heap.objs.size≤it) (h2:∀x c,X.env.cells.lookup x=some c->c≠it) (h3:∀p∈X.pn++pins,p.1≠it):Inv X pins σ H { s with heap:=h',toks:=t' }:=by
 have nit:∀b u,H b=some u->b≠it:=fun b u e z=>by rw[z,hn] at e;cases e
 refine I.step (g':=s.gens) (d':=s.drawn) (ch:=[it]) (fun b hb=>?_) (fun b o _ _ hc e _=>k b o (fun z=>hc (by simp[z])) e) (fun b o _ _ hc e _=>⟨o.slots,k b o (fun z=>hc (by simp[z])) e⟩) (fun _ _ _ _ n=>n)
  (fun b o hc e=>⟨o,k b o (fun z=>hc (by simp[z])) e⟩) (fun _ _ e=>e) (fun _ _ _ e=>e) (fun b ps e=>⟨#[],by rw[e];simp⟩) (fun m hm=>?_) (fun b u e=>?_) I.bare
 ·have e:b=it:=by simpa using hb
  subst e;exact⟨h1,hL,h2,h3⟩
 ·obtain⟨o,es,ep,ho,r⟩:=hm;exact⟨o,es,ep,k _ o (Ne.symm hL) ho,r⟩
 ·refine (I.hok b u e).stay (fun c v hc q=>k c v ?_ q) (fun _ q=>q) fun _ _ q=>q;rcases hc with z|z
  ·rw[z];exact nit b u e
  ·exact nit c _ z
theorem Inv.tok(I:Inv X pins σ H s)(t:Nat):Inv X pins σ H { s with toks:=t }:=I.un (h':=s.heap) (t':=t) Un.refl I.hok
theorem Inv.kept{t':Nat}(I:Inv X pins σ H s)(k:∀b u,s.heap.get? b=some u->h'.get? b=some u):Inv X pins σ H { s with heap:=h',toks:=t' }:=I.un (Un.kept k) (I.hok.kept k)
theorem Inv.laid{a:Addr}{o:HO}{t':Nat}(I:Inv X pins σ H s)(k:∀b u,s.heap.get? b=some u->h'.get? b=some u)(hp:s.heap.objs.size≤a)(new:ObjOk X.prog X.w (upd H a o) h' a o):
  Inv X pins σ (upd H a o) { s with heap:=h',toks:=t' }:=I.un (Un.laid k hp (I.hok.fresh hp)) (I.hok.laid k hp new)
theorem Inv.write{x e:Addr}{o:HO}{t':Nat}(I:Inv X pins σ H s)(mu:Mut (H x))(he:e=x∨H e=some (.own x))(k:∀b u,b≠e->s.heap.get? b=some u->h'.get? b=some u)(heo:∃u,h'.get? e=some u)
  (new:ObjOk X.prog X.w (upd H x o) h' x o):Inv X pins σ (upd H x o) { s with heap:=h',toks:=t' }:=I.un (Un.write mu he k heo) (I.hok.write mu he k heo new)
theorem Inv.pins_of{pins':List (Addr×Obj)}(I:Inv X pins σ H s)(h:∀p∈pins',s.heap.get? p.1=some p.2/\H p.1=none/\p.1≠X.env.locals/\p.1∉X.fs/\∀v,p.2.data≠.cell v):Inv X pins' σ H s:=
 ⟨I.ok,I.os,I.bare,I.base,I.loc,I.cell,I.free,I.freeC,fun p hp=>(List.mem_append.mp hp).elim (fun z=>I.pin p (List.mem_append_left _ z)) (h p),I.hok,I.len⟩
theorem qgpz{N:List Str}(hN:N.Nodup){i j:Nat}{x:Str}(a:N[i]?=some x)(b:N[j]?=some x):i=j:=by
 obtain⟨h1,e1⟩:=List.getElem?_eq_some_iff.mp a;obtain⟨h2,e2⟩:=List.getElem?_eq_some_iff.mp b;exact (List.getElem_inj hN).mp (e1.trans e2.symm)
theorem qgqz{M:Model}{A:Around}{E:Value->Shared->Prop}{i:Nat}{x:Str}{v:V}{u:Value}{Q:Unit->Shared->Prop}(I:Inv X pins σ H s)(hN:X.N.Nodup)(hi:X.N[i]?=some x)(hx:Loc X.env.scope x)(r:RelV v u)
  (h:∀s',Inv X pins (σ.set i (some v)) H s'->(∃a,Heap.SameBut a s.heap s'.heap/\(a=X.env.locals∨X.env.cells.lookup x=some a))->Q () s') (hf:X.fn x=true∨X.env.scope.names.lookup x=some .local:=by first|exact .inl rfl|exact .inr rfl|assumption):wpAny M A (storeName X.env x u) Q E s:=by
 obtain⟨m,hn,hl⟩:=id I.loc;have hcls:(X.env.scope.kind==.class||(X.env.scope.kind==.module&&X.env.locals != X.env.globals))=false:=by rw[I.ok.kind];rfl
 have hiσ:i<σ.length:=by rw[I.len];exact (List.getElem?_eq_some_iff.mp hi).1
 have cne:=I.cne;have tracked:∀{a:Addr} {h':Heap},(∃o,s.heap.get? a=some o/\H a=none)->Heap.SameBut a s.heap h'->HOk X.prog X.w H h':=fun {a h'} ha hs b ob e=>by
  obtain⟨_,_,hfree⟩:=ha;refine (I.hok b ob e).stay (fun c w' hc q=>(hs.2 c ?_).trans q) (fun _ q=>q) fun _ _ q=>q;rintro rfl;rcases hc with rfl|hc
  ·rw[hfree] at e;cases e
  ·rw[hfree] at hc;cases hc
 rcases hx with hk|hk
 ·refine wpAny_storeName_local hk hn (fun h' hn' hs=>?_) hcls;obtain⟨oL,_,_,hoL,_⟩:=id hn;refine h _ ⟨I.ok,I.os,I.bare,⟨fun b o e n hb hx=>?_,fun b o e n hb hx=>?_,I.base.free,fun b o e hx=>?_,I.base.tups,I.base.frzs,I.base.tbls⟩,⟨_,hn',fun j y v' e1 e2 e3=>?_⟩,fun y c e=>?_,I.free,I.freeC,fun p hp=>?_,tracked ⟨oL,hoL,I.free⟩ hs,by simpa using I.len⟩ ⟨_,hs,.inl rfl⟩
  ·exact (hs.2 b (Nat.ne_of_lt (Nat.lt_of_lt_of_le (Heap.lt_size e) I.ok.above))).trans (I.base.keep b o e n hb hx)
  ·obtain⟨sl,e1⟩:=I.base.slot b o e n hb hx;exact⟨sl,(hs.2 b (Nat.ne_of_lt (Nat.lt_of_lt_of_le (Heap.lt_size e) I.ok.above))).trans e1⟩
  ·obtain⟨o',e1⟩:=I.base.there b o e hx;exact⟨o',(hs.2 b (Nat.ne_of_lt (Nat.lt_of_lt_of_le (Heap.lt_size e) I.ok.above))).trans e1⟩
  ·by_cases hj:j=i
   ·subst hj;rw[hi] at e1;cases e1;rw[List.getElem?_set_self hiσ] at e2;cases e2;exact⟨u,r,.inl ⟨hk,by simp⟩⟩
   ·rw[List.getElem?_set_ne (Ne.symm hj)] at e2;obtain⟨u',r',q⟩:=hl j y v' e1 e2 e3;refine⟨u',r',?_⟩;rcases q with⟨k,e⟩|⟨k,c,e,z⟩
    ·refine .inl ⟨k,?_⟩;have:y≠x:=fun e=>hj (qgpz hN e1 (e▸hi));simp[this,e]
    ·exact .inr ⟨k,c,e,z.sameBut hs (cne y c e)⟩
  ·obtain⟨w',z⟩:=I.cell y c e;exact⟨w',z.sameBut hs (cne y c e)⟩
  ·obtain⟨e,n,ne,nf,d⟩:=I.pin p hp;exact⟨(hs.2 p.1 ne).trans e,n,ne,nf,d⟩
 ·have hfn:X.fn x=true:=by
   rcases hf with z|z
   ·exact z
   ·rw[z] at hk;cases hk
  obtain⟨c,hc⟩:=I.ok.has x (.inl hk);obtain⟨w',z⟩:=I.cell x c hc;refine wpAny_storeName_cell I.ok.kind hk hc z (fun h' hc' hs=>?_);obtain⟨oc,hoc,hocd⟩:=id z;refine h { s with heap:=h' } ⟨I.ok,I.os,I.bare,⟨fun b o e n hb hx=>?_,fun b o e n hb hx=>?_,I.base.free,fun b o e hx=>?_,I.base.tups,I.base.frzs,I.base.tbls⟩,⟨m,hn.sameBut hs (Ne.symm (cne x c hc)),fun j y v' e1 e2 e3=>?_⟩,fun y c' e=>?_,I.free,I.freeC,fun p hp=>?_,tracked ⟨oc,hoc,I.freeC x c hc⟩ hs,by simpa using I.len⟩ ⟨c,hs,.inr hc⟩
  ·exact (hs.2 b (Nat.ne_of_lt (Nat.lt_of_lt_of_le (Heap.lt_size e) (I.ok.cab x c hfn hc)))).trans (I.base.keep b o e n hb hx)
  ·obtain⟨sl,e1⟩:=I.base.slot b o e n hb hx;exact⟨sl,(hs.2 b (Nat.ne_of_lt (Nat.lt_of_lt_of_le (Heap.lt_size e) (I.ok.cab x c hfn hc)))).trans e1⟩
  ·obtain⟨o',e1⟩:=I.base.there b o e hx;exact⟨o',(hs.2 b (Nat.ne_of_lt (Nat.lt_of_lt_of_le (Heap.lt_size e) (I.ok.cab x c hfn hc)))).trans e1⟩
  ·by_cases hj:j=i
   ·subst hj;rw[hi] at e1;cases e1;rw[List.getElem?_set_self hiσ] at e2;cases e2;exact⟨u,r,.inr ⟨.inl hk,c,hc,hc'⟩⟩
   ·rw[List.getElem?_set_ne (Ne.symm hj)] at e2;obtain⟨u',r',q⟩:=hl j y v' e1 e2 e3;refine⟨u',r',?_⟩;rcases q with q|⟨k,c',e,z'⟩
    ·exact .inl q
    ·refine .inr ⟨k,c',e,z'.sameBut hs ?_⟩;rintro rfl;exact hj (qgpz hN e1 (I.ok.inj _ _ _ e hc▸hi))
  ·by_cases hcc:c'=c
   ·subst hcc;exact⟨_,hc'⟩
   ·obtain⟨w2,z2⟩:=I.cell y c' e;exact⟨w2,z2.sameBut hs hcc⟩
  ·obtain⟨e,n,ne,nf,d⟩:=I.pin p hp;refine⟨(hs.2 p.1 ?_).trans e,n,ne,nf,d⟩;intro q;rw[q,hoc] at e;have q':oc=p.2:=Option.some.inj e;exact d w' (by rw[←q'];exact hocd)
theorem qbjz{M:Model}{A:Around}{E:Value->Shared->Prop}{i:Nat}{x:Str}{v:V}{u:Value}{Q:Unit->Shared->Prop}(I:Inv X pins σ H s)(hN:X.N.Nodup)(hi:X.N[i]?=some x)(hx:Loc X.env.scope x)(r:RelV v u)
  (h:∀s',Inv X pins (σ.set i (some v)) H s'->Q () s') (hf:X.fn x=true∨X.env.scope.names.lookup x=some .local:=by first|exact .inl rfl|exact .inr rfl|assumption):wpAny M A (storeName X.env x u) Q E s:=
 qgqz I hN hi hx r (fun s' I' _=>h s' I') hf
theorem Inv.call'{s':Shared}{ch:List Addr}(I:Inv X pins σ H s)(ho:s'.os=s.os)(u:Un (frs X.stack) ch H H' s.heap s'.heap)(hok:HOk X.prog X.w H' s'.heap)(hg:AllBare s'.gens)
  (hch:∀b∈ch,(b∈X.ex∨X.s₀.heap.objs.size≤b)/\b≠X.env.locals/\(∀x c,X.env.cells.lookup x=some c->c≠b)/\∀p∈X.pn++pins,p.1≠b):Inv X pins σ H' s':=by
 obtain⟨h',g',d',t',o'⟩:=s';have e:o'=s.os:=ho;subst e;exact I.call (g':=g') (t':=t') (d':=d') u hok hg hch
end
abbrev XK:=Value->Option Addr->Hp->Prop
abbrev St:=List (Option V)
abbrev VK:=V->Hp->Prop
abbrev TE:=St->Hp->VK->Prop
abbrev TT:=St->Hp->(Bool->Hp->Prop)->Prop
abbrev TA:=St->Hp->(List V->Hp->Prop)->Prop
structure Ends where
 nx:St->Hp->Prop
 rt:VK
 bk:St->Hp->Prop:=fun _ _=>False
 ct:St->Hp->Prop:=fun _ _=>False
abbrev TS:=Ends->St->Hp->Prop
def EP(X:Cx)(pins:List (Addr×Obj))(σ:St)(Q:VK)(u:Value)(s':Shared):Prop:=∃v H',Inv X pins σ H' s'/\RelV v u/\Q v H'
def TP(X:Cx)(pins:List (Addr×Obj))(σ:St)(Q:Bool->Hp->Prop)(b:Bool)(s':Shared):Prop:=∃H',Inv X pins σ H' s'/\Q b H'
def AP(X:Cx)(pins:List (Addr×Obj))(σ:St)(Q:List V->Hp->Prop)(us:List Value)(s':Shared):Prop:=∃vs H',Inv X pins σ H' s'/\Vals vs us/\Q vs H'
def SP(X:Cx)(pins:List (Addr×Obj))(D:Ends)(f:Flow)(s':Shared):Prop:=
 match f with
 |.next=>∃σ' H',Inv X pins σ' H' s'/\D.nx σ' H'
 |.brk=>∃σ' H',Inv X pins σ' H' s'/\D.bk σ' H'
 |.cont=>∃σ' H',Inv X pins σ' H' s'/\D.ct σ' H'
 |.ret u=>∃v σ' H',Inv X pins σ' H' s'/\RelV v u/\D.rt v H'
def PE(X:Cx)(e:Expr)(t:TE):Prop:=
 ∀(pins:List (Addr×Obj)) (s:Shared) (σ:St) (H:Hp) (Q:VK),Inv X pins σ H s->t σ H Q->wpAny (model X.prog X.w) X.A (eval e X.env) (EP X pins σ Q) X.xe s
def PT(X:Cx)(e:Expr)(t:TT):Prop:=
 ∀(pins:List (Addr×Obj)) (s:Shared) (σ:St) (H:Hp) (Q:Bool->Hp->Prop),Inv X pins σ H s->t σ H Q->wpAny (model X.prog X.w) X.A (isTrue e X.env (eval e X.env)) (TP X pins σ Q) X.xe s
def PW(X:Cx)(e:Expr)(t:TT):Prop:=
 ∀(whole:Sem Value) (pins:List (Addr×Obj)) (s:Shared) (σ:St) (H:Hp) (Q:Bool->Hp->Prop),Inv X pins σ H s->t σ H Q->wpAny (model X.prog X.w) X.A (isTrue e X.env whole) (TP X pins σ Q) X.xe s
theorem PW.pt{X:Cx}{e:Expr}{t:TT}(h:PW X e t):PT X e t:=h _
def PA(X:Cx)(es:List Expr)(t:TA):Prop:=
 ∀(pos:Pos) (pins:List (Addr×Obj)) (s:Shared) (σ:St) (H:Hp) (Q:List V->Hp->Prop),Inv X pins σ H s->t σ H Q->wpAny (model X.prog X.w) X.A (spliced (backTo pos (starEach es X.env))) (AP X pins σ Q) X.xe s
def PS(X:Cx)(st:Stmt)(t:TS):Prop:=
 ∀(pins:List (Addr×Obj)) (s:Shared) (σ:St) (H:Hp) (D:Ends),Inv X pins σ H s->t D σ H->wpAny (model X.prog X.w) X.A (exec st X.env) (SP X pins D) X.xe s
def PSs(X:Cx)(st:List Stmt)(t:TS):Prop:=
 ∀(pins:List (Addr×Obj)) (s:Shared) (σ:St) (H:Hp) (D:Ends),Inv X pins σ H s->t D σ H->wpAny (model X.prog X.w) X.A (execs st X.env) (SP X pins D) X.xe s
theorem thn{α:Type}{t:Sem α}{Q Q':α->Shared->Prop}{M:Model}{A:Around}{E:Value->Shared->Prop}{s:Shared}(h:wpAny M A t Q E s)(hQ:∀a s,Q a s->Q' a s):wpAny M A t Q' E s:=wpAny_mono h hQ fun _ _ x=>x
end L2
namespace L2
open PySem PySem.Spec PyProof.Rows
section
variable {X:Cx}
theorem bin{a b:Expr}{ta tb:TE}(ha:PE X a ta)(hb:PE X b tb){pins:List (Addr×Obj)}{s:Shared}{σ:St}{H:Hp}{R:V->V->Hp->Prop}(I:Inv X pins σ H s)(h:ta σ H fun x H1=>tb σ H1 fun y H2=>R x y H2)
  {α:Type} {Q:α->Shared->Prop} {f:Value->Value->Sem α}
  (hf:∀v u s2 x y H2,Inv X pins σ H2 s2->RelV x v->RelV y u->R x y H2->wpAny (model X.prog X.w) X.A (f v u) Q X.xe s2):
  wpAny (model X.prog X.w) X.A (eval a X.env) (fun v s₁=>wpAny (model X.prog X.w) X.A (eval b X.env) (fun u s₂=>wpAny (model X.prog X.w) X.A (f v u) Q X.xe s₂) X.xe s₁) X.xe s:=by
 refine thn (ha pins s σ H _ I h) fun v s1 ⟨x,H1,I1,r1,q1⟩=>?_;refine thn (hb pins s1 σ H1 _ I1 q1) fun u s2 ⟨y,H2,I2,r2,q2⟩=>?_;exact hf v u s2 x y H2 I2 r1 r2 q2
def tVar(i:Nat):TE:=fun σ H Q=>∃v,σ[i]?=some (some v)/\Q v H
def tC(v:V):TE:=fun _ H Q=>Q v H
theorem qldz{i:Nat}{x:Str}{pos:Pos}(hN:X.N[i]?=some x)(hv:Vis X.env.scope x)(hd:(x==("__debug__":Str))=false:=by decide)(hcd:(x==("__classdict__":Str))=false:=by decide):PE X (.Name x pos) (tVar i):=by
 intro pins s σ H Q I h;obtain⟨v,e,h⟩:=h;obtain⟨m,hn,hl⟩:=I.loc;obtain⟨u,r,l⟩:=hl i x v hN e hv;have fin:EP X pins σ Q u s:=⟨v,H,I,r,h⟩;rcases l with⟨hk,hm⟩|⟨hk,c,hc,hcell⟩
 ·exact wpAny_Name (wpAny_loadName_local I.ok.kind hk hn hm fin) hd
 ·rcases hk with hk|hk
  ·exact wpAny_Name (wpAny_loadName_cell I.ok.kind hk hc hcell fin) hd
  ·exact wpAny_Name (wpAny_loadName_free I.ok.kind hk hc hcell fin hcd) hd
theorem qgrz{i j pos}:PE X (.Constant (.int i) j pos) (tC (.int i)):=fun _ _ _ H _ I h=>wpAny_Constant_int ⟨.int i,H,I.tok _,⟨_,rfl⟩,h⟩
theorem qlez{b j pos}:PE X (.Constant (.bool b) j pos) (tC (.bl b)):=fun _ _ _ H _ I h=>Constant_bool ⟨.bl b,H,I,rfl,h⟩
theorem qlfz{j pos}:PE X (.Constant .none j pos) (tC .non):=fun _ _ _ H _ I h=>Constant_none ⟨.non,H,I,rfl,h⟩
theorem qlgz{x j pos}:PE X (.Constant (.str x) j pos) (tC (.str x)):=fun _ _ _ H _ I h=>Calls.Constant_str ⟨.str x,H,I.tok _,⟨_,rfl⟩,h⟩
def Gl(X:Cx)(x:Str):Prop:=X.env.kindOf x=some .globalImplicit
theorem qakz{E:Value->Shared->Prop}{pins:List (Addr×Obj)}{s:Shared}{σ:St}{H:Hp}{x:Str}{u:Value}{pos:Pos}{Q:Value->Shared->Prop}(I:Inv X pins σ H s)(hg:Gl X x)(hm:X.mg x=some u)(h:Q u s)
  (hd:(x==("__debug__":Str))=false:=by decide):wpAny (model X.prog X.w) X.A (eval (.Name x pos) X.env) Q E s:=
 Calls.Name_function_global I.ok.kind hg (Calls.loadGlobal_global (by rw[I.ok.glob];exact I.mod.glob.keeps I.bk) hm h) hd
theorem qazz{E:Value->Shared->Prop}{pins:List (Addr×Obj)}{s:Shared}{σ:St}{H:Hp}{x:Str}{u:Value}{pos:Pos}{Q:Value->Shared->Prop}(I:Inv X pins σ H s)(hg:Gl X x)(hm:X.mg x=none)(hv:bootBuiltins x=some u)(h:Q u s)
  (hn:x≠"__name__":=by decide) (hd:(x==("__debug__":Str))=false:=by decide):wpAny (model X.prog X.w) X.A (eval (.Name x pos) X.env) Q E s:=by
 obtain⟨mb,h1,h2⟩:=I.mod.blt;exact Calls.Name_function_global I.ok.kind hg (Calls.loadGlobal_builtin (by rw[I.ok.glob];exact I.mod.glob.keeps I.bk) hm (by rw[I.ok.blt];exact h1.keeps I.bk) ((h2 x hn).trans hv) h) hd
theorem qgsz{x:Str}{v:V}{u:Value}{pos:Pos}(hg:Gl X x)(hm:X.mg x=some u)(r:RelV v u)(hd:(x==("__debug__":Str))=false:=by decide):PE X (.Name x pos) (tC v):=
 fun _ _ _ H _ I h=>qakz I hg hm ⟨v,H,I,r,h⟩ hd
theorem qgtz{x:Str}{v:V}{u:Value}{pos:Pos}(hg:Gl X x)(hm:X.mg x=none)(hv:bootBuiltins x=some u)(r:RelV v u)(hn:x≠"__name__":=by decide)(hd:(x==("__debug__":Str))=false:=by decide):PE X (.Name x pos) (tC v):=
 fun _ _ _ H _ I h=>qazz I hg hm hv ⟨v,H,I,r,h⟩ hn hd
variable {a b:Expr} {ta tb:TE} {pos:Pos}
def PC(X:Cx)(op:CmpOp)(a b:Expr)(t:TE):Prop:=
 ∀(pins:List (Addr×Obj)) (s:Shared) (σ:St) (H:Hp) (Q:VK),Inv X pins σ H s->t σ H Q ->
  wpAny (model X.prog X.w) X.A (eval a X.env) (fun v s₁=>wpAny (model X.prog X.w) X.A (eval b X.env) (fun u s₂=>wpAny (model X.prog X.w) X.A (compareOp op v u) (EP X pins σ Q) X.xe s₂) X.xe s₁) X.xe s
def tB(t:TE):TT:=fun σ H Q=>t σ H fun x H1=>∃c,x=.bl c/\Q c H1
theorem qlhz{op:CmpOp}{t:TE}(h:PC X op a b t)(h1:behindInMarks op b=false:=by first|exact nobehind _ (by decide) (by decide)|rfl):PT X (.Compare a [op] [b] pos) (tB t):=by
 intro pins s σ H Q I hw;refine wpAny_isTrue_Compare1 (thn (h pins s σ H _ I hw) fun v s1 h1=>thn h1 fun u s2 h2=>thn h2 fun c s3 ⟨x,H1,I1,r1,q1⟩=>?_) h1;obtain⟨d,rfl,q⟩:=q1;cases r1;exact wpAny_truthy_bool ⟨H1,I1,q⟩
variable {tA tB':TT} {rest:List Expr}
def tAnd(t u:TT):TT:=fun σ H Q=>t σ H fun c H1=>if c=true then u σ H1 Q else Q false H1
def tOr(t u:TT):TT:=fun σ H Q=>t σ H fun c H1=>if c=true then Q true H1 else u σ H1 Q
def tNot(t:TT):TT:=fun σ H Q=>t σ H fun c H1=>Q (!c) H1
theorem pw_and1(ha:PT X a tA):PW X (.BoolOp .And [a] pos) tA:=by
 intro wh pins s σ H Q I h;refine isTrue_and (thn (ha pins s σ H Q I h) fun c s1 e=>?_);cases c with
 |true=>exact isTrue_and_nil e
 |false=>exact e
theorem pw_or1(ha:PT X a tA):PW X (.BoolOp .Or [a] pos) tA:=by
 intro wh pins s σ H Q I h;refine isTrue_or (thn (ha pins s σ H Q I h) fun c s1 e=>?_);cases c with
 |false=>exact isTrue_or_nil e
 |true=>exact e
theorem pw_and(ha:PT X a tA)(hb:PW X (.BoolOp .And (b::rest) pos) tB'):PW X (.BoolOp .And (a::b::rest) pos) (tAnd tA tB'):=by
 intro wh pins s σ H Q I h;refine isTrue_and (thn (ha pins s σ H _ I h) fun c s1 ⟨H1,I1,q1⟩=>?_);cases c with
 |true=>exact hb wh pins s1 σ H1 Q I1 q1
 |false=>exact⟨H1,I1,q1⟩
theorem pw_or(ha:PT X a tA)(hb:PW X (.BoolOp .Or (b::rest) pos) tB'):PW X (.BoolOp .Or (a::b::rest) pos) (tOr tA tB'):=by
 intro wh pins s σ H Q I h;refine isTrue_or (thn (ha pins s σ H _ I h) fun c s1 ⟨H1,I1,q1⟩=>?_);cases c with
 |true=>exact⟨H1,I1,q1⟩
 |false=>exact hb wh pins s1 σ H1 Q I1 q1
theorem qliz(ha:PT X a tA):PT X (.UnaryOp .Not a pos) (tNot tA):=by
 intro pins s σ H Q I h;exact isTrue_not (ha pins s σ H (fun c H1=>Q (!c) H1) I h)
def tAndV(ta tb:TE):TE:=fun σ H Q=>ta σ H fun x H1=>∃c,x=.bl c/\if c=true then tb σ H1 Q else Q (.bl false) H1
def tNotV(ta:TE):TE:=fun σ H Q=>ta σ H fun x H1=>∃c,x=.bl c/\Q (.bl (!c)) H1
theorem qljz{op}{t:TE}(h:PE X a t):PE X (.BoolOp op [a] pos) t:=fun pins s σ H Q I hw=>BoolOp_one (h pins s σ H Q I hw)
theorem qlkz(ha:PE X a ta)(hb:PE X (.BoolOp .And (b::rest) pos) tb):PE X (.BoolOp .And (a::b::rest) pos) (tAndV ta tb):=by
 intro pins s σ H Q I h;refine BoolOp_and (thn (ha pins s σ H _ I h) fun v s1 ⟨x,H1,I1,r1,q1⟩=>?_);obtain⟨c,rfl,q1⟩:=q1;cases r1;refine wpAny_truthy_bool ?_;cases c with
 |true=>exact hb pins s1 σ H1 Q I1 q1
 |false=>exact⟨.bl false,H1,I1,rfl,q1⟩
theorem qllz(ha:PE X a ta):PE X (.UnaryOp .Not a pos) (tNotV ta):=by
 intro pins s σ H Q I h;refine UnaryOp_ (thn (ha pins s σ H _ I h) fun v s1 ⟨x,H1,I1,r1,q1⟩=>?_);obtain⟨c,rfl,q1⟩:=q1;cases r1;exact not_of (wpAny_truthy_bool ⟨.bl (!c),H1,I1,rfl,q1⟩)
end
end L2
namespace L2
open PySem PySem.Spec PyProof.Rows
def SqL(K:PySem.W.Frag)(H:Hp)(a:Addr)(xs:List V):Prop:=
 Rd H a (.lst xs) ∨
  ∃(o:Obj) (its:Array Value) (n:Nat),K.lookup a=some o/\o.cls=.type "list"/\o.dict=none/\o.data=.seq its n/\its.size≤sizeLine/\Vals xs its.toList
def SqT(K:PySem.W.Frag)(H:Hp)(a:Addr)(xs:List V):Prop:=
 Rd H a (.tup xs) ∨
  ∃(o:Obj) (its:Array Value) (n:Nat),K.lookup a=some o/\o.cls=.type "tuple"/\o.data=.seq its n/\its.size≤sizeLine/\Vals xs its.toList
def absV:Value->Option V
 |.none=>some .non
 |.bool b=>some (.bl b)
 |.int i _=>some (.int i)
 |.str x _=>some (.str x)
 |.bytes b _=>some (.byt b)
 |.float b _=>some (.flt b)
 |.ref a=>some (.ref a)
 |.type n=>some (.ty n)
 |_=>none
theorem RelV.abs{x:V}{u:Value}(r:RelV x u):absV u=some x:=by
 cases x with
 |non=>cases r;rfl
 |bl _=>cases r;rfl
 |int _=>obtain⟨t,rfl⟩:=r;rfl
 |str _=>obtain⟨t,rfl⟩:=r;rfl
 |byt _=>obtain⟨t,rfl⟩:=r;rfl
 |flt _=>obtain⟨t,rfl⟩:=r;rfl
 |ref _=>cases r;rfl
 |ty _=>cases r;rfl
theorem RelV.inj{x y:V}{u:Value}(r:RelV x u)(q:RelV y u):x=y:=Option.some.inj (r.abs.symm.trans q.abs)
theorem Vals.inj:∀{xs ys:List V} {us:List Value},Vals xs us->Vals ys us->xs=ys
 |_,_,_,.nil,.nil=>rfl
 |_,_,_,.cons r t,.cons r' t'=>by rw[r.inj r',Vals.inj t t']
section
variable {X:Cx} {pins:List (Addr×Obj)} {σ:St} {H:Hp} {s:Shared} {a:Addr} {xs ys:List V}
theorem SqL.of{K:PySem.W.Frag}(h:H a=some (.lst xs)):SqL K H a xs:=.inl (.inl h)
theorem SqT.of{K:PySem.W.Frag}(h:H a=some (.tup xs)):SqT K H a xs:=.inl (.inl h)
theorem Inv.list(I:Inv X pins σ H s)(h:SqL X.K H a xs):∃its:List Value,Vals xs its/\PlainL s.heap a its.toArray/\xs.length≤sizeLine:=by
 rcases h with h|⟨o,its,n,hk,hc,hd,hs,hz,r⟩
 ·obtain⟨z,its,n,r,e⟩:=h.ok I.hok;exact⟨its,r,⟨_,n,e,rfl,rfl,rfl⟩,z⟩
 ·refine⟨its.toList,r,⟨o,n,I.kIn a o hk,hc,hd,by simpa using hs⟩,?_⟩;have e:=r.length;simp only[Array.length_toList] at e;lia
theorem Inv.tuple(I:Inv X pins σ H s)(h:SqT X.K H a xs):∃its:List Value,Vals xs its/\IsTup s.heap a its.toArray/\xs.length≤sizeLine:=by
 rcases h with h|⟨o,its,n,hk,hc,hs,hz,r⟩
 ·obtain⟨z,its,r,p⟩:=h.ok I.hok;exact⟨its,r,p,z⟩
 ·refine⟨its.toList,r,⟨o,I.kIn a o hk,hc,n,by simpa using hs⟩,?_⟩;have e:=r.length;simp only[Array.length_toList] at e;lia
theorem Inv.list_inj(I:Inv X pins σ H s)(h:SqL X.K H a xs)(h':SqL X.K H a ys):xs=ys:=by
 obtain⟨its,r,⟨o,n,e,_,_,d⟩,_⟩:=I.list h;obtain⟨its',r',⟨o',n',e',_,_,d'⟩,_⟩:=I.list h';rw[e] at e';cases e';rw[d] at d';injection d' with d1 _
 have:its=its':=by simpa using congrArg Array.toList d1
 subst this;exact r.inj r'
theorem Inv.tuple_inj(I:Inv X pins σ H s)(h:SqT X.K H a xs)(h':SqT X.K H a ys):xs=ys:=by
 obtain⟨its,r,⟨o,e,_,n,d⟩,_⟩:=I.tuple h;obtain⟨its',r',⟨o',e',_,n',d'⟩,_⟩:=I.tuple h';rw[e] at e';cases e';rw[d] at d';injection d' with d1 _
 have:its=its':=by simpa using congrArg Array.toList d1
 subst this;exact r.inj r'
end
abbrev Cx.wish(X:Cx)(E:Value->Shared->Prop):Cx:={ X with xe:=E }
abbrev Cx.nox(X:Cx):Cx:=X.wish fun _ _=>False
theorem Cx.Ok.wish{X:Cx}(ok:X.Ok)(E:Value->Shared->Prop):(X.wish E).Ok:=
 ⟨ok.mod,ok.kind,ok.glob,ok.blt,ok.above,ok.inj,ok.has,ok.cab,ok.hd,ok.frames,ok.stk,ok.exf,ok.bs,ok.bsz,ok.noex,ok.exfs,ok.funs,ok.frf⟩
theorem Cx.Ok.unwish{X:Cx}{E:Value->Shared->Prop}(ok:(X.wish E).Ok):X.Ok:=
 ⟨ok.mod,ok.kind,ok.glob,ok.blt,ok.above,ok.inj,ok.has,ok.cab,ok.hd,ok.frames,ok.stk,ok.exf,ok.bs,ok.bsz,ok.noex,ok.exfs,ok.funs,ok.frf⟩
section
variable {X:Cx} {pins:List (Addr×Obj)} {σ:St} {H:Hp} {s:Shared} {E:Value->Shared->Prop}
theorem Inv.wish(I:Inv X pins σ H s)(E:Value->Shared->Prop):Inv (X.wish E) pins σ H s:=⟨I.ok.wish E,I.os,I.bare,I.base,I.loc,I.cell,I.free,I.freeC,I.pin,I.hok,I.len⟩
theorem Inv.unwish(I:Inv (X.wish E) pins σ H s):Inv X pins σ H s:=⟨I.ok.unwish,I.os,I.bare,I.base,I.loc,I.cell,I.free,I.freeC,I.pin,I.hok,I.len⟩
theorem SP.unwish{D:Ends}{f:Flow}{s':Shared}(h:SP (X.wish E) pins D f s'):SP X pins D f s':=by
 cases f with
 |next=>obtain⟨σ',H',I,q⟩:=h;exact⟨σ',H',I.unwish,q⟩
 |brk=>obtain⟨σ',H',I,q⟩:=h;exact⟨σ',H',I.unwish,q⟩
 |cont=>obtain⟨σ',H',I,q⟩:=h;exact⟨σ',H',I.unwish,q⟩
 |ret u=>obtain⟨v,σ',H',I,r,q⟩:=h;exact⟨v,σ',H',I.unwish,r,q⟩
theorem PSs.nox{st:List Stmt}{t:TS}(h:PSs X.nox st t):PSs X st t:=fun pins s σ H D I hw=>
 wpAny_mono (h pins s σ H D (I.wish _) hw) (fun _ _ q=>q.unwish) fun _ _ z=>False.elim z
end
section
variable {X:Cx} {st:Stmt} {rest:List Stmt} {t u:TS} {e:Expr} {te:TE} {pos:Pos}
def tNext:TS:=fun D σ H=>D.nx σ H
def tSeq(t u:TS):TS:=fun D σ H=>t { D with nx:=u D } σ H
theorem qlmz:PSs X [] tNext:=fun _ _ σ H _ I h=>wpAny_execs_nil ⟨σ,H,I,h⟩
theorem qlnz(h1:PS X st t)(h2:PSs X rest u):PSs X (st::rest) (tSeq t u):=by
 intro pins s σ H D I h;refine wpAny_execs_cons (thn (h1 pins s σ H { D with nx:=u D } I h) fun f s1 q=>?_);cases f with
 |next=>
  obtain⟨σ',H',I',q⟩:=q;exact h2 pins s1 σ' H' D I' q
 |ret v=>exact q
 |brk=>exact q
 |cont=>exact q
theorem qloz(h1:PS X st t):PSs X [st] t:=by
 intro pins s σ H D I h;refine wpAny_execs_cons (thn (h1 pins s σ H D I h) fun f s1 q=>?_);cases f with
 |next=>exact wpAny_execs_nil q
 |ret v=>exact q
 |brk=>exact q
 |cont=>exact q
theorem Inv.quiet{pins:List (Addr×Obj)}{σ:St}{H:Hp}{s:Shared}(I:Inv X pins σ H s):interactive X.env=false:=by simp[interactive,I.ok.kind]
def tDrop(te:TE):TS:=fun D σ H=>te σ H fun _ H1=>D.nx σ H1
theorem qlpz(he:PE X e te)(hs:swapsWith e none pos.line X.env=pure false:=by rfl):PS X (.Expr e pos) (tDrop te):=by
 intro pins s σ H D I h;exact wpAny_Expr_any (thn (he pins s σ H _ I h) fun v s1 ⟨x,H1,I1,r1,q1⟩=>⟨σ,H1,I1,q1⟩) I.quiet hs
def tRet(te:TE):TS:=fun D σ H=>te σ H D.rt
theorem qlqz(he:PE X e te):PS X (.Return (some e) pos) (tRet te):=by
 intro pins s σ H D I h;exact wpAny_Return_some (thn (he pins s σ H _ I h) fun v s1 ⟨x,H1,I1,r1,q1⟩=>⟨x,σ,H1,I1,r1,q1⟩)
def tIfS(c:TT)(t u:TS):TS:=fun D σ H=>c σ H fun b H1=>if b=true then t D σ H1 else u D σ H1
theorem qlrz{c:Expr}{a b:List Stmt}{tc:TT}(hc:PT X c tc)(ha:PSs X a t)(hb:PSs X b u):PS X (.If c a b pos) (tIfS tc t u):=by
 intro pins s σ H D I h;refine wpAny_If (thn (hc pins s σ H _ I h) fun d s1 ⟨H1,I1,q1⟩=>?_);cases d with
 |true=>exact ha pins s1 σ H1 D I1 q1
 |false=>exact hb pins s1 σ H1 D I1 q1
def tNever:TS:=fun _ _ _=>False
theorem qlsz:PS X st tNever:=fun _ _ _ _ _ _ h=>h.elim
end
abbrev TG:=V->St->Hp->(St->Hp->Prop)->Prop
abbrev TGs:=List V->St->Hp->(St->Hp->Prop)->Prop
def PG(X:Cx)(target:Expr)(t:TG):Prop:=
 ∀(pins:List (Addr×Obj)) (s:Shared) (σ:St) (H:Hp) (v:V) (u:Value) (Q:St->Hp->Prop),Inv X pins σ H s->RelV v u->t v σ H Q ->
  wpAny (model X.prog X.w) X.A (assign target X.env u) (fun _ s'=>∃σ' H',Inv X pins σ' H' s'/\Q σ' H') X.xe s
def PGs(X:Cx)(ts:List Expr)(t:TGs):Prop:=
 ∀(pins:List (Addr×Obj)) (s:Shared) (σ:St) (H:Hp) (vs:List V) (us:List Value) (Q:St->Hp->Prop),Inv X pins σ H s->Vals vs us->t vs σ H Q ->
  wpAny (model X.prog X.w) X.A (assignInOrder ((assignEach ts X.env).map (·.2)) us) (fun _ s'=>∃σ' H',Inv X pins σ' H' s'/\Q σ' H') X.xe s
abbrev TSet:=V->V->V->Hp->(Hp->Prop)->Prop
def PSet(X:Cx)(t:TSet):Prop:=
 ∀(pins:List (Addr×Obj)) (s:Shared) (σ:St) (H:Hp) (o i v:V) (ov iv u:Value) (Q:Hp->Prop),Inv X pins σ H s->RelV o ov->RelV i iv->RelV v u->t o i v H Q ->
  wpAny (model X.prog X.w) X.A (setItem ov iv u) (fun _ s'=>∃H',Inv X pins σ H' s'/\Q H') X.xe s
abbrev TIp:=V->V->Hp->VK->Prop
def PIp(X:Cx)(op:Operator)(t:TIp):Prop:=
 ∀(pins:List (Addr×Obj)) (s:Shared) (σ:St) (H:Hp) (x y:V) (v u:Value) (Q:VK),Inv X pins σ H s->RelV x v->RelV y u->t x y H Q ->
  wpAny (model X.prog X.w) X.A (inplaceOp op v u) (EP X pins σ Q) X.xe s
section
variable {X:Cx} {pos:Pos}
def gName(i:Nat):TG:=fun v σ H Q=>Q (σ.set i (some v)) H
theorem qltz{i:Nat}{x:Str}(hN:X.N.Nodup)(hi:X.N[i]?=some x)(hx:Loc X.env.scope x)(hf:X.fn x=true∨X.env.scope.names.lookup x=some .local:=by first|exact .inl rfl|exact .inr rfl|assumption):PG X (.Name x pos) (gName i):=by
 intro pins s σ H v u Q I r h;exact wpAny_assign_Name (qbjz I hN hi hx r (fun s' I'=>⟨_,H,I',h⟩) hf)
def gNil:TGs:=fun vs σ H Q=>vs=[]/\Q σ H
def gCons(t:TG)(u:TGs):TGs:=fun vs σ H Q=>∃v r,vs=v::r/\t v σ H fun σ' H'=>u r σ' H' Q
theorem qluz:PGs X [] gNil:=by
 intro pins s σ H vs us Q I r h;obtain⟨e,h⟩:=h;subst e;cases r;exact assignInOrder_nil ⟨σ,H,I,h⟩
theorem qlvz{e:Expr}{es:List Expr}{t:TG}{u:TGs}(h1:PG X e t)(h2:PGs X es u)
  (hs:(assignEach (e::es) X.env).map (·.2)=assign e X.env::(assignEach es X.env).map (·.2):=by rfl):PGs X (e::es) (gCons t u):=by
 intro pins s σ H vs us Q I r h;obtain⟨v,vr,e1,h⟩:=h;subst e1;cases r with
 |cons r rr=>
  rw[hs];refine assignInOrder_cons (thn (h1 pins s σ H _ _ _ I r h) fun _ s1 ⟨σ1,H1,I1,q1⟩=>?_);exact h2 pins s1 σ1 H1 _ _ Q I1 rr q1
def gTup(K:PySem.W.Frag)(n:Nat)(t:TGs):TG:=fun v σ H Q=>∃a xs,v=.ref a/\SqT K H a xs/\xs.length=n/\t xs σ H Q
theorem qlwz{es:List Expr}{k:Nat}{t:TGs}{n:Nat}(hc:X.calm=true)(h:PGs X es t)
  (hn:(assignEach es X.env).length=n:=by rfl) (hst:(assignEach es X.env).findIdx? (·.1)=none:=by rfl):PG X (.Tuple es k pos) (gTup X.K n t):=by
 intro pins s σ H v u Q I r hw;obtain⟨a,xs,e1,hq,hl,hw⟩:=hw;subst e1;cases r;obtain⟨its,rv,ht,hz⟩:=I.tuple hq;refine assign_Tuple_tuple (I.ok.hd hc) ht (by simp[hn,←hl,rv.length]) hst fun h' hx=>?_;have I1:Inv X pins σ H { s with heap:=h' }:=I.kept (t':=s.toks) fun b o e=>hx b o (Nat.ne_of_lt (Heap.lt_size e)) e
 exact h pins _ σ H xs _ Q I1 (by simpa using rv) hw
def gSub(to ti:TE)(t:TSet):TG:=fun v σ H Q=>to σ H fun o H1=>ti σ H1 fun i H2=>t o i v H2 fun H3=>Q σ H3
theorem qlxz{o i:Expr}{to ti:TE}{t:TSet}(ho:PE X o to)(hi:PE X i ti)(hs:PSet X t)
  (ha:∀v,assign (.Subscript o i pos) X.env v=(do
   let ov ←holding [v] (eval o X.env)
   let iv ←holding [v,ov] (eval i X.env)
   standAt pos
   holding [v,ov,iv] (setItem ov iv v)
   release [v,ov,iv] []):=by intro _;rfl):PG X (.Subscript o i pos) (gSub to ti t):=by
 intro pins s σ H v u Q I r h
 rw[ha]
 refine wpAny_bind (wpAny_holding (thn (ho pins s σ H _ I h) fun ov s1 ⟨x,H1,I1,r1,q1⟩=>?_))
 refine wpAny_bind (wpAny_holding (thn (hi pins s1 σ H1 _ I1 q1) fun iv s2 ⟨y,H2,I2,r2,q2⟩=>?_))
 refine wpAny_bind (wpAny_standAt (wpAny_bind (wpAny_holding (thn (hs pins s2 σ H2 x y v ov iv u _ I2 r1 r2 r q2) fun _ s3 ⟨H3,I3,q3⟩=>?_))))
 exact wpAny_release ⟨σ,H3,I3,q3⟩
def tAsg(te:TE)(g:TG):TS:=fun D σ H=>te σ H fun x H1=>g x σ H1 D.nx
theorem qlyz{tg e:Expr}{te:TE}{g:TG}(he:PE X e te)(hg:PG X tg g)(hs:swapsWithSole [tg] e pos.line X.env=pure false:=by rfl)(hw:swappedStores [tg] e X.env=pure none:=by rfl)
  (h1:(assignEach [tg] X.env).map (·.2)=[assign tg X.env]:=by rfl):PS X (.Assign [tg] e pos) (tAsg te g):=by
 intro pins s σ H D I h;refine wpAny_Assign_stores (thn (he pins s σ H _ I h) fun v s1 ⟨x,H1,I1,r1,q1⟩=>?_) hs hw;rw[h1];exact thn (hg pins s1 σ H1 x v _ I1 r1 q1) fun _ s2 q=>q
theorem qlzz{i:Nat}{x:Str}{e:Expr}{te:TE}{pos':Pos}(hN:X.N.Nodup)(hi:X.N[i]?=some x)(hx:Loc X.env.scope x)(he:PE X e te)(hs:swapsWith e (some (.Name x pos')) pos.line X.env=pure false:=by rfl)(hf:X.fn x=true∨X.env.scope.names.lookup x=some .local:=by first|exact .inl rfl|exact .inr rfl|assumption):
  PS X (.Assign [.Name x pos'] e pos) (tAsg te (gName i)):=by
 intro pins s σ H D I h;refine wpAny_Assign_Name (thn (he pins s σ H _ I h) fun v s1 ⟨y,H1,I1,r1,q1⟩=>?_) hs;exact qbjz I1 hN hi hx r1 (fun s2 I2=>⟨_,H1,I2,q1⟩) hf
def tPar(i j:Nat)(ta:TA):TS:=fun D σ H=>ta σ H fun vs H1=>∃v w,vs=[v,w]/\D.nx ((σ.set i (some v)).set j (some w)) H1
theorem ql0z{i j:Nat}{x y:Str}{a b:Expr}{ta:TA}{px py pt:Pos}{kt k2 pt2}(hc:X.calm=true)(hN:X.N.Nodup)(hi:X.N[i]?=some x)(hj:X.N[j]?=some y)(hij:i≠j)
  (hx:X.env.scope.names.lookup x=some .local) (hy:X.env.scope.names.lookup y=some .local) (ha:PA X [a,b] ta)
  (hw:swappedStores [.Tuple [.Name x px,.Name y py] kt pt] (.Tuple [a,b] k2 pt2) X.env=pure (some [x,y]))
  (hs:swapsWithSole [.Tuple [.Name x px,.Name y py] kt pt] (.Tuple [a,b] k2 pt2) pos.line X.env=pure false:=by rfl):
  PS X (.Assign [.Tuple [.Name x px,.Name y py] kt pt] (.Tuple [a,b] k2 pt2) pos) (tPar i j ta):=by
 intro pins s σ H D I h;rw[exec_Assign_arm];refine wpAny_bind (wpAny_standAt ?_);rw[hs];refine wpAny_bind (wpAny_pure ?_);rw[if_neg (by decide)];refine wpAny_bind (Tuple_ (thn (ha _ pins s σ H _ I h) fun us s1 ⟨vs,H1,I1,r1,q1⟩=>?_));obtain⟨v,w,e1,q1⟩:=q1;subst e1;obtain⟨u1,u2,rfl,rv,rw'⟩:∃u1 u2,us=[u1,u2]/\RelV v u1/\RelV w u2:=by
  cases r1 with
  |cons p q=>
   cases q with
   |cons p' q'=>
    cases q';exact⟨_,_,rfl,p,p'⟩
 refine wpAny_newObj_type ?_ (by show 2≤sizeLine;decide);have I2:Inv X pins σ H1 { s1 with heap:=s1.heap.push { cls:=.type "tuple",data:=.seq [u1,u2].toArray }}:=I1.kept (t':=s1.toks) fun b o e=>Heap.get?_push_of_some _ e;rw[hw];refine wpAny_bind (wpAny_pure ?_);show wpAny (model X.prog X.w) X.A (do rule "assign.swapped-stores";let items ←unpackItems (.ref s1.heap.objs.size) 2 none;assignInOrder [fun v=>bindName X.env y v,fun v=>bindName X.env x v] items.reverse;pure Flow.next) _ _ _
 refine wpAny_bind (wpAny_rule (wpAny_bind (unpackItems_tuple (items:=#[u1,u2]) (I.ok.hd hc) (IsTup.new s1.heap _) fun h' hx'=>?_)));have I3:=I2.kept (h':=h') (t':=s1.toks) fun b o e=>hx' b o (Nat.ne_of_lt (Heap.lt_size e)) e;show wpAny _ _ (assignInOrder [fun v=>bindName X.env y v,fun v=>bindName X.env x v] [u2,u1] >>= fun _=>pure Flow.next) _ _ _
 refine wpAny_bind (assignInOrder_cons (wpAny_bindName (qbjz I3 hN hj (.inl hy) rw' (fun s2 I4=>?_) (.inr hy))));refine assignInOrder_cons (wpAny_bindName (qbjz I4 hN hi (.inl hx) rv (fun s3 I5=>assignInOrder_nil (wpAny_pure ?_)) (.inr hx)));rw[List.set_comm _ _ (Ne.symm hij)] at I5;exact⟨_,H1,I5,q1⟩
def tAug(i:Nat)(te:TE)(ti:TIp):TS:=fun D σ H=>∃x,σ[i]?=some (some x)/\te σ H fun y H1=>ti x y H1 fun z H2=>D.nx (σ.set i (some z)) H2
theorem ql1z{i:Nat}{x:Str}{e:Expr}{te:TE}{op:Operator}{ti:TIp}{pos':Pos}(hN:X.N.Nodup)(hi:X.N[i]?=some x)(hx:Loc X.env.scope x)(he:PE X e te)(ho:PIp X op ti)(hf:X.fn x=true∨X.env.scope.names.lookup x=some .local:=by first|exact .inl rfl|exact .inr rfl|assumption):
  PS X (.AugAssign (.Name x pos') op e pos) (tAug i te ti):=by
 intro pins s σ H D I h;obtain⟨v,e1,h⟩:=h;obtain⟨m,hn,hl⟩:=I.loc;have vis:Vis X.env.scope x:=by rcases hx with k|k;exact .inl k;exact .inr (.inl k)
 obtain⟨u,r,l⟩:=hl i x v hi e1 vis;refine wpAny_AugAssign_Name ?_;have go:wpAny (model X.prog X.w) X.A (eval e X.env) (fun w s₂=>wpAny (model X.prog X.w) X.A (inplaceOp op u w) (fun r s₃=>wpAny (model X.prog X.w) X.A (storeName X.env x r) (fun _=>SP X pins D .next) X.xe s₃) X.xe s₂) X.xe s:=by
  refine thn (he pins s σ H _ I h) fun w s1 ⟨y,H1,I1,r1,q1⟩=>?_;refine thn (ho pins s1 σ H1 v y u w _ I1 r r1 q1) fun z s2 ⟨zv,H2,I2,r2,q2⟩=>?_;exact qbjz I2 hN hi hx r2 (fun s3 I3=>⟨_,H2,I3,q2⟩) hf
 rcases l with⟨hk,hm⟩|⟨hk,c,hc,hcell⟩
 ·exact wpAny_loadName_local I.ok.kind hk hn hm go
 ·rcases hk with hk|hk
  ·exact wpAny_loadName_cell I.ok.kind hk hc hcell go
  ·rcases hx with k|k
   ·have:X.env.scope.names.lookup x=some .free:=hk;rw[k] at this;cases this
   ·have:X.env.scope.names.lookup x=some .free:=hk;rw[k] at this;cases this
def ipI(f:Int->Int->Int):TIp:=fun x y H Q=>∃i j,x=.int i/\y=.int j/\Q (.int (f i j)) H
theorem ql2z:PIp X .Add (ipI fun i j=>i+j):=by
 intro pins s σ H x y v u Q I r1 r2 h;obtain⟨i,j,e1,e2,q⟩:=h;subst e1;subst e2;obtain⟨t,rfl⟩:=r1;obtain⟨t',rfl⟩:=r2;exact iadd_int ⟨.int _,H,I.tok _,⟨_,rfl⟩,q⟩
end
section
variable {X:Cx} {pos:Pos}
def tWhile(c:TT)(tb:TS):TS:=fun D σ H=>∃W:Nat->St->Hp->Prop,(∃m,W m σ H)/\∀m σ H,W m σ H ->
 c σ H fun b H1=>if b=true then ∃N:St->Hp->Prop,(∀σ' H',N σ' H'->∃m',m' < m/\W m' σ' H')/\tb { D with nx:=N,ct:=N,bk:=D.nx } σ H1 else D.nx σ H1
theorem ql3z{c:Expr}{body:List Stmt}{tc:TT}{tb:TS}(hp:PassesOwn (model X.prog X.w) X.A X.env X.xe)(hc:PT X c tc)(hb:PSs X body tb):PS X (.While c body [] pos) (tWhile tc tb):=by
 intro pins s σ H D I h;obtain⟨W,⟨m0,w0⟩,turn⟩:=h;refine wpAny_While (codeAny_whileLoop (fun n s'=>∃σ' H',Inv X pins σ' H' s'/\W n σ' H') ?_ m0 ⟨σ,H,I,w0⟩);rintro n s1 ⟨σ1,H1,I1,w1⟩;refine wpAny_passesOwn hp (thn (hc pins s1 σ1 H1 _ I1 (turn n σ1 H1 w1)) fun b s2 ⟨H2,I2,q2⟩=>?_);cases b with
 |true=>
  obtain⟨N,hN,q2⟩:=q2;rw[if_pos rfl];refine wpAny_passesOwn hp (thn (hb pins s2 σ1 H2 _ I2 q2) fun f s3 q3=>?_);cases f with
  |next=>
   obtain⟨σ3,H3,I3,n3⟩:=q3;obtain⟨m',hm,w3⟩:=hN σ3 H3 n3;exact⟨m',hm,σ3,H3,I3,w3⟩
  |cont=>
   obtain⟨σ3,H3,I3,n3⟩:=q3;obtain⟨m',hm,w3⟩:=hN σ3 H3 n3;exact⟨m',hm,σ3,H3,I3,w3⟩
  |brk=>exact q3
  |ret v=>exact q3
 |false=>
  rw[if_neg Bool.false_ne_true];exact wpAny_execs_nil ⟨σ1,H2,I2,q2⟩
end
structure It where
 go:Nat->Hp->Prop
 yld:Nat->Hp->V->Hp->Prop
 stop:Nat->Hp->Prop
def FpOk(X:Cx)(pins:List (Addr×Obj))(H:Hp)(b:Addr):Prop:=
 H b=none/\b≠X.env.locals/\b∉X.fs/\(b∈X.ex∨X.s₀.heap.objs.size≤b)/\(∀x c,X.env.cells.lookup x=some c->c≠b)/\∀p∈X.pn++pins,p.1≠b
theorem Inv.fpOk{X:Cx}{pins:List (Addr×Obj)}{σ:St}{H H':Hp}{s:Shared}{b:Addr}(I:Inv X pins σ H s)(hb:s.heap.objs.size≤b)(hn:H' b=none):FpOk X pins H' b:=by
 refine⟨hn,Nat.ne_of_gt (Nat.lt_of_lt_of_le I.lt hb),I.nofs hb,.inr (Nat.le_trans I.sz hb),fun x c e z=>?_,fun p hp z=>?_⟩
 ·obtain⟨v,q⟩:=I.cell x c e;exact absurd (Nat.lt_of_lt_of_le q.lt (by rw[z];exact hb)) (Nat.lt_irrefl _)
 ·exact absurd (Nat.lt_of_lt_of_le (Heap.lt_size (I.pin p hp).1) (by rw[z];exact hb)) (Nat.lt_irrefl _)
structure Turn(P:Program)(w:World)(K:PySem.W.Frag)(tg:Expr)(J:It)(fp:List Addr)(it:Addr)(tn:Nat->Heap->Prop):Prop where
 mem:it∈fp
 obj:∀i h,tn i h->∀b∈fp,∃o,h.get? b=some o/\∀v,o.data≠.cell v
 keep:∀i h h',tn i h->(∀b∈fp,∀o,h.get? b=some o->h'.get? b=some o)->tn i h'
 item:∀(X:Cx),X.prog=P->X.w=w->X.K=K->X.calm=true->∀(i:Nat) (pins:List (Addr×Obj)) (s:Shared) (σ:St) (H:Hp) (E:Value->Shared->Prop),Inv X pins σ H s->(∀b∈fp,FpOk X pins H b)->tn i s.heap->J.go i H ->
  wpAny (model P w) X.A (pyNext (.ref it)) (fun r s1=>∃u,r=some u ∧
   wpAny (model P w) X.A (letOwnedTupleGo tg (.ref it) u) (fun _ s2=>∃x H',Inv X pins σ H' s2/\RelV x u/\J.yld i H x H'/\tn (i+1) s2.heap/\∀b∈fp,H' b=none) E s1) E s
 done:∀(X:Cx),X.prog=P->X.w=w->X.K=K->X.calm=true->∀(i:Nat) (pins:List (Addr×Obj)) (s:Shared) (σ:St) (H:Hp) (E:Value->Shared->Prop),Inv X pins σ H s->(∀b∈fp,FpOk X pins H b)->tn i s.heap->J.stop i H ->
  wpAny (model P w) X.A (pyNext (.ref it)) (fun r s1=>r=none/\Inv X pins σ H s1) E s
 self:∀(A:Around) (i:Nat) (s:Shared) (Q:Value->Shared->Prop) (E:Value->Shared->Prop),tn i s.heap->Q (.ref it) s->wpAny (model P w) A (pyIter (.ref it)) Q E s
abbrev TI:=St->Hp->(It->Hp->Prop)->Prop
def PIE(X:Cx)(pins:List (Addr×Obj))(σ:St)(tg:Expr)(R:It->Hp->Prop)(itv:Value)(s2:Shared):Prop:=
 ∃(it:Addr) (fp:List Addr) (tn:Nat->Heap->Prop) (J:It) (H':Hp),itv=.ref it/\Inv X pins σ H' s2/\Turn X.prog X.w X.K tg J fp it tn/\tn 0 s2.heap/\(∀b∈fp,FpOk X pins H' b)/\R J H'
def PI(X:Cx)(tg iter:Expr)(wi:TI):Prop:=
 ∀(pins:List (Addr×Obj)) (s:Shared) (σ:St) (H:Hp) (R:It->Hp->Prop),Inv X pins σ H s->wi σ H R ->
  wpAny (model X.prog X.w) X.A (eval iter X.env) (fun v s1=>wpAny (model X.prog X.w) X.A (pyIter v) (PIE X pins σ tg R) X.xe s1) X.xe s
theorem qdnz{M:Model}{A:Around}{E:Value->Shared->Prop}{s:Shared}{tg:Expr}{it:Addr}{u:Value}{o:Obj}{n:String}{vs:Array Value}{Q:Unit->Shared->Prop}(ho:s.heap.get? it=some o)(hc:o.cls=.type n)(hd:o.data=.fields vs)
    (hn:["enumerate","zip","dict_itemiterator","dict_reverseitemiterator","odict_iterator","itertools.zip_longest","itertools.pairwise"].contains n=false) (hQ:Q () s):wpAny M A (letOwnedTupleGo tg (.ref it) u) Q E s:=by
  unfold letOwnedTupleGo;cases tg<;>first
    |exact wpAny_pure hQ
    | (cases u<;>first
        |exact wpAny_pure hQ
        | (refine wpAny_bind (wpAny_load ho ?_)
           rw[hc,hd];show wpAny M A (if (["enumerate","zip","dict_itemiterator","dict_reverseitemiterator","odict_iterator","itertools.zip_longest","itertools.pairwise"].contains n&&vs[0]?==some (rawInt _))=true then _ else _) Q E s;rw[if_neg (by intro h;rw[hn,Bool.false_and] at h;cases h)];exact wpAny_pure hQ))
def Itl(K:PySem.W.Frag)(a:Addr):It:=
 ⟨fun i H=>∃xs x,SqL K H a xs/\xs[i]?=some x,fun i H x H'=>H'=H/\∀xs,SqL K H a xs->xs[i]?=some x,fun i H=>∃xs,SqL K H a xs/\xs.length≤i⟩
def Itt(K:PySem.W.Frag)(a:Addr):It:=
 ⟨fun i H=>∃xs x,SqT K H a xs/\xs[i]?=some x,fun i H x H'=>H'=H/\∀xs,SqT K H a xs->xs[i]?=some x,fun i H=>∃xs,SqT K H a xs/\xs.length≤i⟩
def Itr(lo:Int)(n:Nat):It:=⟨fun i _=>i<n,fun i H x H'=>H'=H/\x=.int (lo+i),fun i _=>n≤i⟩
theorem ql4z{P:Program}{w:World}{K:PySem.W.Frag}{tg:Expr}(a it:Addr):Turn P w K tg (Itl K a) [it] it (fun i h=>h.IsListIter it a i) where
 mem:=by simp
 obj:=fun i h st b hb=>by
  have e:b=it:=by simpa using hb
  subst e;obtain⟨o,e,c,d⟩:=st;exact⟨o,e,fun v z=>by rw[d] at z;cases z⟩
 keep:=fun i h h' st k=>st.at fun o e=>k it (by simp) o e
 item:=by
  intro X hP hw hK hc i pins s σ H E I hf st hg;subst hP hw hK;obtain⟨xs,x,hq,hx⟩:=hg;obtain⟨its,rv,p,hz⟩:=I.list hq;obtain⟨u,hu,ru⟩:=rv.get hx;obtain⟨f0,f1,f2,f3,f4,f5⟩:=hf it (by simp);refine wpAny_pyNext_list_item st p.isList (x:=u) (by simpa using hu) fun h' st' sb=>?_;have I1:Inv X pins σ H { s with heap:=h' }:=I.turned (t':=s.toks) (fun b o hb e=>(sb.2 b hb).trans e) f0 f1 f3 f4 f5;obtain⟨o,e,c,d⟩:=id st';exact⟨u,rfl,qdnz (s:={ s with heap:=h' }) e c d (by decide) ⟨x,H,I1,ru,⟨rfl,fun ys hy=>by rw[I.list_inj hy hq];exact hx⟩,st',fun b hb=>(hf b hb).1⟩⟩
 done:=by
  intro X hP hw hK hc i pins s σ H E I hf st hg;subst hP hw hK;obtain⟨xs,hq,hx⟩:=hg;obtain⟨its,rv,p,hz⟩:=I.list hq;obtain⟨f0,f1,f2,f3,f4,f5⟩:=hf it (by simp);have hl:=rv.length;exact wpAny_pyNext_list_end (I.ok.hd hc) st p.isList (by simp;lia) fun h' eb=>⟨rfl,I.turned (t':=s.toks) (fun b o hb e=>eb b o hb e) f0 f1 f3 f4 f5⟩
 self:=fun _ _ _ _ _ st h=>wpAny_pyIter_listiter st h
theorem ql5z{P:Program}{w:World}{K:PySem.W.Frag}{tg:Expr}(a it:Addr):Turn P w K tg (Itt K a) [it] it (fun i h=>h.IsTupleIter it a i) where
 mem:=by simp
 obj:=fun i h st b hb=>by
  have e:b=it:=by simpa using hb
  subst e;obtain⟨o,e,c,d⟩:=st;exact⟨o,e,fun v z=>by rw[d] at z;cases z⟩
 keep:=fun i h h' st k=>st.at fun o e=>k it (by simp) o e
 item:=by
  intro X hP hw hK hc i pins s σ H E I hf st hg;subst hP hw hK;obtain⟨xs,x,hq,hx⟩:=hg;obtain⟨its,rv,p,hz⟩:=I.tuple hq;obtain⟨u,hu,ru⟩:=rv.get hx;obtain⟨f0,f1,f2,f3,f4,f5⟩:=hf it (by simp);refine wpAny_pyNext_tuple_item st (show s.heap.IsTuple a its.toArray from p) (x:=u) (by simpa using hu) fun h' st' sb=>?_;have I1:Inv X pins σ H { s with heap:=h' }:=I.turned (t':=s.toks) (fun b o hb e=>(sb.2 b hb).trans e) f0 f1 f3 f4 f5;obtain⟨o,e,c,d⟩:=id st';exact⟨u,rfl,qdnz (s:={ s with heap:=h' }) e c d (by decide) ⟨x,H,I1,ru,⟨rfl,fun ys hy=>by rw[I.tuple_inj hy hq];exact hx⟩,st',fun b hb=>(hf b hb).1⟩⟩
 done:=by
  intro X hP hw hK hc i pins s σ H E I hf st hg;subst hP hw hK;obtain⟨xs,hq,hx⟩:=hg;obtain⟨its,rv,p,hz⟩:=I.tuple hq;obtain⟨f0,f1,f2,f3,f4,f5⟩:=hf it (by simp);have hl:=rv.length;exact wpAny_pyNext_tuple_end (I.ok.hd hc) st (show s.heap.IsTuple a its.toArray from p) (by simp;lia) fun h' eb=>⟨rfl,I.turned (t':=s.toks) (fun b o hb e=>eb b o hb e) f0 f1 f3 f4 f5⟩
 self:=fun _ _ _ _ _ st h=>wpAny_pyIter_tupleiter st h
theorem ql6z{P:Program}{w:World}{K:PySem.W.Frag}{tg:Expr}(it:Addr)(lo:Int)(n:Nat):Turn P w K tg (Itr lo n) [it] it (fun i h=>IsRangeIter h it (lo+(i:Nat)*1) ((n:Int)-(i:Nat)) 1) where
 mem:=by simp
 obj:=fun i h st b hb=>by
  have e:b=it:=by simpa using hb
  subst e;exact⟨_,st,fun v z=>by
   have z':Data.fields _=Data.cell v:=z;cases z'⟩
 keep:=fun i h h' st k=>k it (by simp) _ st
 item:=by
  intro X hP hw hK hc i pins s σ H E I hf st hg;subst hP hw hK;obtain⟨f0,f1,f2,f3,f4,f5⟩:=hf it (by simp);have W:=Walks.range (prog:=X.prog) (w:=X.w) (I.ok.hd hc) it lo 1 n;refine W.item i s _ _ hg st fun v h' tk hv st' kk=>?_;obtain⟨t,rfl⟩:=hv;have I1:Inv X pins σ H { s with heap:=h',toks:=tk }:=I.turned (fun b o hb e=>kk b o (by simpa using hb) e) f0 f1 f3 f4 f5;refine⟨_,rfl,qdnz (s:={ s with heap:=h',toks:=tk }) (n:="range_iterator") st' rfl rfl (by decide) ⟨.int (lo+i),H,I1,⟨t,?_⟩,⟨rfl,rfl⟩,st',fun b hb=>(hf b hb).1⟩⟩;rw[Int.mul_one]
 done:=by
  intro X hP hw hK hc i pins s σ H E I hf st hg;subst hP hw hK;obtain⟨f0,f1,f2,f3,f4,f5⟩:=hf it (by simp);exact wpAny_pyNext_range_end (I.ok.hd hc) st (by have:n≤i:=hg;lia) fun h' eb=>⟨rfl,I.turned (t':=s.toks) (fun b o hb e=>eb b o hb e) f0 f1 f3 f4 f5⟩
 self:=fun _ _ _ _ _ st h=>wpAny_pyIter_rangeiter st h
end L2
namespace L2
open PySem PySem.Spec PyProof.Rows
section
variable {X:Cx} {tg:Expr}
theorem qguz{pins:List (Addr×Obj)}{σ:St}{H:Hp}{s:Shared}{R:It->Hp->Prop}{E:Value->Shared->Prop}{lo hi:Int}{t u v:Tok}{tk:Nat}(I:Inv X pins σ H s)(h1:-(2^62)≤lo)(h2:lo<2^62)(h3:-(2^62)≤hi)(h4:hi<2^62)
  (q:R (Itr lo (hi-lo).toNat) H):wpAny (model X.prog X.w) X.A (pyIter (.ref s.heap.objs.size)) (PIE X pins σ tg R) E { s with heap:=s.heap.push { cls:=.type "range",data:=.fields #[.int lo t,.int hi u,.int 1 v]},toks:=tk }:=by
 refine wpAny_pyIter_range (IsRange.new ..) (small_one h1 h2 h3 h4) ?_;have I1:Inv X pins σ H { s with heap:=s.heap.push { cls:=.type "range",data:=.fields #[.int lo t,.int hi u,.int 1 v]},toks:=tk }:=I.kept fun b o e=>Heap.get?_push_of_some _ e;refine⟨(s.heap.push { cls:=.type "range",data:=.fields #[.int lo t,.int hi u,.int 1 v]}).objs.size,[(s.heap.push { cls:=.type "range",data:=.fields #[.int lo t,.int hi u,.int 1 v]}).objs.size],_,_,H,rfl,
  I1.kept (t':=tk) fun b o e=>Heap.get?_push_of_some _ e,ql6z _ lo (hi-lo).toNat,?_,fun b hb=>?_,q⟩
 ·have e1:lo+((0:Nat):Int)*1=lo:=by simp
  have e2:(((hi-lo).toNat:Nat):Int)-((0:Nat):Int)=Builtin.Range.rangeSize lo hi 1:=by rw[rangeSize_one];split<;>lia
  show IsRangeIter _ _ (lo+((0:Nat):Int)*1) ((((hi-lo).toNat:Nat):Int)-((0:Nat):Int)) 1;rw[e1,e2];exact Heap.get?_push_size _ rfl
 ·have e:b=(s.heap.push { cls:=.type "range",data:=.fields #[.int lo t,.int hi u,.int 1 v]}).objs.size:=by simpa using hb
  subst e;exact I1.fpOk (Nat.le_refl _) (I1.hok.fresh (Nat.le_refl _))
def iRng1(ta:TA):TI:=fun σ H R=>ta σ H fun vs H1=>∃j:Int,vs=[.int j]/\-(2^62)≤j/\j<2^62/\R (Itr 0 j.toNat) H1
def iRng2(ta:TA):TI:=fun σ H R=>ta σ H fun vs H1=>∃i j:Int,vs=[.int i,.int j]/\(-(2^62)≤i/\i<2^62/\-(2^62)≤j/\j<2^62)/\R (Itr i (j-i).toNat) H1
theorem ql7z{a:Expr}{ta:TA}{p pos:Pos}(hg:Gl X "range")(hm:X.mg "range" = none)(ha:PA X [a] ta)(hs:starEach [a] X.env=[(false,eval a X.env)]:=by rfl):PI X tg (.Call (.Name "range" p) [a] [] pos) (iRng1 ta):=by
 intro pins s σ H R I h;refine Call_ (qazz I hg hm boot_range (PyProof.Rows.callWith_type1 (thn (ha pos pins s σ H _ I h) fun us s1 ⟨vs,H1,I1,r1,q1⟩=>?_) hs rfl));obtain⟨j,e,q1,q2,q⟩:=q1;subst e;cases r1 with
 |cons r rr=>
  cases rr;obtain⟨t,rfl⟩:=r;exact call_range_1 (qguz I1 (by lia) (by lia) q1 q2 (by simpa using q))
theorem ql8z{a b:Expr}{ta:TA}{p pos:Pos}(hg:Gl X "range")(hm:X.mg "range" = none)(ha:PA X [a,b] ta)(hs:starEach [a,b] X.env=[(false,eval a X.env),(false,eval b X.env)]:=by rfl)(hs2:starEach [b] X.env=[(false,eval b X.env)]:=by rfl):
  PI X tg (.Call (.Name "range" p) [a,b] [] pos) (iRng2 ta):=by
 intro pins s σ H R I h;refine Call_ (qazz I hg hm boot_range (PyProof.Rows.callWith_type1 (thn (ha pos pins s σ H _ I h) fun us s1 ⟨vs,H1,I1,r1,q1⟩=>?_) (by rw[hs,hs2]) (by rw[hs2];rfl)));obtain⟨i,j,e,⟨q1,q2,q3,q4⟩,q⟩:=q1;subst e;cases r1 with
 |cons r rr=>
  cases rr with
  |cons r' rr=>
   cases rr;obtain⟨t,rfl⟩:=r;obtain⟨t',rfl⟩:=r';exact call_range_2 (qguz I1 q1 q2 q3 q4 q)
def tFor(wi:TI)(g:TG)(tb:TS):TS:=fun D σ H=>wi σ H fun J H1=>∃W:Nat->Nat->St->Hp->Prop,(∃m,W 0 m σ H1)/\∀i m σ H,W i m σ H ->
 (J.stop i H/\D.nx σ H)∨(J.go i H/\∃N:St->Hp->Prop,(∀σ' H',N σ' H'->∃m',m' < m/\W (i+1) m' σ' H')/\∀x H',J.yld i H x H'->g x σ H' fun σ2 H2=>tb { D with nx:=N,ct:=N,bk:=D.nx } σ2 H2)
def pinsAt(fp:List Addr)(h:Heap):List (Addr×Obj):=fp.filterMap fun b=>(h.get? b).map fun o=>(b,o)
theorem qbaz{fp:List Addr}{h:Heap}{b:Addr}{o:Obj}(hb:b∈fp)(e:h.get? b=some o):(b,o)∈pinsAt fp h:=List.mem_filterMap.mpr ⟨b,hb,by rw[e];rfl⟩
theorem ql9z{fp:List Addr}{h:Heap}{p:Addr×Obj}(hp:p∈pinsAt fp h):p.1∈fp/\h.get? p.1=some p.2:=by
 obtain⟨b,hb,e⟩:=List.mem_filterMap.mp hp;cases q:h.get? b with
 |none=>rw[q] at e;cases e
 |some o=>
  rw[q] at e;have e':(b,o)=p:=Option.some.inj e;subst e';exact⟨hb,q⟩
theorem Inv.pinned{pins:List (Addr×Obj)}{σ:St}{H:Hp}{s:Shared}{fp:List Addr}(I:Inv X pins σ H s)(hf:∀b∈fp,FpOk X pins H b)(ho:∀b∈fp,∃o,s.heap.get? b=some o/\∀v,o.data≠.cell v):Inv X (pins++pinsAt fp s.heap) σ H s:=
 I.pins_of fun p hp=>(List.mem_append.mp hp).elim (fun z=>I.pin p (List.mem_append_right _ z)) fun z=>by
  obtain⟨hb,e⟩:=ql9z z;obtain⟨f0,f1,f2,_⟩:=hf p.1 hb;obtain⟨o,e',d⟩:=ho p.1 hb;rw[e] at e';cases e';exact⟨e,f0,f1,f2,d⟩
theorem Inv.unpinned{pins pl:List (Addr×Obj)}{σ:St}{H:Hp}{s:Shared}(I:Inv X (pins++pl) σ H s):Inv X pins σ H s:=I.pins_of fun p hp=>I.pin p (List.mem_append_right _ (List.mem_append_left _ hp))
theorem qmaz{iter:Expr}{body:List Stmt}{wi:TI}{g:TG}{tb:TS}{pos:Pos}(hp:PassesOwn (model X.prog X.w) X.A X.env X.xe)(hc:X.calm=true)(hi:PI X tg iter wi)(hg:PG X tg g)(hb:PSs X body tb)
  (hs:∀x,foldedSetIterable iter X.env x=pure x:=by intro _;rfl):PS X (.For tg iter body [] pos) (tFor wi g tb):=by
 intro pins s σ H D I h;refine wpAny_For (thn (hi pins s σ H _ I h) fun v s1 h1=>thn h1 fun itv s2 h2=>?_) hs;obtain⟨it,fp,tn,J,H2,e,I2,T,st2,f2,W,⟨m0,w0⟩,turn⟩:=h2;subst e
 -- what stays true of the iterator's objects through the loop
 have stat:∀{H':Hp},(∀b∈fp,H' b=none)->∀b∈fp,FpOk X pins H' b:=fun hn b hb=>⟨hn b hb,(f2 b hb).2⟩;refine codeAny_forLoop_any (fun n s'=>∃i σ' H',Inv X pins σ' H' s'/\tn i s'.heap/\(∀b∈fp,H' b=none)/\W i n σ' H') ?_ m0 ⟨0,σ,H2,I2,st2,fun b hb=>(f2 b hb).1,w0⟩;rintro n s3 ⟨i,σ3,H3,I3,st3,fr3,w3⟩;rcases turn i n σ3 H3 w3 with⟨stop,qn⟩|⟨go,N,hN,step⟩
 ·refine wpAny_passesOwn hp (thn (T.done X rfl rfl rfl hc i pins s3 σ3 H3 X.xe I3 (stat fr3) st3 stop) fun r s4 ⟨hr,I4⟩=>?_);subst hr;exact wpAny_execs_nil ⟨σ3,H3,I4,qn⟩
 ·refine wpAny_passesOwn hp (thn (T.item X rfl rfl rfl hc i pins s3 σ3 H3 X.xe I3 (stat fr3) st3 go) fun r s4 ⟨u,hr,h4⟩=>?_);subst hr;refine wpAny_passesOwn hp (thn h4 fun _ s5 ⟨x,H5,I5,r5,y5,st5,fr5⟩=>?_);have I5':=I5.pinned (stat fr5) (T.obj _ _ st5);refine wpAny_passesOwn hp (thn (hg _ s5 σ3 H5 x u _ I5' r5 (step x H5 y5)) fun _ s6 ⟨σ6,H6,I6,q6⟩=>?_);refine wpAny_passesOwn hp (thn (hb _ s6 σ6 H6 _ I6 q6) fun f s7 q7=>?_);have again:∀{σ7:St} {H7:Hp},Inv X (pins++pinsAt fp s5.heap) σ7 H7 s7->N σ7 H7->∃m,m<n/\∃i σ' H',Inv X pins σ' H' s7/\tn i s7.heap/\(∀b∈fp,H' b=none)/\W i m σ' H':=fun {σ7 H7} I7 n7=>by
   obtain⟨m',hm,w7⟩:=hN σ7 H7 n7;refine⟨m',hm,i+1,σ7,H7,I7.unpinned,T.keep _ _ _ st5 fun b hb o e=>(I7.pin (b,o) (List.mem_append_right _ (List.mem_append_right _ (qbaz hb e)))).1,fun b hb=>?_,w7⟩;obtain⟨o,e,d⟩:=T.obj _ _ st5 b hb;exact (I7.pin (b,o) (List.mem_append_right _ (List.mem_append_right _ (qbaz hb e)))).2.1
  cases f with
  |next=>obtain⟨σ7,H7,I7,n7⟩:=q7;exact again I7 n7
  |cont=>obtain⟨σ7,H7,I7,n7⟩:=q7;exact again I7 n7
  |brk=>obtain⟨σ7,H7,I7,q7⟩:=q7;exact⟨σ7,H7,I7.unpinned,q7⟩
  |ret v=>obtain⟨x7,σ7,H7,I7,r7,q7⟩:=q7;exact⟨x7,σ7,H7,I7.unpinned,r7,q7⟩
end
end L2
namespace L2
open PySem PySem.Spec PyProof.Rows
abbrev R2:=V->V->Hp->VK->Prop
def OpR(X:Cx)(f:Value->Value->Sem Value)(r:R2):Prop:=
 ∀(pins:List (Addr×Obj)) (s:Shared) (σ:St) (H:Hp) (x y:V) (v u:Value) (Q:VK),Inv X pins σ H s->RelV x v->RelV y u->r x y H Q ->
  wpAny (model X.prog X.w) X.A (f v u) (EP X pins σ Q) X.xe s
def UnR(X:Cx)(f:Value->Sem Value)(r:V->Hp->VK->Prop):Prop:=
 ∀(pins:List (Addr×Obj)) (s:Shared) (σ:St) (H:Hp) (x:V) (v:Value) (Q:VK),Inv X pins σ H s->RelV x v->r x H Q ->
  wpAny (model X.prog X.w) X.A (f v) (EP X pins σ Q) X.xe s
def CallR(X:Cx)(f:Value)(r:List V->Hp->VK->Prop):Prop:=
 ∀(pins:List (Addr×Obj)) (s:Shared) (σ:St) (H:Hp) (xs:List V) (us:List Value) (Q:VK),Inv X pins σ H s->Vals xs us->r xs H Q ->
  wpAny (model X.prog X.w) X.A (call f us) (EP X pins σ Q) X.xe s
def TruR(X:Cx)(r:V->Hp->(Bool->Hp->Prop)->Prop):Prop:=
 ∀(pins:List (Addr×Obj)) (s:Shared) (σ:St) (H:Hp) (x:V) (v:Value) (Q:Bool->Hp->Prop),Inv X pins σ H s->RelV x v->r x H Q ->
  wpAny (model X.prog X.w) X.A (truthy v) (TP X pins σ Q) X.xe s
def tOp(r:R2)(ta tb:TE):TE:=fun σ H Q=>ta σ H fun x H1=>tb σ H1 fun y H2=>r x y H2 Q
def tUn(r:V->Hp->VK->Prop)(ta:TE):TE:=fun σ H Q=>ta σ H fun x H1=>r x H1 Q
def rI(C:Int->Int->Prop)(g:Int->Int->V):R2:=fun x y H Q=>∃i j,x=.int i/\y=.int j/\C i j/\Q (g i j) H
def rI0(g:Int->Int->V):R2:=fun x y H Q=>∃i j,x=.int i/\y=.int j/\Q (g i j) H
def rU(g:Int->V):V->Hp->VK->Prop:=fun x H Q=>∃i,x=.int i/\Q (g i) H
section
variable {X:Cx} {a b c:Expr} {ta tb tc:TE} {pos:Pos}
theorem binT(ha:PE X a ta)(hb:PE X b tb){pins:List (Addr×Obj)}{s:Shared}{σ:St}{H:Hp}{R:V->V->Hp->Prop}(I:Inv X pins σ H s)
  (h:ta σ H fun x H1=>tb σ H1 fun y H2=>R x y H2) {Q:Value->Shared->Prop} {f:Value->Value->Sem Value}
  (hf:∀v u s2 x y H2,Inv X pins σ H2 s2->RelV x v->RelV y u->R x y H2->wpAny (model X.prog X.w) X.A (f v u) Q X.xe s2):
  wpAny (model X.prog X.w) X.A (eval a X.env) (fun v s₁=>wpAny (model X.prog X.w) X.A (eval b X.env) (fun u s₂=>wpAny (model X.prog X.w) X.A (f v u) Q X.xe s₂) X.xe s₁) X.xe s:=by
 refine thn (ha pins s σ H _ I h) fun v s1 ⟨x,H1,I1,r1,q1⟩=>?_;refine thn (hb pins s1 σ H1 _ I1 q1) fun u s2 ⟨y,H2,I2,r2,q2⟩=>?_;exact hf v u s2 x y H2 I2 r1 r2 q2
theorem qmbz{op:Operator}{r:R2}(ho:OpR X (binaryOp op) r)(ha:PE X a ta)(hb:PE X b tb):PE X (.BinOp a op b pos) (tOp r ta tb):=by
 intro pins s σ H Q I h;exact wpAny_BinOp (binT ha hb I h fun v u s2 x y H2 I2 rx ry q=>ho pins s2 σ H2 x y v u Q I2 rx ry q)
theorem qgvz{op:UnaryOp}{r:V->Hp->VK->Prop}(ho:UnR X (unaryOp op) r)(ha:PE X a ta):PE X (.UnaryOp op a pos) (tUn r ta):=by
 intro pins s σ H Q I h;exact UnaryOp_ (thn (ha pins s σ H _ I h) fun v s1 ⟨x,H1,I1,r1,q1⟩=>ho pins s1 σ H1 x v Q I1 r1 q1)
theorem opI{f:Value->Value->Sem Value}{C:Int->Int->Prop}{g:Int->Int->Int}
  (rule:∀(i j:Int) (t u:Tok) (s:Shared) (Q:Value->Shared->Prop) (E:Value->Shared->Prop),C i j->Q (.int (g i j) s.toks) { s with toks:=s.toks+1 }->wpAny (model X.prog X.w) X.A (f (.int i t) (.int j u)) Q E s):
  OpR X f (rI C fun i j=>.int (g i j)):=by
 intro pins s σ H x y v u Q I rx ry h;obtain⟨i,j,rfl,rfl,hc,q⟩:=h;obtain⟨t,rfl⟩:=rx;obtain⟨t',rfl⟩:=ry;exact rule i j t t' s _ _ hc ⟨.int (g i j),H,I.tok _,⟨_,rfl⟩,q⟩
theorem opI0{f:Value->Value->Sem Value}{g:Int->Int->Int}
  (rule:∀(i j:Int) (t u:Tok) (s:Shared) (Q:Value->Shared->Prop) (E:Value->Shared->Prop),Q (.int (g i j) s.toks) { s with toks:=s.toks+1 }->wpAny (model X.prog X.w) X.A (f (.int i t) (.int j u)) Q E s):
  OpR X f (rI0 fun i j=>.int (g i j)):=by
 intro pins s σ H x y v u Q I rx ry h;obtain⟨i,j,rfl,rfl,q⟩:=h;obtain⟨t,rfl⟩:=rx;obtain⟨t',rfl⟩:=ry;exact rule i j t t' s _ _ ⟨.int (g i j),H,I.tok _,⟨_,rfl⟩,q⟩
theorem opB0{f:Value->Value->Sem Value}{g:Int->Int->Bool}
  (rule:∀(i j:Int) (t u:Tok) (s:Shared) (Q:Value->Shared->Prop) (E:Value->Shared->Prop),Q (.bool (g i j)) s->wpAny (model X.prog X.w) X.A (f (.int i t) (.int j u)) Q E s):
  OpR X f (rI0 fun i j=>.bl (g i j)):=by
 intro pins s σ H x y v u Q I rx ry h;obtain⟨i,j,rfl,rfl,q⟩:=h;obtain⟨t,rfl⟩:=rx;obtain⟨t',rfl⟩:=ry;exact rule i j t t' s _ _ ⟨.bl (g i j),H,I,rfl,q⟩
def CPow(i j:Int):Prop:=0≤j/\j≤1000000/\i.natAbs<2^64
theorem op_add:OpR X (binaryOp .Add) (rI0 fun i j=>.int (i+j)):=opI0 fun _ _ _ _ _ _ _ q=>add_int q
theorem qdoz:OpR X (binaryOp .Sub) (rI0 fun i j=>.int (i-j)):=opI0 fun _ _ _ _ _ _ _ q=>sub_int q
theorem qaqz:OpR X (binaryOp .Mod) (rI (fun _ j=>0<j) fun i j=>.int (i%j)):=opI fun i j _ _ _ _ _ hc q=>by
 have h1:(0:Int)<j:=hc;exact mod_int' (by lia) (by rw[Int.fmod_eq_emod_of_nonneg i (by lia)];exact q)
theorem qmcz:OpR X (binaryOp .Pow) (rI CPow fun i j=>.int (i^j.toNat)):=opI fun _ _ _ _ _ _ _ hc q=>pow_int_small hc.1 hc.2.1 hc.2.2 q
theorem unI{f:Value->Sem Value}{g:Int->Int}
  (rule:∀(i:Int) (t:Tok) (s:Shared) (Q:Value->Shared->Prop) (E:Value->Shared->Prop),Q (.int (g i) s.toks) { s with toks:=s.toks+1 }->wpAny (model X.prog X.w) X.A (f (.int i t)) Q E s):
  UnR X f (rU fun i=>.int (g i)):=by
 intro pins s σ H x v Q I rx h;obtain⟨i,rfl,q⟩:=h;obtain⟨t,rfl⟩:=rx;exact rule i t s _ _ ⟨.int (g i),H,I.tok _,⟨_,rfl⟩,q⟩
theorem qgwz:UnR X (unaryOp .USub) (rU fun i=>.int (-i)):=unI fun _ _ _ _ _ q=>neg_int q
end
section
variable {X:Cx} {a b c:Expr} {ta tb tc:TE} {pos:Pos}
theorem qeuz{pins:List (Addr×Obj)}{σ:St}{H:Hp}{s:Shared}{Q:VK}{k k':Bool}(I:Inv X pins σ H s)(q:Q (.bl k) H)(e:k=k'):EP X pins σ Q (.bool k') s:=by
 subst e;exact⟨.bl k,H,I,rfl,q⟩
theorem op_lt:OpR X (compareOp .Lt) (rI0 fun i j=>.bl (decide (i<j))):=opB0 fun _ _ _ _ _ _ _ q=>lt_int q
theorem qcgz:OpR X (compareOp .LtE) (rI0 fun i j=>.bl (decide (i≤j))):=opB0 fun _ _ _ _ _ _ _ q=>le_int q
theorem qchz:OpR X (compareOp .Gt) (rI0 fun i j=>.bl (decide (j<i))):=opB0 fun _ _ _ _ _ _ _ q=>gt_int q
theorem qmdz:OpR X (compareOp .GtE) (rI0 fun i j=>.bl (decide (j≤i))):=opB0 fun _ _ _ _ _ _ _ q=>ge_int q
theorem qmez:OpR X (compareOp .Is) (fun x y H Q=>y=.non/\Q (.bl (decide (x=.non))) H):=by
 intro pins s σ H x y v u Q I rx ry h;obtain⟨rfl,q⟩:=h;cases ry;refine is_none_gen (qeuz I q ?_);cases x<;>first
  | (cases rx;rfl)
  | (obtain⟨t,rfl⟩:=rx;rfl)
theorem qmfz:OpR X (compareOp .IsNot) (fun x y H Q=>y=.non/\Q (.bl (!decide (x=.non))) H):=by
 intro pins s σ H x y v u Q I rx ry h;obtain⟨rfl,q⟩:=h;cases ry;refine isnot_none_gen (qeuz I q ?_);cases x<;>first
  | (cases rx;rfl)
  | (obtain⟨t,rfl⟩:=rx;rfl)
theorem OpR.or{f:Value->Value->Sem Value}{r r':R2}(h:OpR X f r)(h':OpR X f r'):OpR X f (fun x y H Q=>r x y H Q∨r' x y H Q):=by
 intro pins s σ H x y v u Q I rx ry q;rcases q with q|q
 ·exact h pins s σ H x y v u Q I rx ry q
 ·exact h' pins s σ H x y v u Q I rx ry q
theorem nomark(b:Expr){op:CmpOp}(h:op≠.In:=by decide)(h2:op≠.NotIn:=by decide):behindInMarks op b=false:=by
 have e1:(op==CmpOp.In)=false:=by cases op<;>first|rfl|exact absurd rfl h
 have e2:(op==CmpOp.NotIn)=false:=by cases op<;>first|rfl|exact absurd rfl h2
 cases b<;>simp[behindInMarks,e1,e2]
theorem qmgz{op:CmpOp}{r:R2}(ho:OpR X (compareOp op) r)(ha:PE X a ta)(hb:PE X b tb)(hm:behindInMarks op b=false):PE X (.Compare a [op] [b] pos) (tOp r ta tb):=by
 intro pins s σ H Q I h;exact wpAny_Compare1 (binT ha hb I h fun v u s2 x y H2 I2 rx ry q=>ho pins s2 σ H2 x y v u Q I2 rx ry q) hm
def tTest(t:TE):TT:=fun σ H Q=>t σ H fun x H'=>∃k,x=.bl k/\Q k H'
theorem qmhz{op:CmpOp}{r:R2}(ho:OpR X (compareOp op) r)(ha:PE X a ta)(hb:PE X b tb)(hm:behindInMarks op b=false):PT X (.Compare a [op] [b] pos) (tTest (tOp r ta tb)):=by
 intro pins s σ H Q I h;refine wpAny_isTrue_Compare1 (thn (ha pins s σ H _ I h) fun v s1 ⟨x,H1,I1,r1,q1⟩=>thn (hb pins s1 σ H1 _ I1 q1) fun u s2 ⟨y,H2,I2,r2,q2⟩=>
  thn (ho pins s2 σ H2 x y v u _ I2 r1 r2 q2) fun c s3 ⟨z,H3,I3,r3,k,e,q3⟩=>?_) hm
 subst e;cases r3;exact wpAny_truthy_bool ⟨H3,I3,q3⟩
def tChain(r r':R2)(ta tb tc:TE):TE:=fun σ H Q=>ta σ H fun x H1=>tb σ H1 fun y H2=>r x y H2 fun z H3=>∃k,z=.bl k ∧
 (if k=true then tc σ H3 fun w' H4=>r' y w' H4 Q else Q (.bl false) H3)
theorem qmiz{op op':CmpOp}{r r':R2}(ho:OpR X (compareOp op) r)(ho':OpR X (compareOp op') r')(ha:PE X a ta)(hb:PE X b tb)(hc:PE X c tc)
  (hm:lastMarks [op,op'] [b,c]=false:=by with_unfolding_all rfl):PE X (.Compare a [op,op'] [b,c] pos) (tChain r r' ta tb tc):=by
 intro pins s σ H Q I h;refine Compare_chain (thn (ha pins s σ H _ I h) fun v s1 ⟨x,H1,I1,r1,q1⟩=>chain_link (thn (hb pins s1 σ H1 _ I1 q1) fun u s2 ⟨y,H2,I2,r2,q2⟩=>
  thn (ho pins s2 σ H2 x y v u _ I2 r1 r2 q2) fun d s3 ⟨z,H3,I3,r3,k,e,q3⟩=>?_)) hm
 subst e;cases r3;refine wpAny_truthy_bool ?_;cases k with
 |false=>exact ite_ff ⟨.bl false,H3,I3,rfl,q3⟩
 |true=>exact ite_tt (chain_last (thn (hc pins s3 σ H3 _ I3 q3) fun w' s4 ⟨z',H4,I4,r4,q4⟩=>ho' pins s4 σ H4 y z' u w' Q I4 r2 r4 q4))
theorem qmjz{op op':CmpOp}{r r':R2}(ho:OpR X (compareOp op) r)(ho':OpR X (compareOp op') r')(ha:PE X a ta)(hb:PE X b tb)(hc:PE X c tc)
  (hm:lastMarks [op,op'] [b,c]=false:=by with_unfolding_all rfl):PT X (.Compare a [op,op'] [b,c] pos) (tTest (tChain r r' ta tb tc)):=by
 intro pins s σ H Q I h;refine isTrue_chain (thn (ha pins s σ H _ I h) fun v s1 ⟨x,H1,I1,r1,q1⟩=>test_link (thn (hb pins s1 σ H1 _ I1 q1) fun u s2 ⟨y,H2,I2,r2,q2⟩=>
  thn (ho pins s2 σ H2 x y v u _ I2 r1 r2 q2) fun d s3 ⟨z,H3,I3,r3,k,e,q3⟩=>?_)) hm
 subst e;cases r3;refine wpAny_truthy_bool ?_;cases k with
 |false=>
  obtain⟨k',e',q'⟩:=q3;cases e';exact ite_ff ⟨H3,I3,q'⟩
 |true=>
  refine ite_tt (test_last (thn (hc pins s3 σ H3 _ I3 q3) fun w' s4 ⟨z',H4,I4,r4,q4⟩=>thn (ho' pins s4 σ H4 y z' u w' _ I4 r2 r4 q4) fun d' s5 ⟨z2,H5,I5,r5,k2,e2,q5⟩=>?_));subst e2;cases r5;exact wpAny_truthy_bool ⟨H5,I5,q5⟩
def TruV(K:PySem.W.Frag)(x:V)(H:Hp)(k:Bool):Prop:=
 match x with
 |.non=>k=false
 |.bl b=>k=b
 |.int i=>k=(i != 0)
 |.str y=>y.length≤sizeLine/\k=((y.length:Int) != 0)
 |.byt y=>y.size≤sizeLine/\k=((y.size:Int) != 0)
 |.ref p=>(∃xs,SqL K H p xs/\k = !xs.isEmpty)∨(∃xs,SqT K H p xs/\k = !xs.isEmpty)∨∃kvs,H p=some (.dK kvs)/\k = !kvs.isEmpty
 |_=>False
theorem qmkz{κ:Type}{kvs:List (κ×V)}{vs:List (κ×Value)}(r:KV kvs vs):(!vs.isEmpty) = !kvs.isEmpty:=by
 cases r<;>rfl
theorem qgxz{xs:List V}{its:List Value}(r:Vals xs its):(!its.toArray.isEmpty) = !xs.isEmpty:=by
 cases r<;>simp
theorem line63:(sizeLine:Nat)<2^63:=by rw[sizeLine_eq];decide
theorem qmlz:TruR X (fun x H Q=>∃k,TruV X.K x H k/\Q k H):=by
 intro pins s σ H x v Q I rx h;obtain⟨k,e,q⟩:=h;have hl:=line63;have hs:sizeLine=16777216:=sizeLine_eq;cases x with
 |non=>
  cases rx;have e':k=false:=e;subst e';exact truthy_none ⟨H,I,q⟩
 |bl b=>
  cases rx;have e':k=b:=e;subst e';exact wpAny_truthy_bool ⟨H,I,q⟩
 |int i=>
  obtain⟨t,rfl⟩:=rx;have e':k=(i != 0):=e;subst e';exact PySem.P.truthy_int ⟨H,I,q⟩
 |str y=>
  obtain⟨t,rfl⟩:=rx;obtain⟨hy,e'⟩:y.length≤sizeLine/\k=((y.length:Int) != 0):=e;subst e';exact PySem.P.truthy_str (by lia) ⟨H,I.tok _,q⟩
 |byt y=>
  obtain⟨t,rfl⟩:=rx;obtain⟨hy,e'⟩:y.size≤sizeLine/\k=((y.size:Int) != 0):=e;subst e';exact PySem.W.truthy_bytes (by lia) ⟨H,I.tok _,q⟩
 |ref p=>
  cases rx;have e':(∃xs,SqL X.K H p xs/\k = !xs.isEmpty)∨(∃xs,SqT X.K H p xs/\k = !xs.isEmpty)∨∃kvs,H p=some (.dK kvs)/\k = !kvs.isEmpty:=e;rcases e' with⟨xs,hx,e'⟩|⟨xs,hx,e'⟩|⟨kvs,hx,e'⟩
  ·subst e';obtain⟨its,r,pl,hz⟩:=I.list hx;have hlen:=r.length;exact wpAny_truthy_list pl.isList (by simp only[List.size_toArray];lia) ⟨H,I.tok _,by rw[qgxz r];exact q⟩
  ·subst e';obtain⟨its,r,pl,hz⟩:=I.tuple hx;have hlen:=r.length;exact truthy_tuple pl (by simp only[List.size_toArray];lia) ⟨H,I.tok _,by rw[qgxz r];exact q⟩
  ·subst e';obtain⟨hz,hS,vs,r,m⟩:kvs.length≤sizeLine/\(p==sysModules)=false/\∃vs,KV kvs vs/\s.heap.DictOf (mixKind X.prog X.w) p vs:=I.hok p _ hx;have hlen:kvs.length=vs.length:=Paired.length r;exact wpAny_truthy_dict hS m (by lia) ⟨H,I.tok _,by rw[qmkz r];exact q⟩
 |_=>exact (show False from e).elim
theorem qmmz(ha:PE X a ta)(he:∀whole,isTrue a X.env whole=(do let v ←whole;standAt a.pos;holding [v] (truthy v))):
  PT X a (fun σ H Q=>ta σ H fun x H'=>∃k,TruV X.K x H' k/\Q k H'):=by
 intro pins s σ H Q I h;exact isTrue_plain (thn (ha pins s σ H _ I h) fun v s1 ⟨x,H1,I1,r1,q1⟩=>qmlz pins s1 σ H1 x v Q I1 r1 q1) (he _)
theorem vals1{x:V}{us:List Value}(r:Vals [x] us):∃u,us=[u]/\RelV x u:=by
 cases r with
 |cons r1 r2=>cases r2;exact⟨_,rfl,r1⟩
theorem vals2{x y:V}{us:List Value}(r:Vals [x,y] us):∃u w',us=[u,w']/\RelV x u/\RelV y w':=by
 cases r with
 |cons r1 r2=>
  cases r2 with
  |cons r3 r4=>cases r4;exact⟨_,_,rfl,r1,r3⟩
theorem qmnz(hc:X.calm=true):CallR X (.builtin "max") (fun xs H Q=>∃i j,xs=[.int i,.int j]/\Q (.int (if j > i then j else i)) H):=by
 intro pins s σ H xs us Q I r h;obtain⟨i,j,rfl,q⟩:=h;obtain⟨u,w',rfl,⟨t,rfl⟩,⟨t',rfl⟩⟩:=vals2 r;refine max_two_ints (I.ok.hd hc) fun h' tk k=>⟨_,H,I.kept k,?_,q⟩;by_cases hj:j > i
 ·rw[if_pos hj,if_pos hj];exact⟨_,rfl⟩
 ·rw[if_neg hj,if_neg hj];exact⟨_,rfl⟩
theorem qmoz:CallR X (.type "int") (fun xs H Q=>(∃i,xs=[.int i]/\Q (.int i) H)∨∃k,xs=[.bl k]/\Q (.int (if k then 1 else 0)) H):=by
 intro pins s σ H xs us Q I r h;rcases h with⟨i,rfl,q⟩|⟨k,rfl,q⟩
 ·obtain⟨u,rfl,t,rfl⟩:=vals1 r;exact call_int_int ⟨.int i,H,I,⟨_,rfl⟩,q⟩
 ·obtain⟨u,rfl,r1⟩:=vals1 r;cases r1;exact call_int_bool ⟨.int (if k then 1 else 0),H,I.tok _,⟨_,rfl⟩,q⟩
end
end L2
namespace L2
open PySem PySem.Spec PyProof.Rows
theorem qmpz{h:Heap}{dx:Addr}{mA:Str->Option Value}(n:h.Ns1 dx mA):∃od,h.get? dx=some od/\∀name,PySem.W.lookIn name od=some (mA name):=by
 obtain⟨o,es,ep,ho,hd,hk,_,hm⟩:=n;refine⟨o,ho,fun name=>?_⟩;have e:=hm name;unfold nsFind findBy at e;rw[←Array.find?_toList] at e;unfold PySem.W.lookIn;rw[hd];dsimp only;split
 ·rename_i y q;rw[q] at e;exact congrArg some e
 ·rename_i q;rw[q] at e;have a:es.toList.any (·.refKey)=false:=by
   rw[List.any_eq_false];intro y hy;obtain⟨z,t,hkey⟩:=hk y (Array.mem_toList_iff.mp hy);simp[DictEntry.refKey,hkey]
  have a':¬es.toList.any (·.refKey)=true:=by rw[a];exact Bool.false_ne_true
  rw[if_neg a'];exact congrArg some e
theorem RelO.some_of{v:V}{o:Option Value}(r:RelO (some v) o):∃u,o=some u/\RelV v u:=by
 cases o with
 |none=>exact (show False from r).elim
 |some u=>exact⟨u,rfl,r⟩
section
variable {X:Cx} {pins:List (Addr×Obj)} {σ:St} {H:Hp} {s:Shared} {a C dx:Addr} {fs:List (Str×V)} {f:Str} {v:V} {A:Around} {E:Value->Shared->Prop}
theorem qmqz{prog:Program}{w:World}{env:Env}{e:Expr}{f:Str}{pos:Pos}{s:Shared}{Q:Value->Shared->Prop}(hb:attributeBase e f env (eval e env)=eval e env)
  (h:wpAny (model prog w) A (eval e env) (fun o s₁=>wpAny (model prog w) A (getAttr o f true) Q E s₁) E s):wpAny (model prog w) A (eval (.Attribute e f pos) env) Q E s:=
 Attribute_any_ h (by rw[arm_eval_Attribute,hb])
end
end L2
namespace L2
open PySem PySem.Spec PyProof.Rows
structure Room(k:Nat)(A:Around):Prop where
 hd:A.handled=none
 dp:A.depth+3*k+5<recursionLimit
 un:A.units+16*k+200<cLine
theorem Room.mono{j k:Nat}{A:Around}(r:Room k A)(h:j≤k):Room j A:=⟨r.hd,by have:=r.dp;lia,by have:=r.un;lia⟩
theorem Room.deeper{k:Nat}{A:Around}(r:Room (k+1) A)(env:Env):Room k (A.deeper env):=
 ⟨r.hd,by have:=r.dp;show A.depth+1+3*k+5<_;lia,by have:=r.un;show A.units+3+16*k+200<_;lia⟩
theorem qmrz{A:Around}{C:Addr}{us:List Value}{kw:List (Str×Value)}:(A.under (.builtin "type.__call__" ⟨.ref C::us,kw⟩)).depth=A.depth+1:=by
 first|rfl|simp[Around.under,Code.weight,Code.isCreation,Code.isGuard,Code.isCaller,Code.frames,Code.isFrame,guardIds]
theorem Room.depth{k:Nat}{A:Around}(r:Room k A):A.depth<recursionLimit:=by have:=r.dp;lia
theorem Room.units{k:Nat}{A:Around}(r:Room k A):A.units+64<cLine:=by have:=r.un;lia
theorem Room.units0{k:Nat}{A:Around}(r:Room k A):A.units<cLine:=by have:=r.un;lia
def tNil:TA:=fun _ H Q=>Q [] H
def tCons(ta:TE)(tr:TA):TA:=fun σ H Q=>ta σ H fun x H1=>tr σ H1 fun xs H2=>Q (x::xs) H2
section
variable {X:Cx} {e:Expr} {es:List Expr} {te:TE} {t:TA} {pos:Pos}
theorem qdpz:PA X [] tNil:=fun _ _ _ _ H Q I h=>Calls.spliced_nil ⟨[],H,I,.nil,h⟩
theorem qbkz(ha:PE X e te)(hr:PA X es t)(hs:starEach (e::es) X.env=(false,eval e X.env)::starEach es X.env:=by rfl):PA X (e::es) (tCons te t):=by
 intro pos pins s σ H Q I h;rw[hs];show wpAny _ _ (spliced ((false,eval e X.env)::backTo pos (starEach es X.env))) _ _ s;refine Calls.spliced_cons (thn (ha pins s σ H _ I h) fun u s1 ⟨x,H1,I1,r1,q1⟩=>?_);exact thn (hr pos pins s1 σ H1 _ I1 q1) fun us s2 ⟨xs,H2,I2,r2,q2⟩=>⟨x::xs,H2,I2,.cons r1 r2,q2⟩
def tTup(t:TA):TE:=fun σ H Q=>t σ H fun xs H1=>xs.length≤sizeLine/\∀p,H1 p=none->Q (.ref p) (upd H1 p (.tup xs))
def tLst(t:TA):TE:=fun σ H Q=>t σ H fun xs H1=>xs.length≤sizeLine/\∀p,H1 p=none->Q (.ref p) (upd H1 p (.lst xs))
theorem qmsz{x1}(h:PA X es t):PE X (.Tuple es x1 pos) (tTup t):=by
 intro pins s σ H Q I hq;refine wpAny_Tuple_spliced (thn (h pos pins s σ H _ I hq) fun us s1 ⟨xs,H1,I1,r,z,q⟩=>⟨by rw[←r.length];exact z,?_⟩);have hf:H1 s1.heap.objs.size=none:=I1.hok.fresh (Nat.le_refl _);refine⟨.ref s1.heap.objs.size,upd H1 s1.heap.objs.size (.tup xs),I1.laid (t':=s1.toks) (fun b u e=>Heap.get?_push_of_some _ e) (Nat.le_refl _) ?_,rfl,q _ hf⟩;exact⟨z,us,r,⟨_,Heap.get?_push_size _ rfl,rfl,_,rfl⟩⟩
theorem qgyz(h:PA X es t):PE X (.List es pos) (tLst t):=by
 intro pins s σ H Q I hq;refine wpAny_List_spliced (thn (h pos pins s σ H _ I hq) fun us s1 ⟨xs,H1,I1,r,z,q⟩=>⟨by rw[←r.length];exact z,?_⟩);have hf:H1 s1.heap.objs.size=none:=I1.hok.fresh (Nat.le_refl _);refine⟨.ref s1.heap.objs.size,upd H1 s1.heap.objs.size (.lst xs),I1.laid (t':=s1.toks) (fun b u e=>Heap.get?_push_of_some _ e) (Nat.le_refl _) ?_,rfl,q _ hf⟩;exact⟨z,us,0,r,Heap.get?_push_size _ rfl⟩
end
abbrev Sp:=List V->Hp->VK->XK->Prop
abbrev CXT:=List Env->Hp->Shared->XK->Value->Shared->Prop
structure Env0(P:Program)(w:World)(K:PySem.W.Frag)(mg:Str->Option Value)(base:Heap)(A:Around)(outer:List Env)(s:Shared)(H:Hp):Prop where
 frames:A.frames=some outer
 mod:Mod K mg base
 bs:∀b o,base.get? b=some o->s.heap.get? b=some o/\H b=none
 bsz:base.objs.size≤s.heap.objs.size
 funs:s.heap.FunFrames base outer
 frf:∀b∈frs outer,H b=none
 hok:HOk P w H s.heap
 bare:AllBare s.gens
def CE(outer:List Env)(P:Program)(w:World)(H:Hp)(s:Shared)(Q:VK)(u:Value)(s':Shared):Prop:=
 ∃v H',s'.os=s.os/\AllBare s'.gens/\Un (frs outer) [] H H' s.heap s'.heap/\HOk P w H' s'.heap/\RelV v u/\Q v H'
def CR(CX:CXT)(outer:List Env)(P:Program)(w:World)(H:Hp)(s:Shared)(Q:VK)(E:XK)(r:Result)(s':Shared):Prop:=
 match r with
 |.ok (.ret u)=>CE outer P w H s Q u s'
 |.ok _=>False
 |.error e=>CX outer H s E e s'
structure FnOk(P:Program)(w:World)(K:PySem.W.Frag)(mg:Str->Option Value)(base:Heap)(CX:CXT)(k:Nat)(f:Addr)(fd:FuncData)(ps:List Str)(sp:Sp):Prop where
 len:∀vs H Q E,sp vs H Q E->vs.length=ps.length
 run:∀(A:Around) (outer:List Env) (s:Shared) (H:Hp) (args:Args) (us:List Value) (vs:List V) (Q:VK) (E:XK),Room k A->Env0 P w K mg base A outer s H->BindsTo s fd args (ps.zip us)->Vals vs us->sp vs H Q E ->
  codeAny (model P w) A (.call (.ref f) args) (CR CX outer P w H s Q E) s
theorem FnOk.mono{P:Program}{w:World}{K:PySem.W.Frag}{mg:Str->Option Value}{base:Heap}{CX:CXT}{j k:Nat}{f:Addr}{fd:FuncData}{ps:List Str}{sp:Sp}(F:FnOk P w K mg base CX j f fd ps sp)(h:j≤k):
  FnOk P w K mg base CX k f fd ps sp:=⟨F.len,fun A outer s H args us vs Q E hr=>F.run A outer s H args us vs Q E (hr.mono h)⟩
theorem FnOk.imp{P:Program}{w:World}{K:PySem.W.Frag}{mg:Str->Option Value}{base:Heap}{CX:CXT}{k:Nat}{f:Addr}{fd:FuncData}{ps:List Str}{sp sp':Sp}(F:FnOk P w K mg base CX k f fd ps sp)
  (h:∀vs H Q E,sp' vs H Q E->sp vs H Q E):FnOk P w K mg base CX k f fd ps sp':=
 ⟨fun vs H Q E q=>F.len vs H Q E (h _ _ _ _ q),fun A outer s H args us vs Q E hr he hb hv hs=>F.run A outer s H args us vs Q E hr he hb hv (h _ _ _ _ hs)⟩
section
variable {X:Cx} {pins:List (Addr×Obj)} {σ:St} {H:Hp} {s s':Shared}
theorem Inv.env0(I:Inv X pins σ H s):Env0 X.prog X.w X.K X.mg X.base X.A X.stack s H:=
 ⟨I.ok.frames,I.ok.mod,I.bs,Nat.le_trans I.ok.bsz I.sz,I.stack,I.stkFree,I.hok,I.bare⟩
theorem Inv.after{Q:VK}{u:Value}(I:Inv X pins σ H s)(h:CE X.stack X.prog X.w H s Q u s'):EP X pins σ Q u s':=by
 obtain⟨v,H',os,bare,un,hok,r,q⟩:=h;obtain⟨hh,g,d,t,os'⟩:=s';obtain rfl:os'=s.os:=os;exact⟨v,H',I.call (h':=hh) (g':=g) (d':=d) (t':=t) (ch:=[]) un hok bare (fun b z=>absurd z (by simp)),r,q⟩
end
def tCall(sp:Sp)(dvs:List V)(E:XK)(t:TA):TE:=fun σ H Q=>t σ H fun vs H1=>sp (vs++dvs) H1 Q E
def Binds(K:PySem.W.Frag)(fd:FuncData)(ps:List Str)(ds:List Value):Prop:=
 ∀(s:Shared) (us:List Value),K.In s.heap->(us++ds).length=ps.length->BindsTo s fd ⟨us,[]⟩ (ps.zip (us++ds))
theorem Binds.all{K:PySem.W.Frag}{fd:FuncData}{ps:List Str}(h:∀us:List Value,us.length=ps.length->bindArgs fd ⟨us,[]⟩=pure (ps.zip us)):Binds K fd ps []:=fun s us _ hl=>by
 rw[List.append_nil] at hl ⊢;exact .of_eq (h us hl)
def Passes(CX:CXT)(X:Cx)(E:XK):Prop:=∀(pins:List (Addr×Obj)) (σ:St) (H:Hp) (s:Shared) (e:Value) (s':Shared),Inv X pins σ H s->CX X.stack H s E e s'->X.xe e s'
section
variable {X:Cx} {CX:CXT} {k:Nat} {f C:Addr} {fd:FuncData} {ps:List Str} {sp:Sp} {dvs:List V} {ds:List Value} {E:XK} {x m:Str} {p pos apos:Pos} {e o:Expr} {es:List Expr} {ta:TE} {t:TA}
theorem qmtz{pins:List (Addr×Obj)}{σ:St}{H:Hp}{s:Shared}{Q:VK}{us:List Value}{vs:List V}(F:FnOk X.prog X.w X.K X.mg X.base CX k f fd ps sp)(hr:Room k X.A)(hb:Binds X.K fd ps ds)(hd:Vals dvs ds)(hx:Passes CX X E)
  (I:Inv X pins σ H s) (r:Vals vs us) (h:sp (vs++dvs) H Q E):wpAny (model X.prog X.w) X.A (call (.ref f) us) (EP X pins σ Q) X.xe s:=by
 have r2:Vals (vs++dvs) (us++ds):=r.append hd;have hl:(us++ds).length=ps.length:=by rw[←r2.length];exact F.len _ _ _ _ h
 refine wpAny_call (codeAny_mono (F.run X.A X.stack s H ⟨us,[]⟩ (us++ds) (vs++dvs) Q E hr I.env0 (hb s us I.kIn hl) r2 h) fun r s' hq=>?_);cases r with
 |error e=>exact hx pins σ H s e s' I hq
 |ok fl=>
  cases fl with
  |ret u=>exact I.after hq
  |next=>exact False.elim hq
  |brk=>exact False.elim hq
  |cont=>exact False.elim hq
theorem qmuz(F:FnOk X.prog X.w X.K X.mg X.base CX k f fd ps sp)(hr:Room k X.A)(hg:Gl X x)(hm:X.mg x=some (.ref f))(hk:PySem.W.keepIn X.K (.ref f)=true)(hb:Binds X.K fd ps ds)(hd:Vals dvs ds)(hx:Passes CX X E)
  (ha:PA X (e::es) t) (hdb:(x==("__debug__":Str))=false:=by decide) (he:starEach (e::es) X.env=(false,eval e X.env)::starEach es X.env:=by rfl) (hpl:(backTo pos (starEach es X.env)).any (·.1)=false:=by rfl):
  PE X (.Call (.Name x p) (e::es) [] pos) (tCall sp dvs E t):=by
 intro pins s σ H Q I h;refine wpAny_Call_Name_kw (qakz I hg hm ?_ hdb);refine PySem.W.callWith_K (h₀:=X.base) I.ok.mod.kin hk (thn (ha pos pins s σ H _ I h) fun us s1 ⟨vs,H1,I1,r,q⟩=>⟨I1.kIn,?_⟩) he hpl;exact qmtz F hr hb hd hx I1 r q
end
structure FnScope(N P:List Str)(sc:Scope):Prop where
 kind:sc.kind=.function
 co:sc.isCoroutine=false
 gen:sc.isGenerator=false
 nd:N.Nodup
 pre:N.take P.length=P
 par:∀x∈P,sc.names.lookup x=some .local∨sc.names.lookup x=some .cell
 nofree:∀y∈sc.names,y.2≠.free
theorem qgzz{kindOf:Str->Option NameKind}{x:Str}:∀{binds:List (Str×Value)} {m:Str->Option Value},(∀v,(x,v)∉binds)->bindL kindOf binds m x=m x
 |[],_,_=>rfl
 | (n,v)::r,m,h=>by
  unfold bindL;rw[qgzz fun w hw=>h w (List.mem_cons_of_mem _ hw)];split
  ·have:x≠n:=by rintro rfl;exact h v List.mem_cons_self
   simp[this]
  ·rfl
theorem qg0z{kindOf:Str->Option NameKind}{x:Str}:∀{binds:List (Str×Value)} {m:Str->Option Value},(∀v,(x,v)∉binds)->bindC kindOf binds m x=m x
 |[],_,_=>rfl
 | (n,v)::r,m,h=>by
  unfold bindC;rw[qg0z fun w hw=>h w (List.mem_cons_of_mem _ hw)];split
  ·rfl
  ·have:x≠n:=by rintro rfl;exact h v List.mem_cons_self
   simp[this]
theorem qdqz{kindOf:Str->Option NameKind}{x:Str}{v:Value}:∀{P:List Str} {vs:List Value} {i:Nat} {m:Str->Option Value},P.Nodup->P[i]?=some x->vs[i]?=some v->kindOf x=some .local ->
  bindL kindOf (P.zip vs) m x=some v
 |[],_,_,_,_,h,_,_=>by simp at h
 |_::_,[],_,_,_,_,h,_=>by simp at h
 |p::P,w::vs,0,m,nd,h1,h2,hk=>by
  simp at h1 h2;subst h1;subst h2;show bindL kindOf ((p,w)::P.zip vs) m p=_;unfold bindL;rw[qgzz fun v hv=>(List.nodup_cons.mp nd).1 (List.of_mem_zip hv).1,if_pos hk];simp
 |p::P,w::vs,i+1,m,nd,h1,h2,hk=>by
  show bindL kindOf ((p,w)::P.zip vs) m x=_;unfold bindL;exact qdqz (i:=i) (List.nodup_cons.mp nd).2 (by simpa using h1) (by simpa using h2) hk
theorem qg1z{kindOf:Str->Option NameKind}{x:Str}{v:Value}:∀{P:List Str} {vs:List Value} {i:Nat} {m:Str->Option Value},P.Nodup->P[i]?=some x->vs[i]?=some v->kindOf x≠some .local ->
  bindC kindOf (P.zip vs) m x=some v
 |[],_,_,_,_,h,_,_=>by simp at h
 |_::_,[],_,_,_,_,h,_=>by simp at h
 |p::P,w::vs,0,m,nd,h1,h2,hk=>by
  simp at h1 h2;subst h1;subst h2;show bindC kindOf ((p,w)::P.zip vs) m p=_;unfold bindC;rw[qg0z fun v hv=>(List.nodup_cons.mp nd).1 (List.of_mem_zip hv).1,if_neg hk];simp
 |p::P,w::vs,i+1,m,nd,h1,h2,hk=>by
  show bindC kindOf ((p,w)::P.zip vs) m x=_;unfold bindC;exact qg1z (i:=i) (List.nodup_cons.mp nd).2 (by simpa using h1) (by simpa using h2) hk
def start(N:List Str)(vs:List V):St:=vs.map some++List.replicate (N.length-vs.length) none
def cxOf(CX:CXT)(P:Program)(w:World)(K:PySem.W.Frag)(mg:Str->Option Value)(base:Heap)(N:List Str)(qual:Str)(scope:Scope)(f:Addr)(cd:Value)(A:Around)(outer:List Env)(s:Shared)(H:Hp)(E:XK):Cx where
 prog:=P
 w:=w
 K:=K
 mg:=mg
 base:=base
 A:=A.deeper (envOfC qual scope s.heap.objs.size f cd)
 N:=N
 s₀:=s
 H₀:=H
 env:=envOfC qual scope s.heap.objs.size f cd
 outer:=outer
 stack:=envOfC qual scope s.heap.objs.size f cd::outer
 ex:=[]
 calm:=true
 fn:=fun _=>true
 pn:=[]
 xe:=fun e s'=>wpAny (model P w) (A.deeper (envOfC qual scope s.heap.objs.size f cd)) (leaving (envOfC qual scope s.heap.objs.size f cd) e) (fun _ s''=>CX outer H s E e s'') (fun e' s''=>CX outer H s E e' s'') s'
theorem qg2z{sc:Scope}{n:Nat}{x:Str}(h:sc.names.lookup x=some .cell):∃c,(cellsFrom n sc.names []).lookup x=some c:=by
 have q:=PySem.W.cellsFrom_some sc.names n [] (.inl h);exact Option.isSome_iff_exists.mp q
theorem qevz{CX:CXT}{P:Program}{w:World}{K:PySem.W.Frag}{mg:Str->Option Value}{base:Heap}{N ps:List Str}{qual:Str}{scope:Scope}{f:Addr}{cd:Value}{A:Around}{outer:List Env}{s s1:Shared}{H:Hp}{E:XK}{us:List Value}{vs:List V}
  (S:FnScope N ps scope) (hd:A.handled=none) (e0:Env0 P w K mg base A outer s H) (hl:vs.length=ps.length) (r:Vals vs us)
  (x:InCallC s s.heap.objs.size (bindL (envOfC qual scope s.heap.objs.size f cd).kindOf (ps.zip us) fun _=>none) (cellsFrom (s.heap.objs.size+1) scope.names []) (bindC (envOfC qual scope s.heap.objs.size f cd).kindOf (ps.zip us) fun _=>none) s1):
  Inv (cxOf CX P w K mg base N qual scope f cd A outer s H E) [] (start N vs) H s1:=by
 have hpl:ps.length≤N.length:=by have:=congrArg List.length S.pre;rw[List.length_take] at this;lia
 obtain⟨h1,tk,rfl,hk⟩:=x.done;have noA:∀b:Addr,b∉(cxOf CX P w K mg base N qual scope f cd A outer s H E).ex:=fun b z=>absurd (show b∈([]:List Addr) from z) (by simp);refine⟨⟨e0.mod,S.kind,rfl,rfl,Nat.le_refl _,fun y z c h1 h2=>?_,fun y hy=>?_,fun y c _ h=>?_,fun _=>hd,Around.frames_deeper e0.frames,.inr ⟨rfl,rfl⟩,fun b z=>absurd z (noA b),e0.bs,e0.bsz,fun b _ _=>noA b,fun b z=>absurd z (noA b),e0.funs,e0.frf⟩,
  rfl,e0.bare,Un.kept hk,⟨_,x.toInCall.ns,fun i y v h1 h2 h3=>?_⟩,fun y c h=>⟨_,x.cell y c h⟩,e0.hok.fresh (Nat.le_refl _),fun y c h=>?_,fun p hp=>absurd (show p∈([]:List (Addr×Obj)) from hp) (by simp),e0.hok.kept hk,?_⟩
 ·exact name_of_addr x.apart (PySem.mem_of_lookup h1) (PySem.mem_of_lookup h2)
 ·have hy:scope.names.lookup y=some .cell∨scope.names.lookup y=some .free:=hy;rcases hy with hy|hy
  ·exact qg2z hy
  ·exact absurd rfl (S.nofree _ (PySem.mem_of_lookup hy))
 ·exact Nat.le_of_lt (x.above y c (PySem.mem_of_lookup h))
 ·have hi:i<vs.length:=by
   unfold start at h2;by_cases hi:i<vs.length
   ·exact hi
   ·rw[List.getElem?_append_right (by simpa using hi)] at h2;rw[List.getElem?_replicate] at h2;split at h2<;>cases h2
  have ha:vs[i]?=some v:=by
   unfold start at h2;rw[List.getElem?_append_left (by simpa using hi),List.getElem?_map] at h2;cases e:vs[i]? with
   |none=>rw[e] at h2;cases h2
   |some a=>rw[e] at h2;cases h2;rfl
  obtain⟨u,hu,rv⟩:=r.get ha;have hp:ps[i]?=some y:=by
   rw[←S.pre,List.getElem?_take_of_lt (by lia)];exact h1
  have ndP:ps.Nodup:=by rw[←S.pre];exact S.nd.sublist (List.take_sublist _ _)
  refine⟨u,rv,?_⟩;rcases S.par y (List.mem_of_getElem? hp) with k|k
  ·exact .inl ⟨k,qdqz ndP hp hu k⟩
  ·obtain⟨c,e⟩:=qg2z (n:=s.heap.objs.size+1) k;refine .inr ⟨.inl k,c,e,?_⟩;have q:=x.cell y c e;rw[qg1z ndP hp hu (by show scope.names.lookup y≠_;rw[k];decide)] at q;exact q
 ·exact e0.hok.fresh (Nat.le_of_lt (x.above y c (PySem.mem_of_lookup h)))
 ·unfold start;show _=N.length;rw[List.length_append,List.length_map,List.length_replicate];lia
theorem qg3z{CX:CXT}{P:Program}{w:World}{K:PySem.W.Frag}{mg:Str->Option Value}{base:Heap}{k:Nat}{f:Addr}{name qual:Str}{params:Arguments}{body:List Stmt}{scope:Scope}{dV kV doc pm cdv ct oc:Value}{an od:Option Addr}
  {osl:Array (Option Value)} {N ps:List Str} {sp:Sp} (lk:K.lookup f=some ⟨oc,od,.func (PySem.W.fnOf name qual params body scope dV kV doc pm an cdv ct),osl⟩) (hcd:PySem.W.codeIn K cdv qual=true) (S:FnScope N ps scope)
  (len:∀vs H Q E,sp vs H Q E->vs.length=ps.length)
  (hbody:∀(A:Around) (outer:List Env) (s:Shared) (H:Hp) (vs:List V) (Q:VK) (E:XK),Room k (A.deeper (envOfC qual scope s.heap.objs.size f cdv))->sp vs H Q E ->
   ∃t,PSs (cxOf CX P w K mg base N qual scope f cdv A outer s H E) body t/\t { nx:=fun _ H'=>Q .non H',rt:=Q } (start N vs) H):
  FnOk P w K mg base CX (k+1) f (PySem.W.fnOf name qual params body scope dV kV doc pm an cdv ct) ps sp:=by
 refine⟨len,fun A outer s H args us vs Q E hr e0 hb r hsp=>?_⟩;have hl:=len _ _ _ _ hsp;have KX:K.In s.heap:=e0.mod.kin.keeps fun b o e=>(e0.bs b o e).1;have lim:s.heap.NoLimit:=e0.mod.nolimit.keeps fun b o e=>(e0.bs b o e).1;have hkind:∀y∈ps.zip us,scope.names.lookup y.1=some .local∨(scope.names.lookup y.1=some .cell/\((cellsFrom (s.heap.objs.size+1) scope.names []).lookup y.1).isSome=true):=fun⟨n,v⟩ hy=>by
  rcases S.par n (List.of_mem_zip hy).1 with q|q
  ·exact .inl q
  ·exact .inr ⟨q,PySem.W.cellsFrom_some _ _ _ (.inl q)⟩
 refine codeAny_call_function hr.depth (KX _ _ lk) rfl S.co S.gen rfl (PySem.W.codeRec_of KX hcd) (hb _ _ _ _ ?_);refine wpAny_newFunctionEnv_cells S.kind hkind fun env he s1 x=>?_;subst he;refine⟨lim.keeps x.toInCall.keep,codeAny_func ?_⟩;obtain⟨t,ht,hq⟩:=hbody A outer s H vs Q E (hr.deeper _) hsp;have I:Inv (cxOf CX P w K mg base N qual scope f cdv A outer s H E) [] (start N vs) H s1:=qevz S hr.hd e0 hl r x;refine wpAny_mono (ht [] s1 (start N vs) H _ I hq) (fun fl s' hs=>?_) fun e s' hs=>hs;have fin:∀{σ':St} {H':Hp} {v:V} {u:Value},Inv (cxOf CX P w K mg base N qual scope f cdv A outer s H E) [] σ' H' s'->RelV v u->Q v H'->CE outer P w H s Q u s':=
  fun {σ' H' v u} J rv q=>⟨v,H',J.os,J.bare,J.base,J.hok,rv,q⟩
 cases fl with
 |ret u=>
  obtain⟨v,σ',H',J,rv,q⟩:=hs;exact fin J rv q
 |next=>
  obtain⟨σ',H',J,q⟩:=hs;exact fin (v:=V.non) (u:=Value.none) J rfl q
 |brk=>
  obtain⟨_,_,_,q⟩:=hs;exact False.elim q
 |cont=>
  obtain⟨_,_,_,q⟩:=hs;exact False.elim q
end L2
namespace L2
open PySem PySem.Spec PyProof.Rows
section
variable {X:Cx} {x:Str} {p pos:Pos} {e:Expr} {es:List Expr} {t:TA} {id T:String} {r:List V->Hp->VK->Prop}
def tCB(r:List V->Hp->VK->Prop)(t:TA):TE:=fun σ H Q=>t σ H fun vs H1=>r vs H1 Q
theorem qbyz(hc:CallR X (.builtin id) r)(hg:Gl X x)(hm:X.mg x=none)(hv:bootBuiltins x=some (.builtin id))(ha:PA X (e::es) t)(hn:x≠"__name__":=by decide)(hdb:(x==("__debug__":Str))=false:=by decide)
  (he:starEach (e::es) X.env=(false,eval e X.env)::starEach es X.env:=by rfl) (hpl:(backTo pos (starEach es X.env)).any (·.1)=false:=by rfl):PE X (.Call (.Name x p) (e::es) [] pos) (tCB r t):=by
 intro pins s σ H Q I h;refine wpAny_Call_Name_kw (qazz I hg hm hv ?_ hn hdb);exact PyProof.Rows.callWith_builtin1 (thn (ha pos pins s σ H _ I h) fun us s1 ⟨vs,H1,I1,r1,q1⟩=>hc pins s1 σ H1 vs us Q I1 r1 q1) he hpl
theorem qewz(hc:CallR X (.type T) r)(hg:Gl X x)(hm:X.mg x=none)(hv:bootBuiltins x=some (.type T))(ha:PA X (e::es) t)(hn:x≠"__name__":=by decide)(hdb:(x==("__debug__":Str))=false:=by decide)
  (he:starEach (e::es) X.env=(false,eval e X.env)::starEach es X.env:=by rfl) (hpl:(backTo pos (starEach es X.env)).any (·.1)=false:=by rfl):PE X (.Call (.Name x p) (e::es) [] pos) (tCB r t):=by
 intro pins s σ H Q I h;refine wpAny_Call_Name_kw (qazz I hg hm hv ?_ hn hdb);exact PyProof.Rows.callWith_type1 (thn (ha pos pins s σ H _ I h) fun us s1 ⟨vs,H1,I1,r1,q1⟩=>hc pins s1 σ H1 vs us Q I1 r1 q1) he hpl
end
end L2
namespace HT
open PySem PyProof.Rows
def lexLt:List Int->List Int->Bool
 |[],[]=>false
 |[],_::_=>true
 |_::_,[]=>false
 |x::xs,y::ys=>if x=y then lexLt xs ys else decide (x<y)
theorem qmvz(x y:Int)(xs ys:List Int):lexLt (x::xs) (y::ys)=if x=y then lexLt xs ys else decide (x<y):=rfl
theorem qmwz:lexLt [] []=false:=rfl
theorem qmxz(y:Int)(ys:List Int):lexLt [] (y::ys)=true:=rfl
theorem qmyz(x:Int)(xs:List Int):lexLt (x::xs) []=false:=rfl
theorem qmzz(A:Around)(s:Shared)(a:Int)(t:Tok)(c:Int)(u:Tok):∃e,SeqAt.EqAt A s (.int a t) (.int c u) e/\(e=true↔a=c):=
 ⟨(a==c),SeqAt.EqAt.int_int a t c u,by simp⟩
theorem qm0z(A:Around)(s:Shared)(a:Int)(t:Tok)(c:Int)(u:Tok)(prog:Program)(w:World)(E:Value->Shared->Prop)(Q:Value->Shared->Prop)(h:Q (.bool (decide (a<c))) s):
  wpAny (model prog w) A (richCompare .Lt (.int a t) (.int c u)) Q E s:=
 (PyProof.Rows.lt_int h:wpAny (model prog w) A (compareOp .Lt (.int a t) (.int c u)) Q E s)
section
open PySem.SeqAt
open PySem.AutoSeq1 (wpAny_loadPart')
open PySem.MeetsSeq PySem.MeetsSeq2 PySem.MeetsSeq3
theorem qm1z(l b:Addr)(items items2:Array Value)(n n2:Nat)(dd dd2:Option Addr)(sl sl2:Array (Option Value))(ns ms:List Int)(hi:IntsAre items.toList ns)(hj:IntsAre items2.toList ms):
  Meets (Builtin.«tuple.__lt__» ⟨[.ref l,.ref b],[]⟩)
   (fun _ R s=>s.heap.get? l=some { cls:=.type "tuple",dict:=dd,data:=.seq items n,slots:=sl }/\s.heap.get? b=some { cls:=.type "tuple",dict:=dd2,data:=.seq items2 n2,slots:=sl2 } ∧
    R (.ok (.ret (.bool (lexLt ns ms)))) s):=
 .of_wp fun prog w A R s h=>by
  obtain⟨hp,g,d,tk,os⟩:=s;obtain⟨hl,hb,h⟩:=h;have f2:=AutoSeq1.sub_tuple_tuple;have z1:items.size=ns.length:=by rw[←hi.length];simp
  have z2:items2.size=ms.length:=by rw[←hj.length];simp
  wp_walk using wpAny_loadPart' hl,wpAny_loadPart' hb,wpAny_forIn_list _ (fun rest b s'=>b.1=none/\s'=⟨hp,g,d,tk,os⟩/\∃(vs ws:List Value) (ns' ms':List Int),rest=vs.zip ws ∧
   IntsAre vs ns'/\IntsAre ws ms'/\ns'.length+items2.size=ms'.length+items.size/\R (.ok (.ret (.bool (lexLt ns' ms')))) ⟨hp,g,d,tk,os⟩) _
  case turn=>
   rintro⟨y,x⟩ rest b s' ⟨hb',rfl,vs,ws,ns',ms',hz,hvi,hwi,hlen,hR⟩;cases hvi with
   |nil=>rw[List.zip_nil_left] at hz;cases hz
   |cons a t hvi'=>
    cases hwi with
    |nil=>rw[List.zip_nil_right] at hz;cases hz
    |cons c u hwi'=>
     rw[List.zip_cons_cons] at hz;injection hz with hyx hrest;injection hyx with hy hx;subst hy hx;rw[qmvz] at hR;simp only[List.length_cons] at hlen;obtain⟨e,he,hiff⟩:=qmzz A.in1 ⟨hp,g,d,tk,os⟩ a t c u;refine wpAny_bind (he prog w _ _ ?_);cases e with
     |true=>
      rw[if_pos (hiff.mp rfl)] at hR;wp_walk;exact⟨rfl,rfl,_,_,_,_,hrest,hvi',hwi',by lia,hR⟩
     |false=>
      rw[if_neg (fun q=>absurd (hiff.mpr q) Bool.false_ne_true)] at hR;have hri:=qm0z A.in1 ⟨hp,g,d,tk,os⟩ a t c u prog w;wp_walk using hri;exact⟨_,rfl,by simpa using hR⟩
  case fin=>
   rintro⟨b1,b2⟩ s' ⟨hb',rfl,vs,ws,ns',ms',hz,hvi,hwi,hlen,hR⟩;simp only at hb';subst hb';have hv:lexLt ns' ms'=decide (items.size<items2.size):=by
    cases hvi with
    |nil=>
     cases hwi with
     |nil=>
      simp only[List.length_nil] at hlen;rw[qmwz];exact (decide_eq_false (by lia)).symm
     |cons c u hw=>
      simp only[List.length_nil,List.length_cons] at hlen;rw[qmxz];exact (decide_eq_true (by lia)).symm
    |cons a t hv=>
     cases hwi with
     |nil=>
      simp only[List.length_nil,List.length_cons] at hlen;rw[qmyz];exact (decide_eq_false (by lia)).symm
     |cons c u hw=>
      rw[List.zip_cons_cons] at hz;cases hz
   rw[hv] at hR;wp_walk;exact⟨_,rfl,by simpa [Builtin.Tuple.tupleCompareSizes] using hR⟩
  case h=>
   exact⟨rfl,rfl,items.toList,items2.toList,ns,ms,rfl,hi,hj,by lia,h⟩
end
section
variable {prog:Program} {w:World} {A:Around} {E:Value->Shared->Prop} {s:Shared}
theorem lt_tupInts{l b:Addr}{items items2:Array Value}{ns ms:List Int}{Q:Value->Shared->Prop}(hl:IsTup s.heap l items)(hb:IsTup s.heap b items2)(hi:IntsAre items.toList ns)(hj:IntsAre items2.toList ms)
  (hu:A.units<cLine) (h:Q (.bool (lexLt ns ms)) s):wpAny (model prog w) A (compareOp .Lt (.ref l) (.ref b)) Q E s:=by
 obtain⟨⟨cls,dd,data,sl⟩,ho,hc,n,hd⟩:=id hl;obtain⟨⟨cls2,dd2,data2,sl2⟩,ho2,hc2,n2,hd2⟩:=id hb;simp only at hc hd hc2 hd2;subst hc hd hc2 hd2;exact richCompare_meets_room (op:=.Lt) ⟨_,ho,rfl⟩ ⟨_,ho2,rfl⟩ PySem.F.slot_tuple_lt PySem.F.entry_tuple_lt (PySem.F.args_tuple_lt_2 _ _) (qm1z l b items items2 n n2 dd dd2 sl sl2 ns ms hi hj)
  ⟨ho,ho2,show Value.bool (lexLt ns ms)≠Value.notImplemented/\Q (.bool (lexLt ns ms)) s from⟨(fun x=>nomatch x),h⟩⟩ hu
theorem cat_tup{t b:Addr}{vs ws:List Value}{Q:Value->Shared->Prop}(ht:IsTup s.heap t vs.toArray)(hb:IsTup s.heap b ws.toArray)(hv:vs≠[])
  (h1:ws=[]->Q (.ref t) s) (h2:ws≠[]->Q (.ref s.heap.objs.size) { s with heap:=s.heap.push { cls:=.type "tuple",data:=.seq (vs++ws).toArray }})
  (hsz:vs.length+ws.length≤sizeLine):wpAny (model prog w) A (binaryOp .Add (.ref t) (.ref b)) Q E s:=by
 obtain⟨⟨cls,dd,data,sl⟩,ho,hc,n,hd⟩:=id ht;obtain⟨⟨cls2,dd2,data2,sl2⟩,ho2,hc2,n2,hd2⟩:=id hb;simp only at hc hd hc2 hd2;subst hc hd hc2 hd2;have e:vs.toArray++ws.toArray=(vs++ws).toArray:=by simp
 by_cases hw:ws=[]
 ·exact concat_meets ⟨_,ho,rfl⟩ ⟨_,ho2,rfl⟩ noFill_tuple_add seq_tuple_add PySem.F.slot_tuple_add PySem.F.entry_tuple_add (PySem.F.args_tuple_add_2 _ _)
   (tuple_addW1 t b vs.toArray ws.toArray n n2 dd dd2 sl sl2 (by simpa using hv) (by simp[hw])) ⟨ho,ho2,h1 hw⟩
 ·refine concat_meets ⟨_,ho,rfl⟩ ⟨_,ho2,rfl⟩ noFill_tuple_add seq_tuple_add PySem.F.slot_tuple_add PySem.F.entry_tuple_add (PySem.F.args_tuple_add_2 _ _)
   (tuple_addW2 t b vs.toArray ws.toArray n n2 dd dd2 sl sl2 (by simpa using hv) (by simpa using hw) (by rw[List.size_toArray,List.size_toArray];exact hsz)) ⟨ho,ho2,?_⟩
  rw[e];exact h2 hw
def sIx(n d:Nat):Option Int->Nat
 |none=>d
 |some v=>if v<0 then (v+(n:Int)).toNat else min v.toNat n
theorem sIx_none(n d:Nat):sIx n d none=d:=rfl
theorem sIx_nat(n d k:Nat):sIx n d (some (k:Int))=min k n:=by
 show (if (k:Int)<0 then ((k:Int)+(n:Int)).toNat else min (k:Int).toNat n)=min k n;rw[if_neg (by lia),Int.toNat_natCast]
theorem qm2z(n d:Nat)(hd:d≤n)(o:Option Int):sIx n d o≤n:=by
 cases o with
 |none=>exact hd
 |some v=>
  show (if v<0 then (v+(n:Int)).toNat else min v.toNat n)≤n;by_cases hv:v<0
  ·rw[if_pos hv];lia
  ·rw[if_neg hv];exact Nat.min_le_right _ _
theorem qg4z(v:Int)(n d:Nat):(if v<0 then max (v+(n:Int)) 0 else min v (n:Int))=((sIx n d (some v):Nat):Int):=by
 show (if v<0 then max (v+(n:Int)) 0 else min v (n:Int))=(((if v<0 then (v+(n:Int)).toNat else min v.toNat n):Nat):Int);by_cases hv:v<0
 ·simp only[if_pos hv];lia
 ·simp only[if_neg hv];lia
theorem qm3z(lo hi:Option Int)(n:Nat):Builtin.Slice.sliceAdjust lo hi 1 (n:Int)=(((sIx n 0 lo:Nat):Int),((sIx n n hi:Nat):Int)):=by
 have h1:¬((1:Int)<0):=by lia
 unfold Builtin.Slice.sliceAdjust;simp only[h1,if_false];refine Prod.ext ?_ ?_
 ·cases lo with
  |none=>rfl
  |some v=>exact qg4z v n 0
 ·cases hi with
  |none=>rfl
  |some v=>exact qg4z v n n
theorem qm4z(i j:Nat):Builtin.Slice.slicePlaces (i:Int) (j:Int) 1=j-i:=by
 unfold Builtin.Slice.slicePlaces;have h1:(1:Int) > 0:=by lia
 simp only[h1,if_true,Int.ediv_one];split<;>lia
theorem qg5z{v:Value}{o:Option Int}{Q:Option Int->Shared->Prop}(p:IsPart v o)(h:Q o s):wpAny (model prog w) A (Builtin.Slice.slicePartIndex v) Q E s:=by
 cases p with
 |none=>exact slicePart_none h
 |int i t=>exact slicePart_int h
theorem sliceApplied_gen{sl:Addr}{vl vu:Value}{lo hi:Option Int}{n:Nat}{Q:Int×Int×Nat->Shared->Prop}(hs:s.heap.IsSliceOf sl vl vu .none)(pl:IsPart vl lo)(pu:IsPart vu hi)
  (h:Q (((sIx n 0 lo:Nat):Int),1,sIx n n hi-sIx n 0 lo) s):wpAny (model prog w) A (Builtin.Slice.sliceApplied (.ref sl) (pure (n:Int))) Q E s:=by
 obtain⟨os,hos,hcs,hds⟩:=id hs;unfold Builtin.Slice.sliceApplied Builtin.Slice.sliceFields;refine wpAny_bind (wpAny_bind (wpAny_field hos hds (x:=vl) rfl (wpAny_bind (wpAny_field hos hds (x:=vu) rfl (wpAny_bind (wpAny_field hos hds (x:=.none) rfl (wpAny_pure ?_)))))));refine wpAny_bind (slicePart_none ?_);show wpAny _ _ (if ((1:Int)==0)=true then _ else _) _ _ s;rw[if_neg (by decide)];refine wpAny_bind (qg5z pl (wpAny_bind (qg5z pu (wpAny_bind (wpAny_pure ?_)))));show wpAny _ _ (match Builtin.Slice.sliceAdjust lo hi 1 (n:Int) with|(lo,hi)=>pure (lo,(1:Int),Builtin.Slice.slicePlaces lo hi 1)) _ _ s
 rw[qm3z lo hi n];show wpAny _ _ (pure (((sIx n 0 lo:Nat):Int),(1:Int),Builtin.Slice.slicePlaces ((sIx n 0 lo:Nat):Int) ((sIx n n hi:Nat):Int) 1)) _ _ s;rw[qm4z];exact wpAny_pure h
theorem qm5z(xs:Array Value)(i k:Nat):((List.range k).filterMap fun (m:Nat)=>xs[((i:Int)+(m:Int)*1).toNat]?).toArray=((xs.toList.drop i).take k).toArray:=by
 have e:(fun (m:Nat)=>xs[((i:Int)+(m:Int)*1).toNat]?)=fun m=>xs[i+m]?:=by
  funext m;have:((i:Int)+(m:Int)*1).toNat=i+m:=by lia
  rw[this]
 rw[e];have:=pick_run xs i k;rw[List.filterMap_map] at this;have e2:((fun x=>xs[x]?) ∘ fun x=>i+x)=fun m=>xs[i+m]?:=rfl;rw[e2] at this;rw[this]
theorem getItem_tuple_cut{t sl:Addr}{items:Array Value}{vl vu:Value}{lo hi:Option Int}{Q:Value->Shared->Prop}(ht:IsTup s.heap t items)(hs:s.heap.IsSliceOf sl vl vu .none)(pl:IsPart vl lo)(pu:IsPart vu hi)
  (hw:¬(sIx items.size 0 lo=0/\sIx items.size items.size hi=items.size))
  (h:Q (.ref s.heap.objs.size) { s with heap:=s.heap.push { cls:=.type "tuple",data:=.seq ((items.toList.drop (sIx items.size 0 lo)).take (sIx items.size items.size hi-sIx items.size 0 lo)).toArray }})
  (hsz:items.size≤sizeLine):wpAny (model prog w) A (getItem (.ref t) (.ref sl)) Q E s:=by
 have htake:sizeOk (.seq ((items.toList.drop (sIx items.size 0 lo)).take (sIx items.size items.size hi-sIx items.size 0 lo)).toArray):=by
  show ((items.toList.drop (sIx items.size 0 lo)).take (sIx items.size items.size hi-sIx items.size 0 lo)).toArray.size≤sizeLine;rw[List.size_toArray,List.length_take,List.length_drop,Array.length_toList];lia
 have hj:sIx items.size items.size hi≤items.size:=qm2z _ _ (Nat.le_refl _) hi;obtain⟨os,hos,hcs,hds⟩:=id hs;have hTs:s.TypeIs (.ref sl) "slice":=⟨os,hos,hcs⟩;unfold getItem
 try with_reducible refine wpAny_holding ?_
 first|refine wpAny_bind (wpAny_pure ?_)|skip
 refine wpAny_bind (wpAny_sequenceKey ht.typeIs (by decide) ?_);refine wpAny_bind (wpAny_callSpecial?_slot (name:=Str.ofString "__getitem__") ht.typeIs PyProof.Rows.slot_tuple_getitem
  (wpAny_call_entry PyProof.Rows.slot_tuple_getitem ht.typeIs entry_tuple_getitem ?_ (args_tuple_getitem _ _)))
 show wpAny _ _ (Builtin.Tuple.tupleItemsOf (.ref t) >>= _) _ _ s;refine wpAny_bind (tupleItemsOf_ ht ?_);refine wpAny_bind (wpAny_typeOf hTs ?_);rw[if_pos (by decide)];refine wpAny_bind (sliceApplied_gen hs pl pu ?_);have hno:¬((((sIx items.size 0 lo:Nat):Int)==0&&(1:Int)==1&&(sIx items.size items.size hi-sIx items.size 0 lo)==items.size)=true):=by
  intro q;rw[Bool.and_eq_true,Bool.and_eq_true] at q;have q1:((sIx items.size 0 lo:Nat):Int)=0:=eq_of_beq q.1.1;have q2:sIx items.size items.size hi-sIx items.size 0 lo=items.size:=eq_of_beq q.2;exact hw ⟨by lia,by lia⟩
 show wpAny _ _ (if (((sIx items.size 0 lo:Nat):Int)==0&&(1:Int)==1&&(sIx items.size items.size hi-sIx items.size 0 lo)==items.size)=true then _ else _) _ _ s;rw[if_neg hno,qm5z]
 first
  |exact wpAny_bind (m:=Builtin.Tuple.tupleExact _) (wpAny_newObj_type (wpAny_pure ⟨_,rfl,wpAny_pure h⟩) htake)
  |exact wpAny_bind (m:=Builtin.Tuple.tupleExact _) (wpAny_newObj_type (wpAny_bind (wpAny_pure (wpAny_pure ⟨_,rfl,wpAny_pure h⟩))) htake)
  |exact wpAny_bind (wpAny_bind (m:=Builtin.Tuple.tupleExact _) (wpAny_newObj_type (wpAny_pure (wpAny_pure ⟨_,rfl,wpAny_pure h⟩)) htake))
  |exact wpAny_bind (wpAny_bind (m:=Builtin.Tuple.tupleExact _) (wpAny_newObj_type (wpAny_pure ⟨_,rfl,wpAny_pure h⟩) htake))
end
end HT
namespace L2
open PySem PySem.Spec PyProof.Rows
abbrev TO:=St->Hp->(Option Int->Hp->Prop)->Prop
def PO(X:Cx)(e:Option Expr)(t:TO):Prop:=
 ∀(pins:List (Addr×Obj)) (s:Shared) (σ:St) (H:Hp) (Q:Option Int->Hp->Prop),Inv X pins σ H s->t σ H Q ->
  wpAny (model X.prog X.w) X.A (evalPart e X.env) (fun u s'=>∃o H',Inv X pins σ H' s'/\IsPart u o/\Q o H') X.xe s
def tNoPart:TO:=fun _ H Q=>Q none H
def tPart(t:TE):TO:=fun σ H Q=>t σ H fun x H1=>∃i,x=.int i/\Q (some i) H1
theorem intsAre_of{ns:List Int}:∀{us:List Value},Vals (ns.map V.int) us->IntsAre us ns:=by
 induction ns with
 |nil=>intro us r;rw[List.map_nil] at r;cases r;exact .nil
 |cons n ns ih=>
  intro us r;rw[List.map_cons] at r;cases r with
  |cons r1 r2=>
   obtain⟨t,e⟩:=r1;subst e;exact .cons n t (ih r2)
section
variable {X:Cx} {e:Expr} {te:TE} {lo hi:Option Expr} {tl th:TO} {pos p2:Pos}
theorem qm6z:PO X none tNoPart:=by
 intro pins s σ H Q I h;rw[evalPart_none];exact wpAny_pure ⟨none,H,I,.none,h⟩
theorem qm7z(h:PE X e te):PO X (some e) (tPart te):=by
 intro pins s σ H Q I hw;rw[evalPart_some];refine thn (h pins s σ H _ I hw) fun u s1 ⟨x,H1,I1,r1,q1⟩=>?_;obtain⟨i,rfl,q⟩:=q1;obtain⟨t,rfl⟩:=r1;exact⟨some i,H1,I1,.int i t,q⟩
def SlR(X:Cx)(r:V->Option Int->Option Int->Hp->VK->Prop):Prop:=
 ∀(pins:List (Addr×Obj)) (s:Shared) (σ:St) (H:Hp) (x:V) (v vl vu:Value) (lo hi:Option Int) (sl:Addr) (Q:VK),Inv X pins σ H s->RelV x v->s.heap.IsSliceOf sl vl vu .none->IsPart vl lo->IsPart vu hi->r x lo hi H Q ->
  ∃T id,typeLookup (.type T) "__getitem__" = pure (some (.builtin id))/\s.TypeIs v T/\wpAny (model X.prog X.w) X.A (getItem v (.ref sl)) (EP X pins σ Q) X.xe s
theorem SlR.or{r r':V->Option Int->Option Int->Hp->VK->Prop}(h:SlR X r)(h':SlR X r'):SlR X (fun x lo hi H Q=>r x lo hi H Q∨r' x lo hi H Q):=by
 intro pins s σ H x v vl vu lo hi sl Q I rx hs pl pu q;rcases q with q|q
 ·exact h pins s σ H x v vl vu lo hi sl Q I rx hs pl pu q
 ·exact h' pins s σ H x v vl vu lo hi sl Q I rx hs pl pu q
def tSl(r:V->Option Int->Option Int->Hp->VK->Prop)(te:TE)(tl th:TO):TE:=fun σ H Q=>te σ H fun x H1=>tl σ H1 fun l H2=>th σ H2 fun u H3=>r x l u H3 Q
theorem qm8z{r:V->Option Int->Option Int->Hp->VK->Prop}(hr:SlR X r)(he:PE X e te)(hl:PO X lo tl)(hu:PO X hi th):PE X (.Subscript e (.Slice lo hi none p2) pos) (tSl r te tl th):=by
 intro pins s σ H Q I h;refine Subscript_ (thn (he pins s σ H _ I h) fun v s1 ⟨x,H1,I1,r1,q1⟩=>?_);refine wpAny_Slice (thn (hl pins s1 σ H1 _ I1 q1) fun vl s2 ⟨l,H2,I2,pl,q2⟩=>thn (hu pins s2 σ H2 _ I2 q2) fun vu s3 ⟨u,H3,I3,pu,q3⟩=>?_);rw[evalPart_none];refine wpAny_pure ?_;have I4:Inv X pins σ H3 { s3 with heap:=s3.heap.push { cls:=.type "slice",data:=.fields #[vl,vu,.none]}}:=I3.kept (t':=s3.toks) fun b ob q=>Heap.get?_push_of_some _ q;obtain⟨T,id,hT,ht,hg⟩:=hr pins { s3 with heap:=s3.heap.push { cls:=.type "slice",data:=.fields #[vl,vu,.none]}} σ H3 x v vl vu l u s3.heap.objs.size Q I4 r1 (Heap.IsSliceOf.new ..) pl pu q3;show wpAny (model X.prog X.w) X.A (subscriptTail e (.Slice lo hi none p2) v (.ref s3.heap.objs.size)) (EP X pins σ Q) X.xe { s3 with heap:=s3.heap.push { cls:=.type "slice",data:=.fields #[vl,vu,.none]}};exact tail_any (ops:=[.ref s3.heap.objs.size,v]) ht hT hg (by with_unfolding_all rfl)
def cutV(xs:List V)(lo hi:Option Int):List V:=(xs.drop (HT.sIx xs.length 0 lo)).take (HT.sIx xs.length xs.length hi-HT.sIx xs.length 0 lo)
theorem qg6z(xs:List V)(lo hi:Option Int):(cutV xs lo hi).length≤xs.length:=by
 unfold cutV;rw[List.length_take,List.length_drop];lia
def rSlT(K:PySem.W.Frag):V->Option Int->Option Int->Hp->VK->Prop:=fun x lo hi H Q=>∃a xs,x=.ref a/\SqT K H a xs ∧
 ¬(HT.sIx xs.length 0 lo=0/\HT.sIx xs.length xs.length hi=xs.length)/\∀p,H p=none->Q (.ref p) (upd H p (.tup (cutV xs lo hi)))
theorem sl_tup:SlR X (rSlT X.K):=by
 intro pins s σ H x v vl vu lo hi sl Q I rx hs pl pu h;obtain⟨a,xs,rfl,hx,hw,q⟩:=h;cases rx;obtain⟨its,r,ht,hz⟩:=I.tuple hx;have hlen:its.toArray.size=xs.length:=by rw[List.size_toArray];exact r.length.symm
 refine⟨"tuple",_,PyProof.Rows.slot_tuple_getitem.lookup,ht.typeIs,?_⟩;refine HT.getItem_tuple_cut ht hs pl pu (by rw[hlen];exact hw) ?_ (by rw[hlen];exact hz);rw[hlen];refine⟨.ref s.heap.objs.size,_,I.laid (t':=s.toks) (o:=.tup (cutV xs lo hi)) (fun b ob q=>Heap.get?_push_of_some _ q) (Nat.le_refl _) ?_,rfl,q _ (I.hok.fresh (Nat.le_refl _))⟩;exact⟨Nat.le_trans (qg6z xs lo hi) hz,_,(r.drop (HT.sIx xs.length 0 lo)).take (HT.sIx xs.length xs.length hi-HT.sIx xs.length 0 lo),IsTup.new _ _⟩
def rLtT(K:PySem.W.Frag):R2:=fun x y H Q=>∃a b ns ms,x=.ref a/\y=.ref b/\SqT K H a (ns.map V.int)/\SqT K H b (ms.map V.int)/\Q (.bl (HT.lexLt ns ms)) H
theorem qm9z(hu:X.A.units<cLine):OpR X (compareOp .Lt) (rLtT X.K):=by
 intro pins s σ H x y v u Q I rx ry h;obtain⟨a,b,ns,ms,rfl,rfl,ha,hb,q⟩:=h;cases rx;cases ry;obtain⟨its,r1,p1,_⟩:=I.tuple ha;obtain⟨its2,r2,p2,_⟩:=I.tuple hb;have i1:IntsAre its.toArray.toList ns:=intsAre_of r1;have i2:IntsAre its2.toArray.toList ms:=intsAre_of r2;exact HT.lt_tupInts p1 p2 i1 i2 hu ⟨.bl (HT.lexLt ns ms),H,I,rfl,q⟩
def rCatT(K:PySem.W.Frag):R2:=fun x y H Q=>∃a b xs ys,x=.ref a/\y=.ref b/\SqT K H a xs/\SqT K H b ys/\xs≠[]/\xs.length+ys.length≤sizeLine ∧
 (ys=[]->Q (.ref a) H)/\(ys≠[]->∀p,H p=none->Q (.ref p) (upd H p (.tup (xs++ys))))
theorem Vals.nil_iff{xs:List V}{us:List Value}(r:Vals xs us):us=[]↔xs=[]:=by
 cases r with
 |nil=>simp
 |cons _ _=>simp
theorem op_catT:OpR X (binaryOp .Add) (rCatT X.K):=by
 intro pins s σ H x y v u Q I rx ry h;obtain⟨a,b,xs,ys,rfl,rfl,ha,hb,hx,hz,q1,q2⟩:=h;cases rx;cases ry;obtain⟨its,r1,p1,_⟩:=I.tuple ha;obtain⟨its2,r2,p2,_⟩:=I.tuple hb;refine HT.cat_tup p1 p2 (fun z=>hx (r1.nil_iff.mp z)) (fun z=>⟨.ref a,H,I,rfl,q1 (r2.nil_iff.mp z)⟩) (fun z=>?_) (by rw[←r1.length,←r2.length];exact hz);refine⟨.ref s.heap.objs.size,_,I.laid (t':=s.toks) (o:=.tup (xs++ys)) (fun b ob q=>Heap.get?_push_of_some _ q) (Nat.le_refl _) ?_,rfl,q2 (fun w=>z (r2.nil_iff.mpr w)) _ (I.hok.fresh (Nat.le_refl _))⟩;exact⟨by rw[List.length_append];exact hz,_,r1.append r2,IsTup.new _ _⟩
end
end L2
namespace L2
open PySem PySem.Spec PyProof.Rows
def ixN(n:Nat)(i:Int):Option Nat:=if 0≤i then (if i<n then some i.toNat else none) else if -(n:Int)≤i then some (i+n).toNat else none
def atI{α:Type}(xs:List α)(i:Int):Option α:=(ixN xs.length i).bind fun j=>xs[j]?
theorem qg7z{n:Nat}{i:Int}{j:Nat}(h:ixN n i=some j):seqIndex? i n=some j/\j<n/\-(n:Int)≤i/\i<n:=by
 unfold ixN at h;by_cases h0:0≤i
 ·rw[if_pos h0] at h;by_cases h1:i<n
  ·rw[if_pos h1] at h;have e:i.toNat=j:=Option.some.inj h;exact⟨by rw[seqIndex_of h0 h1,e],by lia,by lia,h1⟩
  ·rw[if_neg h1] at h;cases h
 ·rw[if_neg h0] at h;by_cases h1:-(n:Int)≤i
  ·rw[if_pos h1] at h;have e:(i+n).toNat=j:=Option.some.inj h;exact⟨by rw[seqIndex_neg (by lia) h1,e],by lia,h1,by lia⟩
  ·rw[if_neg h1] at h;cases h
theorem qexz{α:Type}{xs:List α}{i:Int}{v:α}(h:atI xs i=some v):∃j,seqIndex? i xs.length=some j/\xs[j]?=some v/\j<xs.length/\-(xs.length:Int)≤i/\i<xs.length:=by
 unfold atI at h;cases e:ixN xs.length i with
 |none=>rw[e] at h;cases h
 |some j=>
  rw[e] at h;obtain⟨h1,h2,h3,h4⟩:=qg7z e;exact⟨j,h1,h,h2,h3,h4⟩
theorem qdrz{α:Type}{xs:List α}{j:Nat}{v:α}(h:xs[j]?=some v):atI xs (j:Int)=some v:=by
 have hj:j<xs.length:=(List.getElem?_eq_some_iff.mp h).1;have e:ixN xs.length (j:Int)=some j:=by
  unfold ixN;rw[if_pos (by lia),if_pos (by lia)];simp
 unfold atI;rw[e];exact h
def PlainIx(b:Expr):Prop:=∀o i,subscripted b false o i=operate [o,i] (getItem o i)
def IxR(X:Cx)(r:R2):Prop:=
 ∀(value slice:Expr) (pins:List (Addr×Obj)) (s:Shared) (σ:St) (H:Hp) (x y:V) (v u:Value) (Q:VK),Inv X pins σ H s->RelV x v->RelV y u->r x y H Q ->
  subscripted slice false v u=operate [v,u] (getItem v u)->wpAny (model X.prog X.w) X.A (subscriptTail value slice v u) (EP X pins σ Q) X.xe s
def MtR(X:Cx)(id:String)(r:V->List V->Hp->VK->Prop):Prop:=
 ∀(pins:List (Addr×Obj)) (s:Shared) (σ:St) (H:Hp) (x:V) (xs:List V) (v:Value) (us:List Value) (Q:VK),Inv X pins σ H s->RelV x v->Vals xs us->r x xs H Q ->
  wpAny (model X.prog X.w) X.A (call (.builtin id) (v::us)) (EP X pins σ Q) X.xe s
section
variable {X:Cx} {a b:Expr} {ta tb:TE} {pos:Pos}
theorem IxR.or{r r':R2}(h:IxR X r)(h':IxR X r'):IxR X (fun x y H Q=>r x y H Q∨r' x y H Q):=by
 intro value slice pins s σ H x y v u Q I rx ry q hs;rcases q with q|q
 ·exact h value slice pins s σ H x y v u Q I rx ry q hs
 ·exact h' value slice pins s σ H x y v u Q I rx ry q hs
theorem qg8z{r:R2}(hr:IxR X r)(ha:PE X a ta)(hb:PE X b tb)(hs:PlainIx b):PE X (.Subscript a b pos) (tOp r ta tb):=by
 intro pins s σ H Q I h;exact Subscript_ (binT ha hb I h fun v u s2 x y H2 I2 rx ry q=>hr a b pins s2 σ H2 x y v u Q I2 rx ry q (hs _ _))
def rIxL(K:PySem.W.Frag):R2:=fun x y H Q=>∃p xs i v,x=.ref p/\y=.int i/\SqL K H p xs/\atI xs i=some v/\Q v H
def rIxT(K:PySem.W.Frag):R2:=fun x y H Q=>∃p xs i v,x=.ref p/\y=.int i/\SqT K H p xs/\atI xs i=some v/\Q v H
def rIxS:R2:=fun x y H Q=>∃z i c,x=.str z/\y=.int i/\z.length≤sizeLine/\atI z.cps.toList i=some c/\Q (.str ⟨#[c]⟩) H
theorem ix_list:IxR X (rIxL X.K):=by
 intro value slice pins s σ H x y v u Q I rx ry h hs;obtain⟨p,xs,i,z,rfl,rfl,hq,he,q⟩:=h;cases rx;obtain⟨t,rfl⟩:=ry;obtain⟨its,r,pl,hz⟩:=I.list hq;obtain⟨j,h1,h2,h3,h4,h5⟩:=qexz he;obtain⟨w,ew,rw'⟩:=r.get h2;have hl:=r.length;have hn:=line63;have fin:EP X pins σ Q w s:=⟨z,H,I,rw',q⟩;by_cases h0:0≤i
 ·have hj:i.toNat=j:=by
   rw[seqIndex_of h0 h5] at h1;exact Option.some.inj h1
  exact item_listR pl.isList h0 (by lia) (by rw[hj];simpa using ew) fin hs
 ·have hj:(i+(its.toArray.size:Int)).toNat=j:=by
   rw[seqIndex_neg (by lia) h4] at h1;rw[List.size_toArray,←hl];exact Option.some.inj h1
  exact subscriptTail_builtinR (x:=w) pl.isList.typeIs slot_list_getitem.lookup
   (wpAny_getItem_list_neg (Q:=fun r s'=>r=w/\EP X pins σ Q r s') pl.isList (by lia) (by rw[List.size_toArray]<;>lia) (by lia) (by rw[hj];simpa using ew) ⟨rfl,fin⟩) hs
theorem ix_tup:IxR X (rIxT X.K):=by
 intro value slice pins s σ H x y v u Q I rx ry h hs;obtain⟨p,xs,i,z,rfl,rfl,hq,he,q⟩:=h;cases rx;obtain⟨t,rfl⟩:=ry;obtain⟨its,r,pl,hz⟩:=I.tuple hq;obtain⟨j,h1,h2,h3,h4,h5⟩:=qexz he;obtain⟨w,ew,rw'⟩:=r.get h2;have hl:=r.length;have hn:=line63;have fin:EP X pins σ Q w s:=⟨z,H,I,rw',q⟩;exact subscriptTail_builtinR (x:=w) pl.typeIs slot_tuple_getitem.lookup
  (getItem_tuple (j:=j) (Q:=fun r s'=>r=w/\EP X pins σ Q r s') pl (by lia) (by lia) (by rw[List.size_toArray,←hl];exact h1) (by simpa using ew) ⟨rfl,fin⟩) hs
theorem qnaz:IxR X rIxS:=by
 intro value slice pins s σ H x y v u Q I rx ry h hs;obtain⟨z,i,c,rfl,rfl,hz,he,q⟩:=h;obtain⟨t,rfl⟩:=rx;obtain⟨t',rfl⟩:=ry;obtain⟨j,h1,h2,h3,h4,h5⟩:=qexz he;have hl:z.cps.toList.length=z.length:=by simp[Str.length]
 rw[hl] at h1 h4 h5;have hn:=line63;exact tail_any (typeIs_str s z t) slot_str_getitem.lookup (getItem_str (c:=c) (by
  have e1:decide (i < -(2^63:Int))=false:=decide_eq_false (by lia);have e2:decide (i≥2^63)=false:=decide_eq_false (by lia);rw[e1,e2,Bool.or_false]) (by rw[h1];simpa using h2) ⟨.str ⟨#[c]⟩,H,I.tok _,⟨_,rfl⟩,q⟩) hs
def rIx(K:PySem.W.Frag):R2:=fun x y H Q=>rIxL K x y H Q∨rIxT K x y H Q∨rIxS x y H Q
theorem qg9z:IxR X (rIx X.K):=ix_list.or (ix_tup.or qnaz)
theorem qnbz(its:List Value)(n j:Nat)(u:Value):Obj.mapSeq (·.setIfInBounds j u) { cls:=.type "list",data:=.seq its.toArray n }={ cls:=.type "list",data:=.seq (its.set j u).toArray n }:=by
 simp[Obj.mapSeq]
theorem Inv.lst{pins:List (Addr×Obj)}{σ:St}{H:Hp}{s:Shared}{p:Addr}{xs:List V}(I:Inv X pins σ H s)(h:H p=some (.lst xs)):
  ∃(its:List Value) (n:Nat),Vals xs its/\s.heap.get? p=some { cls:=.type "list",data:=.seq its.toArray n }/\xs.length≤sizeLine:=by
 obtain⟨z,its,n,r,e⟩:=I.hok p _ h;exact⟨its,n,r,e,z⟩
theorem Inv.lstUpd{pins:List (Addr×Obj)}{σ:St}{H:Hp}{s:Shared}{p:Addr}{xs ys:List V}{its its':List Value}{n n':Nat}{f:Obj->Obj}(I:Inv X pins σ H s)(h:H p=some (.lst xs))
  (ho:s.heap.get? p=some { cls:=.type "list",data:=.seq its.toArray n }) (hf:f { cls:=.type "list",data:=.seq its.toArray n }={ cls:=.type "list",data:=.seq its'.toArray n' }) (r:Vals ys its') (hz:ys.length≤sizeLine) (t:Nat):
  Inv X pins σ (upd H p (.lst ys)) { s with heap:=s.heap.update p f,toks:=t }:=by
 have e:(s.heap.update p f).get? p=some { cls:=.type "list",data:=.seq its'.toArray n' }:=by
  rw[Heap.get?_update_self f ho (by rw[hf]<;>rfl),hf]
 refine I.write (x:=p) (e:=p) (by rw[h];trivial) (.inl rfl) (fun b u hb q=>(Heap.get?_update_other _ _ (Ne.symm hb)).trans q) ⟨_,e⟩ ?_;exact⟨hz,its',n',r,e⟩
def rSetL:V->V->V->Hp->(Hp->Prop)->Prop:=fun o i v H Q=>∃p xs k j,o=.ref p/\i=.int k/\H p=some (.lst xs)/\ixN xs.length k=some j/\Q (upd H p (.lst (xs.set j v)))
theorem set_list:PSet X rSetL:=by
 intro pins s σ H o i v ov iv u Q I ro ri rv h;obtain⟨p,xs,k,j,rfl,rfl,hp,hj,q⟩:=h;cases ro;obtain⟨t,rfl⟩:=ri;obtain⟨its,n,r,ho,hz⟩:=I.lst hp;obtain⟨h1,h2,h3,h4⟩:=qg7z hj;have hl:=r.length;have hn:=line63;have I':Inv X pins σ (upd H p (.lst (xs.set j v))) { s with heap:=s.heap.update p (Obj.mapSeq (·.setIfInBounds j u))}:=
  I.lstUpd hp ho (qnbz its n j u) (r.set rv j) (by rw[List.length_set];exact hz) s.toks
 by_cases h0:0≤k
 ·have hk:k.toNat=j:=by
   rw[seqIndex_of h0 h4] at h1;exact Option.some.inj h1
  exact PySem.W.ki_setAt ho h0 (by lia) (by rw[List.size_toArray,←hl];exact h4) (by rw[hk];exact⟨_,I',q⟩)
 ·have hk:(k+(its.toArray.size:Int)).toNat=j:=by
   rw[seqIndex_neg (by lia) h3] at h1;rw[List.size_toArray,←hl];exact Option.some.inj h1
  exact PySem.W.ki_setBack ho (by lia) (by rw[List.size_toArray,←hl];exact h3) (by lia) (by rw[hk];exact⟨_,I',q⟩)
theorem qncz(lo hi:Option Int)(n:Nat):(sliceBounds lo hi none n).1=((HT.sIx n 0 lo:Nat):Int)/\(sliceBounds lo hi none n).2.1=((HT.sIx n n hi:Nat):Int)/\(sliceBounds lo hi none n).2.2=1:=by
 refine⟨?_,?_,rfl⟩
 ·cases lo with
  |none=>simp[sliceBounds,HT.sIx]
  |some i=>
   simp only[sliceBounds,HT.sIx,Option.getD_none,show (1:Int) > 0 by decide,if_true];by_cases h:i<0
   ·simp only[h,if_true]<;>lia
   ·simp only[h,if_false]<;>lia
 ·cases hi with
  |none=>simp[sliceBounds,HT.sIx]
  |some i=>
   simp only[sliceBounds,HT.sIx,Option.getD_none,show (1:Int) > 0 by decide,if_true];by_cases h:i<0
   ·simp only[h,if_true]<;>lia
   ·simp only[h,if_false]<;>lia
theorem qndz(its:List Value)(lo hi:Option Int):slicePick its.toArray lo hi none=((its.drop (HT.sIx its.length 0 lo)).take (HT.sIx its.length its.length hi-HT.sIx its.length 0 lo)).toArray:=by
 obtain⟨h1,h2,h3⟩:=qncz lo hi its.toArray.size;unfold slicePick;rw[h1,h2,h3];simp only[sliceRange_one,pick_run,List.size_toArray]<;>rfl
def rSlL(K:PySem.W.Frag):V->Option Int->Option Int->Hp->VK->Prop:=fun x lo hi H Q=>∃a xs,x=.ref a/\SqL K H a xs/\∀p,H p=none->Q (.ref p) (upd H p (.lst (cutV xs lo hi)))
theorem qnez:SlR X (rSlL X.K):=by
 intro pins s σ H x v vl vu lo hi sl Q I rx hs pl pu h;obtain⟨a,xs,rfl,hx,q⟩:=h;cases rx;obtain⟨its,r,ht,hz⟩:=I.list hx;have hlen:=r.length;refine⟨"list",_,slot_list_getitem.lookup,ht.isList.typeIs,?_⟩;refine wpAny_getItem_list_slice ht.isList hs pl pu .none (by simp) ?_ (by rw[List.size_toArray]<;>lia)
 rw[qndz,←hlen];refine⟨.ref s.heap.objs.size,_,I.laid (t':=s.toks) (o:=.lst (cutV xs lo hi)) (fun b ob q=>Heap.get?_push_of_some _ q) (Nat.le_refl _) ?_,rfl,q _ (I.hok.fresh (Nat.le_refl _))⟩;exact⟨Nat.le_trans (qg6z xs lo hi) hz,_,0,(r.drop (HT.sIx xs.length 0 lo)).take (HT.sIx xs.length xs.length hi-HT.sIx xs.length 0 lo),Heap.get?_push_size _ rfl⟩
theorem qnfz:CallR X (.builtin "len") (fun xs H Q=>∃p ys,xs=[.ref p]/\(SqL X.K H p ys∨SqT X.K H p ys)/\Q (.int ys.length) H):=by
 intro pins s σ H xs us Q I r h;obtain⟨p,ys,rfl,hq,q⟩:=h;obtain⟨u,rfl,rx⟩:=vals1 r;cases rx;have hn:=line63;rcases hq with hq|hq
 ·obtain⟨its,r',pl,hz⟩:=I.list hq;have hlen:=r'.length;exact Calls.call_len_list pl.isList (by simp only[List.size_toArray]<;>lia) ⟨.int ys.length,H,I.tok _,⟨s.toks+1,by rw[List.size_toArray,hlen]⟩,q⟩
 ·obtain⟨its,r',pl,hz⟩:=I.tuple hq;have hlen:=r'.length;exact len_tuple pl (by simp only[List.size_toArray]<;>lia) ⟨.int ys.length,H,I.tok _,⟨s.toks+1,by rw[List.size_toArray,hlen]⟩,q⟩
theorem qngz:CallR X (.type "list") (fun xs H Q=>∃p ys,xs=[.ref p]/\(SqL X.K H p ys∨SqT X.K H p ys)/\∀l,H l=none->Q (.ref l) (upd H l (.lst ys))):=by
 intro pins s σ H xs us Q I r h;obtain⟨p,ys,rfl,hq,q⟩:=h;obtain⟨u,rfl,rx⟩:=vals1 r;cases rx;have fin:∀(its:List Value),Vals ys its->ys.length≤sizeLine->∀(h':Heap) (c':Nat),(∀b o',s.heap.get? b=some o'->h'.get? b=some o') ->
   h'.get? s.heap.objs.size=some { cls:=.type "list",dict:=none,data:=.seq its.toArray c',slots:=#[]}->EP X pins σ Q (.ref s.heap.objs.size) { s with heap:=h' }:=fun its r' hz h' c' kp e=>
  ⟨.ref s.heap.objs.size,_,I.laid (t':=s.toks) kp (Nat.le_refl _) (show ObjOk X.prog X.w _ h' _ (.lst ys) from⟨hz,its,c',r',e⟩),rfl,q _ (I.hok.fresh (Nat.le_refl _))⟩
 rcases hq with hq|hq
 ·obtain⟨its,r',pl,hz⟩:=I.list hq;have hlen:=r'.length;obtain⟨o,ho,hc,n,hd⟩:=pl.isList;exact call_list_seq p (.inl rfl) ho hc hd (fun h' c' kp e=>fin its r' hz h' c' kp e) (by simp only[List.size_toArray]<;>lia)
 ·obtain⟨its,r',pl,hz⟩:=I.tuple hq;have hlen:=r'.length;obtain⟨o,ho,hc,n,hd⟩:=pl;exact call_list_seq p (.inr rfl) ho hc hd (fun h' c' kp e=>fin its r' hz h' c' kp e) (by simp only[List.size_toArray]<;>lia)
theorem qnhz:CallR X (.type "tuple") (fun xs H Q=>∃p ys,xs=[.ref p]/\((SqL X.K H p ys/\∀l,H l=none->Q (.ref l) (upd H l (.tup ys)))∨(SqT X.K H p ys/\Q (.ref p) H))):=by
 intro pins s σ H xs us Q I r h;obtain⟨p,ys,rfl,h⟩:=h;obtain⟨u,rfl,rx⟩:=vals1 r;cases rx;rcases h with⟨hq,q⟩|⟨hq,q⟩
 ·obtain⟨its,r',pl,hz⟩:=I.list hq;have hlen:=r'.length;refine call_tuple_list pl.isList (fun h' kp=>?_) (by simp only[List.size_toArray]<;>lia)
  have I1:Inv X pins σ H { s with heap:=h' }:=I.kept (t':=s.toks) kp;have I2:Inv X pins σ (upd H h'.objs.size (.tup ys)) { s with heap:=h'.push { cls:=.type "tuple",data:=.seq its.toArray }}:=
   I1.laid (t':=s.toks) (fun b o e=>Heap.get?_push_of_some _ e) (Nat.le_refl _) (show ObjOk X.prog X.w _ _ _ (.tup ys) from⟨hz,its,r',IsTup.new _ _⟩)
  exact⟨.ref h'.objs.size,_,I2,rfl,q _ (I1.hok.fresh (Nat.le_refl _))⟩
 ·obtain⟨its,r',pl,hz⟩:=I.tuple hq;exact call_tuple_same pl ⟨.ref p,H,I,rfl,q⟩
def tyV(K:PySem.W.Frag)(T:String)(x:V)(H:Hp):Prop:=match x with
 |.str _=>T="str"
 |.int _=>T="int"
 |.ref p=>(T="list"/\∃xs,SqL K H p xs)∨(T="tuple"/\∃o,K.lookup p=some o/\o.cls=.type "tuple"/\o.dict=none) ∨
   (T="dict"/\((∃kvs,H p=some (.dK kvs))∨∃kvs,H p=some (.dT kvs)))∨(T="set"/\∃S n,H p=some (.set S n))
 |_=>False
theorem qniz{pins:List (Addr×Obj)}{σ:St}{H:Hp}{s:Shared}{T:String}{x:V}{v:Value}(I:Inv X pins σ H s)(r:RelV x v)(ty:tyV X.K T x H):
  s.TypeIs v T/\∀a,v=.ref a->∃ob,s.heap.get? a=some ob/\ob.dict=none:=by
 cases x with
 |str z=>
  obtain⟨t,rfl⟩:=r;cases (show T="str" from ty);exact⟨typeIs_str s z t,fun _ e=>nomatch e⟩
 |int i=>
  obtain⟨t,rfl⟩:=r;cases (show T="int" from ty);exact⟨typeIs_int s i t,fun _ e=>nomatch e⟩
 |ref p=>
  cases r;rcases ty with⟨rfl,xs,hq⟩|⟨rfl,o,hk,hc,hd⟩|⟨rfl,hk⟩|⟨rfl,S,n,hk⟩
  ·obtain⟨its,_,pl,_⟩:=I.list hq;refine⟨pl.isList.typeIs,fun a e=>?_⟩;cases e;obtain⟨o,n,e,c,hd,_⟩:=pl;exact⟨o,e,hd⟩
  ·refine⟨⟨o,I.kIn p o hk,hc⟩,fun a e=>?_⟩;cases e;exact⟨o,I.kIn _ o hk,hd⟩
  ·have z:∃o,s.heap.get? p=some o/\o.ExactDict:=by
    rcases hk with⟨kvs,hk⟩|⟨kvs,hk⟩
    ·obtain⟨_,_,_,_,o,_,_,e,ex,_⟩:=I.hok p _ hk;exact⟨o,e,ex⟩
    ·obtain⟨_,_,_,_,o,_,_,e,ex,_⟩:=I.hok p _ hk;exact⟨o,e,ex⟩
   obtain⟨o,e,ex⟩:=z;refine⟨⟨o,e,ex.1⟩,fun a e2=>?_⟩;cases e2;exact⟨o,e,ex.2.1⟩
  ·obtain⟨o,_,_,_,e,ex,_⟩:=I.hok p _ hk;refine⟨⟨o,e,ex.1⟩,fun a e2=>?_⟩;cases e2;exact⟨o,e,ex.2.1⟩
 |_=>exact False.elim ty
def tBM(K:PySem.W.Frag)(T:String)(r:V->List V->Hp->VK->Prop)(to:TE)(t:TA):TE:=fun σ H Q=>to σ H fun x H1=>tyV K T x H1/\t σ H1 fun xs H2=>r x xs H2 Q
variable {o e:Expr} {es:List Expr} {to:TE} {t:TA} {name:Str} {apos cpos:Pos} {T id:String} {r:V->List V->Hp->VK->Prop}
theorem qnjz(pa:PlainAttrs T)(slot:Slot T name id)(hty:typeOf (.builtin id)=pure (.type "method_descriptor"))(hm:MtR X id r)(ho:PE X o to)(ha:PA X (e::es) t)
  (hbase:attributeBase o name X.env (eval o X.env)=eval o X.env:=by rfl)
  (hfew:((backTo cpos (starEach (e::es) X.env)).all (fun x=>!x.1)&&(backToKw cpos (keywordEach [] X.env)).all (fun x=>x.1.isSome)
   && decide ((e::es).length+([]:List Keyword).length+(if ([]:List Keyword).isEmpty then 0 else 1)<30))=true:=by rfl)
  (hline:(apos.endLine==cpos.line)=true:=by rfl) (hs:starEach (e::es) X.env=(false,eval e X.env)::starEach es X.env:=by rfl) (hplain:(backTo cpos (starEach es X.env)).any (·.1)=false:=by rfl):
  PE X (.Call (.Attribute o name apos) (e::es) [] cpos) (tBM X.K T r to t):=by
 intro pins s σ H Q I h;refine wpAny_Call_method_late hbase hfew hline rfl (thn (ho pins s σ H _ I h) fun v s1 ⟨x,H1,I1,r1,ty,q1⟩=>?_);obtain⟨h1,h2⟩:=qniz I1 r1 ty;refine⟨T,id,pa,slot,hty,h1,h2,?_⟩;have hA:=ha cpos pins s1 σ H1 _ I1 q1;rw[hs] at hA ⊢;refine Calls.callWith_builtin (by show (false||(backTo cpos (starEach es X.env)).any (·.1))=false;rw[hplain]<;>rfl) (Calls.evalArgs_plain ?_)
 exact thn hA fun us s2 ⟨vs,H2,I2,r2,q2⟩=>hm pins s2 σ H2 x vs v us Q I2 r1 r2 q2
/- xs.append(e),list.index on a module's tuple .. are MtR facts of 06m -/
end
end L2
namespace L2
open PySem PySem.Spec PyProof.Rows
def MtM(X:Cx)(id:String)(r:V->List V->Hp->VK->Prop):Prop:=
 ∀(pins:List (Addr×Obj)) (s:Shared) (σ:St) (H:Hp) (x:V) (xs:List V) (v:Value) (us:List Value) (Q:VK),Inv X pins σ H s->RelV x v->Vals xs us->r x xs H Q ->
  wpAny (model X.prog X.w) X.A (call (.builtin id) (v::us)) (EP X pins σ Q) X.xe s
theorem Vals.one:∀{x:V} {us:List Value},Vals [x] us->∃u,us=[u]/\RelV x u
 |_,_,.cons r .nil=>⟨_,rfl,r⟩
theorem Vals.two:∀{x y:V} {us:List Value},Vals [x,y] us->∃u v,us=[u,v]/\RelV x u/\RelV y v
 |_,_,_,.cons r (.cons q .nil)=>⟨_,_,rfl,r,q⟩
theorem Vals.zero:∀{us:List Value},Vals [] us->us=[]
 |_,.nil=>rfl
theorem Vals.reverse{xs:List V}{us:List Value}(h:Vals xs us):Vals xs.reverse us.reverse:=by
 induction h with
 |nil=>exact .nil
 |cons r t ih=>rw[List.reverse_cons,List.reverse_cons];exact Vals.append ih (.cons r .nil)
theorem Vals.rep{xs:List V}{us:List Value}(h:Vals xs us):∀k:Nat,Vals (List.replicate k xs).flatten (List.replicate k us).flatten
 |0=>.nil
 |k+1=>by
  rw[List.replicate_succ,List.replicate_succ,List.flatten_cons,List.flatten_cons];exact Vals.append h (Vals.rep h k)
theorem foldl_rep(its:List Value):∀(k:Nat) (acc:List Value),
  List.foldl (fun x1 x2=>x1++x2) acc.toArray (List.replicate k its.toArray)=(acc++(List.replicate k its).flatten).toArray
 |0,acc=>by simp
 |k+1,acc=>by
  have e:acc.toArray++its.toArray=(acc++its).toArray:=by simp
  have e2:(acc++its)++(List.replicate k its).flatten=acc++(List.replicate (k+1) its).flatten:=by
   rw[List.replicate_succ,List.flatten_cons,List.append_assoc]
  rw[←e2,←foldl_rep its k (acc++its),←e,List.replicate_succ,List.foldl_cons]
section
variable {X:Cx} {pins:List (Addr×Obj)} {σ:St} {H:Hp} {s:Shared} {l b:Addr} {xs ys zs:List V}
theorem Inv.lset{its its':List Value}{n:Nat}{f:Array Value->Array Value}{t':Nat}(I:Inv X pins σ H s)(hH:H l=some (.lst xs))
  (e:s.heap.get? l=some { cls:=.type "list",data:=.seq its.toArray n }) (hf:f its.toArray=its'.toArray) (hv:Vals ys its') (hz:ys.length≤sizeLine):
  Inv X pins σ (upd H l (.lst ys)) { s with heap:=s.heap.update l (Obj.mapSeq f),toks:=t' }:=by
 have q:=PySem.IsL.update e f;rw[hf] at q;refine I.write (x:=l) (e:=l) (by rw[hH];exact trivial) (.inl rfl) (fun b' u hb hu=>(Heap.get?_update_other s.heap (Obj.mapSeq f) (Ne.symm hb)).trans hu) ⟨_,q⟩ ?_;exact⟨hz,its',_,hv,q⟩
theorem Inv.lnew{its:List Value}{t':Nat}(I:Inv X pins σ H s)(hv:Vals ys its)(hz:ys.length≤sizeLine):
  Inv X pins σ (upd H s.heap.objs.size (.lst ys)) { s with heap:=s.heap.push { cls:=.type "list",data:=.seq its.toArray },toks:=t' }:=
 I.laid (fun _ _ q=>Heap.get?_push_of_some _ q) (Nat.le_refl _) ⟨hz,its,0,hv,Heap.get?_push_size _ rfl⟩
theorem Inv.fresh(I:Inv X pins σ H s):H s.heap.objs.size=none:=I.hok.fresh (Nat.le_refl _)
theorem Inv.lstM(I:Inv X pins σ H s)(hH:H l=some (.lst xs)):xs.length≤sizeLine/\∃(its:List Value) (n:Nat),Vals xs its/\xs.length=its.length/\s.heap.get? l=some { cls:=.type "list",data:=.seq its.toArray n }:=by
 obtain⟨z,its,n,r,e⟩:=I.hok l _ hH;exact⟨z,its,n,r,r.length,e⟩
theorem notLongL{n:Nat}(h:n≤sizeLine):Builtin.List.listTooLong n=false:=by
 unfold Builtin.List.listTooLong;exact decide_eq_false (by lia)
end
section
variable {X:Cx}
def rAppend:V->List V->Hp->VK->Prop:=fun x vs H Q=>∃l xs y,x=.ref l/\vs=[y]/\H l=some (.lst xs)/\xs.length<sizeLine/\Q .non (upd H l (.lst (xs++[y])))
theorem qhaz:MtM X "list.append" rAppend:=by
 intro pins s σ H x vs v us Q I rx rv h;obtain⟨l,xs,y,rfl,rfl,hH,hz,q⟩:=h;cases rx;obtain⟨u,rfl,ru⟩:=rv.one;obtain⟨z,its,n,r,hl,e⟩:=I.lstM hH;refine call_meets F.slot_list_append ⟨_,e,rfl⟩ F.entry_list_append (F.args_list_append_2 _ _) (PySem.list_append l its.toArray n u (by rw[List.size_toArray];lia)) ⟨e,?_⟩;refine⟨.non,_,I.lset (its':=its++[u]) hH e (by simp) (r.append (.cons ru .nil)) ?_,rfl,q⟩;rw[List.length_append,List.length_singleton];lia
def rExtend:V->List V->Hp->VK->Prop:=fun x vs H Q=>∃l b xs zs,x=.ref l/\vs=[.ref b]/\H l=some (.lst xs)/\H b=some (.lst zs)/\xs.length+zs.length≤sizeLine/\Q .non (upd H l (.lst (xs++zs)))
theorem q07z:MtM X "list.extend" rExtend:=by
 intro pins s σ H x vs v us Q I rx rv h;obtain⟨l,b,xs,zs,rfl,rfl,hH,hB,hz,q⟩:=h;cases rx;obtain⟨u,rfl,ru⟩:=rv.one;cases ru;obtain⟨z,its,n,r,hl,e⟩:=I.lstM hH;obtain⟨z2,its2,n2,r2,hl2,e2⟩:=I.lstM hB;have hsz:its.toArray.size+its2.toArray.size≤sizeLine:=by rw[List.size_toArray,List.size_toArray];lia
 have hlong:¬(!its.toArray.isEmpty&&Builtin.List.listTooLong (its.toArray.size+its2.toArray.size))=true:=by
  rw[notLongL hsz,Bool.and_false];exact Bool.false_ne_true
 refine call_meets F.slot_list_extend ⟨_,e,rfl⟩ F.entry_list_extend (F.args_list_extend_2 _ _)
  (AutoSeq1.list_extend_list_list_0 l its.toArray n b its2.toArray n2 hlong (by rw[List.size_toArray];lia) (by lia)) ⟨e,e2,?_⟩
 refine⟨.non,_,I.lset (its':=its++its2) hH e (by simp) (r.append r2) ?_,rfl,q⟩;rw[List.length_append];lia
def rCat:R2:=fun x y H Q=>∃l b xs zs,x=.ref l/\y=.ref b/\H l=some (.lst xs)/\H b=some (.lst zs)/\xs.length+zs.length≤sizeLine/\∀p,H p=none->Q (.ref p) (upd H p (.lst (xs++zs)))
theorem op_cat:OpR X (binaryOp .Add) rCat:=by
 intro pins s σ H x y v u Q I rx ry h;obtain⟨l,b,xs,zs,rfl,rfl,hH,hB,hz,q⟩:=h;cases rx;cases ry;obtain⟨z,its,n,r,hl,e⟩:=I.lstM hH;obtain⟨z2,its2,n2,r2,hl2,e2⟩:=I.lstM hB;refine PySem.P.add_list e e2 ?_ (by rw[List.size_toArray,List.size_toArray];lia);have ea:its.toArray++its2.toArray=(its++its2).toArray:=by simp
 rw[ea];exact⟨.ref _,_,I.lnew (t':=s.toks) (r.append r2) (by rw[List.length_append];lia),rfl,q _ I.fresh⟩
def rRep:R2:=fun x y H Q=>∃l k xs,x=.ref l/\y=.int k/\H l=some (.lst xs)/\-(2^63)≤k/\k<2^63/\xs.length*k.toNat≤sizeLine ∧
 ∀p,H p=none->Q (.ref p) (upd H p (.lst (List.replicate k.toNat xs).flatten))
theorem len_rep{α:Type}(xs:List α)(k:Nat):(List.replicate k xs).flatten.length=k*xs.length:=by
 induction k with
 |zero=>simp
 |succ k ih=>rw[List.replicate_succ,List.flatten_cons,List.length_append,ih,Nat.succ_mul,Nat.add_comm]
theorem qnkz:OpR X (binaryOp .Mult) rRep:=by
 intro pins s σ H x y v u Q I rx ry h;obtain⟨l,k,xs,rfl,rfl,hH,h1,h2,hz,q⟩:=h;cases rx;obtain⟨t,rfl⟩:=ry;obtain⟨z,its,n,r,hl,e⟩:=I.lstM hH;have hlen:its.toArray.size*k.toNat≤sizeLine:=by rw[List.size_toArray,←hl];exact hz
 have hcap:¬its.toArray.size*k.toNat > (2^63-1) / 8:=by
  have:(sizeLine:Nat)≤(2^63-1) / 8:=by decide
  lia
 have hfit:¬(!Builtin.List.listFitsIndex k)=true:=by
  rw[fitsIndex_both h1 h2];exact Bool.false_ne_true
 have hlong:¬Builtin.List.listTooLong (its.toArray.size*k.toNat)=true:=by
  rw[notLongL hlen];exact Bool.false_ne_true
 have hnew:List.foldl (fun x1 x2=>x1++x2) #[] (List.replicate (if its.toArray.isEmpty=true then 0 else k.toNat) its.toArray)=(List.replicate k.toNat its).flatten.toArray:=by
  have f0:∀m:Nat,List.foldl (fun x1 x2=>x1++x2) #[] (List.replicate m its.toArray)=(List.replicate m its).flatten.toArray:=fun m=>by
   have:=foldl_rep its m [];rw[List.nil_append] at this;exact this
  rw[f0];cases its with
  |nil=>simp
  |cons a r'=>rw[if_neg (by simp)]
 refine wpAny_binaryOp_repeat_ref (T:="list") (U:="int") (by decide) ⟨_,e,rfl⟩ (fun s'=>typeIs_int s' k t) noFill_list_mul F.fills_int_mul F.slot_int_rmul repeat_list F.slot_int_index.lookup
  (call_meets F.slot_int_rmul (typeIs_int s k t) F.entry_int_rmul (F.args_int_rmul_2 _ _) (int___rmul___int_list k t l its.toArray n)
   ⟨e,rfl,⟨_,e,rfl⟩,call_meets F.slot_list_mul ⟨_,e,rfl⟩ F.entry_list_mul (F.args_list_mul_2 _ _) (AutoListH.list___mul___list_int_3 l its.toArray n k t hfit hcap hlong) ⟨e,?_⟩⟩)
 rw[hnew];exact⟨.ref _,_,I.lnew (t':=s.toks) (r.rep k.toNat) (by rw[len_rep,Nat.mul_comm];exact hz),rfl,q _ I.fresh⟩
end
end L2
namespace Att
open PySem PySem.W PySem.Calls PyProof.Rows
theorem qnlz{P:Params}{h:Heap}:∀(ns:List Int) (vs:List Value),WellAll P h vs (ns.map WData.int)->IntsAre vs ns:=by
 intro ns
 induction ns with
 |nil=>
  intro vs w;rw[List.map_nil] at w;cases w;exact .nil
 |cons n ns ih=>
  intro vs w;rw[List.map_cons] at w;cases w with
  |cons a b=>
   cases a;exact .cons _ _ (ih _ b)
theorem qnmz{l:OpenLaw}{n:Nat}(hn:l.most=some n){P:Params}{h:Heap}{args:List WData}{vals:List Value}
  (hpre:l.row.toRowW.claim.pre args=true) (hwl:WellAll P h vals args):
  ∃a vs ns,vals=[Value.ref a]/\args=[WData.list (ns.map WData.int)]/\h.get? a=some { cls:=.type "list",data:=.seq vs.toArray }/\IntsAre vs ns/\ns.length≤n:=by
 have hsh:WShape.hasAll [] args [.list .int]=true:=(pre_splitW hpre).1;have hc:l.pre.holds [] { args:=args }=true:=(pre_splitW hpre).2;obtain⟨d,r,rfl,h1,h2⟩:=hasAllW_cons hsh;obtain rfl:=hasAllW_nil h2;obtain⟨xs,rfl,h3⟩:=hasW_list h1;obtain⟨ns,rfl⟩:=items_int h3;have hlen:ns.length≤n:=by
  unfold OpenLaw.pre at hc;have h4:(WTm.not (.lt (.lit (.int (n:Int))) (.len (.arg 0)))).holds [] { args:=[.list (ns.map .int)]}=true:=by
   have h4:=(holds_andW hc).1;rw[hn] at h4;exact h4
  have h5:=condW_of h4 (w_not (w_lt w_lit (w_len_list (w_arg rfl))));rw[List.length_map] at h5;refine Nat.le_of_not_lt fun q=>?_;have q':(n:Int)<((ns.length:Nat):Int):=by lia
  first
   | (rw[decide_eq_true q'] at h5;exact absurd h5 (by decide))
   | (simp at h5;lia)
 cases hwl with
 |cons w1 w2=>
  cases w2;cases w1 with
  |list ho hall=>exact⟨_,_,ns,rfl,rfl,ho,qnlz ns _ hall,hlen⟩
theorem qnnz(l:OpenLaw)(args:List WData):l.row.toRowW.claim.post args (.bool true) args=true:=
 postW_of (r:=l.row.toRowW) (X:=(true==true))
  (show WShape.has [] (.bool true) .bool=true by first|rfl|decide|simp[WShape.has,WShape.arms,WShape.armsAll])
  (show (WTm.eq .res (.lit (.bool true))).value [] { args:=args,res:=some (.bool true),after:=args }=some (.bool (true==true)) from w_eq_bool (w_res rfl) w_lit) rfl
theorem attach_call{l:OpenLaw}{n:Nat}{q:Program}{loose:List Str}{XP:(Str->Option Value)->Heap->Prop}{YP:World->Heap->Prop}{d:DefRec}
  (hn:l.most=some n) (hdf:d.params.defaults=[])
  (call:∀(w:World) (s₀ s₁:Shared) (mg mb:Str->Option Value) (fa:Addr) (o:Obj) (pm cd doc:Value) (a:Addr) (vs:List Value) (ns:List Int),
   Ground q loose [] XP w s₀ mg mb s₁.heap->YP w s₁.heap ->
   s₁.heap.get? fa=some o->o.data=.func (docDef d.name d.params d.body d.scope pm cd doc)->s₁.heap.CodeRec cd d.name->mg d.name=some (.ref fa) ->
   s₁.heap.get? a=some { cls:=.type "list",data:=.seq vs.toArray }->IntsAre vs ns->ns.length≤n->s₁.gens = #[] ->
   codeAny (model l.prog w) callerA (.call (.ref fa) ⟨[.ref a],[]⟩) (fun r s'=>r=.ok (.ret (.bool true))/\OldK s₁.heap s'.heap/\s'.os=s₁.os/\AllBare s'.gens) s₁):
  WalkO q loose XP YP l.row.toRowW d [] (fun f vs=>PySem.call f vs):=by
 intro w s₀ s₁ mg mb G Y fa o pm cd doc dV kV ho hd hcd hD hmg hg args vals as hpre hlay hrd hwl hlo;obtain rfl:dV=.none:=Dflts.none hD hdf;obtain rfl:kV=.none:=Dflts.noKw hD;obtain⟨a,vs,ns,rfl,rfl,hobj,hints,hlen⟩:=qnmz hn hpre hwl;refine enter_call (codeAny_mono (call w s₀ s₁ mg mb fa o pm cd doc a vs ns G Y ho (fd_plain hd) hcd hmg hobj hints hlen hg) fun r s' hq=>?_);obtain⟨rfl,h2,h3,h4⟩:=hq;exact⟨.inl ⟨.bool true,.bool true,[],rfl,fun _=>rfl,.bool true,qnnz l _,fun _=>⟨List.Pairwise.nil,fun _ hm=>(nomatch hm)⟩⟩,h2,h3,h4⟩
end Att
namespace L2
open PySem PySem.Spec PyProof.Rows
theorem qhbz:∀{vs:List Value} {ns:List Int},IntsAre vs ns->Vals (ns.map V.int) vs
 |_,_,.nil=>.nil
 |_,_,.cons n t h=>.cons ⟨t,rfl⟩ (qhbz h)
def Only(H:Hp):Prop:=∀b,H b=none∨∃o xs,H b=some (.frz o (.lst xs))
theorem qnoz{P:Program}{w:World}{K:PySem.W.Frag}{mg mb:Str->Option Value}{CX:CXT}{k:Nat}{fa a:Addr}{fd:FuncData}{x:Str}{sp:Sp}{s₁:Shared}{vs:List Value}{ns:List Int}
  (KX:K.In s₁.heap) (hns:s₁.heap.Ns mainGlobals mg) (hb:s₁.heap.Ns builtinsNs mb) (hbb:∀x:Str,x≠"__name__"->mb x=bootBuiltins x) (hlim:s₁.heap.NoLimit) (hg:s₁.gens = #[])
  (ha:s₁.heap.get? a=some { cls:=.type "list",data:=.seq vs.toArray }) (hi:IntsAre vs ns) (hl:ns.length≤sizeLine) (hr:Room k callerA)
  (F:∀base:Heap,K.In base->base.Ns mainGlobals mg->FnOk P w K mg base CX k fa fd [x] sp) (hbind:∀(s:Shared) (u:Value),BindsTo s fd ⟨[u],[]⟩ [(x,u)])
  (hsp:∀H:Hp,Only H->SqL K H a (ns.map V.int)->sp [.ref a] H (fun v _=>v=.bl true) fun _ _ _=>False)
  (hCX:∀H e s',CX [] H s₁ (fun _ _ _=>False) e s'->False):
  codeAny (model P w) callerA (.call (.ref fa) ⟨[.ref a],[]⟩) (fun r s'=>r=.ok (.ret (.bool true))/\OldK s₁.heap s'.heap/\s'.os=s₁.os/\AllBare s'.gens) s₁:=by
 have rv:=qhbz hi;have lenV:=hi.length
 -- from an abstract heap in which nothing but the script may be tracked
 have core:∀H:Hp,Only H->SqL K H a (ns.map V.int)->HOk P w H s₁.heap->(∀b,H b≠none->b=a)->(H a≠none->K.lookup a=none) ->
   codeAny (model P w) callerA (.call (.ref fa) ⟨[.ref a],[]⟩) (fun r s'=>r=.ok (.ret (.bool true))/\OldK s₁.heap s'.heap/\s'.os=s₁.os/\AllBare s'.gens) s₁:=by
  intro H hO hS hok hA hK;have base_of:∀{b:Addr} {o:Obj},s₁.heap.get? b=some o->H b=none->(hidT s₁.heap H).get? b=some o:=fun e n=>qlbz e n;have noA:∀{b:Addr} {o:Obj} {es:Array DictEntry} {ep:Nat},s₁.heap.get? b=some o->o.data=.dict es ep->H b=none:=fun {b o es ep} e d=>by
   cases q:H b with
   |none=>rfl
   |some u=>
    have e':b=a:=hA b (by rw[q];simp);subst e';rw[ha] at e;cases e;have d':Data.seq vs.toArray _=Data.dict es ep:=d;cases d'
  have nsK:∀{b:Addr} {m:Str->Option Value},s₁.heap.Ns b m->(hidT s₁.heap H).Ns b m:=fun {b m} ⟨o,es,ep,e,d,r⟩=>⟨o,es,ep,base_of e (noA e d),d,r⟩;have hKb:K.In (hidT s₁.heap H):=fun b o e=>base_of (KX b o e) (by
   cases q:H b with
   |none=>rfl
   |some u=>
    have e':b=a:=hA b (by rw[q];simp);subst e';rw[hK (by rw[q];simp)] at e;cases e)
  have hM:Mod K mg (hidT s₁.heap H):=⟨hKb,nsK hns,⟨mb,nsK hb,hbb⟩,let ⟨mc,h1,h2⟩:=hlim;⟨mc,nsK h1,h2⟩⟩
  have e0:Env0 P w K mg (hidT s₁.heap H) callerA [] s₁ H:=⟨rfl,hM,fun b o e=>qlcz e,Nat.le_of_eq (qlaz _ _),trivial,fun b hb=>absurd (show b∈([]:List Addr) from hb) (by simp),hok,.of_eq hg⟩;refine codeAny_mono ((F _ hKb (nsK hns)).run callerA [] s₁ H ⟨[.ref a],[]⟩ [.ref a] [.ref a] _ _ hr e0 (hbind s₁ (.ref a)) (.cons rfl .nil) (hsp H hO hS)) fun r s' h=>?_;cases r with
  |error e=>exact (hCX H e s' h).elim
  |ok fl=>
   cases fl with
   |next=>exact False.elim h
   |brk=>exact False.elim h
   |cont=>exact False.elim h
   |ret u=>
    obtain⟨v,H',os,bare,un,hok',r',q⟩:=h;have q':v=.bl true:=q;subst q';obtain rfl:u=Value.bool true:=r';refine⟨rfl,OldK.of_keep fun b o e=>?_,os,bare⟩;cases q:H b with
    |none=>exact un.keep b o e q (by intro z;exact absurd (show b∈([]:List Addr) from z) (by simp)) (by simp)
    |some u=>
     rcases hO b with z|⟨ob,xs,z⟩
     ·rw[q] at z;cases z
     ·have z2:=un.frzs b ob _ z;obtain⟨e1,_⟩:=hok b _ z;obtain⟨e2,_⟩:=hok' b _ z2;rw[e] at e1;cases e1;exact e2
 cases hk:K.lookup a with
 |some o=>
  -- the script is one of the module's own objects
  have e:=KX a o hk;rw[ha] at e;cases e;refine core (fun _=>none) (fun _=>.inl rfl) (.inr ⟨_,vs.toArray,_,hk,rfl,rfl,rfl,by rw[List.size_toArray,lenV];exact hl,by simpa using rv⟩) (fun b u z=>by have z':(none:Option HO)=some u:=z;cases z') (fun b z=>absurd rfl z) fun z=>absurd rfl z
 |none=>
  refine core (fun b=>if b=a then some (.frz { cls:=.type "list",data:=.seq vs.toArray } (.lst (ns.map V.int))) else none) (fun b=>?_) (.inl (.inr ⟨{ cls:=.type "list",data:=.seq vs.toArray },if_pos rfl⟩)) (fun b u z=>?_) (fun b z=>?_) fun _=>hk
  ·by_cases hb:b=a
   ·exact .inr ⟨_,_,if_pos hb⟩
   ·exact .inl (if_neg hb)
  ·by_cases hb:b=a
   ·have z':=(if_pos hb).symm.trans z;cases z';subst hb;exact⟨ha,by rw[List.length_map];exact hl,vs,_,rv,ha⟩
   ·have z':=(if_neg hb).symm.trans z;cases z'
  ·by_cases hb:b=a
   ·exact hb
   ·exact absurd (if_neg hb) z
end L2
namespace L2
open PySem PySem.Spec PyProof.Rows
theorem walk_of{l:PySem.W.OpenLaw}{n k:Nat}{q:Program}{loose:List Str}{XP:(Str->Option Value)->Heap->Prop}{YP:World->Heap->Prop}{d:DefRec}{K:Params->PySem.W.Frag}{CX:World->CXT}{sp:World->Sp}{x:Str}
  (hn:l.most=some n) (hn2:n≤sizeLine) (hdf:d.params.defaults=[]) (hr:Room k callerA)
  (hY:∀(w:World) (h:Heap),YP w h->(K w.params).In h)
  (F:∀(w:World) (mg:Str->Option Value) (fa:Addr) (h:Heap),(K w.params).In h->h.Ns mainGlobals mg->mg d.name=some (.ref fa) ->
   ∃fd:FuncData,(∀(s:Shared) (u:Value),BindsTo s fd ⟨[u],[]⟩ [(x,u)]) ∧
    ∀base:Heap,(K w.params).In base->base.Ns mainGlobals mg->FnOk l.prog w (K w.params) mg base (CX w) k fa fd [x] (sp w))
  (hsp:∀(w:World) (H:Hp) (a:Addr) (ns:List Int),ns.length≤n->Only H->SqL (K w.params) H a (ns.map V.int)->sp w [.ref a] H (fun v _=>v=.bl true) fun _ _ _=>False)
  (hCX:∀(w:World) (H:Hp) (s:Shared) (e:Value) (s':Shared),CX w [] H s (fun _ _ _=>False) e s'->False):
  PySem.W.WalkO q loose XP YP l.row.toRowW d [] (fun f vs=>PySem.call f vs):=by
 refine Att.attach_call hn hdf fun w s₀ s₁ mg mb fa o pm cd doc a vs ns G Y ho hd hcd hmg hobj hints hlen hg=>?_;have KX:=hY w _ Y;obtain⟨fd,hb,hF⟩:=F w mg fa _ KX G.T.g hmg;exact qnoz KX G.T.g G.T.b G.T.builtins G.T.nolimit hg hobj hints (Nat.le_trans hlen hn2) hr hF hb (fun H hO hS=>hsp w H a ns hlen hO hS) fun H e s'=>hCX w H s₁ e s'
end L2
/- THE LAST THEOREM (shape;LID,My.* are yours):
  My.Adr: a structure of the addresses that your layer names (classes,functions);My.Txt K t: a structure (Prop) of the equations over K;
  My.txt_mk:{K} {implicit addresses ..} (e1:nsIn K mainGlobals "law" = some (some (.ref f))) (e2:K.lookup f=some ⟨oc,od,.func (fnOf "law" "law" params body scope dV kV doc pm an cdv ct),sl⟩) (e3:codeIn K cdv "law" = true) ..:∃t,My.Txt K t
set_option maxRecDepth 100000 in
set_option maxHeartbeats 0 in
theorem PySem.Challenge.cw_LID_holds : PySem.Challenge.rw_LID.Holds := by
 w_on;o_law;k_head;(case hw=>w_witness2)
 k_fill
 refine L2.walk_of (l:=PySem.Challenge.rw_LID) (n:=63) (k:=40) (x:="script") (CX:=fun w=>..) (sp:=fun _=>My.sp_law) rfl (by decide) rfl ⟨rfl,by decide,by decide⟩ (fun w h Y=>PySem.W.kIn_of Y) ?F ?S ?C
 case F=>
  intro w mg fa h KX G hmg
  have T:∃t,My.Txt (L2.KOf KX) t:=by
   dsimp only[L2.KOf]                          -- K must stand as «<heap const> w.params» for k_is
   refine' My.txt_mk ?e1 ?e2 ?e3 ..
   (case e1=>PySem.W.k_is)                    -- in the order: a name -> its address -> its object -> its parts
   (case e2=>PySem.W.k_is)
   ..
  obtain⟨t,T⟩:=T
  have e0:=hmg.symm.trans (PySem.W.mg_of KX G T.law)
  cases e0                                       -- fa is the law's own address
  exact⟨_,fun s u=>.of_eq rfl,fun base kb nb=>My.law_fn T kb nb⟩     -- if «.of_eq rfl» comes too early: refine' ⟨_,?b,fun base kb nb=>My.law_fn T kb nb⟩;exact fun s u=>.of_eq rfl
 case S=>exact fun w H a ns hl hO hS=>..
 case C=>exact ..
(the tactic k_is has no namespace: write k_is) -/
namespace L2
open PySem PySem.Spec PyProof.Rows
def defArgs(s:Stmt):Arguments:=match s with
 |.FunctionDef _ a _ _ _ _ _ _ _ _=>a
 |_=>{ posonlyargs:=[],args:=[],vararg:=none,kwonlyargs:=[],kw_defaults:=[],kwarg:=none,defaults:=[]}
def defBody(s:Stmt):List Stmt:=match s with
 |.FunctionDef _ _ b _ _ _ _ _ _ _=>b
 |_=>[]
def defScope(s:Stmt):Scope:=match s with
 |.FunctionDef _ _ _ _ _ _ sc _ _ _=>sc
 |_=>{ kind:=.function,names:=[],isGenerator:=false,isCoroutine:=false }
abbrev CX0:CXT:=fun _ _ _ _ _ _=>False
abbrev E0:XK:=fun _ _ _=>False
theorem pass0{X:Cx}:Passes CX0 X E0:=fun _ _ _ _ _ _ _ h=>h.elim
structure Fun(K:PySem.W.Frag)(x qual:Str)(st:Stmt)(f:Addr)(fd:FuncData):Prop where
 ex:∃(oc:Value) (od:Option Addr) (kV doc pm:Value) (an:Option Addr) (cdv ct:Value) (osl:Array (Option Value)),
  fd=PySem.W.fnOf x qual (defArgs st) (defBody st) (defScope st) .none kV doc pm an cdv ct/\K.lookup f=some ⟨oc,od,.func fd,osl⟩/\PySem.W.codeIn K cdv qual=true
 kp:PySem.W.keepIn K (.ref f)=true
section
variable {P:Program} {w:World} {K:PySem.W.Frag} {mg:Str->Option Value} {base:Heap}
theorem Fun.ok{x qual:Str}{st:Stmt}{f:Addr}{fd:FuncData}{N ps:List Str}{k:Nat}{sp:Sp}(F:Fun K x qual st f fd)(S:FnScope N ps (defScope st))(len:∀vs H Q E,sp vs H Q E->vs.length=ps.length)
  (hbody:∀(cdv:Value) (A:Around) (outer:List Env) (s:Shared) (H:Hp) (vs:List V) (Q:VK) (E:XK),Room k (A.deeper (envOfC qual (defScope st) s.heap.objs.size f cdv))->sp vs H Q E ->
   ∃t,PSs (cxOf CX0 P w K mg base N qual (defScope st) f cdv A outer s H E).nox (defBody st) t/\t { nx:=fun _ H'=>Q .non H',rt:=Q } (start N vs) H):FnOk P w K mg base CX0 (k+1) f fd ps sp:=by
 obtain⟨oc,od,kV,doc,pm,an,cdv,ct,osl,rfl,lk,hcd⟩:=F.ex;refine qg3z lk hcd S len fun A outer s H vs Q E hr hsp=>?_;obtain⟨t,h,q⟩:=hbody cdv A outer s H vs Q E hr hsp;exact⟨t,h.nox,q⟩
theorem Fun.binds{x qual:Str}{st:Stmt}{f:Addr}{fd:FuncData}{ps:List Str}(F:Fun K x qual st f fd)
  (h:∀(kV doc pm:Value) (an:Option Addr) (cdv ct:Value) (us:List Value),us.length=ps.length->bindArgs (PySem.W.fnOf x qual (defArgs st) (defBody st) (defScope st) .none kV doc pm an cdv ct) ⟨us,[]⟩=pure (ps.zip us)):Binds K fd ps []:=by
 obtain⟨oc,od,kV,doc,pm,an,cdv,ct,osl,rfl,lk,hcd⟩:=F.ex;exact .all (h kV doc pm an cdv ct)
theorem qhcz{x qual:Str}{st:Stmt}{f:Addr}{oc:Value}{od an:Option Addr}{osl:Array (Option Value)}{kV doc pm cdv ct:Value}(l:K.lookup f=some ⟨oc,od,.func (PySem.W.fnOf x qual (defArgs st) (defBody st) (defScope st) .none kV doc pm an cdv ct),osl⟩)
  (c:PySem.W.codeIn K cdv qual=true) (k:PySem.W.keepIn K (.ref f)=true):Fun K x qual st f (PySem.W.fnOf x qual (defArgs st) (defBody st) (defScope st) .none kV doc pm an cdv ct):=⟨⟨oc,od,kV,doc,pm,an,cdv,ct,osl,rfl,l,c⟩,k⟩
end
section
variable {X:Cx}
theorem pv(i:Nat){x:Str}{pos:Pos}(hN:X.N[i]?=some x:=by rfl)(hv:Vis X.env.scope x:=by first|exact Or.inl rfl|exact Or.inr (Or.inl rfl)|exact Or.inr (Or.inr rfl))(hd:(x==("__debug__":Str))=false:=by decide)
  (hcd:(x==("__classdict__":Str))=false:=by decide):PE X (.Name x pos) (tVar i):=qldz hN hv hd hcd
end
end L2
namespace L3
open PySem PySem.Spec PyProof.Rows L2
inductive D where
 |non|bl (b:Bool)|int (i:Int)|str (x:Str)|tup (xs:List D)|scr (xs:List D)|obj (a:Addr)|dc (a:Addr)
def SqF(K:PySem.W.Frag)(H:Hp)(a:Addr)(xs:List V):Prop:=
 (∃o,H a=some (.frz o (.lst xs))) ∨
  ∃(o:Obj) (its:Array Value) (n:Nat),K.lookup a=some o/\o.cls=.type "list"/\o.dict=none/\o.data=.seq its n/\its.size≤sizeLine/\Vals xs its.toList
theorem SqF.l{K:PySem.W.Frag}{H:Hp}{a:Addr}{xs:List V}(h:SqF K H a xs):SqL K H a xs:=by
 rcases h with h|h
 ·exact .inl (.inr h)
 ·exact .inr h
mutual
def Hv(K:PySem.W.Frag)(H:Hp):D->V->Prop
 |.non,v=>v=.non
 |.bl b,v=>v=.bl b
 |.int i,v=>v=.int i
 |.str x,v=>v=.str x
 |.tup ds,v=>∃a vs,v=.ref a/\SqT K H a vs/\Hvs K H ds vs
 |.scr ds,v=>∃a vs,v=.ref a/\SqF K H a vs/\Hvs K H ds vs
 |.obj a,v=>v=.ref a
 |.dc a,v=>v=.ref a/\∃ob φ,H a=some (.frz ob (.ext φ))/\ob.cls=.type "dict"
def Hvs(K:PySem.W.Frag)(H:Hp):List D->List V->Prop
 |[],vs=>vs=[]
 |d::ds,vs=>∃v r,vs=v::r/\Hv K H d v/\Hvs K H ds r
end
inductive GO where
 |lst (ds:List D)|pen|dct
 |gen (R:PySem.W.Frag->Addr->Hp->Prop)
def GO.plain:GO->Prop
 |.gen _=>False
 |_=>True
abbrev Gp:=Addr->Option GO
def upd3(G:Gp)(a:Addr)(o:GO):Gp:=fun b=>if b=a then some o else G b
theorem qalz{G:Gp}{a:Addr}{o:GO}:upd3 G a o a=some o:=by simp[upd3]
theorem qacz{G:Gp}{a b:Addr}{o:GO}(h:b≠a):upd3 G a o b=G b:=by simp[upd3,h]
theorem qnpz{G:Gp}{a b:Addr}{o u:GO}(hn:G a=none)(h:G b=some u):upd3 G a o b=some u:=by
 rw[qacz]
 ·exact h
 ·intro e;rw[e,hn] at h;cases h
theorem qnqz{G:Gp}{a:Addr}{o u:GO}:upd3 (upd3 G a o) a u=upd3 G a u:=by
 funext b;unfold upd3;by_cases h:b=a
 ·rw[if_pos h,if_pos h]
 ·rw[if_neg h,if_neg h,if_neg h]
def PenOk(a b c:Int):Prop:=0≤a/\0≤c/\c<2147483647
def GOk(K:PySem.W.Frag)(H:Hp)(a:Addr):GO->Prop
 |.lst ds=>∃vs,H a=some (.lst vs)/\Hvs K H ds vs
 |.pen=>∃i j k,H a=some (.lst [.int i,.int j,.int k])/\PenOk i j k
 |.dct=>H a=some (.ext fun h=>∃o,h.get? a=some o/\o.cls=.type "dict")
 |.gen R=>R K a H/\(∃o,H a=some o/\(∀xs,o≠.tup xs)/\∀ob u,o≠.frz ob u)/\∀H1 H2:Hp,(∀b xs,H1 b=some (.tup xs)->H2 b=some (.tup xs))->(∀b o u,H1 b=some (.frz o u)->H2 b=some (.frz o u))->H2 a=H1 a->R K a H1->R K a H2
def RepG(K:PySem.W.Frag)(G:Gp)(H:Hp):Prop:=∀a o,G a=some o->GOk K H a o
structure Ext(H H':Hp):Prop where
 tup:∀b xs,H b=some (.tup xs)->H' b=some (.tup xs)
 frz:∀b o u,H b=some (.frz o u)->H' b=some (.frz o u)
theorem Ext.refl(H:Hp):Ext H H:=⟨fun _ _ h=>h,fun _ _ _ h=>h⟩
theorem Ext.trans{H H1 H2:Hp}(a:Ext H H1)(b:Ext H1 H2):Ext H H2:=⟨fun c x h=>b.tup c x (a.tup c x h),fun c o u h=>b.frz c o u (a.frz c o u h)⟩
structure Step(H:Hp)(G:Gp)(H':Hp)(G':Gp):Prop where
 fr:∀a o,H a=some o->G a=none->H' a=some o
 trk:∀a,H a≠none->H' a≠none
 new:∀a,G a=none->G' a≠none->H a=none
theorem Step.refl(H:Hp)(G:Gp):Step H G H G:=⟨fun _ _ h _=>h,fun _ h=>h,fun _ h1 h2=>absurd h1 h2⟩
theorem Step.trans{H H1 H2:Hp}{G G1 G2:Gp}(a:Step H G H1 G1)(b:Step H1 G1 H2 G2):Step H G H2 G2 where
 fr:=fun c o h n=>b.fr c o (a.fr c o h n) (by
  refine Classical.byContradiction fun q=>?_;rw[a.new c n q] at h;cases h)
 trk:=fun c h=>b.trk c (a.trk c h)
 new:=fun c n q=>by
  by_cases h1:G1 c=none
  ·have h2:=b.new c h1 q;refine Classical.byContradiction fun z=>?_;exact a.trk c z h2
  ·exact a.new c n h1
def Sub(G' G:Gp):Prop:=∀a o,G' a=some o->G a=some o
theorem Sub.refl(G:Gp):Sub G G:=fun _ _ h=>h
theorem Sub.trans{A B C:Gp}(a:Sub A B)(b:Sub B C):Sub A C:=fun x o h=>b x o (a x o h)
theorem Sub.upd{G:Gp}{a:Addr}{o:GO}(h:G a=none):Sub G (upd3 G a o):=fun _ _ e=>qnpz h e
theorem Sub.of_none{G' G:Gp}(s:Sub G' G){a:Addr}(h:G a=none):G' a=none:=by
 cases e:G' a with
 |none=>rfl
 |some o=>
  rw[s a o e] at h;cases h
structure New(G:Gp)(p:Addr)(o:GO)(G':Gp):Prop where
 non:G p=none
 sub:Sub G G'
 at_:G' p=some o
theorem New.mk'{G:Gp}{p:Addr}{o:GO}(h:G p=none):New G p o (upd3 G p o):=⟨h,Sub.upd h,qalz⟩
theorem Step.sub{H:Hp}{G G':Gp}(s:Sub G' G):Step H G H G':=⟨fun _ _ h _=>h,fun _ h=>h,fun a n q=>by
 exact absurd (s.of_none n) q⟩
section
variable {K:PySem.W.Frag} {H H':Hp} {G G':Gp}
theorem RepG.sub(R:RepG K G H)(s:Sub G' G):RepG K G' H:=fun a o e=>R a o (s a o e)
theorem GOk.mut{a:Addr}{o:GO}(h:GOk K H a o):∃o,H a=some o/\(∀xs,o≠.tup xs)/\∀ob u,o≠.frz ob u:=by
 cases o with
 |lst ds=>obtain⟨vs,e,_⟩:=h;exact⟨_,e,fun _=>nofun,fun _ _=>nofun⟩
 |pen=>obtain⟨i,j,k,e,_⟩:=h;exact⟨_,e,fun _=>nofun,fun _ _=>nofun⟩
 |dct=>exact⟨_,h,fun _=>nofun,fun _ _=>nofun⟩
 |gen R=>exact h.2.1
theorem RepG.outT(R:RepG K G H){a:Addr}{xs:List V}(e:H a=some (.tup xs)):G a=none:=by
 cases q:G a with
 |none=>rfl
 |some u=>
  obtain⟨o,z,h1,_⟩:=(R a u q).mut;rw[e] at z;exact absurd (Option.some.inj z).symm (h1 xs)
theorem RepG.outF(R:RepG K G H){a:Addr}{ob:Obj}{u:HO}(e:H a=some (.frz ob u)):G a=none:=by
 cases q:G a with
 |none=>rfl
 |some g=>
  obtain⟨o,z,_,h1⟩:=(R a g q).mut;rw[e] at z;exact absurd (Option.some.inj z).symm (h1 ob u)
theorem RepG.free(R:RepG K G H){a:Addr}(e:H a=none):G a=none:=by
 cases q:G a with
 |none=>rfl
 |some u=>
  obtain⟨o,z,_⟩:=(R a u q).mut;rw[e] at z;cases z
theorem Step.ext(S:Step H G H' G')(R:RepG K G H):Ext H H':=⟨fun b xs h=>S.fr b _ h (R.outT h),fun b o u h=>S.fr b _ h (R.outF h)⟩
theorem SqT.ext{a:Addr}{xs:List V}(E:Ext H H')(h:SqT K H a xs):SqT K H' a xs:=by
 rcases h with (h|⟨o,h⟩)|h
 ·exact .inl (.inl (E.tup _ _ h))
 ·exact .inl (.inr ⟨o,E.frz _ _ _ h⟩)
 ·exact .inr h
theorem SqF.ext{a:Addr}{xs:List V}(E:Ext H H')(h:SqF K H a xs):SqF K H' a xs:=by
 rcases h with⟨o,h⟩|h
 ·exact .inl ⟨o,E.frz _ _ _ h⟩
 ·exact .inr h
mutual
theorem Hv.ext(E:Ext H H'):∀{d:D} {v:V},Hv K H d v->Hv K H' d v
 |.non,_,h=>by simpa [Hv] using h
 |.bl _,_,h=>by simpa [Hv] using h
 |.int _,_,h=>by simpa [Hv] using h
 |.str _,_,h=>by simpa [Hv] using h
 |.obj _,_,h=>by simpa [Hv] using h
 |.dc a,v,h=>by
  unfold Hv at h ⊢;obtain⟨e,ob,φ,q,c⟩:=h;exact⟨e,ob,φ,E.frz _ _ _ q,c⟩
 |.tup ds,v,h=>by
  unfold Hv at h ⊢;obtain⟨a,vs,e,q,r⟩:=h;exact⟨a,vs,e,SqT.ext E q,Hvs.ext E r⟩
 |.scr ds,v,h=>by
  unfold Hv at h ⊢;obtain⟨a,vs,e,q,r⟩:=h;exact⟨a,vs,e,SqF.ext E q,Hvs.ext E r⟩
theorem Hvs.ext(E:Ext H H'):∀{ds:List D} {vs:List V},Hvs K H ds vs->Hvs K H' ds vs
 |[],_,h=>by simpa [Hvs] using h
 |d::ds,vs,h=>by
  unfold Hvs at h ⊢;obtain⟨v,r,e,q,z⟩:=h;exact⟨v,r,e,Hv.ext E q,Hvs.ext E z⟩
end
theorem Hvs.nil:Hvs K H [] []:=by simp[Hvs]
theorem Hvs.cons{d:D}{v:V}{ds:List D}{vs:List V}(h:Hv K H d v)(r:Hvs K H ds vs):Hvs K H (d::ds) (v::vs):=by
 unfold Hvs;exact⟨v,vs,rfl,h,r⟩
theorem Hvs.inv{d:D}{ds:List D}{vs:List V}(h:Hvs K H (d::ds) vs):∃v r,vs=v::r/\Hv K H d v/\Hvs K H ds r:=by
 unfold Hvs at h;exact h
theorem Hvs.inv0{vs:List V}(h:Hvs K H [] vs):vs=[]:=by
 unfold Hvs at h;exact h
theorem Hvs.length:∀{ds:List D} {vs:List V},Hvs K H ds vs->ds.length=vs.length
 |[],_,h=>by rw[h.inv0];rfl
 |d::ds,vs,h=>by
  obtain⟨v,r,rfl,_,q⟩:=h.inv;simp[q.length]
theorem Hvs.get:∀{ds:List D} {vs:List V} {i:Nat} {d:D},Hvs K H ds vs->ds[i]?=some d->∃v,vs[i]?=some v/\Hv K H d v
 |[],_,_,_,_,e=>by simp at e
 |x::ds,vs,0,d,h,e=>by
  obtain⟨v,r,rfl,q,_⟩:=h.inv;simp at e;subst e;exact⟨v,rfl,q⟩
 |x::ds,vs,i+1,d,h,e=>by
  obtain⟨v,r,rfl,_,q⟩:=h.inv;simp at e;obtain⟨u,e2,q2⟩:=q.get e;exact⟨u,by simpa using e2,q2⟩
theorem Hvs.append:∀{ds es:List D} {vs us:List V},Hvs K H ds vs->Hvs K H es us->Hvs K H (ds++es) (vs++us)
 |[],es,_,_,h,q=>by rw[h.inv0];exact q
 |d::ds,es,vs,us,h,q=>by
  obtain⟨v,r,rfl,z,w⟩:=h.inv;exact .cons z (w.append q)
theorem Hvs.drop:∀{ds:List D} {vs:List V} (n:Nat),Hvs K H ds vs->Hvs K H (ds.drop n) (vs.drop n)
 |ds,vs,0,h=>h
 |[],_,n+1,h=>by rw[h.inv0];exact .nil
 |d::ds,vs,n+1,h=>by
  obtain⟨v,r,rfl,_,q⟩:=h.inv;exact q.drop n
theorem Hvs.take:∀{ds:List D} {vs:List V} (n:Nat),Hvs K H ds vs->Hvs K H (ds.take n) (vs.take n)
 |ds,vs,0,h=>by simpa using Hvs.nil
 |[],_,n+1,h=>by rw[h.inv0];exact .nil
 |d::ds,vs,n+1,h=>by
  obtain⟨v,r,rfl,q,z⟩:=h.inv;exact .cons q (z.take n)
theorem Hvs.set:∀{ds:List D} {vs:List V} (i:Nat) {d:D} {v:V},Hvs K H ds vs->Hv K H d v->Hvs K H (ds.set i d) (vs.set i v)
 |[],_,i,d,v,h,_=>by rw[h.inv0];exact .nil
 |x::ds,vs,0,d,v,h,q=>by
  obtain⟨u,r,rfl,_,z⟩:=h.inv;exact .cons q z
 |x::ds,vs,i+1,d,v,h,q=>by
  obtain⟨u,r,rfl,y,z⟩:=h.inv;exact .cons y (z.set i q)
theorem Hvs.rev:∀{ds:List D} {vs:List V},Hvs K H ds vs->Hvs K H ds.reverse vs.reverse
 |[],_,h=>by rw[h.inv0];exact .nil
 |x::ds,vs,h=>by
  obtain⟨u,r,rfl,y,z⟩:=h.inv;rw[List.reverse_cons,List.reverse_cons];exact z.rev.append (.cons y .nil)
theorem Hvs.rep{ds:List D}{vs:List V}(h:Hvs K H ds vs):∀k:Nat,Hvs K H (List.replicate k ds).flatten (List.replicate k vs).flatten
 |0=>.nil
 |k+1=>by
  simp only[List.replicate_succ,List.flatten_cons];exact h.append (h.rep k)
theorem Hvs.ints:∀(ns:List Int),Hvs K H (ns.map D.int) (ns.map V.int)
 |[]=>.nil
 |n::ns=>.cons (by simp[Hv]) (Hvs.ints ns)
theorem Ext.laid{p:Addr}{o:HO}(h:H p=none):Ext H (upd H p o):=⟨fun b xs e=>by rw[qiz (qa9z e h)];exact e,fun b x u e=>by rw[qiz (qa9z e h)];exact e⟩
theorem GOk.ext{a:Addr}{o:GO}(h:GOk K H a o)(E:Ext H H')(e:H' a=H a):GOk K H' a o:=by
 cases o with
 |lst ds=>
  obtain⟨vs,z,q⟩:=h;exact⟨vs,e.trans z,q.ext E⟩
 |pen=>
  obtain⟨i,j,k,z,q⟩:=h;exact⟨i,j,k,e.trans z,q⟩
 |dct=>exact e.trans h
 |gen R=>
  obtain⟨h1,h2,h3⟩:=h;exact⟨h3 H H' E.tup E.frz e h1,by rw[e];exact h2,h3⟩
theorem RepG.laid{p:Addr}{o:HO}(R:RepG K G H)(h:H p=none):RepG K G (upd H p o):=fun a u e=>by
 have hne:a≠p:=fun z=>by
  rw[z,R.free h] at e;cases e
 exact (R a u e).ext (Ext.laid h) (qiz hne)
theorem RepG.laidG{p:Addr}{o:HO}{g:GO}(R:RepG K G H)(h:H p=none)(new:GOk K (upd H p o) p g):RepG K (upd3 G p g) (upd H p o):=fun a u e=>by
 by_cases z:a=p
 ·subst z;rw[qalz] at e;cases e;exact new
 ·rw[qacz z] at e;exact (R.laid h) a u e
theorem Step.laid{p:Addr}{o:HO}(h:H p=none):Step H G (upd H p o) G:=⟨fun a u e _=>by rw[qiz (qa9z e h)];exact e,fun a q=>by
 by_cases z:a=p
 ·rw[z,qoz];simp
 ·rw[qiz z];exact q,fun a n q=>absurd n q⟩
theorem Step.laidG{p:Addr}{o:HO}{g:GO}(h:H p=none):Step H G (upd H p o) (upd3 G p g):=⟨(Step.laid (G:=G) h).fr,(Step.laid (G:=G) h).trk,fun a n q=>by
 by_cases z:a=p
 ·rw[z];exact h
 ·rw[qacz z] at q;exact absurd n q⟩
theorem qnrz{p b:Addr}{xs ys:List V}(h:H p=some (.lst xs))(e:H b=some (.tup ys)):b≠p:=fun z=>by
 rw[z,h] at e;cases e
theorem qnsz{p b:Addr}{xs:List V}{o:Obj}{u:HO}(h:H p=some (.lst xs))(e:H b=some (.frz o u)):b≠p:=fun z=>by
 rw[z,h] at e;cases e
theorem Ext.wrote{p:Addr}{xs:List V}{o:HO}(h:H p=some (.lst xs)):Ext H (upd H p o):=
 ⟨fun b ys e=>by rw[qiz (qnrz h e)];exact e,fun b x u e=>by rw[qiz (qnsz h e)];exact e⟩
theorem RepG.wrote{p:Addr}{xs:List V}{o:HO}{g:GO}(R:RepG K G H)(h:H p=some (.lst xs))(new:GOk K (upd H p o) p g):RepG K (upd3 G p g) (upd H p o):=fun a u e=>by
 by_cases z:a=p
 ·subst z;rw[qalz] at e;cases e;exact new
 ·rw[qacz z] at e;exact (R a u e).ext (Ext.wrote h) (qiz z)
theorem RepG.newL{p:Addr}{xs:List V}{ds:List D}(R:RepG K G H)(h:H p=none)(hv:Hvs K H ds xs):RepG K (upd3 G p (.lst ds)) (upd H p (.lst xs)):=R.laidG h ⟨xs,qoz,hv.ext (.laid h)⟩
theorem RepG.wroteL{p:Addr}{xs ys:List V}{ds:List D}(R:RepG K G H)(e:H p=some (.lst xs))(hv:Hvs K H ds ys):RepG K (upd3 G p (.lst ds)) (upd H p (.lst ys)):=R.wrote e ⟨ys,qoz,hv.ext (.wrote e)⟩
theorem Step.wrote{p:Addr}{o:HO}{g u:GO}(h:G p=some u):Step H G (upd H p o) (upd3 G p g):=⟨fun a x e n=>by
 have hne:a≠p:=fun z=>by
  rw[z,h] at n;cases n
 rw[qiz hne];exact e,fun a q=>by
 by_cases z:a=p
 ·rw[z,qoz];simp
 ·rw[qiz z];exact q,fun a n q=>by
 have hne:a≠p:=fun z=>by
  rw[z,h] at n;cases n
 rw[qacz hne] at q;exact absurd n q⟩
end
abbrev S3:=List (Option D)
def at3:S3->Nat->Option D
 |[],_=>none
 |x::_,0=>x
 |_::r,n+1=>at3 r n
def set3:S3->Nat->D->S3
 |[],_,_=>[]
 |_::r,0,d=>some d::r
 |x::r,n+1,d=>x::set3 r n d
structure RepS(K:PySem.W.Frag)(τ:S3)(σ:L2.St)(H:Hp):Prop where
 len:τ.length=σ.length
 at_:∀(i:Nat) d,at3 τ i=some d->∃v,σ[i]?=some (some v)/\Hv K H d v
theorem qhdz:∀(τ:S3) (i:Nat) (d:D),(set3 τ i d).length=τ.length
 |[],_,_=>rfl
 |_::r,0,d=>rfl
 |x::r,n+1,d=>by simp[set3,qhdz r n d]
theorem qhez:∀(τ:S3) (i j:Nat) (d:D),at3 (set3 τ i d) j=if j=i/\i<τ.length then some d else at3 τ j
 |[],i,j,d=>by simp[set3,at3]
 |x::r,0,0,d=>by simp[set3,at3]
 |x::r,0,j+1,d=>by simp[set3,at3]
 |x::r,i+1,0,d=>by simp[set3,at3]
 |x::r,i+1,j+1,d=>by
  simp only[set3,at3,qhez r i j d,List.length_cons];by_cases h:j=i/\i<r.length
  ·rw[if_pos h,if_pos (by lia)]
  ·rw[if_neg h,if_neg (by lia)]
section
variable {K:PySem.W.Frag} {τ:S3} {σ:L2.St} {H H':Hp}
theorem RepS.ext(R:RepS K τ σ H)(E:Ext H H'):RepS K τ σ H':=⟨R.len,fun i d h=>by
 obtain⟨v,e,q⟩:=R.at_ i d h;exact⟨v,e,q.ext E⟩⟩
theorem RepS.set(R:RepS K τ σ H){i:Nat}{d:D}{v:V}(h:Hv K H d v):RepS K (set3 τ i d) (σ.set i (some v)) H:=⟨by rw[qhdz,List.length_set];exact R.len,fun j e q=>by
 rw[qhez] at q;by_cases c:j=i/\i<τ.length
 ·rw[if_pos c] at q;cases q;refine⟨v,?_,h⟩;rw[c.1,List.getElem?_set_self (by rw[←R.len];exact c.2)]
 ·rw[if_neg c] at q;obtain⟨u,e1,e2⟩:=R.at_ j e q;refine⟨u,?_,e2⟩;by_cases hij:i=j
  ·subst hij;have:σ.length≤i:=by
    have:=R.len;have:¬i<τ.length:=fun z=>c ⟨rfl,z⟩;lia
   rw[List.getElem?_eq_none_iff.mpr this] at e1;cases e1
  ·rw[List.getElem?_set_ne hij];exact e1⟩
end
def start3:List Str->List D->S3
 |[],_=>[]
 |_::N,[]=>none::start3 N []
 |_::N,d::ds=>some d::start3 N ds
theorem qeyz:∀(N:List Str) (ds:List D),(start3 N ds).length=N.length
 |[],_=>rfl
 |_::N,[]=>by simp[start3,qeyz N []]
 |_::N,d::ds=>by simp[start3,qeyz N ds]
theorem qhfz:∀(N:List Str) (i:Nat),at3 (start3 N []) i=none
 |[],i=>rfl
 |_::N,0=>rfl
 |_::N,i+1=>qhfz N i
theorem qhgz:∀(N:List Str) (ds:List D) (i:Nat) (d:D),at3 (start3 N ds) i=some d->ds[i]?=some d
 |[],_,_,_,h=>by cases h
 |_::N,[],i,d,h=>by
  rw[qhfz] at h;cases h
 |_::N,x::ds,0,d,h=>by
  simp only[start3,at3] at h;simpa using h
 |_::N,x::ds,i+1,d,h=>by
  simp only[start3,at3] at h;simpa using qhgz N ds i d h
theorem RepS.start{K:PySem.W.Frag}{N:List Str}{ds:List D}{vs:List V}{H:Hp}(h:Hvs K H ds vs)(hl:vs.length≤N.length):RepS K (start3 N ds) (L2.start N vs) H:=⟨by
 rw[qeyz];simp[L2.start];lia,fun i d e=>by
 obtain⟨v,e1,q⟩:=h.get (qhgz N ds i d e);refine⟨v,?_,q⟩;unfold L2.start;have hi:i<vs.length:=(List.getElem?_eq_some_iff.mp e1).1;rw[List.getElem?_append_left (by simpa using hi),List.getElem?_map,e1];rfl⟩
abbrev V3:=D->Gp->Prop
abbrev TE3:=S3->Gp->V3->Prop
abbrev TT3:=S3->Gp->(Bool->Gp->Prop)->Prop
abbrev TA3:=S3->Gp->(List D->Gp->Prop)->Prop
structure Ends3 where
 nx:S3->Gp->Prop
 rt:V3
 bk:S3->Gp->Prop:=fun _ _=>False
 ct:S3->Gp->Prop:=fun _ _=>False
abbrev TS3:=Ends3->S3->Gp->Prop
def low(K:PySem.W.Frag)(t:TE3):TE:=fun σ H Q=>∃τ G Q3,RepS K τ σ H/\RepG K G H/\t τ G Q3/\∀v H' d G',Hv K H' d v->Step H G H' G'->RepG K G' H'->Q3 d G'->Q v H'
def lowT(K:PySem.W.Frag)(t:TT3):TT:=fun σ H Q=>∃τ G Q3,RepS K τ σ H/\RepG K G H/\t τ G Q3/\∀b H' G',Step H G H' G'->RepG K G' H'->Q3 b G'->Q b H'
def lowA(K:PySem.W.Frag)(t:TA3):TA:=fun σ H Q=>∃τ G Q3,RepS K τ σ H/\RepG K G H/\t τ G Q3/\∀vs H' ds G',Hvs K H' ds vs->Step H G H' G'->RepG K G' H'->Q3 ds G'->Q vs H'
structure EndsLow(K:PySem.W.Frag)(H:Hp)(G:Gp)(D3:Ends3)(D2:Ends):Prop where
 nx:∀τ σ G' H',RepS K τ σ H'->Step H G H' G'->RepG K G' H'->D3.nx τ G'->D2.nx σ H'
 bk:∀τ σ G' H',RepS K τ σ H'->Step H G H' G'->RepG K G' H'->D3.bk τ G'->D2.bk σ H'
 ct:∀τ σ G' H',RepS K τ σ H'->Step H G H' G'->RepG K G' H'->D3.ct τ G'->D2.ct σ H'
 rt:∀d v G' H',Hv K H' d v->Step H G H' G'->RepG K G' H'->D3.rt d G'->D2.rt v H'
theorem EndsLow.step{K:PySem.W.Frag}{H H1:Hp}{G G1:Gp}{D3:Ends3}{D2:Ends}(E:EndsLow K H G D3 D2)(S:Step H G H1 G1):EndsLow K H1 G1 D3 D2:=
 ⟨fun τ σ G' H' a b c q=>E.nx τ σ G' H' a (S.trans b) c q,fun τ σ G' H' a b c q=>E.bk τ σ G' H' a (S.trans b) c q,fun τ σ G' H' a b c q=>E.ct τ σ G' H' a (S.trans b) c q,fun d v G' H' a b c q=>E.rt d v G' H' a (S.trans b) c q⟩
def lowS(K:PySem.W.Frag)(t:TS3):TS:=fun D2 σ H=>∃τ G D3,RepS K τ σ H/\RepG K G H/\t D3 τ G/\EndsLow K H G D3 D2
abbrev PE3(X:Cx)(e:Expr)(t:TE3):Prop:=PE X e (low X.K t)
abbrev PT3(X:Cx)(e:Expr)(t:TT3):Prop:=PT X e (lowT X.K t)
abbrev PW3(X:Cx)(e:Expr)(t:TT3):Prop:=PW X e (lowT X.K t)
abbrev PA3(X:Cx)(es:List Expr)(t:TA3):Prop:=PA X es (lowA X.K t)
abbrev PS3(X:Cx)(st:Stmt)(t:TS3):Prop:=PS X st (lowS X.K t)
abbrev PSs3(X:Cx)(st:List Stmt)(t:TS3):Prop:=PSs X st (lowS X.K t)
section
variable {X:Cx} {e:Expr}
theorem qpz{t t':TE}(h:PE X e t)(f:∀σ H Q,t' σ H Q->t σ H Q):PE X e t':=fun pins s σ H Q I q=>h pins s σ H Q I (f σ H Q q)
theorem qciz{t t':TT}(h:PT X e t)(f:∀σ H Q,t' σ H Q->t σ H Q):PT X e t':=fun pins s σ H Q I q=>h pins s σ H Q I (f σ H Q q)
theorem pw_of{t t':TT}(h:PW X e t)(f:∀σ H Q,t' σ H Q->t σ H Q):PW X e t':=fun w pins s σ H Q I q=>h w pins s σ H Q I (f σ H Q q)
theorem qhhz{es:List Expr}{t t':TA}(h:PA X es t)(f:∀σ H Q,t' σ H Q->t σ H Q):PA X es t':=fun p pins s σ H Q I q=>h p pins s σ H Q I (f σ H Q q)
theorem qahz{st:Stmt}{t t':TS}(h:PS X st t)(f:∀D σ H,t' D σ H->t D σ H):PS X st t':=fun pins s σ H Q I q=>h pins s σ H Q I (f Q σ H q)
theorem qhiz{st:List Stmt}{t t':TS}(h:PSs X st t)(f:∀D σ H,t' D σ H->t D σ H):PSs X st t':=fun pins s σ H Q I q=>h pins s σ H Q I (f Q σ H q)
end
def Br(b:Bool)(A B:Prop):Prop:=(b=true->A)/\(b=false->B)
theorem Br.ite{b:Bool}{A B A' B':Prop}(h:Br b A B)(f:A->A')(g:B->B'):if b=true then A' else B':=by
 cases b with
 |true=>rw[if_pos rfl];exact f (h.1 rfl)
 |false=>rw[if_neg Bool.false_ne_true];exact g (h.2 rfl)
section
variable {X:Cx} {a b e c:Expr} {ta tb te:TE3} {tA tB:TT3} {pos:Pos} {es rest:List Expr}
def eC(d:D):TE3:=fun _ G Q=>Q d G
def eVar(i:Nat):TE3:=fun τ G Q=>match at3 τ i with
 |some d=>Q d G
 |none=>False
theorem qntz{i:Nat}{x:Str}(h:PE X (.Name x pos) (tVar i)):PE3 X (.Name x pos) (eVar i):=qpz h fun σ H Q ⟨τ,G,Q3,RS,RG,h,k⟩=>by
 unfold eVar at h;cases hd:at3 τ i with
 |none=>rw[hd] at h;exact h.elim
 |some d=>
  rw[hd] at h;obtain⟨v,e1,e2⟩:=RS.at_ i d hd;exact⟨v,e1,k v H d G e2 (.refl H G) RG h⟩
theorem qcjz{v:V}{d:D}(h:PE X e (tC v))(r:∀H,Hv X.K H d v):PE3 X e (eC d):=qpz h fun σ H Q ⟨τ,G,Q3,RS,RG,h,k⟩=>k v H d G (r H) (.refl H G) RG h
theorem qnuz{i:Int}{j}:PE3 X (.Constant (.int i) j pos) (eC (.int i)):=qcjz qgrz fun H=>by simp[Hv]
theorem e_bl{i:Bool}{j}:PE3 X (.Constant (.bool i) j pos) (eC (.bl i)):=qcjz qlez fun H=>by simp[Hv]
theorem qnvz{j}:PE3 X (.Constant .none j pos) (eC .non):=qcjz qlfz fun H=>by simp[Hv]
theorem qnwz{x:Str}{j}:PE3 X (.Constant (.str x) j pos) (eC (.str x)):=qcjz qlgz fun H=>by simp[Hv]
theorem qnxz{x:Str}{i:Int}{u:Tok}(hm:X.mg x=some (.int i u))(hg:Gl X x:=by rfl)(hd:(x==("__debug__":Str))=false:=by decide):PE3 X (.Name x pos) (eC (.int i)):=qcjz (v:=.int i) (qgsz hg hm ⟨u,rfl⟩ hd) fun H=>by simp[Hv]
abbrev R3:=D->D->Gp->V3->Prop
def eOp(r:R3)(ta tb:TE3):TE3:=fun τ G Q=>ta τ G fun x G1=>tb τ G1 fun y G2=>r x y G2 Q
def LowR(K:PySem.W.Frag)(r:R3)(r2:R2):Prop:=∀x y vx vy G H Q3 Q,Hv K H x vx->Hv K H y vy->RepG K G H->r x y G Q3->(∀v H' d G',Hv K H' d v->Step H G H' G'->RepG K G' H'->Q3 d G'->Q v H')->r2 vx vy H Q
theorem qdsz{K:PySem.W.Frag}{r:R3}{r2:R2}(L:LowR K r r2){σ:L2.St}{H:Hp}{Q:VK}(h:low K (eOp r ta tb) σ H Q):tOp r2 (low K ta) (low K tb) σ H Q:=by
 obtain⟨τ,G,Q3,RS,RG,h,k⟩:=h;refine⟨τ,G,_,RS,RG,h,fun v1 H1 d1 G1 h1 S1 R1 q1=>?_⟩;refine⟨τ,G1,_,RS.ext (S1.ext RG),R1,q1,fun v2 H2 d2 G2 h2 S2 R2 q2=>?_⟩;exact L _ _ _ _ _ _ _ _ (h1.ext (S2.ext R1)) h2 R2 q2 fun v H' d G' z1 z2 z3 z4=>k v H' d G' z1 ((S1.trans S2).trans z2) z3 z4
theorem e_op{op:Operator}{r:R3}{r2:R2}(L:LowR X.K r r2)(ho:OpR X (binaryOp op) r2)(ha:PE3 X a ta)(hb:PE3 X b tb):PE3 X (.BinOp a op b pos) (eOp r ta tb):=
 qpz (qmbz ho ha hb) fun _ _ _ h=>qdsz L h
theorem qnyz{op:CmpOp}{r:R3}{r2:R2}(L:LowR X.K r r2)(ho:OpR X (compareOp op) r2)(ha:PE3 X a ta)(hb:PE3 X b tb)(hm:behindInMarks op b=false):PE3 X (.Compare a [op] [b] pos) (eOp r ta tb):=
 qpz (qmgz ho ha hb hm) fun _ _ _ h=>qdsz L h
def eTest(t:TE3):TT3:=fun τ G Q=>t τ G fun x G1=>match x with
 |.bl k=>Q k G1
 |_=>False
theorem qdtz{K:PySem.W.Frag}{t:TE3}{σ:L2.St}{H:Hp}{Q:Bool->Hp->Prop}(h:lowT K (eTest t) σ H Q):tTest (low K t) σ H Q:=by
 obtain⟨τ,G,Q3,RS,RG,h,k⟩:=h;refine⟨τ,G,_,RS,RG,h,fun v H' d G' h1 h2 h3 h4=>?_⟩;cases d with
 |bl c=>
  unfold Hv at h1;exact⟨c,h1,k c H' G' h2 h3 h4⟩
 |_=>exact h4.elim
theorem qnzz{op:CmpOp}{r:R3}{r2:R2}(L:LowR X.K r r2)(ho:OpR X (compareOp op) r2)(ha:PE3 X a ta)(hb:PE3 X b tb)(hm:behindInMarks op b=false):PT3 X (.Compare a [op] [b] pos) (eTest (eOp r ta tb)):=
 qciz (qmhz ho ha hb hm) fun σ H Q h=>by
  obtain⟨τ,G,Q3,RS,RG,h,k⟩:=qdtz h;exact qdsz L ⟨τ,G,Q3,RS,RG,h,k⟩
theorem qn0z(h:PE3 X a ta)(he:∀whole,isTrue a X.env whole=(do let v ←whole;standAt a.pos;holding [v] (truthy v)):=by intro _;rfl):PT3 X a (eTest ta):=
 qciz (qmmz h he) fun σ H Q h=>by
  obtain⟨τ,G,Q3,RS,RG,h,k⟩:=qdtz h;refine⟨τ,G,Q3,RS,RG,h,fun v H' d G' h1 h2 h3 h4=>?_⟩;obtain⟨c,rfl,q⟩:=k v H' d G' h1 h2 h3 h4;exact⟨c,rfl,q⟩
def eChain(r r':R3)(ta tb tc:TE3):TE3:=fun τ G Q=>ta τ G fun x G1=>tb τ G1 fun y G2=>r x y G2 fun z G3=>match z with
 |.bl k=>Br k (tc τ G3 fun w G4=>r' y w G4 Q) (Q (.bl false) G3)
 |_=>False
theorem qhjz{K:PySem.W.Frag}{r r':R3}{r2 r2':R2}(L:LowR K r r2)(L':LowR K r' r2'){tc:TE3}{σ:L2.St}{H:Hp}{Q:VK}(h:low K (eChain r r' ta tb tc) σ H Q):tChain r2 r2' (low K ta) (low K tb) (low K tc) σ H Q:=by
 obtain⟨τ,G,Q3,RS,RG,h,k⟩:=h;refine⟨τ,G,_,RS,RG,h,fun v1 H1 d1 G1 h1 S1 R1 q1=>?_⟩;refine⟨τ,G1,_,RS.ext (S1.ext RG),R1,q1,fun v2 H2 d2 G2 h2 S2 R2 q2=>?_⟩;refine L _ _ _ _ _ _ _ _ (h1.ext (S2.ext R1)) h2 R2 q2 fun v H3 d G3 z1 S3 R3 z4=>?_;cases d with
 |bl c=>
  unfold Hv at z1;refine⟨c,z1,Br.ite z4 (fun q=>?_) fun q=>?_⟩
  ·refine⟨τ,G3,_,((RS.ext (S1.ext RG)).ext (S2.ext R1)).ext (S3.ext R2),R3,q,fun v4 H4 d4 G4 h4 S4 R4 q4=>?_⟩;exact L' _ _ _ _ _ _ _ _ ((h2.ext (S3.ext R2)).ext (S4.ext R3)) h4 R4 q4 fun v H' d G' y1 y2 y3 y4=>k v H' d G' y1 ((((S1.trans S2).trans S3).trans S4).trans y2) y3 y4
  ·exact k _ H3 (.bl false) G3 (by simp[Hv]) ((S1.trans S2).trans S3) R3 q
 |_=>exact z4.elim
theorem qn1z{op op':CmpOp}{r r':R3}{r2 r2':R2}{tc:TE3}(L:LowR X.K r r2)(L':LowR X.K r' r2')(h:PE X e (tChain r2 r2' (low X.K ta) (low X.K tb) (low X.K tc))):PE3 X e (eChain r r' ta tb tc):=
 qpz h fun _ _ _ h=>qhjz L L' h
theorem qn2z{op op':CmpOp}{r r':R3}{r2 r2':R2}{tc:TE3}(L:LowR X.K r r2)(L':LowR X.K r' r2')(h:PT X e (tTest (tChain r2 r2' (low X.K ta) (low X.K tb) (low X.K tc)))):PT3 X e (eTest (eChain r r' ta tb tc)):=
 qciz h fun σ H Q h=>by
  obtain⟨τ,G,Q3,RS,RG,h,k⟩:=qdtz h;exact qhjz L L' ⟨τ,G,Q3,RS,RG,h,k⟩
def eUn(r:D->Gp->V3->Prop)(ta:TE3):TE3:=fun τ G Q=>ta τ G fun x G1=>r x G1 Q
def rNeg3:D->Gp->V3->Prop:=fun x G Q=>match x with
 |.int i=>Q (.int (-i)) G
 |_=>False
theorem qn3z(ha:PE3 X a ta):PE3 X (.UnaryOp .USub a pos) (eUn rNeg3 ta):=qpz (qgvz qgwz ha) fun σ H Q h=>by
 obtain⟨τ,G,Q3,RS,RG,h,k⟩:=h;refine⟨τ,G,_,RS,RG,h,fun v H' d G' h1 h2 h3 h4=>?_⟩;cases d with
 |int i=>
  unfold Hv at h1;exact⟨i,h1,k _ H' (.int (-i)) G' (by simp[Hv]) h2 h3 h4⟩
 |_=>exact h4.elim
def eAnd(t u:TT3):TT3:=fun τ G Q=>t τ G fun c G1=>Br c (u τ G1 Q) (Q false G1)
def eOr(t u:TT3):TT3:=fun τ G Q=>t τ G fun c G1=>Br c (Q true G1) (u τ G1 Q)
def eNot(t:TT3):TT3:=fun τ G Q=>t τ G fun c G1=>Q (!c) G1
theorem qn4z(ha:PT3 X a tA):PW3 X (.BoolOp .And [a] pos) tA:=pw_and1 ha
theorem qn5z(ha:PT3 X a tA):PW3 X (.BoolOp .Or [a] pos) tA:=pw_or1 ha
theorem qn6z(ha:PT3 X a tA)(hb:PW3 X (.BoolOp .And (b::rest) pos) tB):PW3 X (.BoolOp .And (a::b::rest) pos) (eAnd tA tB):=pw_of (pw_and ha hb) fun σ H Q h=>by
 obtain⟨τ,G,Q3,RS,RG,h,k⟩:=h;refine⟨τ,G,_,RS,RG,h,fun c H1 G1 S1 R1 q1=>?_⟩;exact Br.ite q1 (fun q=>⟨τ,G1,Q3,RS.ext (S1.ext RG),R1,q,fun b' H' G' y1 y2 y3=>k b' H' G' (S1.trans y1) y2 y3⟩) fun q=>k false H1 G1 S1 R1 q
theorem qn7z(ha:PT3 X a tA)(hb:PW3 X (.BoolOp .Or (b::rest) pos) tB):PW3 X (.BoolOp .Or (a::b::rest) pos) (eOr tA tB):=pw_of (pw_or ha hb) fun σ H Q h=>by
 obtain⟨τ,G,Q3,RS,RG,h,k⟩:=h;refine⟨τ,G,_,RS,RG,h,fun c H1 G1 S1 R1 q1=>?_⟩;exact Br.ite q1 (fun q=>k true H1 G1 S1 R1 q) fun q=>⟨τ,G1,Q3,RS.ext (S1.ext RG),R1,q,fun b' H' G' y1 y2 y3=>k b' H' G' (S1.trans y1) y2 y3⟩
theorem tt_w(h:PW3 X a tA):PT3 X a tA:=h.pt
theorem qn8z(ha:PT3 X a tA):PT3 X (.UnaryOp .Not a pos) (eNot tA):=qciz (qliz ha) fun σ H Q h=>by
 obtain⟨τ,G,Q3,RS,RG,h,k⟩:=h;exact⟨τ,G,_,RS,RG,h,fun c H1 G1 S1 R1 q1=>k _ H1 G1 S1 R1 q1⟩
def eAndV(ta tb:TE3):TE3:=fun τ G Q=>ta τ G fun x G1=>match x with
 |.bl c=>Br c (tb τ G1 Q) (Q (.bl false) G1)
 |_=>False
def eNotV(ta:TE3):TE3:=fun τ G Q=>ta τ G fun x G1=>match x with
 |.bl c=>Q (.bl (!c)) G1
 |_=>False
theorem qn9z{op}(h:PE3 X a ta):PE3 X (.BoolOp op [a] pos) ta:=qljz h
theorem qoaz(ha:PE3 X a ta)(hb:PE3 X (.BoolOp .And (b::rest) pos) tb):PE3 X (.BoolOp .And (a::b::rest) pos) (eAndV ta tb):=qpz (qlkz ha hb) fun σ H Q h=>by
 obtain⟨τ,G,Q3,RS,RG,h,k⟩:=h;refine⟨τ,G,_,RS,RG,h,fun v H1 d G1 h1 S1 R1 q1=>?_⟩;cases d with
 |bl c=>
  unfold Hv at h1;exact⟨c,h1,Br.ite q1 (fun q=>⟨τ,G1,Q3,RS.ext (S1.ext RG),R1,q,fun b' H' d' G' y0 y1 y2 y3=>k b' H' d' G' y0 (S1.trans y1) y2 y3⟩) fun q=>k _ H1 (.bl false) G1 (by simp[Hv]) S1 R1 q⟩
 |_=>exact q1.elim
theorem qobz(ha:PE3 X a ta):PE3 X (.UnaryOp .Not a pos) (eNotV ta):=qpz (qllz ha) fun σ H Q h=>by
 obtain⟨τ,G,Q3,RS,RG,h,k⟩:=h;refine⟨τ,G,_,RS,RG,h,fun v H1 d G1 h1 S1 R1 q1=>?_⟩;cases d with
 |bl c=>
  unfold Hv at h1;exact⟨c,h1,k _ H1 (.bl (!c)) G1 (by simp[Hv]) S1 R1 q1⟩
 |_=>exact q1.elim
def notStar:Expr->Bool
 |.Starred ..=>false
 |_=>true
theorem qlz{e:Expr}{es:List Expr}{env:Env}(h:notStar e=true):starEach (e::es) env=(false,eval e env)::starEach es env:=by
 cases e<;>first|rfl|(simp[notStar] at h)
theorem qzz{pos:Pos}{env:Env}:∀{es:List Expr},es.all notStar=true->(backTo pos (starEach es env)).any (·.1)=false
 |[],_=>rfl
 |e::es,h=>by
  rw[List.all_cons,Bool.and_eq_true] at h;rw[qlz h.1];show (false||(backTo pos (starEach es env)).any (·.1))=false;rw[qzz h.2];rfl
def aNil:TA3:=fun _ G Q=>Q [] G
def aCons(ta:TE3)(tr:TA3):TA3:=fun τ G Q=>ta τ G fun x G1=>tr τ G1 fun xs G2=>Q (x::xs) G2
theorem qocz:PA3 X [] aNil:=qhhz qdpz fun σ H Q ⟨τ,G,Q3,RS,RG,h,k⟩=>k [] H [] G .nil (.refl H G) RG h
theorem qodz{tr:TA3}(ha:PE3 X a ta)(hr:PA3 X es tr)(hs:notStar a=true:=by rfl):PA3 X (a::es) (aCons ta tr):=qhhz (qbkz ha hr (qlz hs)) fun σ H Q h=>by
 obtain⟨τ,G,Q3,RS,RG,h,k⟩:=h;refine⟨τ,G,_,RS,RG,h,fun v1 H1 d1 G1 h1 S1 R1 q1=>?_⟩;refine⟨τ,G1,_,RS.ext (S1.ext RG),R1,q1,fun vs H2 ds G2 h2 S2 R2 q2=>?_⟩;exact k _ H2 _ G2 (.cons (h1.ext (S2.ext R1)) h2) (S1.trans S2) R2 q2
def smallL{α:Type}(P:Prop):List α->Nat->Prop
 |[],_=>P
 |_::_,0=>False
 |_::xs,n+1=>smallL P xs n
theorem qduz{α:Type}{P:Prop}:∀{xs:List α} {n:Nat},smallL P xs n->xs.length≤n/\P
 |[],n,h=>⟨Nat.zero_le _,h⟩
 |_::_,0,h=>h.elim
 |_::xs,n+1,h=>by
  obtain⟨h1,h2⟩:=qduz (xs:=xs) (n:=n) h;exact⟨Nat.succ_le_succ h1,h2⟩
theorem line64{n:Nat}(h:n≤64):n≤sizeLine:=Nat.le_trans h (by decide)
def eTup(t:TA3):TE3:=fun τ G Q=>t τ G fun ds G1=>smallL (Q (.tup ds) G1) ds 64
def eLst(t:TA3):TE3:=fun τ G Q=>t τ G fun ds G1=>smallL (∀p G2,New G1 p (.lst ds) G2->Q (.obj p) G2) ds 64
theorem qoez{t:TA3}{x1}(h:PA3 X es t):PE3 X (.Tuple es x1 pos) (eTup t):=qpz (qmsz h) fun σ H Q h=>by
 obtain⟨τ,G,Q3,RS,RG,h,k⟩:=h;refine⟨τ,G,_,RS,RG,h,fun vs H1 ds G1 h1 S1 R1 q1=>?_⟩;obtain⟨z,q1⟩:=qduz q1;refine⟨by rw[←h1.length];exact line64 z,fun p hp=>?_⟩;refine k _ _ (.tup ds) G1 ?_ (S1.trans (.laid hp)) (R1.laid hp) q1;unfold Hv;exact⟨p,vs,rfl,.of qoz,h1.ext (.laid hp)⟩
theorem qofz{t:TA3}(h:PA3 X es t):PE3 X (.List es pos) (eLst t):=qpz (qgyz h) fun σ H Q h=>by
 obtain⟨τ,G,Q3,RS,RG,h,k⟩:=h;refine⟨τ,G,_,RS,RG,h,fun vs H1 ds G1 h1 S1 R1 q1=>?_⟩;obtain⟨z,q1⟩:=qduz q1;refine⟨by rw[←h1.length];exact line64 z,fun p hp=>?_⟩;exact k _ _ (.obj p) (upd3 G1 p (.lst ds)) (by simp[Hv]) (S1.trans (.laidG hp)) (R1.laidG hp ⟨vs,qoz,h1.ext (.laid hp)⟩) (q1 p _ (.mk' (R1.free hp)))
end
end L3
namespace L2
open PySem PySem.Spec PyProof.Rows
def clos(env:Env):List (Str×NameKind)->List (Str×Addr)->List (Str×Addr)
 |[],acc=>acc
 | (n,k)::r,acc=>clos env r (if k=.free then (n,(env.cells.lookup n).getD 0)::acc else acc)
theorem qhkz{scope:Scope}{env:Env}(h:∀y∈scope.names,y.2=.free->∃c,env.cells.lookup y.1=some c):closureFor scope env=pure (clos env scope.names []):=by
 have key:∀(l:List (Str×NameKind)) (acc:List (Str×Addr)),(∀y∈l,y.2=.free->∃c,env.cells.lookup y.1=some c) ->
   (forIn l acc fun (x:Str×NameKind) (r:List (Str×Addr))=>(do
    if (x.2==NameKind.free)=true then do
     let a ←cellOf env x.1
     pure (ForInStep.yield ((x.1,a)::r))
    else pure (ForInStep.yield r):Sem (ForInStep (List (Str×Addr)))))=pure (clos env l acc):=by
  intro l
  induction l with
  |nil=>intro acc _;rfl
  |cons y r ih=>
   intro acc hy;obtain⟨n,k⟩:=y;rw[List.forIn_cons];by_cases hk:k=.free
   ·obtain⟨c,hc⟩:=hy (n,k) List.mem_cons_self hk;have e1:cellOf env n=pure c:=by unfold cellOf;rw[show env.cells.lookup n=some c from hc]
    subst hk;simp only[beq_self_eq_true,if_true,e1,pure_bind];rw[ih _ fun y hy'=>hy y (List.mem_cons_of_mem _ hy')];show _=pure (clos env r (if NameKind.free=NameKind.free then (n,(env.cells.lookup n).getD 0)::acc else acc));rw[if_pos rfl,show env.cells.lookup n=some c from hc];rfl
   ·have hb:(k==NameKind.free)=false:=by simpa using hk
    simp only[hb,Bool.false_eq_true,if_false,pure_bind];rw[ih _ fun y hy'=>hy y (List.mem_cons_of_mem _ hy')];show _=pure (clos env r (if k=NameKind.free then (n,(env.cells.lookup n).getD 0)::acc else acc));rw[if_neg hk]
 have:=key scope.names [] h;unfold closureFor
 first
  |exact (by simpa using this)
  | (simp only[bind_pure];exact this)
theorem qhlz{env:Env}{x:Str}{c:Addr}:∀(l:List (Str×NameKind)) (acc:List (Str×Addr)),(clos env l acc).lookup x=some c ->
  acc.lookup x=some c∨((x,NameKind.free)∈l/\c=(env.cells.lookup x).getD 0)
 |[],_,h=>.inl h
 | (n,k)::r,acc,h=>by
  rcases qhlz r _ h with q|⟨q1,q2⟩
  ·by_cases hk:k=.free
   ·rw[if_pos hk,List.lookup_cons] at q;by_cases hx:(x==n)=true
    ·rw[hx] at q;have hx':x=n:=by simpa using hx
     subst hx' hk;exact .inr ⟨List.mem_cons_self,(Option.some.inj q).symm⟩
    ·have hx2:(x==n)=false:=by simpa using hx
     rw[hx2] at q;exact .inl q
   ·rw[if_neg hk] at q;exact .inl q
  ·exact .inr ⟨List.mem_cons_of_mem _ q1,q2⟩
theorem qhmz{env:Env}{x:Str}:∀(l:List (Str×NameKind)) (acc:List (Str×Addr)),acc.lookup x=some ((env.cells.lookup x).getD 0)->(clos env l acc).lookup x=some ((env.cells.lookup x).getD 0)
 |[],_,h=>h
 | (n,k)::r,acc,h=>by
  refine qhmz r _ ?_;by_cases hk:k=.free
  ·rw[if_pos hk,List.lookup_cons];by_cases hx:(x==n)=true
   ·rw[hx];have hx':x=n:=by simpa using hx
    rw[hx']
   ·have hx2:(x==n)=false:=by simpa using hx
    rw[hx2];exact h
  ·rw[if_neg hk];exact h
theorem qhnz{env:Env}{x:Str}:∀(l:List (Str×NameKind)) (acc:List (Str×Addr)),(x,NameKind.free)∈l->(clos env l acc).lookup x=some ((env.cells.lookup x).getD 0)
 |[],_,h=>by cases h
 | (n,k)::r,acc,h=>by
  rcases List.mem_cons.mp h with e|e
  ·cases e;refine qhmz r _ ?_;rw[if_pos rfl,List.lookup_cons,beq_self_eq_true]
  ·exact qhnz r _ e
structure CmpOk(N:List Str)(sc scope:Scope)(own:List Str)(js:List Nat):Prop where
 kind:scope.kind=.function
 nocell:∀y∈scope.names,y.2≠.cell
 names:∀y∈scope.names,y.2=.local->scope.names.lookup y.1=some .local
 free:∀y∈scope.names,y.2=.free->sc.names.lookup y.1=some .cell/\own.contains y.1=false
 only:∀y∈scope.names,y.2=.free->scope.names.lookup y.1=some .free
 js:∀j∈js,j<N.length/\(N.getD j Str.empty,NameKind.free)∈scope.names
def cmpN(N own:List Str)(js:List Nat):List Str:=own++js.map fun j=>N.getD j Str.empty
def cmpSt(own:List Str)(js:List Nat)(σ:St):St:=List.replicate own.length none++js.map fun j=>(σ[j]?).getD none
def Cx.cmp(X:Cx)(scope:Scope)(own:List Str)(js:List Nat)(s:Shared)(H:Hp)(fp:List Addr):Cx:=
 { X with N:=cmpN X.N own js,s₀:=s,H₀:=H,env:=compEnvC scope (clos X.env scope.names []) s.heap.objs.size X.env,outer:=X.stack,ex:=fp,fn:=fun x=>own.contains x,pn:=[],xe:=fun _ _=>False }
theorem qdvz{sc:Scope}{env:Env}{x:Str}{k:NameKind}:∀(names:List (Str×NameKind)),
  (names.map fun (n,k)=>if (k==NameKind.free&&env.scope.kind==.function&&env.kindOf n==some .cell) then (n,NameKind.cell) else (n,k)).lookup x=some k ->
  (names.lookup x=some k/\(k≠.free∨k=.free))∨(k=.cell/\names.lookup x=some .free)
 |[],h=>by simp at h
 | (n,k')::r,h=>by
  have ih:=@qdvz sc env x k r;have h':List.lookup x ((if (k'==NameKind.free&&env.scope.kind==.function&&env.kindOf n==some .cell)=true then (n,NameKind.cell) else (n,k'))::_)=some k:=h;rw[List.lookup_cons];by_cases hc:(k'==NameKind.free&&env.scope.kind==.function&&env.kindOf n==some .cell)=true
  ·rw[if_pos hc,List.lookup_cons] at h';cases hx:x==n with
   |true=>
    rw[hx] at h';have e:NameKind.cell=k:=Option.some.inj h';have hk':k'=.free:=by
     rw[Bool.and_eq_true,Bool.and_eq_true] at hc;simpa using hc.1.1
    exact .inr ⟨e.symm,by rw[hk']⟩
   |false=>
    rw[hx] at h';exact ih h'
  ·rw[if_neg hc,List.lookup_cons] at h';cases hx:x==n with
   |true=>
    rw[hx] at h';have e:k'=k:=Option.some.inj h';subst e;exact .inl ⟨rfl,by by_cases z:k'=.free;exact .inr z;exact .inl z⟩
   |false=>
    rw[hx] at h';exact ih h'
theorem qezz{x:Str}{k:NameKind}{l:List (Str×NameKind)}(h:l.lookup x=some k):(x,k)∈l:=PySem.mem_of_lookup h
section
variable {X:Cx} {pins:List (Addr×Obj)} {σ:St} {H:Hp} {s:Shared} {scope:Scope} {own:List Str} {js:List Nat} {fp:List Addr}
theorem CmpOk.cells(C:CmpOk X.N X.env.scope scope own js)(ok:X.Ok):∀y∈scope.names,y.2=.free->∃c,X.env.cells.lookup y.1=some c:=fun y hy e=>
 ok.has y.1 (.inl (C.free y hy e).1)
theorem CmpOk.cl_of(C:CmpOk X.N X.env.scope scope own js)(ok:X.Ok){x:Str}{c:Addr}(h:(clos X.env scope.names []).lookup x=some c):(x,NameKind.free)∈scope.names/\X.env.cells.lookup x=some c:=by
 rcases qhlz scope.names [] h with q|⟨q1,q2⟩
 ·cases q
 ·obtain⟨c',e⟩:=C.cells ok _ q1 rfl;refine⟨q1,?_⟩;rw[q2,show X.env.cells.lookup x=some c' from e];rfl
theorem CmpOk.cl_has(C:CmpOk X.N X.env.scope scope own js)(ok:X.Ok){x:Str}(h:(x,NameKind.free)∈scope.names):∃c,(clos X.env scope.names []).lookup x=some c/\X.env.cells.lookup x=some c:=by
 obtain⟨c,e⟩:=C.cells ok _ h rfl;refine⟨c,?_,e⟩;rw[qhnz scope.names [] h,show X.env.cells.lookup x=some c from e];rfl
theorem Inv.cmpOk(I:Inv X pins σ H s)(C:CmpOk X.N X.env.scope scope own js)(hf:∀b∈fp,FpOk X pins H b/\b<s.heap.objs.size):(X.cmp scope own js s H fp).Ok where
 mod:=I.ok.mod
 kind:=C.kind
 glob:=I.ok.glob
 blt:=I.ok.blt
 above:=Nat.le_refl _
 inj:=fun x y c h1 h2=>I.ok.inj x y c (C.cl_of I.ok h1).2 (C.cl_of I.ok h2).2
 has:=fun x h=>by
  have hfree:(x,NameKind.free)∈scope.names:=by
   rcases h with h|h
   ·rcases qdvz (sc:=scope) (env:=X.env) scope.names h with⟨q,_⟩|⟨_,q⟩
    ·exact absurd rfl (C.nocell _ (qezz q))
    ·exact qezz q
   ·rcases qdvz (sc:=scope) (env:=X.env) scope.names h with⟨q,_⟩|⟨q,_⟩
    ·exact qezz q
    ·cases q
  obtain⟨c,e,_⟩:=C.cl_has I.ok hfree;exact⟨c,e⟩
 cab:=fun x c h1 h2=>by
  have q:=(C.free _ (C.cl_of I.ok h2).1 rfl).2;have h1':own.contains x=true:=h1;rw[q] at h1';cases h1'
 hd:=I.ok.hd
 frames:=I.ok.frames
 stk:=.inl rfl
 exf:=fun b hb=>⟨Nat.ne_of_lt (hf b hb).2,fun x c e=>(hf b hb).1.2.2.2.2.1 x c (C.cl_of I.ok e).2⟩
 bs:=I.bs
 bsz:=Nat.le_trans I.ok.bsz I.sz
 noex:=fun b o e hb=>by
  rcases (hf b hb).1.2.2.2.1 with z|z
  ·exact I.ok.noex b o e z
  ·exact absurd (Nat.lt_of_lt_of_le (Heap.lt_size e) (Nat.le_trans I.ok.bsz z)) (Nat.lt_irrefl _)
 exfs:=fun b hb z=>by
  rcases List.mem_cons.mp (I.stkSub b z) with e|e
  ·exact (hf b hb).1.2.1 e
  ·exact (hf b hb).1.2.2.1 e
 funs:=I.stack
 frf:=I.stkFree
theorem qogz{N:List Str}{js:List Nat}{i:Nat}{x:Str}(h:(js.map fun j=>N.getD j Str.empty)[i]?=some x):∃j,js[i]?=some j/\x=N.getD j Str.empty:=by
 rw[List.getElem?_map] at h;cases e:js[i]? with
 |none=>rw[e] at h;cases h
 |some j=>rw[e] at h;exact⟨j,rfl,(Option.some.inj h).symm⟩
theorem Inv.cmp(I:Inv X pins σ H s)(C:CmpOk X.N X.env.scope scope own js)(hf:∀b∈fp,FpOk X pins H b/\b<s.heap.objs.size){h':Heap}{tk:Nat}(hn:h'.Ns s.heap.objs.size fun _=>none)
  (kept:∀b o,s.heap.get? b=some o->h'.get? b=some o):Inv (X.cmp scope own js s H fp) [] (cmpSt own js σ) H { s with heap:=h',toks:=tk }:=by
 have ok:=I.cmpOk C hf;refine⟨ok,rfl,I.bare,Un.kept kept,⟨_,hn,fun i x v h1 h2 h3=>?_⟩,fun x c e=>?_,I.hok.fresh (Nat.le_refl _),fun x c e=>I.freeC x c (C.cl_of I.ok e).2,fun p hp=>?_,I.hok.kept kept,?_⟩
 ·have h1':(own++js.map fun j=>X.N.getD j Str.empty)[i]?=some x:=h1;have h2':(List.replicate own.length none++js.map fun j=>(σ[j]?).getD none)[i]?=some (some v):=h2;by_cases hi:i<own.length
  ·rw[List.getElem?_append_left (by simpa using hi),List.getElem?_replicate,if_pos hi] at h2';cases h2'
  ·rw[List.getElem?_append_right (by lia)] at h1';rw[List.getElem?_append_right (by simp;lia),List.length_replicate] at h2';obtain⟨j,hj,rfl⟩:=qogz h1';rw[List.getElem?_map,hj] at h2';have h2'':(σ[j]?).getD none=some v:=Option.some.inj h2';have hσ:σ[j]?=some (some v):=by
    cases e:σ[j]? with
    |none=>rw[e] at h2'';cases h2''
    |some o=>
     rw[e] at h2'';have:o=some v:=h2'';rw[this]
   obtain⟨jl,jf⟩:=C.js j (List.mem_of_getElem? hj);have hN:X.N[j]?=some (X.N.getD j Str.empty):=by
    rw[List.getD_eq_getElem?_getD,List.getElem?_eq_getElem jl];rfl
   have hcell:=(C.free _ jf rfl).1;obtain⟨m,hm,hl⟩:=I.loc;obtain⟨u,ru,lk⟩:=hl j _ v hN hσ (.inr (.inl hcell));refine⟨u,ru,?_⟩;obtain⟨c,e1,e2⟩:=C.cl_has I.ok jf;rcases lk with⟨z,_⟩|⟨_,c',z1,z2⟩
   ·have z':X.env.scope.names.lookup (X.N.getD j Str.empty)=some .local:=z;rw[show X.env.scope.names.lookup (X.N.getD j Str.empty)=some .cell from hcell] at z';cases z'
   ·rw[e2] at z1;cases z1;have ic:h'.IsCell c (some u):=by
     obtain⟨o,q1,q2⟩:=z2;exact⟨o,kept _ _ q1,q2⟩
    rcases h3 with h3|h3|h3
    ·exfalso;rcases qdvz (sc:=scope) (env:=X.env) scope.names h3 with⟨q,_⟩|⟨q,_⟩
     ·have z:=C.only _ jf rfl;rw[q] at z;cases z
     ·cases q
    ·exact .inr ⟨.inl h3,c,e1,ic⟩
    ·exact .inr ⟨.inr h3,c,e1,ic⟩
 ·obtain⟨v,o,q1,q2⟩:=I.cell x c (C.cl_of I.ok e).2;exact⟨v,o,kept _ _ q1,q2⟩
 ·exact absurd (show p∈([]:List (Addr×Obj)) from hp) (by simp)
 ·show (List.replicate own.length none++js.map fun j=>(σ[j]?).getD none).length=(own++js.map fun j=>X.N.getD j Str.empty).length;simp
theorem Inv.uncmp{σ':St}{H':Hp}{s':Shared}{pl:List (Addr×Obj)}(I:Inv X pins σ H s)(hf:∀b∈fp,FpOk X pins H b/\b<s.heap.objs.size)(J:Inv (X.cmp scope own js s H fp) pl σ' H' s'):Inv X pins σ H' s':=by
 refine I.call' (ch:=fp) J.os J.base J.hok J.bare fun b hb=>?_;obtain⟨f0,f1,f2,f3,f4,f5⟩:=(hf b hb).1;exact⟨f3,f1,f4,f5⟩
theorem Inv.other{H':Hp}{s':Shared}{h':Heap}{b:Addr}(I0:Inv X pins σ H s)(I:Inv X pins σ H' s')(hb:s.heap.objs.size≤b)(hn:H' b=none)(sb:Heap.SameBut b s'.heap h'):Inv X pins σ H' { s' with heap:=h' }:=by
 obtain⟨f0,f1,f2,f3,f4,f5⟩:=I0.fpOk hb hn;exact I.turned (t':=s'.toks) (fun c o hc e=>(sb.2 c hc).trans e) f0 f1 f3 f4 f5
end
def PCt(X:Cx)(ifs:List Expr)(t:TT):Prop:=
 ∀(pins:List (Addr×Obj)) (s:Shared) (σ:St) (H:Hp) (Q:Bool->Hp->Prop),Inv X pins σ H s->t σ H Q ->
  wpAny (model X.prog X.w) X.A (forIn ifs true fun c r=>if r=true then do let ok ←isTrue c X.env (eval c X.env);pure (ForInStep.yield ok) else pure (ForInStep.yield r)) (TP X pins σ Q) X.xe s
def tNoTest:TT:=fun _ H Q=>Q true H
theorem qohz{X:Cx}:PCt X [] tNoTest:=fun _ _ _ H _ I h=>wpAny_tests_nil ⟨H,I,h⟩
theorem qoiz{X:Cx}{c:Expr}{t:TT}(h:PT X c t):PCt X [c] t:=fun pins s σ H Q I hq=>wpAny_tests_one (h pins s σ H Q I hq)
section
variable {prog:Program} {w:World} {A:Around} {R:Result->Shared->Prop} {s:Shared}
theorem qhoz{elt target iter:Expr}{ifs:List Expr}{scope:Scope}{pos:Pos}{it acc:Value}{env:Env}(I:Nat->Shared->Prop)
  (turn:∀n s,I n s->wpAny (model prog w) A (pyNext it) (fun r s₁=>match r with
   |none=>R (.ok .next) s₁
   | some v=>wpAny (model prog w) A (letOwnedTupleGo target it v) (fun _ s₁'=>wpAny (model prog w) A (assign target env v) (fun _ s₂=>
     wpAny (model prog w) A (forIn ifs true fun c r=>if r=true then do let ok ←isTrue c env (eval c env);pure (ForInStep.yield ok) else pure (ForInStep.yield r)) (fun ok s₃=>
      if ok=true then wpAny (model prog w) A (eval elt env) (fun x s₄=>
       wpAny (model prog w) A (call (.builtin "list.append") [acc,x]) (fun _ s₅=>∃m,m<n/\I m s₅) (fun _ _=>False) s₄) (fun _ _=>False) s₃
      else ∃m,m<n/\I m s₃) (fun _ _=>False) s₂) (fun _ _=>False) s₁') (fun _ _=>False) s₁) (fun _ _=>False) s)
  (n:Nat) (h:I n s):
  codeAny (model prog w) A (.compLoop (.ListComp elt [⟨target,iter,ifs,0⟩] scope pos) 0 it acc env) R s:=by
 refine codeAny_loop rfl I (fun n s hI=>?_) n h;show wpAny _ A ((compTurn (.ListComp elt [⟨target,iter,ifs,0⟩] scope pos) 0 it acc env).onRaise (fun x=>do noteFrame x env;theTreesLotGoes x)) _ _ s
 refine wpAny_noted ?_;rw[compTurn_list];refine wpAny_bind (wpAny_standAt (wpAny_bind (wpAny_mono (turn n s hI) (fun r s₁ h₁=>?_) fun _ _ h'=>h'.elim)));cases r with
 |none=>exact wpAny_pure h₁
 |some v=>
  refine wpAny_bind (wpAny_mono h₁ (fun _ s₁' h₁'=>?_) fun _ _ h'=>h'.elim);refine wpAny_bind (wpAny_mono h₁' (fun _ s₂ h₂=>wpAny_bind (wpAny_mono h₂ (fun ok s₃ h₃=>?_) fun _ _ h'=>h'.elim)) fun _ _ h'=>h'.elim);cases ok with
  |false=>exact wpAny_pure ⟨rfl,h₃⟩
  |true=>
   exact wpAny_bind (wpAny_bind (wpAny_mono h₃ (fun x s₄ h₄=>wpAny_bind (wpAny_mono h₄ (fun _ s₅ h₅=>wpAny_pure (wpAny_pure ⟨rfl,h₅⟩)) fun _ _ h'=>h'.elim)) fun _ _ h'=>h'.elim))
end
def LcRd(own:List Str)(js:List Nat)(g:TG)(tc:TT)(te:TE)(J:It)(σ:St)(H:Hp)(Q:VK):Prop:=
 ∀D,H D=none->∃W:Nat->Nat->List V->St->Hp->Prop,(∃m,W 0 m [] (cmpSt own js σ) (upd H D (.lst [])))/\∀i m ys σ' H',W i m ys σ' H'->H' D=some (.lst ys) ∧
  ((J.stop i H'/\Q (.ref D) H')∨(J.go i H'/\ys.length<sizeLine/\∀x H2,J.yld i H' x H2->g x σ' H2 fun σ2 H3=>tc σ2 H3 fun b H4=>
   if b=true then te σ2 H4 fun v H5=>H5 D=some (.lst ys)/\∃m',m' < m/\W (i+1) m' (ys++[v]) σ2 (upd H5 D (.lst (ys++[v]))) else ∃m',m' < m/\W (i+1) m' ys σ2 H4))
def tLc(own:List Str)(js:List Nat)(wi:TI)(g:TG)(tc:TT)(te:TE):TE:=fun σ H Q=>wi σ H fun J H1=>LcRd own js g tc te J σ H1 Q
section
variable {X:Cx} {tg iter elt:Expr} {ifs:List Expr} {scope:Scope} {pos:Pos} {own:List Str} {js:List Nat} {g:TG} {tc:TT} {te:TE}
theorem qojz{pins:List (Addr×Obj)}{σ:St}{H:Hp}{s:Shared}{Q:VK}{it:Addr}{fp:List Addr}{tn:Nat->Heap->Prop}{J:It}{E:Value->Shared->Prop}{RR:Value->Addr->Result->Shared->Prop}
  (hc:X.calm=true) (C:CmpOk X.N X.env.scope scope own js)
  (hb:∀s H fp,PG (X.cmp scope own js s H fp) tg g/\PCt (X.cmp scope own js s H fp) ifs tc/\PE (X.cmp scope own js s H fp) elt te)
  (I:Inv X pins σ H s) (T:Turn X.prog X.w X.K tg J fp it tn) (st:tn 0 s.heap) (hf:∀b∈fp,FpOk X pins H b) (rd:LcRd own js g tc te J σ H Q)
  (hRR:∀D N s' H',Inv X pins σ H' s'->Q (.ref D) H'->s.heap.objs.size≤N->H' N=none->(∃m,s'.heap.Ns N m)->RR (.ref D) N (.ok .next) s'):
  wpAny (model X.prog X.w) X.A (newList []) (fun acc s₃=>wpAny (model X.prog X.w) X.A (newFunctionEnv scope X.env.globals (clos X.env scope.names []) [] X.env.qual none .none (some X.env)) (fun cenv s₄=>
   codeAny (model X.prog X.w) X.A (.compStart (.ListComp elt [⟨tg,iter,ifs,0⟩] scope pos) 0 (.ref it) acc { cenv with scope:=relabel scope X.env }) (RR acc cenv.locals) s₄) E s₃) E s:=by
 have hD:H s.heap.objs.size=none:=I.fresh;obtain⟨W,⟨m0,w0⟩,turn⟩:=rd s.heap.objs.size hD;refine wpAny_newObj_type ?_;have hI3:Inv X pins σ (upd H s.heap.objs.size (.lst [])) { s with heap:=s.heap.push { cls:=.type "list",data:=.seq ([]:List Value).toArray }}:=
  I.lnew (t':=s.toks) (its:=[]) (ys:=[]) .nil (Nat.zero_le _)
 have hlt:∀b∈fp,b<s.heap.objs.size:=fun b hb=>by
  obtain⟨o,e,_⟩:=T.obj 0 _ st b hb;exact Heap.lt_size e
 have st3:tn 0 (s.heap.push { cls:=.type "list",data:=.seq ([]:List Value).toArray }):=T.keep 0 _ _ st fun b _ o e=>Heap.get?_push_of_some _ e;generalize hs3:({ s with heap:=s.heap.push { cls:=.type "list",data:=.seq ([]:List Value).toArray }}:Shared)=s3 at hI3 ⊢;have hsz3:s3.heap.objs.size=s.heap.objs.size+1:=by rw[←hs3];exact Heap.size_push ..
 have st3':tn 0 s3.heap:=by rw[←hs3];exact st3
 have hf3:∀b∈fp,FpOk X pins (upd H s.heap.objs.size (.lst [])) b/\b<s3.heap.objs.size:=fun b hb=>by
  obtain⟨f0,f1⟩:=hf b hb;refine⟨⟨?_,f1⟩,by rw[hsz3];exact Nat.lt_succ_of_lt (hlt b hb)⟩;rw[qiz (Nat.ne_of_lt (hlt b hb))];exact f0
 refine wpAny_newFunctionEnv C.nocell (by intro y hy;simp at hy) (fun h₁ hns₁ hsb₁=>?_) C.kind;have kept1:∀b o,s3.heap.get? b=some o->h₁.get? b=some o:=fun b o e=>(hsb₁.2 b (Nat.ne_of_lt (Heap.lt_size e))).trans (Heap.get?_push_of_some _ e);have I4:Inv (X.cmp scope own js s3 (upd H s.heap.objs.size (.lst [])) fp) [] (cmpSt own js σ) (upd H s.heap.objs.size (.lst [])) { s3 with heap:=h₁,toks:=s3.toks+([]:List (Str×Value)).length }:=
  hI3.cmp C hf3 hns₁ kept1
 have st4:tn 0 h₁:=T.keep 0 _ _ st3' fun b _ o e=>kept1 b o e;obtain⟨hg,ht,he⟩:=hb s3 (upd H s.heap.objs.size (.lst [])) fp
 -- the iterator's objects in the block's context
 have stat:∀{H':Hp},(∀b∈fp,H' b=none)->∀b∈fp,FpOk (X.cmp scope own js s3 (upd H s.heap.objs.size (.lst [])) fp) [] H' b:=fun {H'} hn b hb=>by
  have q:=I4.ok;exact⟨hn b hb,(q.exf b hb).1,q.exfs b hb,.inl hb,(q.exf b hb).2,fun p hp=>absurd (show p∈([]:List (Addr×Obj)) from hp) (by simp)⟩
 have loop:codeAny (model X.prog X.w) X.A (.compLoop (.ListComp elt [⟨tg,iter,ifs,0⟩] scope pos) 0 (.ref it) (.ref s.heap.objs.size) (compEnvC scope (clos X.env scope.names []) s3.heap.objs.size X.env))
   (RR (.ref s.heap.objs.size) s3.heap.objs.size) { s3 with heap:=h₁,toks:=s3.toks+([]:List (Str×Value)).length }:=by
  refine qhoz (fun n s'=>∃i ys σ' H',Inv (X.cmp scope own js s3 (upd H s.heap.objs.size (.lst [])) fp) [] σ' H' s'/\tn i s'.heap/\(∀b∈fp,H' b=none)/\W i n ys σ' H') ?_ m0
   ⟨0,[],_,_,I4,st4,fun b hb=>(hf3 b hb).1.1,w0⟩
  rintro n s5 ⟨i,ys,σ5,H5,I5,st5,fr5,w5⟩;obtain⟨hacc,hcase⟩:=turn i n ys σ5 H5 w5;rcases hcase with⟨stop,qn⟩|⟨go,hys,step⟩
  ·refine thn (T.done (X.cmp scope own js s3 (upd H s.heap.objs.size (.lst [])) fp) rfl rfl rfl hc i [] s5 σ5 H5 (fun _ _=>False) I5 (stat fr5) st5 stop) fun r s6 ⟨hr,I6⟩=>?_;subst hr;have I7:=hI3.uncmp hf3 I6;obtain⟨m,hm,_⟩:=I6.loc;exact hRR _ _ _ _ I7 qn (by rw[hsz3];exact Nat.le_succ _) I6.free ⟨m,hm⟩
  ·refine thn (T.item (X.cmp scope own js s3 (upd H s.heap.objs.size (.lst [])) fp) rfl rfl rfl hc i [] s5 σ5 H5 (fun _ _=>False) I5 (stat fr5) st5 go) fun r s6 ⟨u,hr,h6⟩=>?_;subst hr;refine thn h6 fun _ s7 ⟨x,H7,I7,r7,y7,st7,fr7⟩=>?_;have I7':=I7.pinned (stat fr7) (T.obj _ _ st7);refine thn (hg _ s7 σ5 H7 x u _ I7' r7 (step x H7 y7)) fun _ s8 ⟨σ8,H8,I8,q8⟩=>?_;refine thn (ht _ s8 σ8 H8 _ I8 q8) fun ok s9 ⟨H9,I9,q9⟩=>?_;have back:∀{σ':St} {H':Hp} {s':Shared} {ys':List V},Inv (X.cmp scope own js s3 (upd H s.heap.objs.size (.lst [])) fp) ([]++pinsAt fp s7.heap) σ' H' s'->(∃m',m' < n/\W (i+1) m' ys' σ' H') ->
     ∃m',m' < n/\∃i ys σ' H',Inv (X.cmp scope own js s3 (upd H s.heap.objs.size (.lst [])) fp) [] σ' H' s'/\tn i s'.heap/\(∀b∈fp,H' b=none)/\W i m' ys σ' H':=fun {σ' H' s' ys'} I' ⟨m',hm,w'⟩=>by
    refine⟨m',hm,i+1,ys',σ',H',I'.unpinned,T.keep _ _ _ st7 fun b hb o e=>(I'.pin (b,o) (List.mem_append_right _ (List.mem_append_right _ (qbaz hb e)))).1,fun b hb=>?_,w'⟩;obtain⟨o,e,d⟩:=T.obj _ _ st7 b hb;exact (I'.pin (b,o) (List.mem_append_right _ (List.mem_append_right _ (qbaz hb e)))).2.1
   cases ok with
   |false=>
    rw[if_neg Bool.false_ne_true] at q9 ⊢;exact back I9 q9
   |true=>
    rw[if_pos rfl] at q9 ⊢;refine thn (he _ s9 σ8 H9 _ I9 q9) fun xv s10 ⟨v,H10,I10,r10,hD10,q10⟩=>?_;refine thn (qhaz (X:=X.cmp scope own js s3 (upd H s.heap.objs.size (.lst [])) fp) _ s10 σ8 H10 (.ref s.heap.objs.size) [v] (.ref s.heap.objs.size) [xv] (fun _ H'=>H'=upd H10 s.heap.objs.size (.lst (ys++[v]))) I10 rfl (.cons r10 .nil)
     ⟨_,ys,v,rfl,rfl,hD10,hys,rfl⟩) fun _ s11 ⟨_,H11,I11,_,e11⟩=>?_
    subst e11;exact back I11 q10
 exact codeAny_compStart_list loop (T.self _ 0 _ _ _ st4 loop)
theorem qokz{wi:TI}(hc:X.calm=true)(C:CmpOk X.N X.env.scope scope own js)(hi:PI X tg iter wi)
  (hb:∀s H fp,PG (X.cmp scope own js s H fp) tg g/\PCt (X.cmp scope own js s H fp) ifs tc/\PE (X.cmp scope own js s H fp) elt te)
  (hs:∀x,foldedSetIterable iter X.env x=pure x:=by intro _;rfl):PE X (.ListComp elt [⟨tg,iter,ifs,0⟩] scope pos) (tLc own js wi g tc te):=by
 intro pins s σ H Q I h;rw[eval_ListComp];refine wpAny_comprehension_free (use:=none) rfl hs (qhkz (C.cells I.ok)) C.kind C.names (thn (hi pins s σ H _ I h) fun xv s₁ h₁=>thn h₁ fun itv s₂ h₂=>?_);obtain⟨it,fp,tn,J,H2,e,I2,T,st2,f2,rd⟩:=h₂;subst e;refine qojz (RR:=fun acc C'=>compPost (model X.prog X.w) X.A X.xe none (EP X pins σ Q) acc C') hc C hb I2 T st2 f2 rd fun D N s' H' I' q hN hHN ⟨m,hm⟩=>?_;exact⟨m,hm,fun h' sb=>⟨.ref D,H',I2.other I' hN hHN sb,rfl,q⟩⟩
end
end L2
namespace L3
open PySem PySem.Spec PyProof.Rows L2
section
variable {X:Cx} {st:Stmt} {rest:List Stmt} {t u:TS3} {e c:Expr} {te:TE3} {tc:TT3} {pos:Pos}
def sNext:TS3:=fun D τ G=>D.nx τ G
def sSeq(t u:TS3):TS3:=fun D τ G=>t { D with nx:=u D } τ G
theorem qolz:PSs3 X [] sNext:=qhiz qlmz fun D σ H ⟨τ,G,D3,RS,RG,h,k⟩=>k.nx τ σ G H RS (.refl H G) RG h
theorem qomz(h1:PS3 X st t)(h2:PSs3 X rest u):PSs3 X (st::rest) (sSeq t u):=qhiz (qlnz h1 h2) fun D σ H ⟨τ,G,D3,RS,RG,h,k⟩=>
 ⟨τ,G,{ D3 with nx:=u D3 },RS,RG,h,⟨fun τ' σ' G' H' a b c q=>⟨τ',G',D3,a,c,q,k.step b⟩,k.bk,k.ct,k.rt⟩⟩
theorem qonz(h1:PS3 X st t):PSs3 X [st] t:=qloz h1
def sDrop(te:TE3):TS3:=fun D τ G=>te τ G fun _ G1=>D.nx τ G1
theorem qooz(he:PE3 X e te)(hs:swapsWith e none pos.line X.env=pure false:=by rfl):PS3 X (.Expr e pos) (sDrop te):=qahz (qlpz he hs) fun D σ H ⟨τ,G,D3,RS,RG,h,k⟩=>
 ⟨τ,G,_,RS,RG,h,fun v H1 d G1 h1 S1 R1 q1=>k.nx τ σ G1 H1 (RS.ext (S1.ext RG)) S1 R1 q1⟩
def sRet(te:TE3):TS3:=fun D τ G=>te τ G D.rt
theorem qopz(he:PE3 X e te):PS3 X (.Return (some e) pos) (sRet te):=qahz (qlqz he) fun D σ H ⟨τ,G,D3,RS,RG,h,k⟩=>
 ⟨τ,G,D3.rt,RS,RG,h,fun v H1 d G1 h1 S1 R1 q1=>k.rt d v G1 H1 h1 S1 R1 q1⟩
def sIf(c:TT3)(t u:TS3):TS3:=fun D τ G=>c τ G fun b G1=>Br b (t D τ G1) (u D τ G1)
theorem s_if{a b:List Stmt}(hc:PT3 X c tc)(ha:PSs3 X a t)(hb:PSs3 X b u):PS3 X (.If c a b pos) (sIf tc t u):=qahz (qlrz hc ha hb) fun D σ H ⟨τ,G,D3,RS,RG,h,k⟩=>
 ⟨τ,G,_,RS,RG,h,fun b H1 G1 S1 R1 q1=>Br.ite q1 (fun q=>⟨τ,G1,D3,RS.ext (S1.ext RG),R1,q,k.step S1⟩) fun q=>⟨τ,G1,D3,RS.ext (S1.ext RG),R1,q,k.step S1⟩⟩
def sNever:TS3:=fun _ _ _=>False
theorem qoqz:PS3 X st sNever:=qahz qlsz fun D σ H ⟨τ,G,D3,RS,RG,h,k⟩=>h
end
abbrev TG3:=D->S3->Gp->(S3->Gp->Prop)->Prop
abbrev TGs3:=List D->S3->Gp->(S3->Gp->Prop)->Prop
def lowG(K:PySem.W.Frag)(t:TG3):TG:=fun v σ H Q=>∃d τ G Q3,Hv K H d v/\RepS K τ σ H/\RepG K G H/\t d τ G Q3/\∀τ' σ' G' H',RepS K τ' σ' H'->Step H G H' G'->RepG K G' H'->Q3 τ' G'->Q σ' H'
def lowGs(K:PySem.W.Frag)(t:TGs3):TGs:=fun vs σ H Q=>∃ds τ G Q3,Hvs K H ds vs/\RepS K τ σ H/\RepG K G H/\t ds τ G Q3/\∀τ' σ' G' H',RepS K τ' σ' H'->Step H G H' G'->RepG K G' H'->Q3 τ' G'->Q σ' H'
abbrev PG3(X:Cx)(tg:Expr)(t:TG3):Prop:=PG X tg (lowG X.K t)
abbrev PGs3(X:Cx)(tgs:List Expr)(t:TGs3):Prop:=PGs X tgs (lowGs X.K t)
section
variable {X:Cx} {pos:Pos} {e:Expr} {es:List Expr}
theorem qdwz{t t':TG}(h:PG X e t)(f:∀v σ H Q,t' v σ H Q->t v σ H Q):PG X e t':=fun pins s σ H v u Q I r q=>h pins s σ H v u Q I r (f v σ H Q q)
theorem qhpz{t t':TGs}(h:PGs X es t)(f:∀v σ H Q,t' v σ H Q->t v σ H Q):PGs X es t':=fun pins s σ H v u Q I r q=>h pins s σ H v u Q I r (f v σ H Q q)
def hName(i:Nat):TG3:=fun d τ G Q=>Q (set3 τ i d) G
theorem qorz{i:Nat}{x:Str}(hN:X.N.Nodup)(hi:X.N[i]?=some x:=by rfl)(hx:Loc X.env.scope x:=by first|exact Or.inl rfl|exact Or.inr rfl)(hf:X.fn x=true∨X.env.scope.names.lookup x=some .local:=by first|exact .inl rfl|exact .inr rfl|assumption):PG3 X (.Name x pos) (hName i):=
 qdwz (qltz hN hi hx hf) fun v σ H Q ⟨d,τ,G,Q3,hd,RS,RG,h,k⟩=>k _ _ G H (RS.set hd) (.refl H G) RG h
def hNil:TGs3:=fun ds τ G Q=>match ds with
 |[]=>Q τ G
 |_::_=>False
def hCons(t:TG3)(u:TGs3):TGs3:=fun ds τ G Q=>match ds with
 |[]=>False
 |d::r=>t d τ G fun τ' G'=>u r τ' G' Q
theorem qosz:PGs3 X [] hNil:=qhpz qluz fun vs σ H Q ⟨ds,τ,G,Q3,hd,RS,RG,h,k⟩=>by
 cases ds with
 |nil=>exact⟨hd.inv0,k _ _ G H RS (.refl H G) RG h⟩
 |cons d r=>exact h.elim
theorem qotz{t:TG3}{u:TGs3}(h1:PG3 X e t)(h2:PGs3 X es u)(hs:(assignEach (e::es) X.env).map (·.2)=assign e X.env::(assignEach es X.env).map (·.2):=by rfl):PGs3 X (e::es) (hCons t u):=
 qhpz (qlvz h1 h2 hs) fun vs σ H Q ⟨ds,τ,G,Q3,hd,RS,RG,h,k⟩=>by
  cases ds with
  |nil=>exact h.elim
  |cons d r=>
   obtain⟨v,vr,rfl,q1,q2⟩:=hd.inv;refine⟨v,vr,rfl,d,τ,G,_,q1,RS,RG,h,fun τ' σ' G' H' a b c q=>?_⟩;exact⟨r,τ',G',Q3,q2.ext (b.ext RG),a,c,q,fun τ2 σ2 G2 H2 a2 b2 c2=>k τ2 σ2 G2 H2 a2 (b.trans b2) c2⟩
def hTup(n:Nat)(t:TGs3):TG3:=fun d τ G Q=>match d with
 |.tup ds=>ds.length=n/\t ds τ G Q
 |_=>False
theorem qouz{k:Nat}{t:TGs3}{n:Nat}(hc:X.calm=true)(h:PGs3 X es t)(hn:(assignEach es X.env).length=n:=by rfl)(hst:(assignEach es X.env).findIdx? (·.1)=none:=by rfl):PG3 X (.Tuple es k pos) (hTup n t):=
 qdwz (qlwz hc h hn hst) fun v σ H Q ⟨d,τ,G,Q3,hd,RS,RG,h,k⟩=>by
  cases d with
  |tup ds=>
   unfold Hv at hd;obtain⟨a,vs,e1,e2,e3⟩:=hd;exact⟨a,vs,e1,e2,by rw[←e3.length];exact h.1,ds,τ,G,Q3,e3,RS,RG,h.2,k⟩
  |_=>exact h.elim
def sAsg(te:TE3)(g:TG3):TS3:=fun D τ G=>te τ G fun x G1=>g x τ G1 D.nx
theorem qovz{tg:Expr}{te:TE3}{g:TG3}(he:PE3 X e te)(hg:PG3 X tg g)(hs:swapsWithSole [tg] e pos.line X.env=pure false:=by rfl)(hw:swappedStores [tg] e X.env=pure none:=by rfl)
  (h1:(assignEach [tg] X.env).map (·.2)=[assign tg X.env]:=by rfl):PS3 X (.Assign [tg] e pos) (sAsg te g):=qahz (qlyz he hg hs hw h1) fun D σ H ⟨τ,G,D3,RS,RG,h,k⟩=>
 ⟨τ,G,_,RS,RG,h,fun v H1 d G1 h1 S1 R1 q1=>⟨d,τ,G1,D3.nx,h1,RS.ext (S1.ext RG),R1,q1,fun τ' σ' G' H' a b c q=>k.nx τ' σ' G' H' a (S1.trans b) c q⟩⟩
theorem qowz{i:Nat}{x:Str}{te:TE3}{pos':Pos}(hN:X.N.Nodup)(he:PE3 X e te)(hi:X.N[i]?=some x:=by rfl)(hx:Loc X.env.scope x:=by first|exact Or.inl rfl|exact Or.inr rfl)(hs:swapsWith e (some (.Name x pos')) pos.line X.env=pure false:=by rfl)
  (hf:X.fn x=true∨X.env.scope.names.lookup x=some .local:=by first|exact .inl rfl|exact .inr rfl|assumption):PS3 X (.Assign [.Name x pos'] e pos) (sAsg te (hName i)):=qahz (qlzz hN hi hx he hs hf) fun D σ H ⟨τ,G,D3,RS,RG,h,k⟩=>
 ⟨τ,G,_,RS,RG,h,fun v H1 d G1 h1 S1 R1 q1=>k.nx _ _ G1 H1 ((RS.ext (S1.ext RG)).set h1) S1 R1 q1⟩
def sPar(i j:Nat)(ta:TA3):TS3:=fun D τ G=>ta τ G fun ds G1=>match ds with
 |[a,b]=>D.nx (set3 (set3 τ i a) j b) G1
 |_=>False
theorem qhqz{i j:Nat}{st:Stmt}{ta:TA3}(h:PS X st (tPar i j (lowA X.K ta))):PS3 X st (sPar i j ta):=qahz h fun D σ H ⟨τ,G,D3,RS,RG,h,k⟩=>
 ⟨τ,G,_,RS,RG,h,fun vs H1 ds G1 h1 S1 R1 q1=>by
  match ds,h1,q1 with
  |[a,b],h1,q1=>
   obtain⟨v,r,rfl,z1,z2⟩:=h1.inv;obtain⟨w,r2,rfl,z3,z4⟩:=z2.inv;cases z4.inv0;exact⟨v,w,rfl,k.nx _ _ G1 H1 (((RS.ext (S1.ext RG)).set z1).set z3) S1 R1 q1⟩
  |[],_,q1=>exact q1.elim
  |[_],_,q1=>exact q1.elim
  |_::_::_::_,_,q1=>exact q1.elim⟩
def sAug(i:Nat)(te:TE3)(r:R3):TS3:=fun D τ G=>match at3 τ i with
 |some x=>te τ G fun y G1=>r x y G1 fun z G2=>D.nx (set3 τ i z) G2
 |none=>False
theorem qoxz{i:Nat}{x:Str}{te:TE3}{op:Operator}{r:R3}{r2:TIp}{pos':Pos}(L:LowR X.K r r2)(hN:X.N.Nodup)(he:PE3 X e te)(ho:PIp X op r2)(hi:X.N[i]?=some x:=by rfl)(hx:Loc X.env.scope x:=by first|exact Or.inl rfl|exact Or.inr rfl)(hf:X.fn x=true∨X.env.scope.names.lookup x=some .local:=by first|exact .inl rfl|exact .inr rfl|assumption):
  PS3 X (.AugAssign (.Name x pos') op e pos) (sAug i te r):=qahz (ql1z hN hi hx he ho hf) fun D σ H ⟨τ,G,D3,RS,RG,h,k⟩=>by
 unfold sAug at h;cases hd:at3 τ i with
 |none=>rw[hd] at h;exact h.elim
 |some d=>
  rw[hd] at h;obtain⟨v,e1,e2⟩:=RS.at_ i d hd;refine⟨v,e1,τ,G,_,RS,RG,h,fun v1 H1 d1 G1 h1 S1 R1 q1=>?_⟩;refine L _ _ _ _ _ _ _ _ (e2.ext (S1.ext RG)) h1 R1 q1 fun v2 H2 d2 G2 z1 z2 z3 z4=>?_;exact k.nx _ _ G2 H2 (((RS.ext (S1.ext RG)).ext (z2.ext R1)).set z1) (S1.trans z2) z3 z4
def rSet3:D->D->D->Gp->(Gp->Prop)->Prop:=fun o i v G Q=>match o,i with
 |.obj p,.int k=>∃ds j,G p=some (.lst ds)/\ixN ds.length k=some j/\Q (upd3 G p (.lst (ds.set j v)))
 |_,_=>False
def hSub(to ti:TE3):TG3:=fun v τ G Q=>to τ G fun o G1=>ti τ G1 fun i G2=>rSet3 o i v G2 fun G3=>Q τ G3
theorem qoyz{K:PySem.W.Frag}{o i v:D}{vo vi vv:V}{G:Gp}{H:Hp}{Q3:Gp->Prop}{Q:Hp->Prop}(ho:Hv K H o vo)(hi:Hv K H i vi)(hv:Hv K H v vv)(RG:RepG K G H)(h:rSet3 o i v G Q3)
  (k:∀H' G',Step H G H' G'->RepG K G' H'->Q3 G'->Q H'):rSetL vo vi vv H Q:=by
 match o,i,ho,hi,h with
 |.obj p,.int j,ho,hi,h=>
  unfold Hv at ho hi;obtain⟨ds,n,e1,e2,q⟩:=h;obtain⟨vs,e3,e4⟩:=RG p _ e1;refine⟨p,vs,j,n,ho,hi,e3,by rw[←e4.length];exact e2,k _ _ (Step.wrote (g:=.lst (ds.set n v)) e1) (RG.wrote e3 ⟨_,qoz,?_⟩) q⟩;exact (e4.ext (Ext.wrote e3)).set n (hv.ext (Ext.wrote e3))
 |.obj _,.non,_,_,h=>exact h.elim
 |.obj _,.bl _,_,_,h=>exact h.elim
 |.obj _,.str _,_,_,h=>exact h.elim
 |.obj _,.tup _,_,_,h=>exact h.elim
 |.obj _,.scr _,_,_,h=>exact h.elim
 |.obj _,.obj _,_,_,h=>exact h.elim
 |.obj _,.dc _,_,_,h=>exact h.elim
 |.dc _,_,_,_,h=>exact h.elim
 |.non,_,_,_,h=>exact h.elim
 |.bl _,_,_,_,h=>exact h.elim
 |.int _,_,_,_,h=>exact h.elim
 |.str _,_,_,_,h=>exact h.elim
 |.tup _,_,_,_,h=>exact h.elim
 |.scr _,_,_,_,h=>exact h.elim
theorem qozz{o i:Expr}{to ti:TE3}(ho:PE3 X o to)(hi:PE3 X i ti)
  (ha:∀v,assign (.Subscript o i pos) X.env v=(do
   let ov ←holding [v] (eval o X.env)
   let iv ←holding [v,ov] (eval i X.env)
   standAt pos
   holding [v,ov,iv] (setItem ov iv v)
   release [v,ov,iv] []):=by intro _;rfl):PG3 X (.Subscript o i pos) (hSub to ti):=qdwz (qlxz ho hi set_list ha) fun v σ H Q ⟨d,τ,G,Q3,hd,RS,RG,h,k⟩=>
 ⟨τ,G,_,RS,RG,h,fun v1 H1 d1 G1 h1 S1 R1 q1=>⟨τ,G1,_,RS.ext (S1.ext RG),R1,q1,fun v2 H2 d2 G2 h2 S2 R2 q2=>
  qoyz (h1.ext (S2.ext R1)) h2 ((hd.ext (S1.ext RG)).ext (S2.ext R1)) R2 q2 fun H' G' y1 y2 y3=>k _ _ G' H' (((RS.ext (S1.ext RG)).ext (S2.ext R1)).ext (y1.ext R2)) ((S1.trans S2).trans y1) y2 y3⟩⟩
def sWhile(c:TT3)(tb:TS3):TS3:=fun D τ G=>∃W:Nat->S3->Gp->Prop,(∃m,W m τ G)/\∀m τ G,W m τ G ->
 c τ G fun b G1=>Br b (tb { D with nx:=fun τ' G'=>∃m',m' < m/\W m' τ' G',ct:=fun τ' G'=>∃m',m' < m/\W m' τ' G',bk:=D.nx } τ G1) (D.nx τ G1)
theorem qo0z{c:Expr}{body:List Stmt}{tc:TT3}{tb:TS3}(hp:PassesOwn (model X.prog X.w) X.A X.env X.xe)(hc:PT3 X c tc)(hb:PSs3 X body tb):PS3 X (.While c body [] pos) (sWhile tc tb):=
 qahz (ql3z hp hc hb) fun D σ H ⟨τ,G,D3,RS,RG,⟨W,⟨m0,w0⟩,turn⟩,k⟩=>by
  refine⟨fun m σ' H'=>∃τ' G',W m τ' G'/\RepS X.K τ' σ' H'/\RepG X.K G' H'/\Step H G H' G',⟨m0,τ,G,w0,RS,RG,.refl H G⟩,fun m σ1 H1 ⟨τ1,G1,w1,RS1,RG1,S1⟩=>?_⟩;refine⟨τ1,G1,_,RS1,RG1,turn m τ1 G1 w1,fun b H2 G2 S2 R2 q2=>Br.ite q2 (fun q=>?_) fun q=>k.nx _ _ G2 H2 (RS1.ext (S2.ext RG1)) (S1.trans S2) R2 q⟩;refine⟨fun σ' H'=>∃τ' G',(∃m',m' < m/\W m' τ' G')/\RepS X.K τ' σ' H'/\RepG X.K G' H'/\Step H G H' G',fun σ' H' ⟨τ',G',⟨m',hm,w'⟩,a,b,c⟩=>⟨m',hm,τ',G',w',a,b,c⟩,?_⟩;refine⟨τ1,G2,_,RS1.ext (S2.ext RG1),R2,q,⟨?_,?_,?_,?_⟩⟩
  ·exact fun τ' σ' G' H' a b c q=>⟨τ',G',q,a,c,(S1.trans S2).trans b⟩
  ·exact fun τ' σ' G' H' a b c q=>k.nx τ' σ' G' H' a ((S1.trans S2).trans b) c q
  ·exact fun τ' σ' G' H' a b c q=>⟨τ',G',q,a,c,(S1.trans S2).trans b⟩
  ·exact fun d v G' H' a b c q=>k.rt d v G' H' a ((S1.trans S2).trans b) c q
end
abbrev Sp3:=List D->Gp->V3->Prop
def lowSp(K:PySem.W.Frag)(sp:Sp3):Sp:=fun vs H Q _=>∃ds G Q3,Hvs K H ds vs/\RepG K G H/\sp ds G Q3/\∀v H' d G',Hv K H' d v->Step H G H' G'->RepG K G' H'->Q3 d G'->Q v H'
abbrev FnOk3(P:Program)(w:World)(K:PySem.W.Frag)(mg:Str->Option Value)(base:Heap)(k:Nat)(f:Addr)(fd:FuncData)(ps:List Str)(sp:Sp3):Prop:=FnOk P w K mg base CX0 k f fd ps (lowSp K sp)
def eCall(sp:Sp3)(t:TA3):TE3:=fun τ G Q=>t τ G fun ds G1=>sp ds G1 Q
section
variable {X:Cx} {k:Nat} {f:Addr} {fd:FuncData} {ps:List Str} {sp:Sp3} {x:Str} {p pos:Pos} {e:Expr} {es:List Expr} {t:TA3}
theorem qe0z{K:PySem.W.Frag}{σ:L2.St}{H:Hp}{Q:VK}{E:XK}(h:low K (eCall sp t) σ H Q):tCall (lowSp K sp) [] E (lowA K t) σ H Q:=by
 obtain⟨τ,G,Q3,RS,RG,h,k⟩:=h;refine⟨τ,G,_,RS,RG,h,fun vs H1 ds G1 h1 S1 R1 q1=>?_⟩;refine⟨ds,G1,Q3,by rw[List.append_nil];exact h1,R1,q1,fun v H' d G' z1 z2 z3 z4=>k v H' d G' z1 (S1.trans z2) z3 z4⟩
theorem qo1z(F:FnOk3 X.prog X.w X.K X.mg X.base k f fd ps sp)(hr:Room k X.A)(hm:X.mg x=some (.ref f))(hk:PySem.W.keepIn X.K (.ref f)=true)(hb:Binds X.K fd ps [])(ha:PA3 X (e::es) t)(hg:Gl X x:=by rfl)
  (hdb:(x==("__debug__":Str))=false:=by decide) (he:notStar e=true:=by rfl) (hpl:es.all notStar=true:=by rfl):
  PE3 X (.Call (.Name x p) (e::es) [] pos) (eCall sp t):=qpz (qmuz (E:=E0) F hr hg hm hk hb .nil pass0 ha hdb (qlz he) (qzz hpl)) fun σ H Q h=>qe0z h
end
section
variable {P:Program} {w:World} {K:PySem.W.Frag} {mg:Str->Option Value} {base:Heap}
def endsOf(Q:V3):Ends3:={ nx:=fun _ G'=>∃G0,Sub G0 G'/\Q .non G0,rt:=fun d G'=>∃G0,Sub G0 G'/\Q d G0 }
theorem fn3{x qual:Str}{st:Stmt}{f:Addr}{fd:FuncData}{N ps:List Str}{k:Nat}{sp:Sp3}(F:Fun K x qual st f fd)(S:FnScope N ps (defScope st))(hN:ps.length≤N.length)(len:∀ds G Q,sp ds G Q->ds.length=ps.length)(tb:TS3)
  (hbody:∀(cdv:Value) (A:Around) (outer:List Env) (s:Shared) (H:Hp) (E:XK),Room k (A.deeper (envOfC qual (defScope st) s.heap.objs.size f cdv)) ->
   PSs3 (cxOf CX0 P w K mg base N qual (defScope st) f cdv A outer s H E).nox (defBody st) tb)
  (hrd:∀ds G Q,sp ds G Q->tb (endsOf Q) (start3 N ds) G):FnOk3 P w K mg base (k+1) f fd ps sp:=by
 refine F.ok S (fun vs H Q E h=>?_) (fun cdv A outer s H vs Q E hr h=>?_)
 ·obtain⟨ds,G,Q3,h1,h2,h3,h4⟩:=h;rw[←h1.length];exact len _ _ _ h3
 ·obtain⟨ds,G,Q3,h1,h2,h3,h4⟩:=h;refine⟨_,hbody cdv A outer s H E hr,start3 N ds,G,endsOf Q3,.start h1 ?_,h2,hrd _ _ _ h3,⟨?_,?_,?_,?_⟩⟩
  ·rw[←h1.length,len _ _ _ h3];exact hN
  ·exact fun τ σ G' H' a b c ⟨G0,s0,q⟩=>h4 _ H' .non G0 (by simp[Hv]) (b.trans (.sub s0)) (c.sub s0) q
  ·exact fun τ σ G' H' a b c q=>q.elim
  ·exact fun τ σ G' H' a b c q=>q.elim
  ·exact fun d v G' H' a b c ⟨G0,s0,q⟩=>h4 _ H' d G0 a (b.trans (.sub s0)) (c.sub s0) q
end
end L3
namespace L3
open PySem PySem.Spec PyProof.Rows L2
structure Src where
 items:List D
 guard:Gp->Prop
structure SrcOk(K:PySem.W.Frag)(H0:Hp)(J:It)(S:Src):Prop where
 go:∀(i:Nat) d H G,Ext H0 H->RepG K G H->S.guard G->S.items[i]?=some d->J.go i H/\∀x H',J.yld i H x H'->Hv K H' d x/\Step H G H' G/\RepG K G H'
 stop:∀(i:Nat) H G,Ext H0 H->RepG K G H->S.guard G->S.items.length≤i->J.stop i H
abbrev TI3:=S3->Gp->(Src->Gp->Prop)->Prop
def lowI(K:PySem.W.Frag)(ti:TI3):TI:=fun σ H R=>∃τ G R3,RepS K τ σ H/\RepG K G H/\ti τ G R3/\∀J H' S G',SrcOk K H' J S->Step H G H' G'->RepG K G' H'->R3 S G'->R J H'
abbrev PI3(X:Cx)(tg iter:Expr)(ti:TI3):Prop:=PI X tg iter (lowI X.K ti)
section
variable {X:Cx} {tg iter:Expr} {pos p:Pos}
theorem qe1z{t t':TI}(h:PI X tg iter t)(f:∀σ H R,t' σ H R->t σ H R):PI X tg iter t':=fun pins s σ H R I q=>h pins s σ H R I (f σ H R q)
def iSeq(te:TE3):TI3:=fun τ G R=>te τ G fun x G1=>match x with
 |.obj p=>∃ds,G1 p=some (.lst ds)/\R ⟨ds,fun G=>G p=some (.lst ds)⟩ G1
 |.tup ds=>R ⟨ds,fun _=>True⟩ G1
 |.scr ds=>R ⟨ds,fun _=>True⟩ G1
 |_=>False
theorem qo2z{l:Expr}{te:TE3}(hl:PE3 X l te):PI3 X tg l (iSeq te):=by
 intro pins s σ H R I h;obtain⟨τ,G,R3,RS,RG,h,k⟩:=h
 -- the state carries what a list of the heap is
 refine thn (hl pins s σ H (fun v H'=>∃d G',Hv X.K H' d v/\Step H G H' G'/\RepG X.K G' H'/\(match d with
  |.obj p=>∃ds,G' p=some (.lst ds)/\R3 ⟨ds,fun G=>G p=some (.lst ds)⟩ G'
  |.tup ds=>R3 ⟨ds,fun _=>True⟩ G'
  |.scr ds=>R3 ⟨ds,fun _=>True⟩ G'
  | _=>False)) I ⟨τ,G,_,RS,RG,h,fun v H' d G' a b c q=>⟨d,G',a,b,c,q⟩⟩) fun v s1 ⟨x,H1,I1,r1,d,G1,hv,S1,R1,q⟩=>?_
 have hlist:∀(a:Addr) (its:List Value) (xs:List V),Vals xs its->PlainL s1.heap a its.toArray->R (Itl X.K a) H1->wpAny (model X.prog X.w) X.A (pyIter (.ref a)) (PIE X pins σ tg R) X.xe s1:=by
  intro a its xs rv p q;refine wpAny_pyIter_list p.isList ?_;refine⟨s1.heap.objs.size,[s1.heap.objs.size],_,_,H1,rfl,I1.kept (t':=s1.toks) fun b o e=>Heap.get?_push_of_some _ e,ql4z a _,⟨_,Heap.get?_push_size _ rfl,rfl,rfl⟩,fun b hb=>?_,q⟩;have e:b=s1.heap.objs.size:=by simpa using hb
  subst e;exact I1.fpOk (Nat.le_refl _) (I1.hok.fresh (Nat.le_refl _))
 cases d with
 |obj a=>
  unfold Hv at hv;subst hv;cases r1;obtain⟨ds,e1,q⟩:=q;obtain⟨vs,e2,e3⟩:=R1 a _ e1;obtain⟨its,rv,p,hz⟩:=I1.list (SqL.of e2);refine hlist a its vs rv p (k _ _ _ _ ⟨?_,?_⟩ S1 R1 q)
  ·intro i d H' G' E' RG' hg hi;obtain⟨vs',z1,z2⟩:=RG' a _ hg;obtain⟨v',y1,y2⟩:=z2.get hi;refine⟨⟨vs',v',.of z1,y1⟩,fun x H'' hy=>?_⟩;obtain⟨rfl,hy⟩:=hy;have:=hy vs' (.of z1);rw[y1] at this;cases this;exact⟨y2,.refl _ _,RG'⟩
  ·intro i H' G' E' RG' hg hi;obtain⟨vs',z1,z2⟩:=RG' a _ hg;exact⟨vs',.of z1,by rw[←z2.length];exact hi⟩
 |tup ds=>
  unfold Hv at hv;obtain⟨a,vs,rfl,e2,e3⟩:=hv;cases r1;obtain⟨its,rv,p,hz⟩:=I1.tuple e2;have hq:R (Itt X.K a) H1:=by
   refine k _ _ _ _ ⟨?_,?_⟩ S1 R1 q
   ·intro i d H' G' E' RG' hg hi;obtain⟨v',y1,y2⟩:=e3.get hi;refine⟨⟨vs,v',SqT.ext E' e2,y1⟩,fun x H'' hy=>?_⟩;obtain⟨rfl,hy⟩:=hy;have:=hy vs (SqT.ext E' e2);rw[y1] at this;cases this;exact⟨y2.ext E',.refl _ _,RG'⟩
   ·intro i H' G' E' RG' hg hi;exact⟨vs,SqT.ext E' e2,by rw[←e3.length];exact hi⟩
  refine wpAny_pyIter_tuple (show s1.heap.IsTuple a its.toArray from p) ?_;refine⟨s1.heap.objs.size,[s1.heap.objs.size],_,_,H1,rfl,I1.kept (t':=s1.toks) fun b o e=>Heap.get?_push_of_some _ e,ql5z a _,⟨_,Heap.get?_push_size _ rfl,rfl,rfl⟩,fun b hb=>?_,hq⟩;have e:b=s1.heap.objs.size:=by simpa using hb
  subst e;exact I1.fpOk (Nat.le_refl _) (I1.hok.fresh (Nat.le_refl _))
 |scr ds=>
  unfold Hv at hv;obtain⟨a,vs,rfl,e2,e3⟩:=hv;cases r1;obtain⟨its,rv,p,hz⟩:=I1.list e2.l;refine hlist a its vs rv p (k _ _ _ _ ⟨?_,?_⟩ S1 R1 q)
  ·intro i d H' G' E' RG' hg hi;obtain⟨v',y1,y2⟩:=e3.get hi;refine⟨⟨vs,v',(SqF.ext E' e2).l,y1⟩,fun x H'' hy=>?_⟩;obtain⟨rfl,hy⟩:=hy;have:=hy vs (SqF.ext E' e2).l;rw[y1] at this;cases this;exact⟨y2.ext E',.refl _ _,RG'⟩
  ·intro i H' G' E' RG' hg hi;exact⟨vs,(SqF.ext E' e2).l,by rw[←e3.length];exact hi⟩
 |non=>exact q.elim
 |bl _=>exact q.elim
 |int _=>exact q.elim
 |str _=>exact q.elim
 |dc _=>exact q.elim
def rngL(lo:Int)(n:Nat):List D:=(List.range n).map fun i:Nat=>.int (lo+(i:Int))
theorem qo3z{lo:Int}{n i:Nat}{d:D}(h:(rngL lo n)[i]?=some d):i<n/\d=.int (lo+(i:Int)):=by
 unfold rngL at h;rw[List.getElem?_map] at h;by_cases hi:i<n
 ·rw[List.getElem?_range hi] at h;simp at h;exact⟨hi,h.symm⟩
 ·rw[List.getElem?_eq_none_iff.mpr (by simpa using hi)] at h;cases h
theorem qckz(lo:Int)(n:Nat):(rngL lo n).length=n:=by simp[rngL]
theorem qhrz{K:PySem.W.Frag}{H:Hp}(lo:Int)(n:Nat):SrcOk K H (Itr lo n) ⟨rngL lo n,fun _=>True⟩:=⟨by
 intro i d H' G' _ RG _ hi;obtain⟨h1,h2⟩:=qo3z hi;refine⟨h1,fun x H'' hy=>?_⟩;obtain⟨rfl,rfl⟩:=hy;exact⟨by rw[h2];simp[Hv],.refl _ _,RG⟩,by
 intro i H' G' _ RG _ hi;rw[qckz] at hi;exact hi⟩
def iRng1(ta:TA3):TI3:=fun τ G R=>ta τ G fun ds G1=>match ds with
 |[.int j]=>(-(2^62)≤j/\j<2^62)/\R ⟨rngL 0 j.toNat,fun _=>True⟩ G1
 |_=>False
def iRng2(ta:TA3):TI3:=fun τ G R=>ta τ G fun ds G1=>match ds with
 |[.int i,.int j]=>(-(2^62)≤i/\i<2^62/\-(2^62)≤j/\j<2^62)/\R ⟨rngL i (j-i).toNat,fun _=>True⟩ G1
 |_=>False
theorem qo4z{a:Expr}{ta:TA3}(hm:X.mg "range" = none)(ha:PA3 X [a] ta)(hg:Gl X "range":=by rfl)(hs:notStar a=true:=by rfl):PI3 X tg (.Call (.Name "range" p) [a] [] pos) (iRng1 ta):=
 qe1z (ql7z hg hm ha (qlz hs)) fun σ H R ⟨τ,G,R3,RS,RG,h,k⟩=>⟨τ,G,_,RS,RG,h,fun vs H1 ds G1 h1 S1 R1 q1=>by
  rcases ds with _|⟨d,_|⟨d2,ds⟩⟩
  ·exact q1.elim
  ·cases d with
   |int j=>
    obtain⟨v,r,rfl,z1,z2⟩:=h1.inv;cases z2.inv0;unfold Hv at z1;exact⟨j,by rw[z1],q1.1.1,q1.1.2,k _ _ _ _ (qhrz 0 _) S1 R1 q1.2⟩
   |_=>exact q1.elim
  ·cases d<;>exact q1.elim⟩
theorem qo5z{a b:Expr}{ta:TA3}(hm:X.mg "range" = none)(ha:PA3 X [a,b] ta)(hg:Gl X "range":=by rfl)(hs:notStar a=true:=by rfl)(hs2:notStar b=true:=by rfl):
  PI3 X tg (.Call (.Name "range" p) [a,b] [] pos) (iRng2 ta):=
 qe1z (ql8z hg hm ha (by rw[qlz hs,qlz hs2];rfl) (qlz hs2)) fun σ H R ⟨τ,G,R3,RS,RG,h,k⟩=>⟨τ,G,_,RS,RG,h,fun vs H1 ds G1 h1 S1 R1 q1=>by
  rcases ds with _|⟨d,_|⟨d2,_|⟨d3,ds⟩⟩⟩
  ·exact q1.elim
  ·cases d<;>exact q1.elim
  ·cases d with
   |int i=>
    cases d2 with
    |int j=>
     obtain⟨v,r,rfl,z1,z2⟩:=h1.inv;obtain⟨v',r',rfl,z3,z4⟩:=z2.inv;cases z4.inv0;unfold Hv at z1 z3;exact⟨i,j,by rw[z1,z3],q1.1,k _ _ _ _ (qhrz i _) S1 R1 q1.2⟩
    |_=>exact q1.elim
   |_=>exact q1.elim
  ·cases d with
   |int i=>cases d2<;>exact q1.elim
   |_=>exact q1.elim⟩
def forGo(guard:Gp->Prop)(g:TG3)(tb:TS3)(D3:Ends3):List D->S3->Gp->Prop
 |[],τ,G=>guard G/\D3.nx τ G
 |d::ds,τ,G=>guard G/\g d τ G fun τ2 G2=>tb { D3 with nx:=forGo guard g tb D3 ds,ct:=forGo guard g tb D3 ds,bk:=D3.nx } τ2 G2
def sFor(ti:TI3)(g:TG3)(tb:TS3):TS3:=fun D3 τ G=>ti τ G fun S G1=>forGo S.guard g tb D3 S.items τ G1
theorem qo6z{body:List Stmt}{ti:TI3}{g:TG3}{tb:TS3}(hp:PassesOwn (model X.prog X.w) X.A X.env X.xe)(hc:X.calm=true)(hi:PI3 X tg iter ti)(hg:PG3 X tg g)(hb:PSs3 X body tb)
  (hs:∀x,foldedSetIterable iter X.env x=pure x:=by intro _;rfl):PS3 X (.For tg iter body [] pos) (sFor ti g tb):=qahz (qmaz hp hc hi hg hb hs) fun D2 σ H ⟨τ,G,D3,RS,RG,h,k⟩=>by
 refine⟨τ,G,_,RS,RG,h,fun J H1 S G1 ok S1 R1 q1=>?_⟩;refine⟨fun i m σ' H'=>∃τ' G',RepS X.K τ' σ' H'/\RepG X.K G' H'/\Step H G H' G'/\Ext H1 H'/\forGo S.guard g tb D3 (S.items.drop i) τ' G'/\m+i=S.items.length,⟨S.items.length,τ,G1,RS.ext (S1.ext RG),R1,S1,.refl H1,by simpa using q1,by lia⟩,?_⟩;rintro i m σ' H' ⟨τ',G',RS',RG',S',E',q,hm⟩;by_cases hlt:i<S.items.length
 ·have hd:S.items.drop i=S.items[i]::S.items.drop (i+1):=List.drop_eq_getElem_cons hlt;have hget:S.items[i]?=some S.items[i]:=List.getElem?_eq_getElem hlt;rw[hd] at q;obtain⟨hgd,q⟩:=q;obtain⟨z1,z2⟩:=ok.go i _ H' G' E' RG' hgd hget;refine .inr ⟨z1,fun σ2 H2=>∃τ2 G2,RepS X.K τ2 σ2 H2/\RepG X.K G2 H2/\Step H G H2 G2/\Ext H1 H2/\forGo S.guard g tb D3 (S.items.drop (i+1)) τ2 G2,fun σ2 H2 ⟨τ2,G2,a1,a2,a3,a4,a5⟩=>⟨m-1,by lia,τ2,G2,a1,a2,a3,a4,a5,by lia⟩,fun x H2 hy=>?_⟩;obtain⟨y1,y2,y3⟩:=z2 x H2 hy;refine⟨S.items[i],τ',G',_,y1,RS'.ext (y2.ext RG'),y3,q,fun τ3 σ3 G3 H3 b1 b2 b3 b4=>?_⟩;refine⟨τ3,G3,_,b1,b3,b4,⟨?_,?_,?_,?_⟩⟩
  ·exact fun τ4 σ4 G4 H4 c1 c2 c3 c4=>⟨τ4,G4,c1,c3,((S'.trans y2).trans b2).trans c2,((E'.trans (y2.ext RG')).trans (b2.ext y3)).trans (c2.ext b3),c4⟩
  ·exact fun τ4 σ4 G4 H4 c1 c2 c3 c4=>k.nx τ4 σ4 G4 H4 c1 (((S'.trans y2).trans b2).trans c2) c3 c4
  ·exact fun τ4 σ4 G4 H4 c1 c2 c3 c4=>⟨τ4,G4,c1,c3,((S'.trans y2).trans b2).trans c2,((E'.trans (y2.ext RG')).trans (b2.ext y3)).trans (c2.ext b3),c4⟩
  ·exact fun d v G4 H4 c1 c2 c3 c4=>k.rt d v G4 H4 c1 (((S'.trans y2).trans b2).trans c2) c3 c4
 ·have hd:S.items.drop i=[]:=List.drop_eq_nil_of_le (by lia);rw[hd] at q;exact .inl ⟨ok.stop i H' G' E' RG' q.1 (by lia),k.nx τ' σ' G' H' RS' S' RG' q.2⟩
def compGo(guard:Gp->Prop)(g:TG3)(tc:TT3)(te:TE3)(Q:List D->Gp->Prop):List D->List D->S3->Gp->Prop
 |[],acc,τ,G=>guard G/\Q acc G
 |d::ds,acc,τ,G=>guard G/\g d τ G fun τ2 G2=>tc τ2 G2 fun b G3=>Br b (te τ2 G3 fun v G4=>compGo guard g tc te Q ds (acc++[v]) τ2 G4) (compGo guard g tc te Q ds acc τ2 G3)
def cmp3(own:List Str)(js:List Nat)(τ:S3):S3:=(own.map fun _=>none)++js.map fun j=>at3 τ j
def eComp(own:List Str)(js:List Nat)(ti:TI3)(g:TG3)(tc:TT3)(te:TE3):TE3:=fun τ G Q=>ti τ G fun S G1=>S.items.length≤sizeLine ∧
 compGo S.guard g tc te (fun ds G2=>∀p G3,New G2 p (.lst ds) G3->Q (.obj p) G3) S.items [] (cmp3 own js τ) G1
theorem qhsz:∀(τ:S3) (i:Nat),at3 τ i=(τ[i]?).getD none
 |[],i=>by simp[at3]
 |x::r,0=>by simp[at3]
 |x::r,i+1=>by simp[at3,qhsz r i]
theorem RepS.cmp{K:PySem.W.Frag}{τ:S3}{σ:L2.St}{H:Hp}(own:List Str)(js:List Nat)(R:RepS K τ σ H):RepS K (cmp3 own js τ) (cmpSt own js σ) H:=⟨by simp[cmp3,cmpSt],fun i d h=>by
 rw[qhsz] at h;unfold cmp3 at h;by_cases hi:i<own.length
 ·rw[List.getElem?_append_left (by simpa using hi)] at h;rw[List.getElem?_map,List.getElem?_eq_getElem hi] at h;cases h
 ·rw[List.getElem?_append_right (by simpa using hi),List.getElem?_map] at h;simp only[List.length_map] at h;cases hj:js[i-own.length]? with
  |none=>rw[hj] at h;cases h
  |some j=>
   rw[hj] at h;have h':at3 τ j=some d:=h;obtain⟨v,e1,e2⟩:=R.at_ j d h';refine⟨v,?_,e2⟩;unfold cmpSt;rw[List.getElem?_append_right (by simpa using hi),List.getElem?_map];simp only[List.length_replicate,hj,Option.map_some,e1,Option.getD_some]⟩
def tNoTest3:TT3:=fun _ G Q=>Q true G
theorem qo7z:PCt X [] (lowT X.K tNoTest3):=fun pins s σ H Q I ⟨τ,G,Q3,RS,RG,h,k⟩=>qohz pins s σ H Q I (k true H G (.refl H G) RG h)
theorem qo8z{c:Expr}{t:TT3}(h:PT3 X c t):PCt X [c] (lowT X.K t):=qoiz h
theorem qhtz{K:PySem.W.Frag}{own:List Str}{js:List Nat}{ti:TI3}{g:TG3}{tc:TT3}{te:TE3}{σ:L2.St}{H:Hp}{Q:VK}(h:low K (eComp own js ti g tc te) σ H Q):tLc own js (lowI K ti) (lowG K g) (lowT K tc) (low K te) σ H Q:=by
 obtain⟨τ,G,Q3,RS,RG,h,k⟩:=h;refine⟨τ,G,_,RS,RG,h,fun J H1 S G1 ok S1 R1 q1=>?_⟩;obtain⟨hz,q1⟩:=q1;intro p hp;have hGp:G1 p=none:=R1.free hp;refine⟨fun i m ys σ' H'=>∃τ' G' acc,RepS K τ' σ' H'/\RepG K G' H'/\Step H G H' G'/\Ext H1 H'/\H' p=some (.lst ys)/\G' p=none/\Hvs K H' acc ys ∧
  compGo S.guard g tc te (fun ds G2=>∀p G3,New G2 p (.lst ds) G3->Q3 (.obj p) G3) (S.items.drop i) acc τ' G'/\m+i=S.items.length/\ys.length≤i,?_,?_⟩
 ·have E1:Ext H1 (upd H1 p (.lst [])):=.laid hp;exact⟨S.items.length,cmp3 own js τ,G1,[],((RS.ext (S1.ext RG)).cmp own js).ext E1,R1.laid hp,S1.trans (.laid hp),E1,qoz,hGp,.nil,by simpa using q1,by lia,Nat.zero_le _⟩
 rintro i m ys σ' H' ⟨τ',G',acc,RS',RG',S',E',hpl,hG',hacc,q,hm,hy⟩;refine⟨hpl,?_⟩;by_cases hlt:i<S.items.length
 ·have hd:S.items.drop i=S.items[i]::S.items.drop (i+1):=List.drop_eq_getElem_cons hlt;have hget:S.items[i]?=some S.items[i]:=List.getElem?_eq_getElem hlt;rw[hd] at q;obtain⟨hgd,q⟩:=q;obtain⟨z1,z2⟩:=ok.go i _ H' G' E' RG' hgd hget;refine .inr ⟨z1,by lia,fun x H2 hyl=>?_⟩;obtain⟨y1,y2,y3⟩:=z2 x H2 hyl
  -- what is not in G stays
  have keep:∀{Ha Hb:Hp} {Ga Gb:Gp},Step Ha Ga Hb Gb->Ha p=some (.lst ys)->Ga p=none->Hb p=some (.lst ys)/\Gb p=none:=fun {Ha Hb Ga Gb} st e n=>by
   refine⟨st.fr p _ e n,?_⟩;refine Classical.byContradiction fun z=>?_;rw[st.new p n z] at e;cases e
  obtain⟨p2,n2⟩:=keep y2 hpl hG';refine⟨S.items[i],τ',G',_,y1,RS'.ext (y2.ext RG'),y3,q,fun τ3 σ3 G3 H3 b1 b2 b3 b4=>?_⟩;obtain⟨p3,n3⟩:=keep b2 p2 n2;refine⟨τ3,G3,_,b1,b3,b4,fun bb H4 G4 c1 c2 c3=>?_⟩;obtain⟨p4,n4⟩:=keep c1 p3 n3;have E4:Ext H' H4:=((y2.ext RG').trans (b2.ext y3)).trans (c1.ext b3);have S4:Step H G H4 G4:=((S'.trans y2).trans b2).trans c1;have RS4:=b1.ext (c1.ext b3);refine Br.ite c3 (fun c3=>?_) fun c3=>?_
  ·refine⟨τ3,G4,_,RS4,c2,c3,fun v H5 d G5 e1 e2 e3 e4=>?_⟩;obtain⟨p5,n5⟩:=keep e2 p4 n4;refine⟨p5,m-1,by lia,τ3,G5,acc++[d],?_,?_,?_,?_,qoz,n5,?_,e4,by lia,by rw[List.length_append];simp;lia⟩
   ·exact (RS4.ext (e2.ext c2)).ext (.wrote p5)
   ·intro a o e;have hne:a≠p:=fun z=>by
     rw[z,n5] at e;cases e
    exact (e3 a o e).ext (.wrote p5) (qiz hne)
   ·refine⟨fun a o e n=>?_,fun a q=>?_,fun a n q=>((S4.trans e2).new a n q)⟩
    ·by_cases hne:a=p
     ·exfalso;rw[hne] at e n;have hh:=S1.fr p o e n;rw[hp] at hh;cases hh
     ·rw[qiz hne];exact (S4.trans e2).fr a o e n
    ·by_cases hne:a=p
     ·rw[hne,qoz];simp
     ·rw[qiz hne];exact (S4.trans e2).trk a q
   ·exact ((E'.trans E4).trans (e2.ext c2)).trans (.wrote p5)
   ·have E5:Ext H' (upd H5 p (.lst (ys++[v]))):=(E4.trans (e2.ext c2)).trans (.wrote p5);exact (hacc.ext E5).append (.cons (e1.ext (.wrote p5)) .nil)
  ·exact⟨m-1,by lia,τ3,G4,acc,RS4,c2,S4,E'.trans E4,p4,n4,hacc.ext E4,c3,by lia,by lia⟩
 ·have hd:S.items.drop i=[]:=List.drop_eq_nil_of_le (by lia);rw[hd] at q;refine .inl ⟨ok.stop i H' G' E' RG' q.1 (by lia),?_⟩;refine k _ H' (.obj p) (upd3 G' p (.lst acc)) (by simp[Hv]) ?_ ?_ (q.2 p _ (.mk' hG'))
  ·refine⟨S'.fr,S'.trk,fun a n z=>?_⟩;by_cases hne:a=p
   ·rw[hne];cases hh:H p with
    |none=>rfl
    |some o=>
     exfalso;rw[hne] at n;have:=S1.fr p o hh n;rw[hp] at this;cases this
   ·rw[qacz hne] at z;exact S'.new a n z
  ·intro a o e;by_cases hne:a=p
   ·rw[hne,qalz] at e;cases e;rw[hne];exact⟨ys,hpl,hacc⟩
   ·rw[qacz hne] at e;exact RG' a o e
theorem qo9z{elt:Expr}{ifs:List Expr}{scope:Scope}{own:List Str}{js:List Nat}{ti:TI3}{g:TG3}{tc:TT3}{te:TE3}(hc:X.calm=true)(C:CmpOk X.N X.env.scope scope own js)(hi:PI3 X tg iter ti)
  (hb:∀s H fp,PG3 (X.cmp scope own js s H fp) tg g/\PCt (X.cmp scope own js s H fp) ifs (lowT X.K tc)/\PE3 (X.cmp scope own js s H fp) elt te)
  (hs:∀x,foldedSetIterable iter X.env x=pure x:=by intro _;rfl):PE3 X (.ListComp elt [⟨tg,iter,ifs,0⟩] scope pos) (eComp own js ti g tc te):=
 qpz (qokz hc C hi hb hs) fun σ H Q h=>qhtz h
theorem qpaz{guard:Gp->Prop}{g:TG3}{tb:TS3}{D3:Ends3}(I:List D->S3->Gp->Prop)(hg:∀ds τ G,I ds τ G->guard G)
  (step:∀d ds τ G,I (d::ds) τ G->g d τ G fun τ2 G2=>tb { D3 with nx:=I ds,ct:=I ds,bk:=D3.nx } τ2 G2) (hend:∀τ G,I [] τ G->D3.nx τ G)
  (mono:∀(N N':S3->Gp->Prop),(∀τ G,N τ G->N' τ G)->∀d τ G,(g d τ G fun τ2 G2=>tb { D3 with nx:=N,ct:=N,bk:=D3.nx } τ2 G2)->g d τ G fun τ2 G2=>tb { D3 with nx:=N',ct:=N',bk:=D3.nx } τ2 G2):
  ∀ds τ G,I ds τ G->forGo guard g tb D3 ds τ G
 |[],τ,G,h=>⟨hg _ _ _ h,hend _ _ h⟩
 |d::ds,τ,G,h=>⟨hg _ _ _ h,mono (I ds) _ (fun τ G q=>qpaz I hg step hend mono ds τ G q) d τ G (step d ds τ G h)⟩
theorem qamz{guard:Gp->Prop}{g:TG3}{tb:TS3}{D3:Ends3}(I:List D->S3->Gp->Prop)(hg:∀ds τ G,I ds τ G->guard G)
  (step:∀d ds τ G (N:S3->Gp->Prop),I (d::ds) τ G->(∀τ' G',I ds τ' G'->N τ' G')->g d τ G fun τ2 G2=>tb { D3 with nx:=N,ct:=N,bk:=D3.nx } τ2 G2) (hend:∀τ G,I [] τ G->D3.nx τ G):
  ∀ds τ G,I ds τ G->forGo guard g tb D3 ds τ G
 |[],τ,G,h=>⟨hg _ _ _ h,hend _ _ h⟩
 |d::ds,τ,G,h=>⟨hg _ _ _ h,step d ds τ G _ h fun τ' G' q=>qamz I hg step hend ds τ' G' q⟩
end
end L3
namespace Dat
open PySem PySem.SeqAt
inductive D where
 |non|bl (b:Bool)|int (i:Int)|str (x:Str)|tup (xs:List D)|lst (xs:List D)|dct
mutual
def D.eqb:D->D->Bool
 |.non,.non=>true
 |.bl a,.bl b=>a==b
 |.bl a,.int b=>(if a then 1 else 0)==b
 |.int a,.bl b=>a==(if b then 1 else 0)
 |.int a,.int b=>a==b
 |.str a,.str b=>a==b
 |.tup xs,.tup ys=>eqbs xs ys
 |.lst xs,.lst ys=>eqbs xs ys
 |_,_=>false
def eqbs:List D->List D->Bool
 |[],[]=>true
 |x::xs,y::ys=>x.eqb y&&eqbs xs ys
 |_,_=>false
end
mutual
def D.dep:D->Nat
 |.tup xs=>deps xs+1
 |.lst xs=>deps xs+1
 |_=>0
def deps:List D->Nat
 |[]=>0
 |x::xs=>max x.dep (deps xs)
end
theorem qblz{d:D}:∀{xs:List D},d∈xs->d.dep≤deps xs
 |x::xs,h=>by
  unfold deps;rcases List.mem_cons.mp h with e|e
  ·rw[e];exact Nat.le_max_left _ _
  ·exact Nat.le_trans (qblz e) (Nat.le_max_right _ _)
mutual
def Hv(h:Heap):D->Value->Prop
 |.non,u=>u=.none
 |.bl b,u=>u=.bool b
 |.int i,u=>∃t,u=.int i t
 |.str x,u=>∃t,u=.str x t
 |.tup ds,u=>∃(a:Addr) (its:List Value),u=.ref a/\h.IsTuple a its.toArray/\Hvs h ds its
 |.lst ds,u=>∃(a:Addr) (its:List Value),u=.ref a/\h.IsList a its.toArray/\Hvs h ds its
 |.dct,_=>False
def Hvs(h:Heap):List D->List Value->Prop
 |[],us=>us=[]
 |d::ds,us=>∃u r,us=u::r/\Hv h d u/\Hvs h ds r
end
theorem Hvs.length{h:Heap}:∀{ds:List D} {us:List Value},Hvs h ds us->us.length=ds.length
 |[],us,e=>by
  unfold Hvs at e;rw[e];rfl
 |d::ds,us,e=>by
  unfold Hvs at e;obtain⟨u,r,rfl,_,e2⟩:=e;rw[List.length_cons,List.length_cons,e2.length]
theorem Hvs.get{h:Heap}:∀{ds:List D} {us:List Value} {j:Nat} {d:D} {u:Value},Hvs h ds us->ds[j]?=some d->us[j]?=some u->Hv h d u
 |[],_,_,_,_,_,e,_=>by simp at e
 |d::ds,us,0,_,_,q,e1,e2=>by
  unfold Hvs at q;obtain⟨u,r,rfl,q1,_⟩:=q;simp at e1 e2;rw[←e1,←e2];exact q1
 |d::ds,us,j+1,_,_,q,e1,e2=>by
  unfold Hvs at q;obtain⟨u,r,rfl,_,q2⟩:=q;exact q2.get (j:=j) (by simpa using e1) (by simpa using e2)
theorem qhuz{h:Heap}{a:Addr}{xs ys:Array Value}(hl:h.IsList a xs)(ht:h.IsTuple a ys):False:=by
 obtain⟨o,ho,hc,_⟩:=hl;obtain⟨o',ho',hc',_⟩:=ht;rw[ho] at ho';cases ho';rw[hc] at hc';exact absurd hc' (by decide)
mutual
theorem Hv.inj{h:Heap}:∀{d e:D} {u:Value},Hv h d u->Hv h e u->d=e
 |d,e,u,p,q=>by
  cases d with
  |non=>unfold Hv at p;subst p;cases e<;>unfold Hv at q<;>first|rfl|(simp at q)
  |bl b=>unfold Hv at p;subst p;cases e<;>unfold Hv at q<;>first|(simp at q;rw[q])|(simp at q)
  |int b=>unfold Hv at p;obtain⟨t,rfl⟩:=p;cases e<;>unfold Hv at q<;>first|(simp at q;rw[q])|(simp at q)
  |str b=>unfold Hv at p;obtain⟨t,rfl⟩:=p;cases e<;>unfold Hv at q<;>first|(simp at q;rw[q])|(simp at q)
  |dct=>unfold Hv at p;exact p.elim
  |tup ds=>
   unfold Hv at p;obtain⟨a,its,rfl,ha,p⟩:=p;cases e with
   |tup es=>
    unfold Hv at q;obtain⟨a',its',e1,ha',q⟩:=q;cases e1;have e2:its=its':=by
     obtain⟨o,ho,_,n,hd⟩:=ha;obtain⟨o',ho',_,n',hd'⟩:=ha';rw[ho] at ho';cases ho';rw[hd] at hd';injection hd' with e3 _
     simpa using congrArg Array.toList e3
    subst e2;rw[Hvs.inj p q]
   |lst es=>
    unfold Hv at q;obtain⟨a',its',e1,ha',q⟩:=q;cases e1;exact (qhuz ha' ha).elim
   |_=>unfold Hv at q<;>simp at q
  |lst ds=>
   unfold Hv at p;obtain⟨a,its,rfl,ha,p⟩:=p;cases e with
   |lst es=>
    unfold Hv at q;obtain⟨a',its',e1,ha',q⟩:=q;cases e1;have e2:its=its':=by
     obtain⟨o,ho,_,n,hd⟩:=ha;obtain⟨o',ho',_,n',hd'⟩:=ha';rw[ho] at ho';cases ho';rw[hd] at hd';injection hd' with e3 _
     simpa using congrArg Array.toList e3
    subst e2;rw[Hvs.inj p q]
   |tup es=>
    unfold Hv at q;obtain⟨a',its',e1,ha',q⟩:=q;cases e1;exact (qhuz ha ha').elim
   |_=>unfold Hv at q<;>simp at q
theorem Hvs.inj{h:Heap}:∀{ds es:List D} {us:List Value},Hvs h ds us->Hvs h es us->ds=es
 |[],[],_,_,_=>rfl
 |[],e::es,us,p,q=>by
  unfold Hvs at p q;subst p;obtain⟨_,_,e1,_⟩:=q;cases e1
 |d::ds,[],us,p,q=>by
  unfold Hvs at p q;subst q;obtain⟨_,_,e1,_⟩:=p;cases e1
 |d::ds,e::es,us,p,q=>by
  unfold Hvs at p q;obtain⟨u,r,rfl,p1,p2⟩:=p;obtain⟨u',r',e1,q1,q2⟩:=q;cases e1;rw[Hv.inj p1 q1,Hvs.inj p2 q2]
end
theorem qbmz:∀(ds es:List D),((List.range (min ds.length es.length)).all (fun j=>(ds.getD j .non).eqb (es.getD j .non))&&ds.length==es.length)=eqbs ds es
 |[],[]=>by simp[eqbs]
 |[],e::es=>by simp[eqbs]
 |d::ds,[]=>by simp[eqbs]
 |d::ds,e::es=>by
  have ih:=qbmz ds es;unfold eqbs;rw[←ih];rw[List.length_cons,List.length_cons,show min (ds.length+1) (es.length+1)=min ds.length es.length+1 by lia,List.range_succ_eq_map,List.all_cons,List.all_map];have e1:((ds.length+1==es.length+1):Bool)=(ds.length==es.length):=by simp
  rw[e1,Bool.and_assoc];rfl
theorem qdxz:∀(ds es:List D),ds.length≠es.length->eqbs ds es=false
 |[],[],h=>absurd rfl h
 |[],e::es,_=>rfl
 |d::ds,[],_=>rfl
 |d::ds,e::es,h=>by
  unfold eqbs;rw[qdxz ds es (by simpa using h),Bool.and_false]
mutual
theorem Hv.refl{h:Heap}:∀{d:D} {u:Value},Hv h d u->d.eqb d=true
 |.non,_,_=>rfl
 |.bl b,_,_=>by unfold D.eqb;simp
 |.int b,_,_=>by unfold D.eqb;simp
 |.str b,_,_=>by unfold D.eqb;simp
 |.dct,_,p=>by unfold Hv at p;exact p.elim
 |.tup ds,_,p=>by
  unfold Hv at p;obtain⟨_,_,_,_,p⟩:=p;unfold D.eqb;exact Hvs.refl p
 |.lst ds,_,p=>by
  unfold Hv at p;obtain⟨_,_,_,_,p⟩:=p;unfold D.eqb;exact Hvs.refl p
theorem Hvs.refl{h:Heap}:∀{ds:List D} {us:List Value},Hvs h ds us->eqbs ds ds=true
 |[],_,_=>rfl
 |d::ds,us,p=>by
  unfold Hvs at p;obtain⟨u,r,_,p1,p2⟩:=p;unfold eqbs;rw[Hv.refl p1,Hvs.refl p2];rfl
end
theorem q2z{h:Heap}{ds:List D}{us:List Value}(p:Hvs h ds us){j:Nat}(hj:j<us.toArray.size):Hv h (ds.getD j .non) (us.toArray[j])/\ds.getD j .non∈ds:=by
 have hl:=p.length;have hj':j<ds.length:=by simp at hj;lia
 have e1:ds[j]?=some (ds.getD j .non):=by simp[hj']
 exact⟨p.get e1 (by simp at hj;simp[hj]),List.mem_of_getElem? e1⟩
theorem eqAt{s:Shared}:∀(d e:D) (u v:Value) (A:Around),Hv s.heap d u->Hv s.heap e v->A.units+d.dep+1<cLine->EqAt A s u v (d.eqb e)
 |.non,.non,u,v,A,p1,p2,hu=>by
  unfold Hv at p1;subst p1;unfold Hv at p2;subst p2;exact EqAt.same _
 |.non,.bl b2,u,v,A,p1,p2,hu=>by
  unfold Hv at p1;subst p1;unfold Hv at p2;subst p2;exact EqAt.none_bool  b2
 |.non,.int b2,u,v,A,p1,p2,hu=>by
  unfold Hv at p1;subst p1;unfold Hv at p2;obtain⟨t2,rfl⟩:=p2;exact EqAt.none_int  b2 t2
 |.non,.str b2,u,v,A,p1,p2,hu=>by
  unfold Hv at p1;subst p1;unfold Hv at p2;obtain⟨t2,rfl⟩:=p2;exact EqAt.none_str  b2 t2
 |.non,.tup ds2,u,v,A,p1,p2,hu=>by
  unfold Hv at p1;subst p1;unfold Hv at p2;obtain⟨a2,its2,rfl,l2,p2⟩:=p2;exact EqAt.none_tuple  l2 (by lia)
 |.non,.lst ds2,u,v,A,p1,p2,hu=>by
  unfold Hv at p1;subst p1;unfold Hv at p2;obtain⟨a2,its2,rfl,l2,p2⟩:=p2;exact EqAt.none_list  l2 (by lia)
 |.bl b1,.non,u,v,A,p1,p2,hu=>by
  unfold Hv at p1;subst p1;unfold Hv at p2;subst p2;exact EqAt.bool_none b1
 |.bl b1,.bl b2,u,v,A,p1,p2,hu=>by
  unfold Hv at p1;subst p1;unfold Hv at p2;subst p2;exact EqAt.bool_bool b1 b2
 |.bl b1,.int b2,u,v,A,p1,p2,hu=>by
  unfold Hv at p1;subst p1;unfold Hv at p2;obtain⟨t2,rfl⟩:=p2;exact EqAt.bool_int b1 b2 t2
 |.bl b1,.str b2,u,v,A,p1,p2,hu=>by
  unfold Hv at p1;subst p1;unfold Hv at p2;obtain⟨t2,rfl⟩:=p2;exact EqAt.bool_str b1 b2 t2
 |.bl b1,.tup ds2,u,v,A,p1,p2,hu=>by
  unfold Hv at p1;subst p1;unfold Hv at p2;obtain⟨a2,its2,rfl,l2,p2⟩:=p2;exact EqAt.bool_tuple b1 l2 (by lia)
 |.bl b1,.lst ds2,u,v,A,p1,p2,hu=>by
  unfold Hv at p1;subst p1;unfold Hv at p2;obtain⟨a2,its2,rfl,l2,p2⟩:=p2;exact EqAt.bool_list b1 l2 (by lia)
 |.int b1,.non,u,v,A,p1,p2,hu=>by
  unfold Hv at p1;obtain⟨t1,rfl⟩:=p1;unfold Hv at p2;subst p2;exact EqAt.int_none b1 t1
 |.int b1,.bl b2,u,v,A,p1,p2,hu=>by
  unfold Hv at p1;obtain⟨t1,rfl⟩:=p1;unfold Hv at p2;subst p2;exact EqAt.int_bool b1 t1 b2
 |.int b1,.int b2,u,v,A,p1,p2,hu=>by
  unfold Hv at p1;obtain⟨t1,rfl⟩:=p1;unfold Hv at p2;obtain⟨t2,rfl⟩:=p2;exact EqAt.int_int b1 t1 b2 t2
 |.int b1,.str b2,u,v,A,p1,p2,hu=>by
  unfold Hv at p1;obtain⟨t1,rfl⟩:=p1;unfold Hv at p2;obtain⟨t2,rfl⟩:=p2;exact EqAt.int_str b1 t1 b2 t2
 |.int b1,.tup ds2,u,v,A,p1,p2,hu=>by
  unfold Hv at p1;obtain⟨t1,rfl⟩:=p1;unfold Hv at p2;obtain⟨a2,its2,rfl,l2,p2⟩:=p2;exact EqAt.int_tuple b1 t1 l2 (by lia)
 |.int b1,.lst ds2,u,v,A,p1,p2,hu=>by
  unfold Hv at p1;obtain⟨t1,rfl⟩:=p1;unfold Hv at p2;obtain⟨a2,its2,rfl,l2,p2⟩:=p2;exact EqAt.int_list b1 t1 l2 (by lia)
 |.str b1,.non,u,v,A,p1,p2,hu=>by
  unfold Hv at p1;obtain⟨t1,rfl⟩:=p1;unfold Hv at p2;subst p2;exact EqAt.str_none b1 t1
 |.str b1,.bl b2,u,v,A,p1,p2,hu=>by
  unfold Hv at p1;obtain⟨t1,rfl⟩:=p1;unfold Hv at p2;subst p2;exact EqAt.str_bool b1 t1 b2
 |.str b1,.int b2,u,v,A,p1,p2,hu=>by
  unfold Hv at p1;obtain⟨t1,rfl⟩:=p1;unfold Hv at p2;obtain⟨t2,rfl⟩:=p2;exact EqAt.str_int b1 t1 b2 t2
 |.str b1,.str b2,u,v,A,p1,p2,hu=>by
  unfold Hv at p1;obtain⟨t1,rfl⟩:=p1;unfold Hv at p2;obtain⟨t2,rfl⟩:=p2;exact EqAt.str_str b1 t1 b2 t2
 |.str b1,.tup ds2,u,v,A,p1,p2,hu=>by
  unfold Hv at p1;obtain⟨t1,rfl⟩:=p1;unfold Hv at p2;obtain⟨a2,its2,rfl,l2,p2⟩:=p2;exact EqAt.str_tuple b1 t1 l2 (by lia)
 |.str b1,.lst ds2,u,v,A,p1,p2,hu=>by
  unfold Hv at p1;obtain⟨t1,rfl⟩:=p1;unfold Hv at p2;obtain⟨a2,its2,rfl,l2,p2⟩:=p2;exact EqAt.str_list b1 t1 l2 (by lia)
 |.tup ds1,.non,u,v,A,p1,p2,hu=>by
  unfold Hv at p1;obtain⟨a1,its1,rfl,l1,p1⟩:=p1;unfold Hv at p2;subst p2;exact EqAt.tuple_none  l1 (by lia)
 |.tup ds1,.bl b2,u,v,A,p1,p2,hu=>by
  unfold Hv at p1;obtain⟨a1,its1,rfl,l1,p1⟩:=p1;unfold Hv at p2;subst p2;exact EqAt.tuple_bool b2 l1 (by lia)
 |.tup ds1,.int b2,u,v,A,p1,p2,hu=>by
  unfold Hv at p1;obtain⟨a1,its1,rfl,l1,p1⟩:=p1;unfold Hv at p2;obtain⟨t2,rfl⟩:=p2;exact EqAt.tuple_int b2 t2 l1 (by lia)
 |.tup ds1,.str b2,u,v,A,p1,p2,hu=>by
  unfold Hv at p1;obtain⟨a1,its1,rfl,l1,p1⟩:=p1;unfold Hv at p2;obtain⟨t2,rfl⟩:=p2;exact EqAt.tuple_str b2 t2 l1 (by lia)
 |.tup ds1,.tup ds2,u,v,A,p1,p2,hu=>by
  unfold Hv at p1;obtain⟨a1,its1,rfl,l1,p1⟩:=p1;unfold Hv at p2;obtain⟨a2,its2,rfl,l2,p2⟩:=p2;unfold D.eqb;by_cases ha:a1=a2
  ·subst ha;have e0:(.tup ds1:D)=.tup ds2:=Hv.inj (h:=s.heap) (u:=.ref a1) (by unfold Hv;exact⟨a1,its1,rfl,l1,p1⟩) (by unfold Hv;exact⟨a1,its2,rfl,l2,p2⟩);injection e0 with e0;subst e0;rw[p1.refl];exact EqAt.same _
  ·refine EqAt.of_refs ha ?_;have hdep:A.units+deps ds1+1+1<cLine:=by
    have e9:(.tup ds1:D).dep=deps ds1+1:=by first|rfl|(unfold D.dep;rfl)
    lia
   have q:=RcAt.tuples (e:=fun j=>(ds1.getD j .non).eqb (ds2.getD j .non)) l1 l2 (by lia) fun j h1 h2=>
    have m:=(q2z p1 h1).2
    eqAt (ds1.getD j .non) (ds2.getD j .non) _ _ A.in1 (q2z p1 h1).1 (q2z p2 h2).1 (by
     have:=qblz m;show A.units+1+_+1<cLine;lia)
   rw[List.size_toArray,List.size_toArray,p1.length,p2.length,qbmz] at q;exact q
 |.tup ds1,.lst ds2,u,v,A,p1,p2,hu=>by
  unfold Hv at p1;obtain⟨a1,its1,rfl,l1,p1⟩:=p1;unfold Hv at p2;obtain⟨a2,its2,rfl,l2,p2⟩:=p2;exact EqAt.tuple_list l1 l2 (by lia)
 |.lst ds1,.non,u,v,A,p1,p2,hu=>by
  unfold Hv at p1;obtain⟨a1,its1,rfl,l1,p1⟩:=p1;unfold Hv at p2;subst p2;exact EqAt.list_none  l1 (by lia)
 |.lst ds1,.bl b2,u,v,A,p1,p2,hu=>by
  unfold Hv at p1;obtain⟨a1,its1,rfl,l1,p1⟩:=p1;unfold Hv at p2;subst p2;exact EqAt.list_bool b2 l1 (by lia)
 |.lst ds1,.int b2,u,v,A,p1,p2,hu=>by
  unfold Hv at p1;obtain⟨a1,its1,rfl,l1,p1⟩:=p1;unfold Hv at p2;obtain⟨t2,rfl⟩:=p2;exact EqAt.list_int b2 t2 l1 (by lia)
 |.lst ds1,.str b2,u,v,A,p1,p2,hu=>by
  unfold Hv at p1;obtain⟨a1,its1,rfl,l1,p1⟩:=p1;unfold Hv at p2;obtain⟨t2,rfl⟩:=p2;exact EqAt.list_str b2 t2 l1 (by lia)
 |.lst ds1,.tup ds2,u,v,A,p1,p2,hu=>by
  unfold Hv at p1;obtain⟨a1,its1,rfl,l1,p1⟩:=p1;unfold Hv at p2;obtain⟨a2,its2,rfl,l2,p2⟩:=p2;exact EqAt.list_tuple l1 l2 (by lia)
 |.lst ds1,.lst ds2,u,v,A,p1,p2,hu=>by
  unfold Hv at p1;obtain⟨a1,its1,rfl,l1,p1⟩:=p1;unfold Hv at p2;obtain⟨a2,its2,rfl,l2,p2⟩:=p2;unfold D.eqb;by_cases ha:a1=a2
  ·subst ha;have e0:(.lst ds1:D)=.lst ds2:=Hv.inj (h:=s.heap) (u:=.ref a1) (by unfold Hv;exact⟨a1,its1,rfl,l1,p1⟩) (by unfold Hv;exact⟨a1,its2,rfl,l2,p2⟩);injection e0 with e0;subst e0;rw[p1.refl];exact EqAt.same _
  ·refine EqAt.of_refs ha ?_;have hdep:A.units+deps ds1+1+1<cLine:=by
    have e9:(.lst ds1:D).dep=deps ds1+1:=by first|rfl|(unfold D.dep;rfl)
    lia
   by_cases hn:ds1.length=ds2.length
   ·have q:=RcAt.lists (e:=fun j=>(ds1.getD j .non).eqb (ds2.getD j .non)) l1 l2 (by simp[p1.length,p2.length,hn]) (by lia) fun j h1 h2=>
     have m:=(q2z p1 h1).2
     eqAt (ds1.getD j .non) (ds2.getD j .non) _ _ A.in1 (q2z p1 h1).1 (q2z p2 h2).1 (by
      have:=qblz m;show A.units+1+_+1<cLine;lia)
    have q2:=qbmz ds1 ds2;rw[hn,Nat.min_self,beq_self_eq_true,Bool.and_true] at q2;rw[List.size_toArray,p1.length,hn,q2] at q;exact q
   ·rw[qdxz _ _ hn];exact RcAt.lists_lengths l1 l2 (by simp[p1.length,p2.length,hn]) (by lia)
 |.non,.dct,u,v,A,p1,p2,hu=>by
  unfold Hv at p2;exact p2.elim
 |.bl b1,.dct,u,v,A,p1,p2,hu=>by
  unfold Hv at p2;exact p2.elim
 |.int b1,.dct,u,v,A,p1,p2,hu=>by
  unfold Hv at p2;exact p2.elim
 |.str b1,.dct,u,v,A,p1,p2,hu=>by
  unfold Hv at p2;exact p2.elim
 |.tup ds1,.dct,u,v,A,p1,p2,hu=>by
  unfold Hv at p2;exact p2.elim
 |.lst ds1,.dct,u,v,A,p1,p2,hu=>by
  unfold Hv at p2;exact p2.elim
 |.dct,e,u,v,A,p1,p2,hu=>by
  unfold Hv at p1;exact p1.elim
termination_by d=>sizeOf d
decreasing_by
 all_goals (have:=List.sizeOf_lt_of_mem m;first|(rw[D.tup.sizeOf_spec];lia)|(rw[D.lst.sizeOf_spec];lia))
theorem rcAt{s:Shared}(d e:D)(u v:Value)(A:Around)(p1:Hv s.heap d u)(p2:Hv s.heap e v)(hu:A.units+d.dep+1<cLine):RcAt A s u v (d.eqb e):=
 match d,e,p1,p2,hu with
 |.non,.non,p1,p2,hu=>by
  unfold Hv at p1;subst p1;unfold Hv at p2;subst p2;exact RcAt.none_none
 |.non,.bl b2,p1,p2,hu=>by
  unfold Hv at p1;subst p1;unfold Hv at p2;subst p2;exact RcAt.none_bool  b2
 |.non,.int b2,p1,p2,hu=>by
  unfold Hv at p1;subst p1;unfold Hv at p2;obtain⟨t2,rfl⟩:=p2;exact RcAt.none_int  b2 t2
 |.non,.str b2,p1,p2,hu=>by
  unfold Hv at p1;subst p1;unfold Hv at p2;obtain⟨t2,rfl⟩:=p2;exact RcAt.none_str  b2 t2
 |.non,.tup ds2,p1,p2,hu=>by
  unfold Hv at p1;subst p1;unfold Hv at p2;obtain⟨a2,its2,rfl,l2,p2⟩:=p2;exact RcAt.none_tuple  l2 (by lia)
 |.non,.lst ds2,p1,p2,hu=>by
  unfold Hv at p1;subst p1;unfold Hv at p2;obtain⟨a2,its2,rfl,l2,p2⟩:=p2;exact RcAt.none_list  l2 (by lia)
 |.bl b1,.non,p1,p2,hu=>by
  unfold Hv at p1;subst p1;unfold Hv at p2;subst p2;exact RcAt.bool_none b1
 |.bl b1,.bl b2,p1,p2,hu=>by
  unfold Hv at p1;subst p1;unfold Hv at p2;subst p2;exact RcAt.bool_bool b1 b2
 |.bl b1,.int b2,p1,p2,hu=>by
  unfold Hv at p1;subst p1;unfold Hv at p2;obtain⟨t2,rfl⟩:=p2;exact RcAt.bool_int b1 b2 t2
 |.bl b1,.str b2,p1,p2,hu=>by
  unfold Hv at p1;subst p1;unfold Hv at p2;obtain⟨t2,rfl⟩:=p2;exact RcAt.bool_str b1 b2 t2
 |.bl b1,.tup ds2,p1,p2,hu=>by
  unfold Hv at p1;subst p1;unfold Hv at p2;obtain⟨a2,its2,rfl,l2,p2⟩:=p2;exact RcAt.bool_tuple b1 l2 (by lia)
 |.bl b1,.lst ds2,p1,p2,hu=>by
  unfold Hv at p1;subst p1;unfold Hv at p2;obtain⟨a2,its2,rfl,l2,p2⟩:=p2;exact RcAt.bool_list b1 l2 (by lia)
 |.int b1,.non,p1,p2,hu=>by
  unfold Hv at p1;obtain⟨t1,rfl⟩:=p1;unfold Hv at p2;subst p2;exact RcAt.int_none b1 t1
 |.int b1,.bl b2,p1,p2,hu=>by
  unfold Hv at p1;obtain⟨t1,rfl⟩:=p1;unfold Hv at p2;subst p2;exact RcAt.int_bool b1 t1 b2
 |.int b1,.int b2,p1,p2,hu=>by
  unfold Hv at p1;obtain⟨t1,rfl⟩:=p1;unfold Hv at p2;obtain⟨t2,rfl⟩:=p2;exact RcAt.int_int b1 t1 b2 t2
 |.int b1,.str b2,p1,p2,hu=>by
  unfold Hv at p1;obtain⟨t1,rfl⟩:=p1;unfold Hv at p2;obtain⟨t2,rfl⟩:=p2;exact RcAt.int_str b1 t1 b2 t2
 |.int b1,.tup ds2,p1,p2,hu=>by
  unfold Hv at p1;obtain⟨t1,rfl⟩:=p1;unfold Hv at p2;obtain⟨a2,its2,rfl,l2,p2⟩:=p2;exact RcAt.int_tuple b1 t1 l2 (by lia)
 |.int b1,.lst ds2,p1,p2,hu=>by
  unfold Hv at p1;obtain⟨t1,rfl⟩:=p1;unfold Hv at p2;obtain⟨a2,its2,rfl,l2,p2⟩:=p2;exact RcAt.int_list b1 t1 l2 (by lia)
 |.str b1,.non,p1,p2,hu=>by
  unfold Hv at p1;obtain⟨t1,rfl⟩:=p1;unfold Hv at p2;subst p2;exact RcAt.str_none b1 t1
 |.str b1,.bl b2,p1,p2,hu=>by
  unfold Hv at p1;obtain⟨t1,rfl⟩:=p1;unfold Hv at p2;subst p2;exact RcAt.str_bool b1 t1 b2
 |.str b1,.int b2,p1,p2,hu=>by
  unfold Hv at p1;obtain⟨t1,rfl⟩:=p1;unfold Hv at p2;obtain⟨t2,rfl⟩:=p2;exact RcAt.str_int b1 t1 b2 t2
 |.str b1,.str b2,p1,p2,hu=>by
  unfold Hv at p1;obtain⟨t1,rfl⟩:=p1;unfold Hv at p2;obtain⟨t2,rfl⟩:=p2;exact RcAt.str_str b1 t1 b2 t2
 |.str b1,.tup ds2,p1,p2,hu=>by
  unfold Hv at p1;obtain⟨t1,rfl⟩:=p1;unfold Hv at p2;obtain⟨a2,its2,rfl,l2,p2⟩:=p2;exact RcAt.str_tuple b1 t1 l2 (by lia)
 |.str b1,.lst ds2,p1,p2,hu=>by
  unfold Hv at p1;obtain⟨t1,rfl⟩:=p1;unfold Hv at p2;obtain⟨a2,its2,rfl,l2,p2⟩:=p2;exact RcAt.str_list b1 t1 l2 (by lia)
 |.tup ds1,.non,p1,p2,hu=>by
  unfold Hv at p1;obtain⟨a1,its1,rfl,l1,p1⟩:=p1;unfold Hv at p2;subst p2;exact RcAt.tuple_none  l1 (by lia)
 |.tup ds1,.bl b2,p1,p2,hu=>by
  unfold Hv at p1;obtain⟨a1,its1,rfl,l1,p1⟩:=p1;unfold Hv at p2;subst p2;exact RcAt.tuple_bool b2 l1 (by lia)
 |.tup ds1,.int b2,p1,p2,hu=>by
  unfold Hv at p1;obtain⟨a1,its1,rfl,l1,p1⟩:=p1;unfold Hv at p2;obtain⟨t2,rfl⟩:=p2;exact RcAt.tuple_int b2 t2 l1 (by lia)
 |.tup ds1,.str b2,p1,p2,hu=>by
  unfold Hv at p1;obtain⟨a1,its1,rfl,l1,p1⟩:=p1;unfold Hv at p2;obtain⟨t2,rfl⟩:=p2;exact RcAt.tuple_str b2 t2 l1 (by lia)
 |.tup ds1,.tup ds2,p1,p2,hu=>by
  unfold Hv at p1;obtain⟨a1,its1,rfl,l1,p1⟩:=p1;unfold Hv at p2;obtain⟨a2,its2,rfl,l2,p2⟩:=p2;unfold D.eqb;have hdep:A.units+deps ds1+1+1<cLine:=by
   have e9:(.tup ds1:D).dep=deps ds1+1:=by first|rfl|(unfold D.dep;rfl)
   lia
  have q:=RcAt.tuples (e:=fun j=>(ds1.getD j .non).eqb (ds2.getD j .non)) l1 l2 (by lia) fun j h1 h2=>
   eqAt (ds1.getD j .non) (ds2.getD j .non) _ _ A.in1 (q2z p1 h1).1 (q2z p2 h2).1 (by
    have:=qblz (q2z p1 h1).2;show A.units+1+_+1<cLine;lia)
  rw[List.size_toArray,List.size_toArray,p1.length,p2.length,qbmz] at q;exact q
 |.tup ds1,.lst ds2,p1,p2,hu=>by
  unfold Hv at p1;obtain⟨a1,its1,rfl,l1,p1⟩:=p1;unfold Hv at p2;obtain⟨a2,its2,rfl,l2,p2⟩:=p2;exact RcAt.tuple_list l1 l2 (by lia)
 |.lst ds1,.non,p1,p2,hu=>by
  unfold Hv at p1;obtain⟨a1,its1,rfl,l1,p1⟩:=p1;unfold Hv at p2;subst p2;exact RcAt.list_none  l1 (by lia)
 |.lst ds1,.bl b2,p1,p2,hu=>by
  unfold Hv at p1;obtain⟨a1,its1,rfl,l1,p1⟩:=p1;unfold Hv at p2;subst p2;exact RcAt.list_bool b2 l1 (by lia)
 |.lst ds1,.int b2,p1,p2,hu=>by
  unfold Hv at p1;obtain⟨a1,its1,rfl,l1,p1⟩:=p1;unfold Hv at p2;obtain⟨t2,rfl⟩:=p2;exact RcAt.list_int b2 t2 l1 (by lia)
 |.lst ds1,.str b2,p1,p2,hu=>by
  unfold Hv at p1;obtain⟨a1,its1,rfl,l1,p1⟩:=p1;unfold Hv at p2;obtain⟨t2,rfl⟩:=p2;exact RcAt.list_str b2 t2 l1 (by lia)
 |.lst ds1,.tup ds2,p1,p2,hu=>by
  unfold Hv at p1;obtain⟨a1,its1,rfl,l1,p1⟩:=p1;unfold Hv at p2;obtain⟨a2,its2,rfl,l2,p2⟩:=p2;exact RcAt.list_tuple l1 l2 (by lia)
 |.lst ds1,.lst ds2,p1,p2,hu=>by
  unfold Hv at p1;obtain⟨a1,its1,rfl,l1,p1⟩:=p1;unfold Hv at p2;obtain⟨a2,its2,rfl,l2,p2⟩:=p2;unfold D.eqb;have hdep:A.units+deps ds1+1+1<cLine:=by
   have e9:(.lst ds1:D).dep=deps ds1+1:=by first|rfl|(unfold D.dep;rfl)
   lia
  by_cases hn:ds1.length=ds2.length
  ·have q:=RcAt.lists (e:=fun j=>(ds1.getD j .non).eqb (ds2.getD j .non)) l1 l2 (by simp[p1.length,p2.length,hn]) (by lia) fun j h1 h2=>
    eqAt (ds1.getD j .non) (ds2.getD j .non) _ _ A.in1 (q2z p1 h1).1 (q2z p2 h2).1 (by
     have:=qblz (q2z p1 h1).2;show A.units+1+_+1<cLine;lia)
   have q2:=qbmz ds1 ds2;rw[hn,Nat.min_self,beq_self_eq_true,Bool.and_true] at q2;rw[List.size_toArray,p1.length,hn,q2] at q;exact q
  ·rw[qdxz _ _ hn];exact RcAt.lists_lengths l1 l2 (by simp[p1.length,p2.length,hn]) (by lia)
 |d,.dct,p1,p2,hu=>by
  unfold Hv at p2;exact p2.elim
 |.dct,e,p1,p2,hu=>by
  unfold Hv at p1;exact p1.elim
theorem rcNe{s:Shared}(d e:D)(u v:Value)(A:Around)(p1:Hv s.heap d u)(p2:Hv s.heap e v)(hu:A.units+d.dep+1<cLine):RcNeAt A s u v (!d.eqb e):=
 match d,e,p1,p2,hu with
 |.non,.non,p1,p2,hu=>by
  unfold Hv at p1;subst p1;unfold Hv at p2;subst p2;exact RcNeAt.none_none
 |.non,.bl b2,p1,p2,hu=>by
  unfold Hv at p1;subst p1;unfold Hv at p2;subst p2;exact RcNeAt.none_bool  b2
 |.non,.int b2,p1,p2,hu=>by
  unfold Hv at p1;subst p1;unfold Hv at p2;obtain⟨t2,rfl⟩:=p2;exact RcNeAt.none_int  b2 t2
 |.non,.str b2,p1,p2,hu=>by
  unfold Hv at p1;subst p1;unfold Hv at p2;obtain⟨t2,rfl⟩:=p2;exact RcNeAt.none_str  b2 t2
 |.non,.tup ds2,p1,p2,hu=>by
  unfold Hv at p1;subst p1;unfold Hv at p2;obtain⟨a2,its2,rfl,l2,p2⟩:=p2;exact RcNeAt.none_tuple  l2 (by lia)
 |.non,.lst ds2,p1,p2,hu=>by
  unfold Hv at p1;subst p1;unfold Hv at p2;obtain⟨a2,its2,rfl,l2,p2⟩:=p2;exact RcNeAt.none_list  l2 (by lia)
 |.bl b1,.non,p1,p2,hu=>by
  unfold Hv at p1;subst p1;unfold Hv at p2;subst p2;exact RcNeAt.bool_none b1
 |.bl b1,.bl b2,p1,p2,hu=>by
  unfold Hv at p1;subst p1;unfold Hv at p2;subst p2;exact RcNeAt.bool_bool b1 b2
 |.bl b1,.int b2,p1,p2,hu=>by
  unfold Hv at p1;subst p1;unfold Hv at p2;obtain⟨t2,rfl⟩:=p2;exact RcNeAt.bool_int b1 b2 t2
 |.bl b1,.str b2,p1,p2,hu=>by
  unfold Hv at p1;subst p1;unfold Hv at p2;obtain⟨t2,rfl⟩:=p2;exact RcNeAt.bool_str b1 b2 t2
 |.bl b1,.tup ds2,p1,p2,hu=>by
  unfold Hv at p1;subst p1;unfold Hv at p2;obtain⟨a2,its2,rfl,l2,p2⟩:=p2;exact RcNeAt.bool_tuple b1 l2 (by lia)
 |.bl b1,.lst ds2,p1,p2,hu=>by
  unfold Hv at p1;subst p1;unfold Hv at p2;obtain⟨a2,its2,rfl,l2,p2⟩:=p2;exact RcNeAt.bool_list b1 l2 (by lia)
 |.int b1,.non,p1,p2,hu=>by
  unfold Hv at p1;obtain⟨t1,rfl⟩:=p1;unfold Hv at p2;subst p2;exact RcNeAt.int_none b1 t1
 |.int b1,.bl b2,p1,p2,hu=>by
  unfold Hv at p1;obtain⟨t1,rfl⟩:=p1;unfold Hv at p2;subst p2;exact RcNeAt.int_bool b1 t1 b2
 |.int b1,.int b2,p1,p2,hu=>by
  unfold Hv at p1;obtain⟨t1,rfl⟩:=p1;unfold Hv at p2;obtain⟨t2,rfl⟩:=p2;exact RcNeAt.int_int b1 t1 b2 t2
 |.int b1,.str b2,p1,p2,hu=>by
  unfold Hv at p1;obtain⟨t1,rfl⟩:=p1;unfold Hv at p2;obtain⟨t2,rfl⟩:=p2;exact RcNeAt.int_str b1 t1 b2 t2
 |.int b1,.tup ds2,p1,p2,hu=>by
  unfold Hv at p1;obtain⟨t1,rfl⟩:=p1;unfold Hv at p2;obtain⟨a2,its2,rfl,l2,p2⟩:=p2;exact RcNeAt.int_tuple b1 t1 l2 (by lia)
 |.int b1,.lst ds2,p1,p2,hu=>by
  unfold Hv at p1;obtain⟨t1,rfl⟩:=p1;unfold Hv at p2;obtain⟨a2,its2,rfl,l2,p2⟩:=p2;exact RcNeAt.int_list b1 t1 l2 (by lia)
 |.str b1,.non,p1,p2,hu=>by
  unfold Hv at p1;obtain⟨t1,rfl⟩:=p1;unfold Hv at p2;subst p2;exact RcNeAt.str_none b1 t1
 |.str b1,.bl b2,p1,p2,hu=>by
  unfold Hv at p1;obtain⟨t1,rfl⟩:=p1;unfold Hv at p2;subst p2;exact RcNeAt.str_bool b1 t1 b2
 |.str b1,.int b2,p1,p2,hu=>by
  unfold Hv at p1;obtain⟨t1,rfl⟩:=p1;unfold Hv at p2;obtain⟨t2,rfl⟩:=p2;exact RcNeAt.str_int b1 t1 b2 t2
 |.str b1,.str b2,p1,p2,hu=>by
  unfold Hv at p1;obtain⟨t1,rfl⟩:=p1;unfold Hv at p2;obtain⟨t2,rfl⟩:=p2;exact RcNeAt.str_str b1 t1 b2 t2
 |.str b1,.tup ds2,p1,p2,hu=>by
  unfold Hv at p1;obtain⟨t1,rfl⟩:=p1;unfold Hv at p2;obtain⟨a2,its2,rfl,l2,p2⟩:=p2;exact RcNeAt.str_tuple b1 t1 l2 (by lia)
 |.str b1,.lst ds2,p1,p2,hu=>by
  unfold Hv at p1;obtain⟨t1,rfl⟩:=p1;unfold Hv at p2;obtain⟨a2,its2,rfl,l2,p2⟩:=p2;exact RcNeAt.str_list b1 t1 l2 (by lia)
 |.tup ds1,.non,p1,p2,hu=>by
  unfold Hv at p1;obtain⟨a1,its1,rfl,l1,p1⟩:=p1;unfold Hv at p2;subst p2;exact RcNeAt.tuple_none  l1 (by lia)
 |.tup ds1,.bl b2,p1,p2,hu=>by
  unfold Hv at p1;obtain⟨a1,its1,rfl,l1,p1⟩:=p1;unfold Hv at p2;subst p2;exact RcNeAt.tuple_bool b2 l1 (by lia)
 |.tup ds1,.int b2,p1,p2,hu=>by
  unfold Hv at p1;obtain⟨a1,its1,rfl,l1,p1⟩:=p1;unfold Hv at p2;obtain⟨t2,rfl⟩:=p2;exact RcNeAt.tuple_int b2 t2 l1 (by lia)
 |.tup ds1,.str b2,p1,p2,hu=>by
  unfold Hv at p1;obtain⟨a1,its1,rfl,l1,p1⟩:=p1;unfold Hv at p2;obtain⟨t2,rfl⟩:=p2;exact RcNeAt.tuple_str b2 t2 l1 (by lia)
 |.tup ds1,.tup ds2,p1,p2,hu=>by
  unfold Hv at p1;obtain⟨a1,its1,rfl,l1,p1⟩:=p1;unfold Hv at p2;obtain⟨a2,its2,rfl,l2,p2⟩:=p2;unfold D.eqb;have hdep:A.units+deps ds1+1+1<cLine:=by
   have e9:(.tup ds1:D).dep=deps ds1+1:=by first|rfl|(unfold D.dep;rfl)
   lia
  have q:=RcNeAt.tuples (e:=fun j=>(ds1.getD j .non).eqb (ds2.getD j .non)) l1 l2 (by lia) fun j h1 h2=>
   eqAt (ds1.getD j .non) (ds2.getD j .non) _ _ A.in1 (q2z p1 h1).1 (q2z p2 h2).1 (by
    have:=qblz (q2z p1 h1).2;show A.units+1+_+1<cLine;lia)
  rw[List.size_toArray,List.size_toArray,p1.length,p2.length,qbmz] at q;exact q
 |.tup ds1,.lst ds2,p1,p2,hu=>by
  unfold Hv at p1;obtain⟨a1,its1,rfl,l1,p1⟩:=p1;unfold Hv at p2;obtain⟨a2,its2,rfl,l2,p2⟩:=p2;exact RcNeAt.tuple_list l1 l2 (by lia)
 |.lst ds1,.non,p1,p2,hu=>by
  unfold Hv at p1;obtain⟨a1,its1,rfl,l1,p1⟩:=p1;unfold Hv at p2;subst p2;exact RcNeAt.list_none  l1 (by lia)
 |.lst ds1,.bl b2,p1,p2,hu=>by
  unfold Hv at p1;obtain⟨a1,its1,rfl,l1,p1⟩:=p1;unfold Hv at p2;subst p2;exact RcNeAt.list_bool b2 l1 (by lia)
 |.lst ds1,.int b2,p1,p2,hu=>by
  unfold Hv at p1;obtain⟨a1,its1,rfl,l1,p1⟩:=p1;unfold Hv at p2;obtain⟨t2,rfl⟩:=p2;exact RcNeAt.list_int b2 t2 l1 (by lia)
 |.lst ds1,.str b2,p1,p2,hu=>by
  unfold Hv at p1;obtain⟨a1,its1,rfl,l1,p1⟩:=p1;unfold Hv at p2;obtain⟨t2,rfl⟩:=p2;exact RcNeAt.list_str b2 t2 l1 (by lia)
 |.lst ds1,.tup ds2,p1,p2,hu=>by
  unfold Hv at p1;obtain⟨a1,its1,rfl,l1,p1⟩:=p1;unfold Hv at p2;obtain⟨a2,its2,rfl,l2,p2⟩:=p2;exact RcNeAt.list_tuple l1 l2 (by lia)
 |.lst ds1,.lst ds2,p1,p2,hu=>by
  unfold Hv at p1;obtain⟨a1,its1,rfl,l1,p1⟩:=p1;unfold Hv at p2;obtain⟨a2,its2,rfl,l2,p2⟩:=p2;unfold D.eqb;have hdep:A.units+deps ds1+1+1<cLine:=by
   have e9:(.lst ds1:D).dep=deps ds1+1:=by first|rfl|(unfold D.dep;rfl)
   lia
  by_cases hn:ds1.length=ds2.length
  ·have q:=RcNeAt.lists (e:=fun j=>(ds1.getD j .non).eqb (ds2.getD j .non)) l1 l2 (by simp[p1.length,p2.length,hn]) (by lia) fun j h1 h2=>
    eqAt (ds1.getD j .non) (ds2.getD j .non) _ _ A.in1 (q2z p1 h1).1 (q2z p2 h2).1 (by
     have:=qblz (q2z p1 h1).2;show A.units+1+_+1<cLine;lia)
   have q2:=qbmz ds1 ds2;rw[hn,Nat.min_self,beq_self_eq_true,Bool.and_true] at q2;rw[List.size_toArray,p1.length,hn,q2] at q;exact q
  ·rw[qdxz _ _ hn];exact RcNeAt.lists_lengths l1 l2 (by simp[p1.length,p2.length,hn]) (by lia)
 |d,.dct,p1,p2,hu=>by
  unfold Hv at p2;exact p2.elim
 |.dct,e,p1,p2,hu=>by
  unfold Hv at p1;exact p1.elim
end Dat
namespace L3
open PySem PySem.Spec PyProof.Rows L2
section
variable {X:Cx} {K:PySem.W.Frag}
def rI3(f:Int->Int->D):R3:=fun x y G Q=>match x,y with
 |.int i,.int j=>Q (f i j) G
 |_,_=>False
theorem qrz{H:Hp}{i:Int}{v:V}(h:Hv K H (.int i) v):v=.int i:=by unfold Hv at h;exact h
theorem qa0z{H:Hp}{i:Bool}{v:V}(h:Hv K H (.bl i) v):v=.bl i:=by unfold Hv at h;exact h
theorem qsz{H:Hp}{a:Addr}{v:V}(h:Hv K H (.obj a) v):v=.ref a:=by unfold Hv at h;exact h
theorem qadz{H:Hp}{ds:List D}{v:V}(h:Hv K H (.tup ds) v):∃a vs,v=.ref a/\SqT K H a vs/\Hvs K H ds vs:=by unfold Hv at h;exact h
theorem qbbz{H:Hp}{ds:List D}{v:V}(h:Hv K H (.scr ds) v):∃a vs,v=.ref a/\SqF K H a vs/\Hvs K H ds vs:=by unfold Hv at h;exact h
theorem q5z{H:Hp}{i:Int}:Hv K H (.int i) (.int i):=by simp[Hv]
theorem q6z{H:Hp}{i:Bool}:Hv K H (.bl i) (.bl i):=by simp[Hv]
theorem qbnz{H:Hp}{a:Addr}:Hv K H (.obj a) (.ref a):=by simp[Hv]
theorem qa1z{H:Hp}{ds:List D}{a:Addr}{vs:List V}(h:SqT K H a vs)(q:Hvs K H ds vs):Hv K H (.tup ds) (.ref a):=by
 unfold Hv;exact⟨a,vs,rfl,h,q⟩
theorem low_ints{f:Int->Int->D}{g:Int->Int->V}(hf:∀i j H,Hv K H (f i j) (g i j)):LowR K (rI3 f) (rI0 g):=fun x y vx vy G H Q3 Q hx hy RG h k=>by
 cases x with
 |int i=>
  cases y with
  |int j=>
   rw[qrz hx,qrz hy];exact⟨i,j,rfl,rfl,k _ H _ G (hf i j H) (.refl H G) RG h⟩
  |_=>exact h.elim
 |_=>exact h.elim
abbrev rSub3:R3:=rI3 fun i j=>.int (i-j)
theorem qdyz:LowR K rSub3 (rI0 fun i j=>.int (i-j)):=low_ints fun _ _ _=>q5z
abbrev rLe3:R3:=rI3 fun i j=>.bl (decide (i≤j))
theorem l_le:LowR K rLe3 (rI0 fun i j=>.bl (decide (i≤j))):=low_ints fun _ _ _=>q6z
abbrev rGt3:R3:=rI3 fun i j=>.bl (decide (j<i))
theorem l_gt:LowR K rGt3 (rI0 fun i j=>.bl (decide (j<i))):=low_ints fun _ _ _=>q6z
abbrev rGe3:R3:=rI3 fun i j=>.bl (decide (j≤i))
theorem l_ge:LowR K rGe3 (rI0 fun i j=>.bl (decide (j≤i))):=low_ints fun _ _ _=>q6z
def Big(i:Int):Prop:=i.natAbs<2^4000
theorem qhvz{i:Int}(h:Big i):i.natAbs.log2<4000:=by
 by_cases h0:i.natAbs=0
 ·rw[h0];decide
 ·exact (Nat.log2_lt h0).mpr h
theorem qhwz{i:Int}(h:Big i):Builtin.Int.intBits i≤4000:=by
 unfold Builtin.Int.intBits;split
 ·exact Nat.zero_le _
 ·exact qhvz h
theorem qpbz{i j:Int}(h1:Big i)(h2:Big j):IntMulOk i j:=by
 unfold IntMulOk Builtin.Int.intTooBig;have b1:=qhwz h1;have b2:=qhwz h2;have:¬((Builtin.Int.intBits i:Int)+(Builtin.Int.intBits j:Int) > (bitsLine:Int)):=by
  have:(bitsLine:Int)=134217728:=by decide
  lia
 rw[decide_eq_false this];simp
theorem qclz:OpR X (binaryOp .FloorDiv) (rI (fun _ j=>0<j/\Big j) fun i j=>.int (i / j)):=opI fun i j _ _ _ _ _ hc q=>by
 have h1:(0:Int)<j:=hc.1;exact floordiv_int (by lia) (by rw[Int.fdiv_eq_ediv_of_nonneg i (by lia)];exact q) (.inl (PyProof.noPylong_of_log2 (Nat.lt_trans (qhvz hc.2) (by decide))))
theorem op_mulB:OpR X (binaryOp .Mult) (rI (fun i j=>Big i/\Big j) fun i j=>.int (i*j)):=opI fun _ _ _ _ _ _ _ hc q=>mul_int q (qpbz hc.1 hc.2)
def rIC3(C:Int->Int->Prop)(f:Int->Int->D):R3:=fun x y G Q=>match x,y with
 |.int i,.int j=>C i j/\Q (f i j) G
 |_,_=>False
theorem qe2z{C:Int->Int->Prop}{f:Int->Int->D}{g:Int->Int->V}(hf:∀i j H,Hv K H (f i j) (g i j)):LowR K (rIC3 C f) (rI C g):=fun x y vx vy G H Q3 Q hx hy RG h k=>by
 cases x with
 |int i=>
  cases y with
  |int j=>
   rw[qrz hx,qrz hy];exact⟨i,j,rfl,rfl,h.1,k _ H _ G (hf i j H) (.refl H G) RG h.2⟩
  |_=>exact h.elim
 |_=>exact h.elim
abbrev rDiv3:R3:=rIC3 (fun _ j=>0<j/\Big j) fun i j=>.int (i / j)
theorem qcmz:LowR K rDiv3 (rI (fun _ j=>0<j/\Big j) fun i j=>.int (i / j)):=qe2z fun _ _ _=>q5z
abbrev rMod3:R3:=rIC3 (fun _ j=>0<j) fun i j=>.int (i%j)
theorem qarz:LowR K rMod3 (rI (fun _ j=>0<j) fun i j=>.int (i%j)):=qe2z fun _ _ _=>q5z
abbrev rPow3:R3:=rIC3 CPow fun i j=>.int (i^j.toNat)
theorem qpcz:LowR K rPow3 (rI CPow fun i j=>.int (i^j.toNat)):=qe2z fun _ _ _=>q5z
theorem qpdz{prog:Program}{w:World}{A:Around}{E:Value->Shared->Prop}{s:Shared}{t b:Addr}{ws:List Value}{Q:Value->Shared->Prop}(ht:IsTup s.heap t #[])(hb:IsTup s.heap b ws.toArray)(h1:Q (.ref b) s):
  wpAny (model prog w) A (binaryOp .Add (.ref t) (.ref b)) Q E s:=by
 obtain⟨⟨cls,dd,data,sl⟩,ho,hc,n,hd⟩:=id ht;obtain⟨⟨cls2,dd2,data2,sl2⟩,ho2,hc2,n2,hd2⟩:=id hb;simp only at hc hd hc2 hd2;subst hc hd hc2 hd2;exact concat_meets ⟨_,ho,rfl⟩ ⟨_,ho2,rfl⟩ noFill_tuple_add seq_tuple_add PySem.F.slot_tuple_add PySem.F.entry_tuple_add (PySem.F.args_tuple_add_2 _ _)
   (tuple_addW0 t b #[] ws.toArray n n2 dd dd2 sl sl2 rfl) ⟨ho,ho2,h1⟩
def rCatT0(K:PySem.W.Frag):R2:=fun x y H Q=>∃a b ys,x=.ref a/\y=.ref b/\SqT K H a []/\SqT K H b ys/\Q (.ref b) H
theorem qpez:OpR X (binaryOp .Add) (rCatT0 X.K):=by
 intro pins s σ H x y v u Q I rx ry h;obtain⟨a,b,ys,rfl,rfl,ha,hb,q⟩:=h;cases rx;cases ry;obtain⟨its,r1,p1,_⟩:=I.tuple ha;obtain⟨its2,r2,p2,_⟩:=I.tuple hb;cases r1;exact qpdz p1 p2 ⟨.ref b,H,I,rfl,q⟩
def rAdd3:R3:=fun x y G Q=>match x,y with
 |.int i,.int j=>Q (.int (i+j)) G
 |.obj a,.obj b=>∃ds es,G a=some (.lst ds)/\G b=some (.lst es)/\ds.length+es.length≤sizeLine/\∀p G',New G p (.lst (ds++es)) G'->Q (.obj p) G'
 |.tup ds,.tup es=>ds.length+es.length≤sizeLine/\Q (.tup (ds++es)) G
 |_,_=>False
abbrev rAdd2(K:PySem.W.Frag):R2:=fun x y H Q=>rI0 (fun i j=>.int (i+j)) x y H Q∨(rCat x y H Q∨(rCatT K x y H Q∨rCatT0 K x y H Q))
theorem qtz:OpR X (binaryOp .Add) (rAdd2 X.K):=op_add.or (op_cat.or (op_catT.or qpez))
theorem quz:LowR K rAdd3 (rAdd2 K):=fun x y vx vy G H Q3 Q hx hy RG h k=>by
 cases x with
 |int i=>
  cases y with
  |int j=>
   rw[qrz hx,qrz hy];exact .inl ⟨i,j,rfl,rfl,k _ H _ G q5z (.refl H G) RG h⟩
  |_=>exact h.elim
 |obj a=>
  cases y with
  |obj b=>
   rw[qsz hx,qsz hy];obtain⟨ds,es,e1,e2,hz,q⟩:=h;obtain⟨vs,z1,z2⟩:=RG a _ e1;obtain⟨us,y1,y2⟩:=RG b _ e2;refine .inr (.inl ⟨a,b,vs,us,rfl,rfl,z1,y1,by rw[←z2.length,←y2.length];exact hz,fun p hp=>?_⟩);exact k _ _ (.obj p) _ qbnz (.laidG hp) (RG.newL hp (z2.append y2)) (q p _ (.mk' (RG.free hp)))
  |_=>exact h.elim
 |tup ds=>
  cases y with
  |tup es=>
   obtain⟨a,vs,rfl,e1,e2⟩:=qadz hx;obtain⟨b,us,rfl,y1,y2⟩:=qadz hy;by_cases h0:vs=[]
   ·subst h0;have:ds=[]:=by
     have:=e2.length;exact List.eq_nil_of_length_eq_zero (by simpa using this)
    subst this;exact .inr (.inr (.inr ⟨a,b,us,rfl,rfl,e1,y1,k _ H (.tup es) G (qa1z y1 y2) (.refl H G) RG h.2⟩))
   ·refine .inr (.inr (.inl ⟨a,b,vs,us,rfl,rfl,e1,y1,h0,by rw[←e2.length,←y2.length];exact h.1,fun z=>?_,fun z p hp=>?_⟩))
    ·subst z;have:es=[]:=List.eq_nil_of_length_eq_zero (by simpa using y2.length);subst this;refine k _ H (.tup ds) G (qa1z e1 e2) (.refl H G) RG ?_;have:=h.2;rwa [List.append_nil] at this
    ·exact k _ _ (.tup (ds++es)) G (qa1z (.of qoz) ((e2.append y2).ext (.laid hp))) (.laid hp) (RG.laid hp) h.2
  |_=>exact h.elim
 |_=>exact h.elim
def rMul3:R3:=fun x y G Q=>match x,y with
 |.int i,.int j=>(Big i/\Big j)/\Q (.int (i*j)) G
 |.obj a,.int k=>∃ds,G a=some (.lst ds)/\(-(2^63)≤k/\k<2^63)/\ds.length*k.toNat≤sizeLine/\∀p G',New G p (.lst (List.replicate k.toNat ds).flatten) G'->Q (.obj p) G'
 |_,_=>False
abbrev rMul2:R2:=fun x y H Q=>rI (fun i j=>Big i/\Big j) (fun i j=>.int (i*j)) x y H Q∨rRep x y H Q
theorem qa2z:OpR X (binaryOp .Mult) rMul2:=op_mulB.or qnkz
theorem qa3z:LowR K rMul3 rMul2:=fun x y vx vy G H Q3 Q hx hy RG h k=>by
 cases x with
 |int i=>
  cases y with
  |int j=>
   rw[qrz hx,qrz hy];exact .inl ⟨i,j,rfl,rfl,h.1,k _ H _ G q5z (.refl H G) RG h.2⟩
  |_=>exact h.elim
 |obj a=>
  cases y with
  |int j=>
   rw[qsz hx,qrz hy];obtain⟨ds,e1,hk,hz,q⟩:=h;obtain⟨vs,z1,z2⟩:=RG a _ e1;refine .inr ⟨a,j,vs,rfl,rfl,z1,hk.1,hk.2,by rw[←z2.length];exact hz,fun p hp=>?_⟩;exact k _ _ (.obj p) _ qbnz (.laidG hp) (RG.newL hp (z2.rep _)) (q p _ (.mk' (RG.free hp)))
  |_=>exact h.elim
 |_=>exact h.elim
def isNon:D->Bool
 |.non=>true
 |_=>false
def rIs3(neg:Bool):R3:=fun x y G Q=>match y with
 |.non=>Q (.bl (if neg then !isNon x else isNon x)) G
 |_=>False
theorem qhxz{H:Hp}{x:D}{v:V}(h:Hv K H x v):decide (v=.non)=isNon x:=by
 cases x with
 |non=>unfold Hv at h;subst h;rfl
 |bl b=>rw[qa0z h];rfl
 |int b=>rw[qrz h];rfl
 |str b=>unfold Hv at h;subst h;rfl
 |obj b=>rw[qsz h];rfl
 |tup ds=>obtain⟨a,vs,rfl,_⟩:=qadz h;rfl
 |scr ds=>obtain⟨a,vs,rfl,_⟩:=qbbz h;rfl
 |dc a=>unfold Hv at h;rw[h.1];rfl
theorem l_is:LowR K (rIs3 false) (fun x y H Q=>y=.non/\Q (.bl (decide (x=.non))) H):=fun x y vx vy G H Q3 Q hx hy RG h k=>by
 cases y with
 |non=>
  refine⟨by unfold Hv at hy;exact hy,?_⟩;rw[qhxz hx];exact k _ H _ G q6z (.refl H G) RG h
 |_=>exact h.elim
theorem qpfz:LowR K (rIs3 true) (fun x y H Q=>y=.non/\Q (.bl (!decide (x=.non))) H):=fun x y vx vy G H Q3 Q hx hy RG h k=>by
 cases y with
 |non=>
  refine⟨by unfold Hv at hy;exact hy,?_⟩;rw[qhxz hx];exact k _ H _ G q6z (.refl H G) RG h
 |_=>exact h.elim
def intsOf:List D->Option (List Int)
 |[]=>some []
 |.int i::r=>(intsOf r).map (i::·)
 |_::_=>none
theorem qcnz{H:Hp}:∀{ds:List D} {vs:List V} {ns:List Int},Hvs K H ds vs->intsOf ds=some ns->vs=ns.map V.int
 |[],vs,ns,h,e=>by
  cases e;exact h.inv0
 |d::ds,vs,ns,h,e=>by
  cases d with
  |int i=>
   obtain⟨v,r,rfl,z1,z2⟩:=h.inv;unfold intsOf at e;cases hm:intsOf ds with
   |none=>rw[hm] at e;cases e
   |some ms=>
    rw[hm] at e;cases e;rw[qrz z1,qcnz z2 hm];rfl
  |_=>cases e
def rLtT3:R3:=fun x y G Q=>match x,y with
 |.int i,.int j=>Q (.bl (decide (i<j))) G
 |.tup ds,.tup es=>∃ns ms,intsOf ds=some ns/\intsOf es=some ms/\Q (.bl (HT.lexLt ns ms)) G
 |_,_=>False
abbrev rLtA(K:PySem.W.Frag):R2:=fun x y H Q=>rI0 (fun i j=>.bl (decide (i<j))) x y H Q∨rLtT K x y H Q
theorem qbzz(hu:X.A.units<cLine):OpR X (compareOp .Lt) (rLtA X.K):=op_lt.or (qm9z hu)
theorem qb0z:LowR K rLtT3 (rLtA K):=fun x y vx vy G H Q3 Q hx hy RG h k=>by
 cases x with
 |int i=>
  cases y with
  |int j=>
   rw[qrz hx,qrz hy];exact .inl ⟨i,j,rfl,rfl,k _ H _ G q6z (.refl H G) RG h⟩
  |_=>exact h.elim
 |tup ds=>
  cases y with
  |tup es=>
   obtain⟨a,vs,rfl,e1,e2⟩:=qadz hx;obtain⟨b,us,rfl,y1,y2⟩:=qadz hy;obtain⟨ns,ms,z1,z2,q⟩:=h;have q1:=qcnz e2 z1;have q2:=qcnz y2 z2;subst q1 q2;exact .inr ⟨a,b,ns,ms,rfl,rfl,e1,y1,k _ H _ G q6z (.refl H G) RG q⟩
  |_=>exact h.elim
 |_=>exact h.elim
def rIx3:R3:=fun x y G Q=>match x,y with
 |.tup ds,.int i=>∃d,atI ds i=some d/\Q d G
 |.scr ds,.int i=>∃d,atI ds i=some d/\Q d G
 |.obj p,.int i=>∃ds d,G p=some (.lst ds)/\atI ds i=some d/\Q d G
 |_,_=>False
theorem qdzz{H:Hp}{ds:List D}{vs:List V}{i:Int}{d:D}(h:Hvs K H ds vs)(e:atI ds i=some d):∃v,atI vs i=some v/\Hv K H d v:=by
 unfold atI at e ⊢;rw[←h.length];cases hx:ixN ds.length i with
 |none=>rw[hx] at e;cases e
 |some j=>
  rw[hx] at e;exact h.get e
theorem l_ix:LowR K rIx3 (rIx K):=fun x y vx vy G H Q3 Q hx hy RG h k=>by
 cases y with
 |int i=>
  rw[qrz hy];cases x with
  |tup ds=>
   obtain⟨d,e,q⟩:=h;obtain⟨a,vs,rfl,e1,e2⟩:=qadz hx;obtain⟨v,z1,z2⟩:=qdzz e2 e;exact .inr (.inl ⟨a,vs,i,v,rfl,rfl,e1,z1,k _ H d G z2 (.refl H G) RG q⟩)
  |scr ds=>
   obtain⟨d,e,q⟩:=h;obtain⟨a,vs,rfl,e1,e2⟩:=qbbz hx;obtain⟨v,z1,z2⟩:=qdzz e2 e;exact .inl ⟨a,vs,i,v,rfl,rfl,e1.l,z1,k _ H d G z2 (.refl H G) RG q⟩
  |obj p=>
   obtain⟨ds,d,e0,e,q⟩:=h;rw[qsz hx];obtain⟨vs,e1,e2⟩:=RG p _ e0;obtain⟨v,z1,z2⟩:=qdzz e2 e;exact .inl ⟨p,vs,i,v,rfl,rfl,.of e1,z1,k _ H d G z2 (.refl H G) RG q⟩
  |_=>exact h.elim
 |_=>cases x<;>exact h.elim
theorem e_ix{a b:Expr}{ta tb:TE3}{pos:Pos}(ha:PE3 X a ta)(hb:PE3 X b tb)(hs:PlainIx b:=by intro _ _;rfl):PE3 X (.Subscript a b pos) (eOp rIx3 ta tb):=qpz (qg8z qg9z ha hb hs) fun _ _ _ h=>qdsz l_ix h
def eLstIx(ta:TA3)(tb:TE3):TE3:=fun τ G Q=>ta τ G fun ds G1=>smallL (tb τ G1 fun y G2=>match y with
 |.int i=>∃d,atI ds i=some d/\Q d G2
 | _=>False) ds 64
theorem qpgz{es:List Expr}{b:Expr}{ta:TA3}{tb:TE3}{pos pos':Pos}(ha:PA3 X es ta)(hb:PE3 X b tb)(hs:PlainIx b:=by intro _ _;rfl):PE3 X (.Subscript (.List es pos') b pos) (eLstIx ta tb):=
 qpz (qg8z qg9z (qgyz ha) hb hs) fun σ H Q ⟨τ,G,Q3,RS,RG,h,k⟩=>by
  refine⟨τ,G,_,RS,RG,h,fun vs H1 ds G1 h1 S1 R1 q1=>?_⟩;obtain⟨z,q1⟩:=qduz q1;refine⟨by rw[←h1.length];exact line64 z,fun p hp=>?_⟩;refine⟨τ,G1,_,(RS.ext (S1.ext RG)).ext (.laid hp),R1.laid hp,q1,fun v2 H2 d2 G2 h2 S2 R2 q2=>?_⟩;have e2:H2 p=some (.lst vs):=S2.fr p _ qoz (R1.free hp);cases d2 with
  |int i=>
   obtain⟨d,e,q⟩:=q2;obtain⟨v,z1,z2⟩:=qdzz ((h1.ext (.laid hp)).ext (S2.ext (R1.laid hp))) e;rw[qrz h2];exact .inl ⟨p,vs,i,v,rfl,rfl,.of e2,z1,k _ H2 d G2 z2 ((S1.trans (.laid hp)).trans S2) R2 q⟩
  |_=>exact q2.elim
end
end L3
namespace L3
open PySem PySem.Spec PyProof.Rows L2
mutual
def toDat0:D->Option Dat.D
 |.non=>some .non
 |.bl b=>some (.bl b)
 |.int i=>some (.int i)
 |.str x=>some (.str x)
 |.tup ds=>match toDats0 ds with
  |some xs=>some (.tup xs)
  |none=>none
 |.scr ds=>match toDats0 ds with
  |some xs=>some (.lst xs)
  |none=>none
 |.obj _=>none
 |.dc _=>none
def toDats0:List D->Option (List Dat.D)
 |[]=>some []
 |d::ds=>match toDat0 d with
  |some x=>match toDats0 ds with
   |some xs=>some (x::xs)
   |none=>none
  |none=>none
end
def toDat(G:Gp):D->Option Dat.D
 |.obj a=>match G a with
  |some (.lst ds)=>match toDats0 ds with
   |some xs=>some (.lst xs)
   |none=>none
  |_=>none
 |d=>toDat0 d
section
variable {X:Cx} {pins:List (Addr×Obj)} {σ:L2.St} {H:Hp} {s:Shared}
mutual
theorem qbcz(I:Inv X pins σ H s):∀{d:D} {v:V} {u:Value} {x:Dat.D},Hv X.K H d v->RelV v u->toDat0 d=some x->Dat.Hv s.heap x u
 |.non,v,u,x,h,r,e=>by
  unfold Hv at h;subst h;cases e;unfold Dat.Hv;exact r
 |.bl b,v,u,x,h,r,e=>by
  unfold Hv at h;subst h;cases e;unfold Dat.Hv;exact r
 |.int b,v,u,x,h,r,e=>by
  unfold Hv at h;subst h;cases e;unfold Dat.Hv;exact r
 |.str b,v,u,x,h,r,e=>by
  unfold Hv at h;subst h;cases e;unfold Dat.Hv;exact r
 |.obj a,v,u,x,h,r,e=>by cases e
 |.dc a,v,u,x,h,r,e=>by cases e
 |.tup ds,v,u,x,h,r,e=>by
  obtain⟨a,vs,rfl,q1,q2⟩:=qadz h;cases r;unfold toDat0 at e;cases hd:toDats0 ds with
  |none=>rw[hd] at e;cases e
  |some xs=>
   rw[hd] at e;cases e;obtain⟨its,rv,p,_⟩:=I.tuple q1;unfold Dat.Hv;exact⟨a,its,rfl,p,qd0z I q2 rv hd⟩
 |.scr ds,v,u,x,h,r,e=>by
  obtain⟨a,vs,rfl,q1,q2⟩:=qbbz h;cases r;unfold toDat0 at e;cases hd:toDats0 ds with
  |none=>rw[hd] at e;cases e
  |some xs=>
   rw[hd] at e;cases e;obtain⟨its,rv,p,_⟩:=I.list q1.l;unfold Dat.Hv;exact⟨a,its,rfl,p.isList,qd0z I q2 rv hd⟩
theorem qd0z(I:Inv X pins σ H s):∀{ds:List D} {vs:List V} {us:List Value} {xs:List Dat.D},Hvs X.K H ds vs->Vals vs us->toDats0 ds=some xs->Dat.Hvs s.heap xs us
 |[],vs,us,xs,h,r,e=>by
  cases h.inv0;cases r;cases e;unfold Dat.Hvs;rfl
 |d::ds,vs,us,xs,h,r,e=>by
  obtain⟨v,vr,rfl,q1,q2⟩:=h.inv;unfold toDats0 at e;cases hd:toDat0 d with
  |none=>rw[hd] at e;cases e
  |some x=>
   rw[hd] at e;cases hr:toDats0 ds with
   |none=>rw[hr] at e;cases e
   |some xr=>
    rw[hr] at e;cases e;cases r with
    |cons r1 r2=>
     unfold Dat.Hvs;exact⟨_,_,rfl,qbcz I q1 r1 hd,qd0z I q2 r2 hr⟩
end
theorem qd1z{G:Gp}(I:Inv X pins σ H s)(RG:RepG X.K G H){d:D}{v:V}{u:Value}{x:Dat.D}(h:Hv X.K H d v)(r:RelV v u)(e:toDat G d=some x):Dat.Hv s.heap x u:=by
 cases d with
 |obj a=>
  rw[qsz h] at r;cases r;unfold toDat at e;cases hG:G a with
  |none=>simp[hG] at e
  |some o=>
   cases o with
   |lst ds=>
    simp only[hG] at e;cases hr:toDats0 ds with
    |none=>rw[hr] at e;cases e
    |some xs=>
     rw[hr] at e;cases e;obtain⟨vs,e1,e2⟩:=RG a _ hG;obtain⟨its,rv,p,_⟩:=I.list (SqL.of e1);unfold Dat.Hv;exact⟨a,its,rfl,p.isList,qd0z I e2 rv hr⟩
   |pen=>simp[hG] at e
   |dct=>simp[hG] at e
   |gen R=>simp[hG] at e
 |non=>exact qbcz I h r e
 |bl _=>exact qbcz I h r e
 |int _=>exact qbcz I h r e
 |str _=>exact qbcz I h r e
 |tup _=>exact qbcz I h r e
 |scr _=>exact qbcz I h r e
 |dc _=>exact qbcz I h r e
end
section
variable {X:Cx} {a b e:Expr} {ta tb:TE3} {pos:Pos}
def rEq3(neg:Bool):R3:=fun x y G Q=>∃u v,toDat G x=some u/\toDat G y=some v/\u.dep≤50/\Q (.bl (if neg then !u.eqb v else u.eqb v)) G
def CmpR(X:Cx)(f:Value->Value->Sem Value)(r:R3):Prop:=
 ∀(pins:List (Addr×Obj)) (s:Shared) (σ:L2.St) (H:Hp) (G:Gp) (x y:D) (vx vy:V) (u v:Value) (Q3:V3),Inv X pins σ H s->RepG X.K G H->Hv X.K H x vx->Hv X.K H y vy->RelV vx u->RelV vy v->r x y G Q3 ->
  wpAny (model X.prog X.w) X.A (f u v) (EP X pins σ fun w H'=>∃d G',Hv X.K H' d w/\Step H G H' G'/\RepG X.K G' H'/\Q3 d G') X.xe s
theorem eqR(hu:X.A.units+64<cLine):CmpR X (compareOp .Eq) (rEq3 false):=by
 intro pins s σ H G x y vx vy u v Q3 I RG hx hy rx ry ⟨p,q,e1,e2,hd,h⟩;have:=Dat.rcAt p q u v X.A (qd1z I RG hx rx e1) (qd1z I RG hy ry e2) (by omega);exact this _ _ _ _ ⟨.bl (p.eqb q),H,I,rfl,.bl (p.eqb q),G,q6z,.refl H G,RG,h⟩
theorem neR(hu:X.A.units+64<cLine):CmpR X (compareOp .NotEq) (rEq3 true):=by
 intro pins s σ H G x y vx vy u v Q3 I RG hx hy rx ry ⟨p,q,e1,e2,hd,h⟩;have:=Dat.rcNe p q u v X.A (qd1z I RG hx rx e1) (qd1z I RG hy ry e2) (by omega);exact this _ _ _ _ ⟨.bl (!p.eqb q),H,I,rfl,.bl (!p.eqb q),G,q6z,.refl H G,RG,h⟩
def cmpR2(K:PySem.W.Frag)(r:R3):R2:=fun vx vy H Q=>∃x y G Q3,RepG K G H/\Hv K H x vx/\Hv K H y vy/\r x y G Q3/\∀v H' d G',Hv K H' d v->Step H G H' G'->RepG K G' H'->Q3 d G'->Q v H'
theorem CmpR.op{f:Value->Value->Sem Value}{r:R3}(h:CmpR X f r):OpR X f (cmpR2 X.K r):=by
 intro pins s σ H vx vy u v Q I rx ry ⟨x,y,G,Q3,RG,hx,hy,q,k⟩;refine thn (h pins s σ H G x y vx vy u v Q3 I RG hx hy rx ry q) fun w s' ⟨v',H',I',r',d,G',z1,z2,z3,z4⟩=>⟨v',H',I',r',k v' H' d G' z1 z2 z3 z4⟩
theorem qhyz{K:PySem.W.Frag}{r:R3}:LowR K r (cmpR2 K r):=fun x y vx vy G H Q3 Q hx hy RG h k=>⟨x,y,G,Q3,RG,hx,hy,h,k⟩
theorem qb1z(hu:X.A.units+64<cLine):OpR X (compareOp .Eq) (cmpR2 X.K (rEq3 false)):=(eqR hu).op
theorem qa4z(hu:X.A.units+64<cLine):OpR X (compareOp .NotEq) (cmpR2 X.K (rEq3 true)):=(neR hu).op
theorem l_eq{K:PySem.W.Frag}:LowR K (rEq3 false) (cmpR2 K (rEq3 false)):=qhyz
theorem l_ne{K:PySem.W.Frag}:LowR K (rEq3 true) (cmpR2 K (rEq3 true)):=qhyz
abbrev TO3:=S3->Gp->(Option Int->Gp->Prop)->Prop
def lowO(K:PySem.W.Frag)(t:TO3):TO:=fun σ H Q=>∃τ G Q3,RepS K τ σ H/\RepG K G H/\t τ G Q3/\∀o H' G',Step H G H' G'->RepG K G' H'->Q3 o G'->Q o H'
abbrev PO3(X:Cx)(e:Option Expr)(t:TO3):Prop:=PO X e (lowO X.K t)
theorem qhzz{o:Option Expr}{t t':TO}(h:PO X o t)(f:∀σ H Q,t' σ H Q->t σ H Q):PO X o t':=fun pins s σ H Q I q=>h pins s σ H Q I (f σ H Q q)
def oNone:TO3:=fun _ G Q=>Q none G
def oSome(t:TE3):TO3:=fun τ G Q=>t τ G fun x G1=>match x with
 |.int i=>Q (some i) G1
 |_=>False
theorem qphz:PO3 X none oNone:=qhzz qm6z fun σ H Q ⟨τ,G,Q3,RS,RG,h,k⟩=>k none H G (.refl H G) RG h
theorem qpiz(h:PE3 X e ta):PO3 X (some e) (oSome ta):=qhzz (qm7z h) fun σ H Q ⟨τ,G,Q3,RS,RG,h,k⟩=>
 ⟨τ,G,_,RS,RG,h,fun v H1 d G1 h1 S1 R1 q1=>by
  cases d with
  |int i=>exact⟨i,qrz h1,k (some i) H1 G1 S1 R1 q1⟩
  |_=>exact q1.elim⟩
def cut3(ds:List D)(lo hi:Option Int):List D:=(ds.drop (HT.sIx ds.length 0 lo)).take (HT.sIx ds.length ds.length hi-HT.sIx ds.length 0 lo)
def eSl(ta:TE3)(tl th:TO3):TE3:=fun τ G Q=>ta τ G fun x G1=>tl τ G1 fun lo G2=>th τ G2 fun hi G3=>match x with
 |.tup ds=>Q (.tup (cut3 ds lo hi)) G3
 |.scr ds=>∀p G4,New G3 p (.lst (cut3 ds lo hi)) G4->Q (.obj p) G4
 |.obj a=>∃ds,G3 a=some (.lst ds)/\∀p G4,New G3 p (.lst (cut3 ds lo hi)) G4->Q (.obj p) G4
 |_=>False
theorem qe3z{K:PySem.W.Frag}{H:Hp}{ds:List D}{vs:List V}(h:Hvs K H ds vs)(lo hi:Option Int):Hvs K H (cut3 ds lo hi) (cutV vs lo hi):=by
 unfold cut3 cutV;rw[h.length];exact (h.drop _).take _
theorem qpjz{prog:Program}{w:World}{A:Around}{E:Value->Shared->Prop}{s:Shared}{t sl:Addr}{items:Array Value}{vl vu:Value}{lo hi:Option Int}{Q:Value->Shared->Prop}(ht:IsTup s.heap t items)(hs:s.heap.IsSliceOf sl vl vu .none)(pl:IsPart vl lo)(pu:IsPart vu hi)
  (hw:HT.sIx items.size 0 lo=0/\HT.sIx items.size items.size hi=items.size) (h:Q (.ref t) s):wpAny (model prog w) A (getItem (.ref t) (.ref sl)) Q E s:=by
 obtain⟨os,hos,hcs,hds⟩:=id hs;have hTs:s.TypeIs (.ref sl) "slice":=⟨os,hos,hcs⟩;unfold getItem
 try with_reducible refine wpAny_holding ?_
 first|refine wpAny_bind (wpAny_pure ?_)|skip
 refine wpAny_bind (wpAny_sequenceKey ht.typeIs (by decide) ?_);refine wpAny_bind (wpAny_callSpecial?_slot (name:=Str.ofString "__getitem__") ht.typeIs PyProof.Rows.slot_tuple_getitem
  (wpAny_call_entry PyProof.Rows.slot_tuple_getitem ht.typeIs entry_tuple_getitem ?_ (args_tuple_getitem _ _)))
 show wpAny _ _ (Builtin.Tuple.tupleItemsOf (.ref t) >>= _) _ _ s;refine wpAny_bind (tupleItemsOf_ ht ?_);refine wpAny_bind (wpAny_typeOf hTs ?_);rw[if_pos (by decide)];refine wpAny_bind (HT.sliceApplied_gen hs pl pu ?_);have hyes:(((HT.sIx items.size 0 lo:Nat):Int)==0&&(1:Int)==1&&(HT.sIx items.size items.size hi-HT.sIx items.size 0 lo)==items.size)=true:=by
  rw[hw.1,hw.2];simp
 show wpAny _ _ (if (((HT.sIx items.size 0 lo:Nat):Int)==0&&(1:Int)==1&&(HT.sIx items.size items.size hi-HT.sIx items.size 0 lo)==items.size)=true then _ else _) _ _ s;rw[if_pos hyes];unfold Builtin.Tuple.tupleIsExact;refine wpAny_bind (wpAny_bind (wpAny_typeOf ht.typeIs (wpAny_pure ?_)));rw[if_pos (by decide)];exact wpAny_bind (wpAny_rule (wpAny_pure ⟨_,rfl,wpAny_pure h⟩))
def rSlT3(K:PySem.W.Frag):V->Option Int->Option Int->Hp->VK->Prop:=fun x lo hi H Q=>∃a xs,x=.ref a/\SqT K H a xs ∧
 (HT.sIx xs.length 0 lo=0/\HT.sIx xs.length xs.length hi=xs.length)/\Q (.ref a) H
theorem sl_tupW:SlR X (rSlT3 X.K):=by
 intro pins s σ H x v vl vu lo hi sl Q I rx hs pl pu h;obtain⟨a,xs,rfl,hx,hw,q⟩:=h;cases rx;obtain⟨its,r,ht,hz⟩:=I.tuple hx;have hlen:its.toArray.size=xs.length:=by rw[List.size_toArray];exact r.length.symm
 refine⟨"tuple",_,PyProof.Rows.slot_tuple_getitem.lookup,ht.typeIs,?_⟩;exact qpjz ht hs pl pu (by rw[hlen];exact hw) ⟨.ref a,H,I,rfl,q⟩
theorem e_sl{lo hi:Option Expr}{tl th:TO3}{p2:Pos}(ha:PE3 X a ta)(hl:PO3 X lo tl)(hh:PO3 X hi th):PE3 X (.Subscript a (.Slice lo hi none p2) pos) (eSl ta tl th):=
 qpz (qm8z (sl_tup.or (sl_tupW.or qnez)) ha hl hh) fun σ H Q ⟨τ,G,Q3,RS,RG,h,k⟩=>by
  refine⟨τ,G,_,RS,RG,h,fun v1 H1 d1 G1 h1 S1 R1 q1=>?_⟩;have RS1:=RS.ext (S1.ext RG);refine⟨τ,G1,_,RS1,R1,q1,fun l H2 G2 S2 R2 q2=>?_⟩;have RS2:=RS1.ext (S2.ext R1);refine⟨τ,G2,_,RS2,R2,q2,fun u H3 G3 S3 R3 q3=>?_⟩;have S13:Step H G H3 G3:=(S1.trans S2).trans S3;have hv:=(h1.ext (S2.ext R1)).ext (S3.ext R2);cases d1 with
  |tup ds=>
   obtain⟨a',vs,rfl,e1,e2⟩:=qadz hv;by_cases hw:HT.sIx vs.length 0 l=0/\HT.sIx vs.length vs.length u=vs.length
   ·refine .inr (.inl ⟨a',vs,rfl,e1,hw,k _ H3 (.tup (cut3 ds l u)) G3 (qa1z e1 ?_) S13 R3 q3⟩);have:cut3 ds l u=ds:=by
     unfold cut3;rw[e2.length,hw.1,hw.2];simp[←e2.length]
    rw[this];exact e2
   ·refine .inl ⟨a',vs,rfl,e1,hw,fun p hp=>?_⟩;exact k _ _ (.tup (cut3 ds l u)) G3 (qa1z (.of qoz) ((qe3z e2 l u).ext (.laid hp))) (S13.trans (.laid hp)) (R3.laid hp) q3
  |scr ds=>
   obtain⟨a',vs,rfl,e1,e2⟩:=qbbz hv;refine .inr (.inr ⟨a',vs,rfl,e1.l,fun p hp=>?_⟩);exact k _ _ (.obj p) _ qbnz (S13.trans (.laidG hp)) (R3.newL hp (qe3z e2 l u)) (q3 p _ (.mk' (R3.free hp)))
  |obj a'=>
   rw[qsz hv];obtain⟨ds,e0,q3⟩:=q3;obtain⟨vs,e1,e2⟩:=R3 a' _ e0;refine .inr (.inr ⟨a',vs,rfl,.of e1,fun p hp=>?_⟩);exact k _ _ (.obj p) _ qbnz (S13.trans (.laidG hp)) (R3.newL hp (qe3z e2 l u)) (q3 p _ (.mk' (R3.free hp)))
  |_=>exact q3.elim
end
end L3
namespace L3
open PySem PySem.Spec PyProof.Rows L2
abbrev C3:=List D->Gp->V3->Prop
def eCB(r:C3)(t:TA3):TE3:=fun τ G Q=>t τ G fun ds G1=>r ds G1 Q
def LowC(K:PySem.W.Frag)(r:C3)(r2:List V->Hp->VK->Prop):Prop:=∀ds vs G H Q3 Q,Hvs K H ds vs->RepG K G H->r ds G Q3->(∀v H' d G',Hv K H' d v->Step H G H' G'->RepG K G' H'->Q3 d G'->Q v H')->r2 vs H Q
section
variable {X:Cx} {K:PySem.W.Frag} {e:Expr} {es:List Expr} {t:TA3} {ta:TE3} {pos p:Pos}
theorem qpkz{r:C3}{r2:List V->Hp->VK->Prop}(L:LowC K r r2){σ:L2.St}{H:Hp}{Q:VK}(h:low K (eCB r t) σ H Q):tCB r2 (lowA K t) σ H Q:=by
 obtain⟨τ,G,Q3,RS,RG,h,k⟩:=h;refine⟨τ,G,_,RS,RG,h,fun vs H1 ds G1 h1 S1 R1 q1=>?_⟩;exact L _ _ _ _ _ _ h1 R1 q1 fun v H' d G' z1 z2 z3 z4=>k v H' d G' z1 (S1.trans z2) z3 z4
theorem e_cb{r:C3}{r2:List V->Hp->VK->Prop}(L:LowC X.K r r2)(h:PE X e (tCB r2 (lowA X.K t))):PE3 X e (eCB r t):=qpz h fun _ _ _ h=>qpkz L h
theorem hvs1{H:Hp}{d:D}{vs:List V}(h:Hvs K H [d] vs):∃v,vs=[v]/\Hv K H d v:=by
 obtain⟨v,r,rfl,z1,z2⟩:=h.inv;cases z2.inv0;exact⟨v,rfl,z1⟩
theorem hvs2{H:Hp}{d d':D}{vs:List V}(h:Hvs K H [d,d'] vs):∃v v',vs=[v,v']/\Hv K H d v/\Hv K H d' v':=by
 obtain⟨v,r,rfl,z1,z2⟩:=h.inv;obtain⟨v',rfl,z3⟩:=hvs1 z2;exact⟨v,v',rfl,z1,z3⟩
def qyz:C3:=fun ds G Q=>match ds with
 |[.obj a]=>∃xs,G a=some (.lst xs)/\Q (.int xs.length) G
 |[.tup xs]=>Q (.int xs.length) G
 |[.scr xs]=>Q (.int xs.length) G
 |_=>False
theorem qplz:LowC K qyz (fun xs H Q=>∃p ys,xs=[.ref p]/\(SqL K H p ys∨SqT K H p ys)/\Q (.int ys.length) H):=fun ds vs G H Q3 Q h RG q k=>by
 rcases ds with _|⟨d,_|⟨d2,ds⟩⟩
 ·exact q.elim
 ·obtain⟨v,rfl,hv⟩:=hvs1 h;cases d with
  |obj a=>
   obtain⟨xs,e,q⟩:=q;obtain⟨us,e1,e2⟩:=RG a _ e;rw[qsz hv];exact⟨a,us,rfl,.inl (.of e1),by rw[←e2.length];exact k _ H _ G q5z (.refl H G) RG q⟩
  |tup xs=>
   obtain⟨a,us,rfl,e1,e2⟩:=qadz hv;exact⟨a,us,rfl,.inr e1,by rw[←e2.length];exact k _ H _ G q5z (.refl H G) RG q⟩
  |scr xs=>
   obtain⟨a,us,rfl,e1,e2⟩:=qbbz hv;exact⟨a,us,rfl,.inl e1.l,by rw[←e2.length];exact k _ H _ G q5z (.refl H G) RG q⟩
  |_=>exact q.elim
 ·cases d<;>exact q.elim
theorem qpmz(hu:X.A.units+64<cLine)(hm:X.mg "len" = none)(ha:PA3 X (e::es) t)(hg:Gl X "len":=by rfl)(he:notStar e=true:=by rfl)(hpl:es.all notStar=true:=by rfl):
  PE3 X (.Call (.Name "len" p) (e::es) [] pos) (eCB qyz t):=e_cb qplz (qbyz qnfz hg hm PySem.boot_len ha (he:=qlz he) (hpl:=qzz hpl))
def qd2z:C3:=fun ds G Q=>match ds with
 |[.bl b]=>Q (.int (if b then 1 else 0)) G
 |[.int i]=>Q (.int i) G
 |_=>False
theorem qpnz:LowC K qd2z (fun xs H Q=>(∃i,xs=[.int i]/\Q (.int i) H)∨∃k,xs=[.bl k]/\Q (.int (if k then 1 else 0)) H):=fun ds vs G H Q3 Q h RG q k=>by
 rcases ds with _|⟨d,_|⟨d2,ds⟩⟩
 ·exact q.elim
 ·obtain⟨v,rfl,hv⟩:=hvs1 h;cases d with
  |bl b=>
   rw[qa0z hv];exact .inr ⟨b,rfl,k _ H _ G q5z (.refl H G) RG q⟩
  |int b=>
   rw[qrz hv];exact .inl ⟨b,rfl,k _ H _ G q5z (.refl H G) RG q⟩
  |_=>exact q.elim
 ·cases d<;>exact q.elim
theorem qpoz(hu:X.A.units+64<cLine)(hm:X.mg "int" = none)(ha:PA3 X (e::es) t)(hg:Gl X "int":=by rfl)(he:notStar e=true:=by rfl)(hpl:es.all notStar=true:=by rfl):
  PE3 X (.Call (.Name "int" p) (e::es) [] pos) (eCB qd2z t):=e_cb qpnz (qewz qmoz hg hm rfl ha (he:=qlz he) (hpl:=qzz hpl))
def qe4z:C3:=fun ds G Q=>match ds with
 |[.int i,.int j]=>Q (.int (if j > i then j else i)) G
 |_=>False
theorem qppz{f:Int->Int->Int}:LowC K (fun ds G Q=>match ds with
 |[.int i,.int j]=>Q (.int (f i j)) G
 | _=>False) (fun xs H Q=>∃i j,xs=[.int i,.int j]/\Q (.int (f i j)) H):=fun ds vs G H Q3 Q h RG q k=>by
 rcases ds with _|⟨d,_|⟨d2,_|⟨d3,ds⟩⟩⟩
 ·exact q.elim
 ·cases d<;>exact q.elim
 ·obtain⟨v,v',rfl,h1,h2⟩:=hvs2 h;cases d with
  |int i=>
   cases d2 with
   |int j=>
    rw[qrz h1,qrz h2];exact⟨i,j,rfl,k _ H _ G q5z (.refl H G) RG q⟩
   |_=>exact q.elim
  |_=>exact q.elim
 ·cases d with
  |int i=>cases d2<;>exact q.elim
  |_=>exact q.elim
theorem qpqz(hu:X.A.units+64<cLine)(hm:X.mg "max" = none)(ha:PA3 X (e::es) t)(hc:X.calm=true:=by rfl)(hg:Gl X "max":=by rfl)(he:notStar e=true:=by rfl)(hpl:es.all notStar=true:=by rfl):
  PE3 X (.Call (.Name "max" p) (e::es) [] pos) (eCB qe4z t):=e_cb (qppz (f:=fun i j=>if j > i then j else i)) (qbyz (qmnz hc) hg hm rfl ha (he:=qlz he) (hpl:=qzz hpl))
def qboz:C3:=fun ds G Q=>match ds with
 |[.obj a]=>∃xs,G a=some (.lst xs)/\Q (.tup xs) G
 |[.tup xs]=>Q (.tup xs) G
 |[.scr xs]=>Q (.tup xs) G
 |_=>False
theorem qprz:LowC K qboz (fun xs H Q=>∃p ys,xs=[.ref p]/\((SqL K H p ys/\∀l,H l=none->Q (.ref l) (upd H l (.tup ys)))∨(SqT K H p ys/\Q (.ref p) H))):=fun ds vs G H Q3 Q h RG q k=>by
 rcases ds with _|⟨d,_|⟨d2,ds⟩⟩
 ·exact q.elim
 ·obtain⟨v,rfl,hv⟩:=hvs1 h;cases d with
  |obj a=>
   obtain⟨xs,e,q⟩:=q;obtain⟨us,e1,e2⟩:=RG a _ e;rw[qsz hv];exact⟨a,us,rfl,.inl ⟨.of e1,fun l hl=>k _ _ (.tup xs) G (qa1z (.of qoz) (e2.ext (.laid hl))) (.laid hl) (RG.laid hl) q⟩⟩
  |tup xs=>
   obtain⟨a,us,rfl,e1,e2⟩:=qadz hv;exact⟨a,us,rfl,.inr ⟨e1,k _ H _ G (qa1z e1 e2) (.refl H G) RG q⟩⟩
  |scr xs=>
   obtain⟨a,us,rfl,e1,e2⟩:=qbbz hv;exact⟨a,us,rfl,.inl ⟨e1.l,fun l hl=>k _ _ (.tup xs) G (qa1z (.of qoz) (e2.ext (.laid hl))) (.laid hl) (RG.laid hl) q⟩⟩
  |_=>exact q.elim
 ·cases d<;>exact q.elim
theorem qpsz(hu:X.A.units+64<cLine)(hm:X.mg "tuple" = none)(ha:PA3 X (e::es) t)(hg:Gl X "tuple":=by rfl)(he:notStar e=true:=by rfl)(hpl:es.all notStar=true:=by rfl):
  PE3 X (.Call (.Name "tuple" p) (e::es) [] pos) (eCB qboz t):=e_cb qprz (qewz qnhz hg hm rfl ha (he:=qlz he) (hpl:=qzz hpl))
def qd3z:C3:=fun ds G Q=>match ds with
 |[.obj a]=>∃xs,G a=some (.lst xs)/\∀p G',New G p (.lst xs) G'->Q (.obj p) G'
 |[.tup xs]=>∀p G',New G p (.lst xs) G'->Q (.obj p) G'
 |[.scr xs]=>∀p G',New G p (.lst xs) G'->Q (.obj p) G'
 |_=>False
theorem qptz:LowC K qd3z (fun xs H Q=>∃p ys,xs=[.ref p]/\(SqL K H p ys∨SqT K H p ys)/\∀l,H l=none->Q (.ref l) (upd H l (.lst ys))):=fun ds vs G H Q3 Q h RG q k=>by
 have fin:∀(xs:List D) (us:List V),Hvs K H xs us->(∀p G',New G p (.lst xs) G'->Q3 (.obj p) G')->∀l,H l=none->Q (.ref l) (upd H l (.lst us)):=fun xs us e2 q l hl=>
  k _ _ (.obj l) _ qbnz (.laidG hl) (RG.newL hl e2) (q l _ (.mk' (RG.free hl)))
 rcases ds with _|⟨d,_|⟨d2,ds⟩⟩
 ·exact q.elim
 ·obtain⟨v,rfl,hv⟩:=hvs1 h;cases d with
  |obj a=>
   obtain⟨xs,e,q⟩:=q;obtain⟨us,e1,e2⟩:=RG a _ e;rw[qsz hv];exact⟨a,us,rfl,.inl (.of e1),fin xs us e2 q⟩
  |tup xs=>
   obtain⟨a,us,rfl,e1,e2⟩:=qadz hv;exact⟨a,us,rfl,.inr e1,fin xs us e2 q⟩
  |scr xs=>
   obtain⟨a,us,rfl,e1,e2⟩:=qbbz hv;exact⟨a,us,rfl,.inl e1.l,fin xs us e2 q⟩
  |_=>exact q.elim
 ·cases d<;>exact q.elim
theorem qpuz(hu:X.A.units+64<cLine)(hm:X.mg "list" = none)(ha:PA3 X (e::es) t)(hg:Gl X "list":=by rfl)(he:notStar e=true:=by rfl)(hpl:es.all notStar=true:=by rfl):
  PE3 X (.Call (.Name "list" p) (e::es) [] pos) (eCB qd3z t):=e_cb qptz (qewz qngz hg hm rfl ha (he:=qlz he) (hpl:=qzz hpl))
def eM(r:D->List D->Gp->V3->Prop)(to:TE3)(t:TA3):TE3:=fun τ G Q=>to τ G fun x G1=>(∃a xs,x=.obj a/\G1 a=some (.lst xs))/\t τ G1 fun ds G2=>r x ds G2 Q
def LowM(K:PySem.W.Frag)(r:D->List D->Gp->V3->Prop)(r2:V->List V->Hp->VK->Prop):Prop:=∀x vx ds vs G H Q3 Q,Hv K H x vx->Hvs K H ds vs->RepG K G H->r x ds G Q3->(∀v H' d G',Hv K H' d v->Step H G H' G'->RepG K G' H'->Q3 d G'->Q v H')->r2 vx vs H Q
theorem qpvz{r:D->List D->Gp->V3->Prop}{r2:V->List V->Hp->VK->Prop}{to:TE3}(L:LowM K r r2){σ:L2.St}{H:Hp}{Q:VK}(h:low K (eM r to t) σ H Q):tBM K "list" r2 (low K to) (lowA K t) σ H Q:=by
 obtain⟨τ,G,Q3,RS,RG,h,k⟩:=h;refine⟨τ,G,_,RS,RG,h,fun v1 H1 d1 G1 h1 S1 R1 q1=>?_⟩;obtain⟨⟨a,xs,rfl,e1⟩,q1⟩:=q1;obtain⟨us,e2,e3⟩:=R1 a _ e1;refine⟨?_,τ,G1,_,RS.ext (S1.ext RG),R1,q1,fun vs H2 ds G2 h2 S2 R2 q2=>?_⟩
 ·rw[qsz h1];exact .inl ⟨rfl,us,.of e2⟩
 ·exact L _ _ _ _ _ _ _ _ (h1.ext (S2.ext R1)) h2 R2 q2 fun v H' d G' z1 z2 z3 z4=>k v H' d G' z1 ((S1.trans S2).trans z2) z3 z4
theorem qpwz{r:D->List D->Gp->V3->Prop}{r2:V->List V->Hp->VK->Prop}{to:TE3}(L:LowM X.K r r2)(h:PE X e (tBM X.K "list" r2 (low X.K to) (lowA X.K t))):PE3 X e (eM r to t):=qpz h fun _ _ _ z=>qpvz L z
def eDct:TE3:=fun _ G Q=>∀p G',New G p .dct G'->Q (.obj p) G'
theorem qpxz:PE3 X (.Dict [] [] pos) eDct:=fun pins s σ H Q I ⟨τ,G,Q3,RS,RG,h,k⟩=>by
 have hf:H s.heap.objs.size=none:=I.hok.fresh (Nat.le_refl _);refine wpAny_Dict_empty ⟨.ref s.heap.objs.size,_,I.laid (a:=s.heap.objs.size) (o:=.ext fun h=>∃o,h.get? s.heap.objs.size=some o/\o.cls=.type "dict") (t':=s.toks) (fun _ _ q=>Heap.get?_push_of_some _ q) (Nat.le_refl _) ?_,rfl,?_⟩
 ·refine⟨⟨_,Heap.get?_push_size _ rfl,rfl⟩,⟨_,Heap.get?_push_size _ rfl⟩,fun h1 h2 ⟨o,e1,e2⟩ kk=>⟨o,kk o e1,e2⟩⟩
 ·exact k _ _ (.obj s.heap.objs.size) (upd3 G s.heap.objs.size .dct) qbnz (.laidG hf) (RG.laidG (g:=.dct) hf qoz) (h _ _ (.mk' (RG.free hf)))
def instD(T:String)(G:Gp):D->Option Bool
 |.non=>some false
 |.bl _=>some (T=="bool" || T=="int")
 |.int _=>some (T=="int")
 |.str _=>some (T=="str")
 |.tup _=>some (T=="tuple")
 |.scr _=>some (T=="list")
 |.dc _=>some (T=="dict")
 |.obj a=>match G a with
  |some (.lst _)=>some (T=="list")
  |some .pen=>some (T=="list")
  |some .dct=>some (T=="dict")
  |some (.gen _)=>none
  |none=>none
def eInst(T:String)(ta:TE3):TE3:=fun τ G Q=>ta τ G fun x G1=>match instD T G1 x with
 |some b=>Q (.bl b) G1
 |none=>False
end
end L3
namespace SortV
open PySem PySem.W PyProof.Rows
def lx:List Int->List Int->Bool
 |[],[]=>false
 |[],_::_=>true
 |_::_,[]=>false
 |x::xs,y::ys=>if x=y then lx xs ys else decide (x<y)
end SortV
namespace L3
open PySem PySem.Spec PyProof.Rows L2
structure Kit(T:String):Prop where
 non:∀K,PySem.W.kitOne K (.type "NoneType") (.type T)=some false
 bl:∀K,PySem.W.kitOne K (.type "bool") (.type T)=some (T=="bool" || T=="int")
 int:∀K,PySem.W.kitOne K (.type "int") (.type T)=some (T=="int")
 str:∀K,PySem.W.kitOne K (.type "str") (.type T)=some (T=="str")
 tup:∀K,PySem.W.kitOne K (.type "tuple") (.type T)=some (T=="tuple")
 lst:∀K,PySem.W.kitOne K (.type "list") (.type T)=some (T=="list")
 dct:∀K,PySem.W.kitOne K (.type "dict") (.type T)=some (T=="dict")
theorem qh0z:Kit "int":=⟨fun _=>rfl,fun _=>rfl,fun _=>rfl,fun _=>rfl,fun _=>rfl,fun _=>rfl,fun _=>rfl⟩
theorem qe5z:Kit "bool":=⟨fun _=>rfl,fun _=>rfl,fun _=>rfl,fun _=>rfl,fun _=>rfl,fun _=>rfl,fun _=>rfl⟩
theorem kit_tuple:Kit "tuple":=⟨fun _=>rfl,fun _=>rfl,fun _=>rfl,fun _=>rfl,fun _=>rfl,fun _=>rfl,fun _=>rfl⟩
theorem qpyz:Kit "list":=⟨fun _=>rfl,fun _=>rfl,fun _=>rfl,fun _=>rfl,fun _=>rfl,fun _=>rfl,fun _=>rfl⟩
section
variable {X:Cx} {a e:Expr} {es:List Expr} {ta:TE3} {t:TA3} {pos p p2:Pos}
theorem qpzz{T:String}(k:Kit T):CallR X (.builtin "isinstance") (fun vs H Q=>∃d v G b,vs=[v,.ty T]/\Hv X.K H d v/\RepG X.K G H/\instD T G d=some b/\Q (.bl b) H):=by
 intro pins s σ H vs us Q I r h;obtain⟨d,v,G,b,rfl,hd,RG,hb,q⟩:=h;obtain⟨u,c,rfl,ru,rc⟩:=vals2 r;cases (show c=Value.type T from rc);have fin:∀tk,EP X pins σ Q (.bool b) { s with toks:=tk }:=fun tk=>⟨.bl b,H,I.tok tk,rfl,q⟩
 cases d with
 |non=>
  unfold Hv at hd;subst hd;cases (show u=Value.none from ru);cases hb;exact PySem.W.kia_one PySem.W.kitx_none I.kIn True.intro (k.non _) (fun z=>nomatch z) fin
 |bl y=>
  rw[qa0z hd] at ru;cases (show u=Value.bool y from ru);cases hb;exact PySem.W.kia_one PySem.W.kitx_bool I.kIn True.intro (k.bl _) (fun z=>nomatch z) fin
 |int y=>
  rw[qrz hd] at ru;obtain⟨t,rfl⟩:=(show ∃t,u=Value.int y t from ru);cases hb;exact PySem.W.kia_one PySem.W.kitx_int I.kIn True.intro (k.int _) (fun z=>nomatch z) fin
 |str y=>
  unfold Hv at hd;subst hd;obtain⟨t,rfl⟩:=(show ∃t,u=Value.str y t from ru);cases hb;exact PySem.W.kia_one PySem.W.kitx_str I.kIn True.intro (k.str _) (fun z=>nomatch z) fin
 |tup ds=>
  obtain⟨x,xs,rfl,e1,_⟩:=qadz hd;cases (show u=Value.ref x from ru);cases hb;obtain⟨its,_,⟨o,h1,h2,_⟩,_⟩:=I.tuple e1;exact PySem.W.kia_one PySem.W.kitx_tuple I.kIn ⟨o,h1,h2⟩ (k.tup _) (fun z=>nomatch z) fin
 |scr ds=>
  obtain⟨x,xs,rfl,e1,_⟩:=qbbz hd;cases (show u=Value.ref x from ru);cases hb;obtain⟨its,_,p1,_⟩:=I.list e1.l;obtain⟨o,h1,h2,_⟩:=p1.isList;exact PySem.W.kia_one PySem.W.kitx_list I.kIn ⟨o,h1,h2⟩ (k.lst _) (fun z=>nomatch z) fin
 |dc x=>
  unfold Hv at hd;obtain⟨rfl,ob,φ,e1,c⟩:=hd;cases (show u=Value.ref x from ru);cases hb;obtain⟨h1,_⟩:=I.hok x _ e1;exact PySem.W.kia_one PySem.W.kitx_dict I.kIn ⟨ob,h1,c⟩ (k.dct _) (fun z=>nomatch z) fin
 |obj x=>
  rw[qsz hd] at ru;cases (show u=Value.ref x from ru);unfold instD at hb;cases hG:G x with
  |none=>simp[hG] at hb
  |some o=>
   have hl:∀xs,H x=some (.lst xs)->∃o,s.heap.get? x=some o/\o.cls=.type "list":=fun xs e=>by
    obtain⟨_,_,n,_,h1⟩:=(show ObjOk X.prog X.w H s.heap x (.lst xs) from I.hok x _ e);exact⟨_,h1,rfl⟩
   cases o with
   |lst ds=>
    simp only[hG] at hb;cases hb;obtain⟨vs,e1,_⟩:=RG x _ hG;obtain⟨o,h1,h2⟩:=hl _ e1;exact PySem.W.kia_one PySem.W.kitx_list I.kIn ⟨o,h1,h2⟩ (k.lst _) (fun z=>nomatch z) fin
   |pen=>
    simp only[hG] at hb;cases hb;obtain⟨_,_,_,e1,_⟩:=RG x _ hG;obtain⟨o,h1,h2⟩:=hl _ e1;exact PySem.W.kia_one PySem.W.kitx_list I.kIn ⟨o,h1,h2⟩ (k.lst _) (fun z=>nomatch z) fin
   |gen R=>simp[hG] at hb
   |dct=>
    simp only[hG] at hb;cases hb;have e1:H x=some (.ext fun h=>∃o,h.get? x=some o/\o.cls=.type "dict"):=RG x _ hG;obtain⟨⟨o,h1,h2⟩,_⟩:=(show ObjOk X.prog X.w H s.heap x _ from I.hok x _ e1);exact PySem.W.kia_one PySem.W.kitx_dict I.kIn ⟨o,h1,h2⟩ (k.dct _) (fun z=>nomatch z) fin
theorem qp0z{T:String}{TS:Str}(k:Kit T)(hv:bootBuiltins TS=some (.type T))(ha:PE3 X a ta)(hm:X.mg "isinstance" = none)(hm2:X.mg TS=none)(hgT:Gl X TS)(hnT:TS≠"__name__")(hdT:(TS==("__debug__":Str))=false)(hg:Gl X "isinstance":=by rfl)
  (he:notStar a=true:=by rfl):
  PE3 X (.Call (.Name "isinstance" p) [a,.Name TS p2] [] pos) (eInst T ta):=
 qpz (qbyz (qpzz k) hg hm rfl (qbkz ha (qbkz (qgtz (v:=.ty T) hgT hm2 hv rfl hnT hdT) qdpz (qlz rfl)) (qlz he)) (he:=qlz he) (hpl:=qzz rfl)) fun σ H Q ⟨τ,G,Q3,RS,RG,h,k⟩=>by
  refine⟨τ,G,_,RS,RG,h,fun v H1 d G1 h1 S1 R1 q1=>?_⟩;cases hb:instD T G1 d with
  |none=>rw[hb] at q1;exact q1.elim
  |some b=>
   rw[hb] at q1;exact⟨d,v,G1,b,rfl,h1,R1,hb,k _ H1 (.bl b) G1 q6z S1 R1 q1⟩
end
def tupI(ns:List Int):D:=.tup (ns.map D.int)
section
variable {X:Cx} {pins:List (Addr×Obj)} {σ:L2.St} {H:Hp} {s:Shared}
def RiseL(nss:List (List Int)):Prop:=nss.Pairwise fun x y=>SortV.lx y x=false
end
end L3
namespace L3
open PySem PySem.Spec PyProof.Rows L2
section
variable {X:Cx} {K:PySem.W.Frag} {e:Expr} {es:List Expr} {t:TA3} {ta:TE3} {pos p p' pos':Pos}
def q08z:C3:=fun ds G Q=>match ds with
 |[.obj a]=>∃nss:List (List Int),G a=some (.lst (nss.map tupI))/\nss.length<64/\(∀ns∈nss,ns≠[])/\∀(p:Addr) (mss:List (List Int)) (G':Gp),New G p (.lst (mss.map tupI)) G'->mss.Perm nss->RiseL mss->Q (.obj p) G'
 |_=>False
def blsOf:List D->Option (List Bool)
 |[]=>some []
 |.bl b::r=>(blsOf r).map (b::·)
 |_::_=>none
theorem qd4z{H:Hp}:∀{ds:List D} {vs:List V} {bs:List Bool},Hvs K H ds vs->blsOf ds=some bs->vs=bs.map V.bl
 |[],vs,ns,h,e=>by
  cases e;exact h.inv0
 |d::ds,vs,ns,h,e=>by
  cases d with
  |bl i=>
   obtain⟨v,r,rfl,z1,z2⟩:=h.inv;unfold blsOf at e;cases hm:blsOf ds with
   |none=>rw[hm] at e;cases e
   |some ms=>
    rw[hm] at e;cases e;rw[qa0z z1,qd4z z2 hm];rfl
  |_=>cases e
theorem qh1z:∀{bs:List Bool} {us:List Value},Vals (bs.map V.bl) us->us=bs.map Value.bool
 |[],_,.nil=>rfl
 |b::bs,_,.cons r rr=>by
  rw[(show _=Value.bool b from r),qh1z rr];rfl
theorem range_all(bs:List Bool):(List.range bs.length).all (fun i=>bs.getD i false)=bs.all id:=by
 rw[Bool.eq_iff_iff];simp only[List.all_eq_true,List.mem_range,id_eq];constructor
 ·intro h b hb;obtain⟨i,hi,rfl⟩:=List.mem_iff_getElem.mp hb;have:=h i hi;simpa [List.getD,hi] using this
 ·intro h i hi;have:=h bs[i] (List.getElem_mem hi);simpa [List.getD,hi] using this
theorem qp1z(hc:X.calm=true){pins:List (Addr×Obj)}{s:Shared}{σ:L2.St}{H:Hp}{a:Addr}{xs:List V}{E:Value->Shared->Prop}(I:Inv X pins σ H s)(hl:SqL X.K H a xs){Q:Value->Shared->Prop}
  (q:∀(its:List Value) (I':Addr),Vals xs its->WalksS X.prog X.w X.A.in1 I' [I',a] [I'] (fun x y=>y=x) its.length (fun i v=>its[i]?=some v) (fun i s=>s.heap.IsListIter I' a i/\s.heap.IsList a its.toArray) ->
   (s.heap.push { cls:=.type "list_iterator",data:=.fields #[.ref a,.int 0 0]}).IsListIter I' a 0->(s.heap.push { cls:=.type "list_iterator",data:=.fields #[.ref a,.int 0 0]}).IsList a its.toArray ->
   (∀b∈[I',a],b<(s.heap.push { cls:=.type "list_iterator",data:=.fields #[.ref a,.int 0 0]}).objs.size) ->
   (∀s',Moved [I'] (fun x y=>y=x) { s with heap:=s.heap.push { cls:=.type "list_iterator",data:=.fields #[.ref a,.int 0 0]}} s'->Inv X pins σ H s')->Q (.ref I') { s with heap:=s.heap.push { cls:=.type "list_iterator",data:=.fields #[.ref a,.int 0 0]}}):
  wpAny (model X.prog X.w) X.A.in1 (pyIter (.ref a)) Q E s:=by
 obtain⟨its,rv,pl,_⟩:=I.list hl;have hla:a<s.heap.objs.size:=by
  obtain⟨o,h1,_⟩:=pl.isList;exact Heap.lt_size h1
 refine wpAny_pyIter_list pl.isList ?_;have hW:=(Walks.list (prog:=X.prog) (w:=X.w) (A:=X.A.in1) (by have:=I.ok.hd hc;simpa using this) s.heap.objs.size a (Nat.ne_of_lt hla) its.toArray).toS;refine q its s.heap.objs.size rv (by simpa using hW) ⟨_,Heap.get?_push_size _ rfl,rfl,rfl⟩ ?_ ?_ fun s' hm=>?_
 ·obtain⟨o,h1,h2⟩:=pl.isList;exact⟨o,Heap.get?_push_of_some _ h1,h2⟩
 ·intro b hb;rw[size_push'];rcases List.mem_cons.mp hb with e|e
  ·rw[e];exact Nat.lt_succ_self _
  ·have:b=a:=by simpa using e
   rw[this];exact Nat.lt_succ_of_lt hla
 ·have e:s'={ s with heap:=s'.heap,toks:=s'.toks }:=by
   cases s';cases s;have h1:=hm.gens;have h2:=hm.drawn;have h3:=hm.os;simp only at h1 h2 h3;subst h1 h2 h3;rfl
  rw[e];exact I.kept fun b u z=>hm.heap b u (fun y=>by
   have:b=s.heap.objs.size:=by simpa using y
   exact absurd (this▸Heap.lt_size z) (Nat.lt_irrefl _)) (Heap.get?_push_of_some _ z)
theorem qp2z(hc:X.calm=true):CallR X (.builtin "all") (fun vs H Q=>∃(a:Addr) (bs:List Bool),vs=[.ref a]/\SqL X.K H a (bs.map V.bl)/\Q (.bl (bs.all id)) H):=by
 intro pins s σ H vs us Q I r h;obtain⟨a,bs,rfl,hl,q⟩:=h;obtain⟨u,rfl,ru⟩:=vals1 r;cases ru;refine call_all_walkS (qp1z hc I hl fun its I' rv W h1 h2 h3 back=>⟨I',_,_,_,_,_,_,fun i=>bs.getD i false,rfl,W,⟨h1,h2⟩,?_,fun s' hm=>?_⟩)
 ·intro i v s' Q' E' hv hq;have hx:=qh1z rv;subst hx;rw[List.getElem?_map] at hv;cases hb:bs[i]? with
  |none=>rw[hb] at hv;cases hv
  |some b=>
   rw[hb] at hv;cases hv;have:bs.getD i false=b:=by simp[List.getD,hb]
   dsimp only at hq;rw[this] at hq;exact wpAny_truthy_bool hq
 ·have:its.length=bs.length:=by rw[←rv.length,List.length_map]
  rw[this,range_all];exact⟨.bl (bs.all id),H,back s' hm,rfl,q⟩
def qbpz:C3:=fun ds G Q=>match ds with
 |[.obj a]=>∃xs bs,G a=some (.lst xs)/\blsOf xs=some bs/\Q (.bl (bs.all id)) G
 |_=>False
theorem qp3z:LowC K qbpz (fun vs H Q=>∃(a:Addr) (bs:List Bool),vs=[.ref a]/\SqL K H a (bs.map V.bl)/\Q (.bl (bs.all id)) H):=fun ds vs G H Q3 Q h RG q k=>by
 rcases ds with _|⟨d,_|⟨d2,ds⟩⟩
 ·exact q.elim
 ·obtain⟨v,rfl,hv⟩:=hvs1 h;cases d with
  |obj a=>
   obtain⟨xs,bs,e1,e2,q⟩:=q;obtain⟨ys,e3,e4⟩:=RG a _ e1;rw[qsz hv];rw[qd4z e4 e2] at e3;exact⟨a,bs,rfl,.of e3,k _ H _ G q6z (.refl H G) RG q⟩
  |_=>exact q.elim
 ·cases d<;>exact q.elim
theorem qp4z(hu:X.A.units+64<cLine)(hm:X.mg "all" = none)(ha:PA3 X (e::es) t)(hc:X.calm=true:=by rfl)(hg:Gl X "all":=by rfl)(he:notStar e=true:=by rfl)(hpl:es.all notStar=true:=by rfl):
  PE3 X (.Call (.Name "all" p) (e::es) [] pos) (eCB qbpz t):=e_cb qp3z (qbyz (qp2z hc) hg hm rfl ha (he:=qlz he) (hpl:=qzz hpl))
end
end L3
namespace L3
open PySem PySem.Spec PyProof.Rows L2
section
variable {prog:Program} {w:World} {A:Around} {E:Value->Shared->Prop} {s:Shared}
theorem qp5z(n:Nat):Builtin.Slice.slicePlaces ((n:Int)-1) (-1) (-1)=n:=by
 unfold Builtin.Slice.slicePlaces;rw[if_neg (by decide)];by_cases h:(n:Int)-1 > -1
 ·rw[if_pos h];simp
 ·rw[if_neg h];omega
theorem qh2z{α β:Type}{f g:α->Option β}:∀{l:List α},(∀x∈l,f x=g x)->l.filterMap f=l.filterMap g
 |[],_=>rfl
 |x::l,h=>by
  rw[List.filterMap_cons,List.filterMap_cons,h x List.mem_cons_self,qh2z fun y hy=>h y (List.mem_cons_of_mem _ hy)]
theorem qh3z{α:Type}:∀(l:List α),(List.range l.length).filterMap (fun i=>l[i]?)=l
 |[]=>rfl
 |a::l=>by
  rw[List.length_cons,List.range_succ_eq_map,List.filterMap_cons_some (b:=a) (by simp),List.filterMap_map];congr 1;exact qh3z l
theorem qp6z(xs:List Value):((List.range xs.length).filterMap fun (m:Nat)=>xs.toArray[(((xs.length:Int)-1)+(m:Int)*(-1)).toNat]?)=xs.reverse:=by
 have h2:=qh3z xs.reverse;rw[List.length_reverse] at h2;refine Eq.trans (qh2z fun m hm=>?_) h2;have hm':=List.mem_range.mp hm;rw[List.getElem?_reverse hm',List.getElem?_toArray];congr 1;omega
theorem qp7z{sl:Addr}{t:Tok}{n:Nat}{Q:Int×Int×Nat->Shared->Prop}(hs:s.heap.IsSliceOf sl .none .none (.int (-1) t))(h:Q ((n:Int)-1,-1,n) s):wpAny (model prog w) A (Builtin.Slice.sliceApplied (.ref sl) (pure (n:Int))) Q E s:=by
 obtain⟨os,hos,hcs,hds⟩:=id hs;unfold Builtin.Slice.sliceApplied Builtin.Slice.sliceFields;refine wpAny_bind (wpAny_bind (wpAny_field hos hds (x:=.none) rfl (wpAny_bind (wpAny_field hos hds (x:=.none) rfl (wpAny_bind (wpAny_field hos hds (x:=.int (-1) t) rfl (wpAny_pure ?_)))))));refine wpAny_bind (slicePart_int ?_);show wpAny _ _ (if ((-1:Int)==0)=true then _ else _) _ _ s;rw[if_neg (by decide)];refine wpAny_bind (slicePart_none (wpAny_bind (slicePart_none (wpAny_bind (wpAny_pure ?_)))));show wpAny _ _ (pure ((n:Int)-1,(-1:Int),Builtin.Slice.slicePlaces ((n:Int)-1) (-1) (-1))) _ _ s;rw[qp5z];exact wpAny_pure h
theorem qp8z{t sl:Addr}{its:List Value}{tk:Tok}{Q:Value->Shared->Prop}(ht:IsTup s.heap t its.toArray)(hs:s.heap.IsSliceOf sl .none .none (.int (-1) tk))(hsz:its.length≤sizeLine)
  (h:Q (.ref s.heap.objs.size) { s with heap:=s.heap.push { cls:=.type "tuple",data:=.seq its.reverse.toArray }}):wpAny (model prog w) A (getItem (.ref t) (.ref sl)) Q E s:=by
 have htake:sizeOk (.seq its.reverse.toArray):=by
  show its.reverse.toArray.size≤sizeLine;rw[List.size_toArray,List.length_reverse];exact hsz
 obtain⟨os,hos,hcs,hds⟩:=id hs;have hTs:s.TypeIs (.ref sl) "slice":=⟨os,hos,hcs⟩;unfold getItem
 try with_reducible refine wpAny_holding ?_
 first|refine wpAny_bind (wpAny_pure ?_)|skip
 refine wpAny_bind (wpAny_sequenceKey ht.typeIs (by decide) ?_);refine wpAny_bind (wpAny_callSpecial?_slot (name:=Str.ofString "__getitem__") ht.typeIs PyProof.Rows.slot_tuple_getitem
  (wpAny_call_entry PyProof.Rows.slot_tuple_getitem ht.typeIs entry_tuple_getitem ?_ (args_tuple_getitem _ _)))
 show wpAny _ _ (Builtin.Tuple.tupleItemsOf (.ref t) >>= _) _ _ s;refine wpAny_bind (tupleItemsOf_ ht ?_);refine wpAny_bind (wpAny_typeOf hTs ?_);rw[if_pos (by decide),show (its.toArray.size:Int)=((its.length:Nat):Int) by simp];refine wpAny_bind (qp7z hs ?_);show wpAny _ _ (if ((its.length:Int)-1==0&&(-1:Int)==1&&its.length==its.toArray.size)=true then _ else _) _ _ s;rw[if_neg (by simp),qp6z]
 first
  |exact wpAny_bind (m:=Builtin.Tuple.tupleExact _) (wpAny_newObj_type (wpAny_pure ⟨_,rfl,wpAny_pure h⟩) htake)
  |exact wpAny_bind (m:=Builtin.Tuple.tupleExact _) (wpAny_newObj_type (wpAny_bind (wpAny_pure (wpAny_pure ⟨_,rfl,wpAny_pure h⟩))) htake)
  |exact wpAny_bind (wpAny_bind (m:=Builtin.Tuple.tupleExact _) (wpAny_newObj_type (wpAny_pure (wpAny_pure ⟨_,rfl,wpAny_pure h⟩)) htake))
  |exact wpAny_bind (wpAny_bind (m:=Builtin.Tuple.tupleExact _) (wpAny_newObj_type (wpAny_pure ⟨_,rfl,wpAny_pure h⟩) htake))
end
section
variable {X:Cx} {a:Expr} {ta:TE3} {te:TE} {pos p2 p3 p4:Pos} {j:Nat}
def tRev(K:PySem.W.Frag)(te:TE):TE:=fun σ H Q=>te σ H fun x H1=>∃a xs,x=.ref a/\SqT K H1 a xs/\∀p,H1 p=none->Q (.ref p) (upd H1 p (.tup xs.reverse))
theorem qp9z(he:PE X a te):PE X (.Subscript a (.Slice none none (some (.UnaryOp .USub (.Constant (.int 1) j p4) p3)) p2) pos) (tRev X.K te):=by
 intro pins s σ H Q I h;refine Subscript_ (thn (he pins s σ H _ I h) fun v s1 ⟨x,H1,I1,r1,q1⟩=>?_);refine wpAny_Slice ?_;rw[evalPart_none];refine wpAny_pure (wpAny_pure ?_);rw[evalPart_some];refine thn (qgvz (pos:=p3) qgwz (qgrz (j:=j) (pos:=p4)) pins s1 σ H1 (fun y H'=>y=.int (-1)/\H'=H1) I1 ⟨1,rfl,rfl,rfl⟩) fun u s2 ⟨y,H2,I2,r2,e1,e2⟩=>?_;subst e1 e2;obtain⟨t,rfl⟩:=(show ∃t,u=Value.int (-1) t from r2);obtain⟨b,xs,rfl,hx,q⟩:=q1;cases (show v=Value.ref b from r1);have I4:Inv X pins σ H2 { s2 with heap:=s2.heap.push { cls:=.type "slice",data:=.fields #[.none,.none,.int (-1) t]}}:=I2.kept (t':=s2.toks) fun b ob q=>Heap.get?_push_of_some _ q
 obtain⟨its,r,ht,hz⟩:=I4.tuple hx;show wpAny (model X.prog X.w) X.A (subscriptTail a _ (.ref b) (.ref s2.heap.objs.size)) (EP X pins σ Q) X.xe { s2 with heap:=s2.heap.push { cls:=.type "slice",data:=.fields #[.none,.none,.int (-1) t]}};refine tail_any (ops:=[.ref b,.ref s2.heap.objs.size]) ht.typeIs PyProof.Rows.slot_tuple_getitem.lookup ?_ (by with_unfolding_all rfl);refine qp8z ht (Heap.IsSliceOf.new ..) (by rw[←r.length];exact hz) ?_;refine⟨.ref _,_,I4.laid (t':=s2.toks) (o:=.tup xs.reverse) (fun b ob q=>Heap.get?_push_of_some _ q) (Nat.le_refl _) ?_,rfl,q _ (I4.hok.fresh (Nat.le_refl _))⟩;exact⟨by rw[List.length_reverse];exact hz,_,r.reverse,IsTup.new _ _⟩
def eRev(ta:TE3):TE3:=fun τ G Q=>ta τ G fun x G1=>match x with
 |.tup ds=>Q (.tup ds.reverse) G1
 |_=>False
theorem qqaz(ha:PE3 X a ta):PE3 X (.Subscript a (.Slice none none (some (.UnaryOp .USub (.Constant (.int 1) j p4) p3)) p2) pos) (eRev ta):=qpz (qp9z ha) fun σ H Q ⟨τ,G,Q3,RS,RG,h,k⟩=>by
 refine⟨τ,G,_,RS,RG,h,fun v H1 d G1 h1 S1 R1 q1=>?_⟩;cases d with
 |tup ds=>
  obtain⟨b,vs,rfl,e1,e2⟩:=qadz h1;exact⟨b,vs,rfl,e1,fun p hp=>k _ _ (.tup ds.reverse) G1 (qa1z (.of qoz) (e2.rev.ext (.laid hp))) (S1.trans (.laid hp)) (R1.laid hp) q1⟩
 |_=>exact q1.elim
end
end L3
namespace L3
open PySem PySem.Spec PyProof.Rows L2
section
variable {prog:Program} {w:World} {A:Around} {E:Value->Shared->Prop} {s:Shared}
theorem qqbz(lo hi i:Int):(Builtin.Range.rangePlace? lo hi 1 i).isSome=(decide (lo≤i)&&decide (i<hi)):=by
 unfold Builtin.Range.rangePlace?;dsimp only;rw[if_pos (c:=(1:Int) > 0) (by decide),Int.emod_one];cases (decide (lo≤i)&&decide (i<hi))<;>rfl
theorem qh4z{r:Addr}{lo hi i:Int}{t u v tk:Tok}{Q:Bool->Shared->Prop}(hr:s.heap.get? r=some { cls:=.type "range",data:=.fields #[.int lo t,.int hi u,.int 1 v]})(h:Q (decide (lo≤i)&&decide (i<hi)) s):
  wpAny (model prog w) A (contains (.ref r) (.int i tk)) Q E s:=by
 have hT:s.TypeIs (.ref r) "range":=⟨_,hr,rfl⟩;refine wpAny_contains_slot hT PySem.F.slot_range_contains (wpAny_call_entry PySem.F.slot_range_contains hT PySem.F.entry_range_contains ?_ (PySem.F.args_range_contains_2 _ _));show wpAny _ _ (Builtin.Range.rangeFields (.ref r) >>= _) _ _ s;unfold Builtin.Range.rangeFields;refine wpAny_bind (wpAny_bind (wpAny_field hr rfl (x:=.int lo t) rfl (wpAny_bind (wpAny_pure (wpAny_bind (wpAny_field hr rfl (x:=.int hi u) rfl (wpAny_bind (wpAny_pure (wpAny_bind (wpAny_field hr rfl (x:=.int 1 v) rfl (wpAny_bind (wpAny_pure (wpAny_pure ?_)))))))))))));show wpAny _ _ (pure (Fin.done (Flow.ret (Value.bool (Builtin.Range.rangePlace? lo hi 1 i).isSome)))) _ _ s;rw[qqbz];exact wpAny_pure ⟨_,rfl,wpAny_truthy_bool h⟩
end
section
variable {X:Cx} {a b c:Expr} {ta:TE} {tb:TA} {op:CmpOp} {p pos pos':Pos}
def inB(neg:Bool)(lo hi i:Int):Bool:=if neg then !(decide (lo≤i)&&decide (i<hi)) else (decide (lo≤i)&&decide (i<hi))
def tInR1(neg:Bool)(ta:TE)(tb:TA):TE:=fun σ H Q=>ta σ H fun x H1=>tb σ H1 fun vs H2=>∃i hi,x=.int i/\vs=[.int hi]/\Q (.bl (inB neg 0 hi i)) H2
def opR(neg:Bool):CmpOp:=if neg then .NotIn else .In
theorem qqcz{pins:List (Addr×Obj)}{s:Shared}{σ:L2.St}{H:Hp}{Q:VK}{i lo hi:Int}{t u v tk:Tok}{tks:Nat}(I:L2.Inv X pins σ H s)(q:Q (.bl (decide (lo≤i)&&decide (i<hi))) H):
  wpAny (model X.prog X.w) X.A (compareOp .In (.int i tk) (.ref s.heap.objs.size)) (EP X pins σ Q) X.xe { s with heap:=s.heap.push { cls:=.type "range",data:=.fields #[.int lo t,.int hi u,.int 1 v]},toks:=tks }:=by
 show wpAny _ _ (contains (.ref s.heap.objs.size) (.int i tk) >>= fun b=>pure (Value.bool b)) _ _ _;refine wpAny_bind (qh4z (Heap.get?_push_size _ rfl) (wpAny_pure ⟨.bl _,H,I.kept fun b ob q=>Heap.get?_push_of_some _ q,rfl,q⟩))
theorem qqdz{pins:List (Addr×Obj)}{s:Shared}{σ:L2.St}{H:Hp}{Q:VK}{i lo hi:Int}{t u v tk:Tok}{tks:Nat}(I:L2.Inv X pins σ H s)(q:Q (.bl (!(decide (lo≤i)&&decide (i<hi)))) H):
  wpAny (model X.prog X.w) X.A (compareOp .NotIn (.int i tk) (.ref s.heap.objs.size)) (EP X pins σ Q) X.xe { s with heap:=s.heap.push { cls:=.type "range",data:=.fields #[.int lo t,.int hi u,.int 1 v]},toks:=tks }:=by
 show wpAny _ _ (contains (.ref s.heap.objs.size) (.int i tk) >>= fun b=>pure (Value.bool (!b))) _ _ _;refine wpAny_bind (qh4z (Heap.get?_push_size _ rfl) (wpAny_pure ⟨.bl _,H,I.kept fun b ob q=>Heap.get?_push_of_some _ q,rfl,q⟩))
theorem qqez{neg:Bool}{pins:List (Addr×Obj)}{s:Shared}{σ:L2.St}{H:Hp}{Q:VK}{i lo hi:Int}{t u v tk:Tok}{tks:Nat}(I:L2.Inv X pins σ H s)(q:Q (.bl (inB neg lo hi i)) H):
  wpAny (model X.prog X.w) X.A (compareOp (opR neg) (.int i tk) (.ref s.heap.objs.size)) (EP X pins σ Q) X.xe { s with heap:=s.heap.push { cls:=.type "range",data:=.fields #[.int lo t,.int hi u,.int 1 v]},toks:=tks }:=by
 cases neg with
 |false=>exact qqcz I q
 |true=>exact qqdz I q
theorem qqfz{neg:Bool}(hg:Gl X "range")(hm:X.mg "range" = none)(ha:PE X a ta)(hb:PA X [b] tb)(hs:starEach [b] X.env=[(false,eval b X.env)]):PC X (opR neg) a (.Call (.Name "range" p) [b] [] pos) (tInR1 neg ta tb):=by
 intro pins s σ H Q I h;refine thn (ha pins s σ H _ I h) fun v s1 ⟨x,H1,I1,r1,q1⟩=>?_;refine Call_ (qazz I1 hg hm boot_range (PyProof.Rows.callWith_type1 (thn (hb pos pins s1 σ H1 _ I1 q1) fun us s2 ⟨vs,H2,I2,r2,q2⟩=>?_) hs rfl));obtain⟨i,hi,rfl,rfl,q⟩:=q2;obtain⟨tk,rfl⟩:=r1;cases r2 with
 |cons r rr=>
  cases rr;obtain⟨t,rfl⟩:=r;exact call_range_1 (qqez I2 q)
end
section
variable {X:Cx} {a b c:Expr} {ta:TE3} {tb:TA3} {p pos pos':Pos}
def eInRng1(neg:Bool)(ta:TE3)(tb:TA3):TE3:=fun τ G Q=>ta τ G fun x G1=>tb τ G1 fun ds G2=>match x,ds with
 |.int i,[.int hi]=>Q (.bl (inB neg 0 hi i)) G2
 |_,_=>False
theorem qqgz{neg:Bool}{σ:L2.St}{H:Hp}{Q:VK}(h:low X.K (eInRng1 neg ta tb) σ H Q):tInR1 neg (low X.K ta) (lowA X.K tb) σ H Q:=by
 obtain⟨τ,G,Q3,RS,RG,h,k⟩:=h;refine⟨τ,G,_,RS,RG,h,fun v1 H1 d1 G1 h1 S1 R1 q1=>?_⟩;refine⟨τ,G1,_,RS.ext (S1.ext RG),R1,q1,fun vs H2 ds G2 h2 S2 R2 q2=>?_⟩;rcases ds with _|⟨d,_|⟨d2,ds⟩⟩
 ·cases d1<;>exact q2.elim
 ·cases d1 with
  |int i=>
   cases d with
   |int j=>
    obtain⟨v,r,rfl,z1,z2⟩:=h2.inv;cases z2.inv0;unfold Hv at z1 h1;exact⟨i,j,h1,by rw[z1],k _ _ _ _ q6z (S1.trans S2) R2 q2⟩
   |_=>exact q2.elim
  |_=>exact q2.elim
 ·cases d1 with
  |int i=>cases d<;>exact q2.elim
  |_=>exact q2.elim
theorem qqhz(ha:PE3 X a ta)(hm:X.mg "range" = none)(hb:PA3 X [b] tb)(hg:Gl X "range":=by rfl)(hs:notStar b=true:=by rfl):PT3 X (.Compare a [.NotIn] [.Call (.Name "range" p) [b] [] pos'] pos) (eTest (eInRng1 true ta tb)):=
 qciz (qlhz (op:=.NotIn) (qqfz (neg:=true) hg hm ha hb (qlz hs)) rfl) fun _ _ _ h=>qqgz (qdtz h)
end
end L3
namespace L3
open PySem PySem.Spec PyProof.Rows L2
open Sem (wp)
def Ik(k:Bool)(h:Heap)(jt a:Addr)(i:Nat):Prop:=match k with
 |true=>h.IsListIter jt a i
 |false=>h.IsTupleIter jt a i
def Sk(k:Bool)(h:Heap)(a:Addr)(xs:Array Value):Prop:=match k with
 |true=>h.IsList a xs
 |false=>h.IsTuple a xs
theorem Ik.of{k:Bool}{h h':Heap}{jt a:Addr}{i:Nat}(x:Ik k h jt a i)(f:∀o,h.get? jt=some o->h'.get? jt=some o):Ik k h' jt a i:=by
 cases k<;>(obtain⟨o,e,r⟩:=x;exact⟨o,f o e,r⟩)
theorem Sk.of{k:Bool}{h h':Heap}{a:Addr}{xs:Array Value}(x:Sk k h a xs)(f:∀o,h.get? a=some o->h'.get? a=some o):Sk k h' a xs:=by
 cases k<;>(obtain⟨o,e,r⟩:=x;exact⟨o,f o e,r⟩)
theorem Ik.obj{k:Bool}{h:Heap}{jt a:Addr}{i:Nat}(x:Ik k h jt a i):∃o,h.get? jt=some o/\∀v,o.data≠.cell v:=by
 cases k<;>(obtain⟨o,e,c,d⟩:=x;exact⟨o,e,fun v z=>by rw[d] at z;cases z⟩)
section
variable {P:Program} {w:World} {A:Around} {E:Value->Shared->Prop} {s:Shared}
theorem nextK{k:Bool}{jt a:Addr}{i:Nat}{xs:Array Value}{u:Value}{Q:Value->Shared->Prop}(hi:Ik k s.heap jt a i)(ha:Sk k s.heap a xs)(hx:xs[i]?=some u)
  (q:∀h',Ik k h' jt a (i+1)->Heap.SameBut jt s.heap h'->Q u { s with heap:=h' }):wpAny (model P w) A (Builtin.SmallTypes.nextOf (.ref jt)) Q E s:=by
 cases k with
 |true=>exact wpAny_nextOf_list_item hi ha hx q
 |false=>
  have hi:s.heap.IsTupleIter jt a i:=hi;obtain⟨o,e1,c1,d1⟩:=id hi;obtain⟨oa,e2,c2,n2,d2⟩:=(show s.heap.IsTuple a xs from ha);unfold Builtin.SmallTypes.nextOf;refine wpAny_bind (wpAny_callSpecial?_slot (name:=Str.ofString "__next__") hi.typeIs F.slot_tuple_iterator_next (wpAny_call_entry F.slot_tuple_iterator_next hi.typeIs F.entry_tuple_iterator_next ?_ (F.args_tuple_iterator_next_1 _)));show wpAny _ _ (field (.ref jt) 0 >>= _) _ _ s;refine wpAny_bind (wpAny_field e1 d1 (x:=.ref a) rfl ?_);show wpAny _ _ (if (Value.ref a==Value.none)=true then _ else _) _ _ s;rw[if_neg (show ¬((Value.ref a==Value.none)=true) from Bool.false_ne_true)];show wpAny _ _ (field (.ref jt) 1 >>= _) _ _ s;refine wpAny_bind (wpAny_field e1 d1 (x:=.int i 0) rfl ?_);show wpAny _ _ (seqItems? (.ref a) >>= _) _ _ s;refine wpAny_bind (wpAny_seqItems e2 d2 ?_);simp only[hx,Int.toNat_natCast];refine wpAny_bind (wpAny_setField e1 d1 (by simp) (wpAny_pure ⟨u,rfl,wpAny_pure (q _ ?_ (Heap.SameBut.update ..))⟩));exact⟨_,Heap.get?_update_self _ e1 (Obj.isFreed_of_fields (Obj.data_mapFields d1 _)),(Obj.cls_mapFields ..).trans c1,by rw[Obj.data_mapFields d1];simp[rawInt]⟩
theorem qd5z{k:Bool}{jt a:Addr}{i:Nat}{xs:Array Value}{Q:Value->Shared->Prop}(hh:A.handled=none)(hi:Ik k s.heap jt a i)(ha:Sk k s.heap a xs)(hx:xs[i]?=none)
  (q:∀h' e,Heap.ExtBut jt s.heap h'->(∃o,h'.get? e=some o/\o.cls=.type "StopIteration")->E (.ref e) { s with heap:=h' }):wpAny (model P w) A (Builtin.SmallTypes.nextOf (.ref jt)) Q E s:=by
 cases k with
 |true=>exact wpAny_nextOf_list_end hh hi ha hx q
 |false=>
  have hi:s.heap.IsTupleIter jt a i:=hi;obtain⟨o,e1,c1,d1⟩:=id hi;obtain⟨oa,e2,c2,n2,d2⟩:=(show s.heap.IsTuple a xs from ha);unfold Builtin.SmallTypes.nextOf;refine wpAny_bind (wpAny_callSpecial?_slot (name:=Str.ofString "__next__") hi.typeIs F.slot_tuple_iterator_next (wpAny_call_entry F.slot_tuple_iterator_next hi.typeIs F.entry_tuple_iterator_next ?_ (F.args_tuple_iterator_next_1 _)));show wpAny _ _ (field (.ref jt) 0 >>= _) _ _ s;refine wpAny_bind (wpAny_field e1 d1 (x:=.ref a) rfl ?_);show wpAny _ _ (if (Value.ref a==Value.none)=true then _ else _) _ _ s;rw[if_neg (show ¬((Value.ref a==Value.none)=true) from Bool.false_ne_true)];show wpAny _ _ (field (.ref jt) 1 >>= _) _ _ s;refine wpAny_bind (wpAny_field e1 d1 (x:=.int i 0) rfl ?_);show wpAny _ _ (seqItems? (.ref a) >>= _) _ _ s;refine wpAny_bind (wpAny_seqItems e2 d2 ?_);simp only[hx,Int.toNat_natCast];refine wpAny_bind (wpAny_rule (wpAny_bind (wpAny_setField e1 d1 (by simp) ?_)));show wpAny _ _ (newExc (.type "StopIteration") [] >>= _) _ _ ({ s with heap:=_ }:Shared);refine wpAny_bind ?_;simp only[newTuple,newExc];refine wpAny_bind (wpAny_newObj_type ?_ (by size_fits));refine wpAny_bind (m:=firstArgMember _ _) (wpAny_of_eq (a:=Value.none) (by first|(simp only[firstArgMember];rfl)|rfl) ?_)
  refine wpAny_newObj_type ?_ (by size_fits);simp only[raiseNew];refine wpAny_bind (wpAny_handled ?_)
  first|rw[hh]|rw[show A.in1.handled=none from hh]
  refine wpAny_bind (wpAny_pure (wpAny_throw ?_));exact q _ _ (((Heap.SameBut.update ..).extBut.push _).push _) ⟨_,Heap.get?_push_size _ rfl,rfl⟩
theorem zipK{k1 k2:Bool}{zz ti ot j1 j2 a1 a2:Addr}{m n:Nat}{xs ys:Array Value}{u v c d:Value}{Q:Value->Shared->Prop}(D:ZipApart zz ti ot j1 j2 a1 a2)
  (Z:IsZip s.heap zz ti ot .none) (Ti:IsPair s.heap ti (.ref j1) (.ref j2)) (To:IsPair s.heap ot c d) (g1:Ik k1 s.heap j1 a1 m) (g2:Ik k2 s.heap j2 a2 n) (s1:Sk k1 s.heap a1 xs) (s2:Sk k2 s.heap a2 ys) (hu:xs[m]?=some u) (hv:ys[n]?=some v)
  (q:∀h',IsZip h' zz ti ot (rawInt s.heap.objs.size)->IsPair h' ot u v->Ik k1 h' j1 a1 (m+1)->Ik k2 h' j2 a2 (n+1)->IsPair h' s.heap.objs.size u v ->
   (∀b o,b≠zz->b≠ot->b≠j1->b≠j2->s.heap.get? b=some o->h'.get? b=some o)->Q (.ref s.heap.objs.size) { s with heap:=h' }):
  wpAny (model P w) A (Builtin.«zip.__next__» ⟨[.ref zz],[]⟩) (fun fin s'=>∃r,fin=.done (.ret r)/\Q r s') E s:=by
 show wpAny _ _ (field (.ref zz) 2 >>= _) _ _ _;refine wpAny_bind (wpAny_field Z rfl (x:=.bool false) rfl ?_);show wpAny _ _ (field (.ref zz) 3 >>= _) _ _ _;refine wpAny_bind (wpAny_field Z rfl (x:=.ref ti) rfl ?_);refine wpAny_bind (wpAny_seqItems Ti rfl ?_);show wpAny _ _ (Builtin.SmallTypes.ownedTupleIsFree (.ref zz) >>= _) _ _ _;refine wpAny_bind ?_;unfold Builtin.SmallTypes.ownedTupleIsFree;refine wpAny_bind (wpAny_field Z rfl (x:=.none) rfl (wpAny_pure ?_));simp only[if_true];refine wpAny_bind (wpAny_rule ?_);refine wpAny_bind (wpAny_field Z rfl (x:=.ref ot) rfl ?_);refine wpAny_bind (wpAny_setField_rec Z (by simp) fun w1 Z1 b1=>?_)
 replace Z1:IsZip w1 zz ti ot .ellipsis:=Z1
 refine wpAny_bind ?_
 (simp only[List.zipIdx_nil,List.zipIdx_cons,List.forIn_nil,List.forIn_cons])
 have k1_:∀b o,b≠zz->s.heap.get? b=some o->w1.get? b=some o:=fun b o h e=>b1.extBut b o h e;refine wpAny_bind (wpAny_bind (wpAny_onRaise ?_));show wpAny _ _ (Builtin.SmallTypes.nextOf (.ref j1) >>= _) _ _ _;refine wpAny_bind (nextK (g1.of fun o e=>k1_ _ o D.i1z e) (s1.of fun o e=>k1_ _ o D.l1z e) hu fun w2 J1 b2=>wpAny_pure ?_);have k2_:∀b o,b≠zz->b≠j1->s.heap.get? b=some o->w2.get? b=some o:=fun b o h h2 e=>b2.extBut b o h2 (k1_ b o h e);have To2:IsPair w2 ot c d:=k2_ _ _ D.TOz D.TOi1 To;refine wpAny_bind (wpAny_seqItems To2 rfl ?_);refine wpAny_bind (wpAny_updateSeq_pair To2 fun w3 To3 b3=>?_)
 replace To3:IsPair w3 ot u d:=To3
 have k3_:∀b o,b≠zz->b≠j1->b≠ot->s.heap.get? b=some o->w3.get? b=some o:=fun b o h h2 h3 e=>b3.extBut b o h3 (k2_ b o h h2 e);refine wpAny_bind (wpAny_letGo (wpAny_pure ?_));refine wpAny_bind (wpAny_bind (wpAny_onRaise ?_));show wpAny _ _ (Builtin.SmallTypes.nextOf (.ref j2) >>= _) _ _ _;refine wpAny_bind (nextK (g2.of fun o e=>k3_ _ o D.i2z D.i12.symm D.TOi2.symm e) (s2.of fun o e=>k3_ _ o D.l2z D.l2i1 D.l2TO e) hv fun w4 J2 b4=>wpAny_pure ?_);have To4:IsPair w4 ot u d:=b4.extBut _ _ D.TOi2 To3;refine wpAny_bind (wpAny_seqItems To4 rfl ?_);refine wpAny_bind (wpAny_updateSeq_pair To4 fun w5 To5 b5=>?_)
 replace To5:IsPair w5 ot u v:=To5
 refine wpAny_bind (wpAny_letGo (wpAny_pure (wpAny_pure ?_)));refine wpAny_bind (wpAny_seqItems To5 rfl ?_);refine wpAny_bind (wpAny_newTuple ?_);have sz:w5.objs.size=s.heap.objs.size:=by rw[b5.1,b4.1,b3.1,b2.1,b1.1]
 have Z5:IsZip w5 zz ti ot .ellipsis:=b5.extBut _ _ D.TOz.symm (b4.extBut _ _ D.i2z.symm (b3.extBut _ _ D.TOz.symm (b2.extBut _ _ D.i1z.symm Z1)));have k5_:∀b o,b≠zz->b≠ot->b≠j1->b≠j2->s.heap.get? b=some o->w5.get? b=some o:=fun b o c1 c2 c3 c4 e=>b5.extBut _ _ c2 (b4.extBut _ _ c4 (k3_ b o c1 c3 c2 e));have L1:Ik k1 w5 j1 a1 (m+1):=J1.of fun o e=>b5.extBut _ _ D.TOi1.symm (b4.extBut _ _ D.i12 (b3.extBut _ _ D.TOi1.symm e));have L2:Ik k2 w5 j2 a2 (n+1):=J2.of fun o e=>b5.extBut _ _ D.TOi2.symm e;have lz:zz<w5.objs.size:=Heap.lt_size Z5;show wpAny _ _ (Builtin.SmallTypes.ownedTupleHandOut (.ref zz) (.ref w5.objs.size) >>= _) _ _ _;refine wpAny_bind ?_;unfold Builtin.SmallTypes.ownedTupleHandOut;have Z6:IsZip (w5.push { cls:=.type "tuple",data:=.seq #[u,v]}) zz ti ot .ellipsis:=Heap.get?_push_of_some _ Z5;refine wpAny_bind (wpAny_setField_rec Z6 (by simp) fun w7 Z7 b7=>?_)
 replace Z7:IsZip w7 zz ti ot (rawInt w5.objs.size):=Z7
 refine wpAny_setField_rec Z7 (by simp) fun w8 Z8 b8=>?_
 replace Z8:IsZip w8 zz ti ot (rawInt w5.objs.size):=Z8
 have up:∀b o,b≠zz->w5.get? b=some o->w8.get? b=some o:=fun b o c1 e=>b8.extBut _ _ c1 (b7.extBut _ _ c1 (Heap.get?_push_of_some _ e));have T8:IsPair w8 w5.objs.size u v:=b8.extBut _ _ (Nat.ne_of_gt lz) (b7.extBut _ _ (Nat.ne_of_gt lz) (Heap.get?_push_size _ rfl));rw[sz] at Z8 T8;refine wpAny_pure ⟨_,rfl,?_⟩;show Q (.ref w5.objs.size) _;rw[sz];exact q w8 Z8 (up _ _ D.TOz To5) (L1.of fun o e=>up _ o D.i1z e) (L2.of fun o e=>up _ o D.i2z e) T8 fun b o c1 c2 c3 c4 e=>up b o c1 (k5_ b o c1 c2 c3 c4 e)
theorem qh5z{k1 k2:Bool}{zz ti ot j1 j2 a1 a2:Addr}{m n:Nat}{xs ys:Array Value}{c d:Value}{Q:Fin->Shared->Prop}(hh:A.handled=none)(D:ZipApart zz ti ot j1 j2 a1 a2)
  (Z:IsZip s.heap zz ti ot .none) (Ti:IsPair s.heap ti (.ref j1) (.ref j2)) (To:IsPair s.heap ot c d) (g1:Ik k1 s.heap j1 a1 m) (g2:Ik k2 s.heap j2 a2 n) (s1:Sk k1 s.heap a1 xs) (s2:Sk k2 s.heap a2 ys) (he:xs[m]?=none∨ys[n]?=none)
  (q:∀h' e,(∀b o,b≠zz->b≠ot->b≠j1->b≠j2->s.heap.get? b=some o->h'.get? b=some o)->(∃o,h'.get? e=some o/\o.cls=.type "StopIteration")->E (.ref e) { s with heap:=h' }):
  wpAny (model P w) A (Builtin.«zip.__next__» ⟨[.ref zz],[]⟩) Q E s:=by
 show wpAny _ _ (field (.ref zz) 2 >>= _) _ _ _;refine wpAny_bind (wpAny_field Z rfl (x:=.bool false) rfl ?_);show wpAny _ _ (field (.ref zz) 3 >>= _) _ _ _;refine wpAny_bind (wpAny_field Z rfl (x:=.ref ti) rfl ?_);refine wpAny_bind (wpAny_seqItems Ti rfl ?_);show wpAny _ _ (Builtin.SmallTypes.ownedTupleIsFree (.ref zz) >>= _) _ _ _;refine wpAny_bind ?_;unfold Builtin.SmallTypes.ownedTupleIsFree;refine wpAny_bind (wpAny_field Z rfl (x:=.none) rfl (wpAny_pure ?_));simp only[if_true];refine wpAny_bind (wpAny_rule ?_);refine wpAny_bind (wpAny_field Z rfl (x:=.ref ot) rfl ?_);refine wpAny_bind (wpAny_setField_rec Z (by simp) fun w1 Z1 b1=>?_)
 replace Z1:IsZip w1 zz ti ot .ellipsis:=Z1
 refine wpAny_bind ?_
 (simp only[List.zipIdx_nil,List.zipIdx_cons,List.forIn_nil,List.forIn_cons])
 have k1_:∀b o,b≠zz->s.heap.get? b=some o->w1.get? b=some o:=fun b o h e=>b1.extBut b o h e;refine wpAny_bind (wpAny_bind (wpAny_onRaise ?_));show wpAny _ _ (Builtin.SmallTypes.nextOf (.ref j1) >>= _) _ _ _;cases hx:xs[m]? with
 |none=>
  refine wpAny_bind (qd5z hh (g1.of fun o e=>k1_ _ o D.i1z e) (s1.of fun o e=>k1_ _ o D.l1z e) hx fun w2 e b2 hs=>?_);obtain⟨oe,e1,e2⟩:=hs;have Z2:IsZip w2 zz ti ot .ellipsis:=b2 _ _ D.i1z.symm Z1;have ez:e≠zz:=fun x=>by
   subst x;rw[Z2] at e1;cases e1;simp at e2
  exact wpAny_setField_rec Z2 (by simp) fun w3 _ b3=>q w3 e (fun b o c1 _ c3 _ x=>b3.extBut _ _ c1 (b2 _ _ c3 (k1_ b o c1 x))) ⟨oe,b3.extBut _ _ ez e1,e2⟩
 |some u=>
  have hy:ys[n]?=none:=by
   rcases he with h|h
   ·rw[hx] at h;cases h
   ·exact h
  refine wpAny_bind (nextK (g1.of fun o e=>k1_ _ o D.i1z e) (s1.of fun o e=>k1_ _ o D.l1z e) hx fun w2 J1 b2=>wpAny_pure ?_);have k2_:∀b o,b≠zz->b≠j1->s.heap.get? b=some o->w2.get? b=some o:=fun b o h h2 e=>b2.extBut b o h2 (k1_ b o h e);have To2:IsPair w2 ot c d:=k2_ _ _ D.TOz D.TOi1 To;refine wpAny_bind (wpAny_seqItems To2 rfl ?_);refine wpAny_bind (wpAny_updateSeq_pair To2 fun w3 To3 b3=>?_);have k3_:∀b o,b≠zz->b≠j1->b≠ot->s.heap.get? b=some o->w3.get? b=some o:=fun b o h h2 h3 e=>b3.extBut b o h3 (k2_ b o h h2 e);refine wpAny_bind (wpAny_letGo (wpAny_pure ?_));refine wpAny_bind (wpAny_bind (wpAny_onRaise ?_));show wpAny _ _ (Builtin.SmallTypes.nextOf (.ref j2) >>= _) _ _ _;refine wpAny_bind (qd5z hh (g2.of fun o e=>k3_ _ o D.i2z D.i12.symm D.TOi2.symm e) (s2.of fun o e=>k3_ _ o D.l2z D.l2i1 D.l2TO e) hy fun w4 e b4 hs=>?_);obtain⟨oe,e1,e2⟩:=hs;have Z4:IsZip w4 zz ti ot .ellipsis:=b4 _ _ D.i2z.symm (b3.extBut _ _ D.TOz.symm (b2.extBut _ _ D.i1z.symm Z1));have ez:e≠zz:=fun x=>by
   subst x;rw[Z4] at e1;cases e1;simp at e2
  exact wpAny_setField_rec Z4 (by simp) fun w5 _ b5=>q w5 e (fun b o c1 c2 c3 c4 x=>b5.extBut _ _ c1 (b4 _ _ c4 (k3_ b o c1 c3 c2 x))) ⟨oe,b5.extBut _ _ ez e1,e2⟩
end
end L3
namespace L3
open PySem PySem.Spec PyProof.Rows L2
open Sem (wp)
section
variable {X:Cx} {pins:List (Addr×Obj)} {σ:L2.St} {H:Hp} {s:Shared}
theorem turnedL{h':Heap}{t':Nat}{fp:List Addr}(I:L2.Inv X pins σ H s)(k:∀b o,b∉fp->s.heap.get? b=some o->h'.get? b=some o)(hf:∀b∈fp,FpOk X pins H b):L2.Inv X pins σ H { s with heap:=h',toks:=t' }:=by
 have nit:∀b u,H b=some u->b∉fp:=fun b u e z=>by rw[(hf b z).1] at e;cases e
 refine I.step (g':=s.gens) (d':=s.drawn) (ch:=fp) (fun b hb=>?_) (fun b o _ _ hc e _=>k b o hc e) (fun b o _ _ hc e _=>⟨o.slots,k b o hc e⟩) (fun _ _ _ _ n=>n) (fun b o hc e=>⟨o,k b o hc e⟩) (fun _ _ e=>e) (fun _ _ _ e=>e) (fun b ps e=>⟨#[],by rw[e];simp⟩) (fun m hm=>?_) (fun b u e=>?_) I.bare
 ·obtain⟨f0,f1,f2,f3,f4,f5⟩:=hf b hb;exact⟨f3,f1,f4,f5⟩
 ·obtain⟨o,es,ep,ho,r⟩:=hm;exact⟨o,es,ep,k _ o (fun z=>(hf _ z).2.1 rfl) ho,r⟩
 ·refine (I.hok b u e).stay (fun c v hc q=>k c v ?_ q) (fun _ q=>q) fun _ _ q=>q;rcases hc with z|z
  ·rw[z];exact nit b u e
  ·exact nit c _ z
def SqK(K:PySem.W.Frag)(k:Bool)(H:Hp)(a:Addr)(xs:List V):Prop:=match k with
 |true=>SqL K H a xs
 |false=>SqT K H a xs
theorem SqK.heap{k:Bool}{a:Addr}{xs:List V}(I:L2.Inv X pins σ H s)(h:SqK X.K k H a xs):∃its,Vals xs its/\Sk k s.heap a its.toArray:=by
 cases k with
 |true=>
  obtain⟨its,rv,p,hz⟩:=I.list (show SqL X.K H a xs from h);exact⟨its,rv,p.isList⟩
 |false=>
  obtain⟨its,rv,p,hz⟩:=I.tuple (show SqT X.K H a xs from h);exact⟨its,rv,p⟩
theorem SqK.inj{k:Bool}{a:Addr}{xs ys:List V}(I:L2.Inv X pins σ H s)(h:SqK X.K k H a xs)(h':SqK X.K k H a ys):xs=ys:=by
 cases k with
 |true=>exact I.list_inj (show SqL X.K H a xs from h) (show SqL X.K H a ys from h')
 |false=>exact I.tuple_inj (show SqT X.K H a xs from h) (show SqT X.K H a ys from h')
theorem SqK.apart{k:Bool}{a b:Addr}{xs:List V}(I:L2.Inv X pins σ H s)(h:SqK X.K k H a xs)(f:FpOk X pins H b):a≠b:=by
 intro z;subst z;have hb:(∃u,H a=some u)∨∃o,X.K.lookup a=some o:=by
  cases k <;>
  ·rcases h with (h|⟨o,h⟩)|⟨o,_,_,h,_⟩
   ·exact .inl ⟨_,h⟩
   ·exact .inl ⟨_,h⟩
   ·exact .inr ⟨_,h⟩
 rcases hb with⟨u,e⟩|⟨o,e⟩
 ·rw[f.1] at e;cases e
 ·have e2:=I.mod.kin a o e;rcases f.2.2.2.1 with q|q
  ·exact I.ok.noex a o e2 q
  ·exact absurd (Nat.lt_of_lt_of_le (Heap.lt_size (I.ok.bs a o e2).1) q) (Nat.lt_irrefl _)
end
def Itz(K:PySem.W.Frag)(k1 k2:Bool)(a1 a2:Addr):It:=
 ⟨fun i H=>∃xs ys x y,(SqK K k1 H a1 xs/\xs[i]?=some x)/\SqK K k2 H a2 ys/\ys[i]?=some y,
  fun i H x H'=>∃T u v,x=.ref T/\H T=none/\H'=upd H T (.tup [u,v])/\(∀xs,SqK K k1 H a1 xs->xs[i]?=some u)/\∀ys,SqK K k2 H a2 ys->ys[i]?=some v,
  fun i H=>∃xs ys,SqK K k1 H a1 xs/\SqK K k2 H a2 ys/\(xs.length≤i∨ys.length≤i)⟩
theorem zap{zz ti ot j1 j2 a1 a2:Addr}(h:[zz,ti,ot,j1,j2].Nodup)(h1:∀b∈[zz,ti,ot,j1,j2],a1≠b)(h2:∀b∈[zz,ti,ot,j1,j2],a2≠b):ZipApart zz ti ot j1 j2 a1 a2:=by
 simp only[List.nodup_cons,List.mem_cons,not_or,List.not_mem_nil,not_false_eq_true,List.nodup_nil,and_true] at h;obtain⟨⟨n1,n2,n3,n4⟩,⟨n5,n6,n7⟩,⟨n8,n9⟩,n10⟩:=h;exact⟨Ne.symm n1,Ne.symm n2,Ne.symm n3,Ne.symm n4,n5,n6,n7,n8,n9,n10,h1 _ (by simp),h1 _ (by simp),h1 _ (by simp),h1 _ (by simp),h2 _ (by simp),h2 _ (by simp),h2 _ (by simp),h2 _ (by simp)⟩
theorem qqiz{P:Program}{w:World}{K:PySem.W.Frag}{es:List Expr}{n0:Nat}{ps:Pos}(k1 k2:Bool)(a1 a2 zz ti ot j1 j2:Addr)(hd:[zz,ti,ot,j1,j2].Nodup):
  Turn P w K (.Tuple es n0 ps) (Itz K k1 k2 a1 a2) [zz,ti,ot,j1,j2] zz (fun i h=>IsZip h zz ti ot .none/\IsPair h ti (.ref j1) (.ref j2)/\(∃c d,IsPair h ot c d)/\Ik k1 h j1 a1 i/\Ik k2 h j2 a2 i) where
 mem:=by simp
 obj:=fun i h st b hb=>by
  obtain⟨Z,Ti,⟨c,d,To⟩,g1,g2⟩:=st;simp only[List.mem_cons,List.not_mem_nil,or_false] at hb;rcases hb with rfl|rfl|rfl|rfl|rfl
  ·exact⟨_,Z,fun v z=>by cases (show Data.fields _=Data.cell v from z)⟩
  ·exact⟨_,Ti,fun v z=>by cases (show Data.seq _ _=Data.cell v from z)⟩
  ·exact⟨_,To,fun v z=>by cases (show Data.seq _ _=Data.cell v from z)⟩
  ·exact g1.obj
  ·exact g2.obj
 keep:=fun i h h' st k=>by
  obtain⟨Z,Ti,⟨c,d,To⟩,g1,g2⟩:=st;exact⟨k _ (by simp) _ Z,k _ (by simp) _ Ti,⟨c,d,k _ (by simp) _ To⟩,g1.of fun o e=>k _ (by simp) _ e,g2.of fun o e=>k _ (by simp) _ e⟩
 item:=by
  intro X hP hw hK hc i pins s σ H E I hf st hg;subst hP hw hK;obtain⟨Z,Ti,⟨c,d,To⟩,g1,g2⟩:=st;obtain⟨xs,ys,x,y,⟨q1,hx⟩,q2,hy⟩:=hg;obtain⟨its1,rv1,p1⟩:=q1.heap I;obtain⟨its2,rv2,p2⟩:=q2.heap I;obtain⟨u,hu,ru⟩:=rv1.get hx;obtain⟨v,hv,rv⟩:=rv2.get hy;have D:=zap hd (fun b hb=>q1.apart I (hf b hb)) (fun b hb=>q2.apart I (hf b hb));have hT:s.TypeIs (.ref zz) "zip":=⟨_,Z,rfl⟩;unfold pyNext;refine wpAny_bind (wpAny_attempt (wpAny_callSpecial?_slot (name:=Str.ofString "__next__") hT F.slot_zip_next (wpAny_call_entry F.slot_zip_next hT F.entry_zip_next (zipK D Z Ti To g1 g2 p1 p2 (u:=u) (v:=v) (by simpa using hu) (by simpa using hv) fun h' Z' To' g1' g2' T' kp=>?_) (F.args_zip_next_1 _))));refine wpAny_pure ⟨_,rfl,?_⟩;refine wpAny_letOwnedTupleGo_zip Z' fun h2 Z2 b2=>?_;have hn:H s.heap.objs.size=none:=I.hok.fresh (Nat.le_refl _);have I1:L2.Inv X pins σ (upd H s.heap.objs.size (.tup [x,y])) { s with heap:=s.heap.push { cls:=.type "tuple",data:=.seq #[u,v]}}:=I.laid (t':=s.toks) (fun b o e=>Heap.get?_push_of_some _ e) (Nat.le_refl _) ⟨by show 2≤sizeLine;decide,[u,v],.cons ru (.cons rv .nil),⟨_,Heap.get?_push_size _ rfl,rfl,_,rfl⟩⟩;have lt:∀b∈[zz,ti,ot,j1,j2],b<s.heap.objs.size:=fun b hb=>by
   simp only[List.mem_cons,List.not_mem_nil,or_false] at hb;rcases hb with rfl|rfl|rfl|rfl|rfl
   ·exact Heap.lt_size Z
   ·exact Heap.lt_size Ti
   ·exact Heap.lt_size To
   ·obtain⟨o,e,_⟩:=g1.obj;exact Heap.lt_size e
   ·obtain⟨o,e,_⟩:=g2.obj;exact Heap.lt_size e
  have hf':∀b∈[zz,ti,ot,j1,j2],FpOk X pins (upd H s.heap.objs.size (.tup [x,y])) b:=fun b hb=>⟨by rw[qiz (Nat.ne_of_lt (lt b hb))];exact (hf b hb).1,(hf b hb).2⟩;have I2:L2.Inv X pins σ (upd H s.heap.objs.size (.tup [x,y])) { s with heap:=h2 }:=turnedL (s:={ s with heap:=s.heap.push { cls:=.type "tuple",data:=.seq #[u,v]}}) (t':=s.toks) I1 (fun b o hb e=>by
   simp only[List.mem_cons,List.not_mem_nil,or_false,not_or] at hb;refine b2.extBut b o hb.1 ?_;rcases Heap.get?_push_cases e with⟨rfl,rfl⟩|e
   ·exact T'
   ·exact kp b o hb.1 hb.2.2.1 hb.2.2.2.1 hb.2.2.2.2 e) hf'
  refine⟨.ref s.heap.objs.size,_,I2,rfl,⟨_,x,y,rfl,hn,rfl,fun zs hz=>by rw[hz.inj I q1];exact hx,fun zs hz=>by rw[hz.inj I q2];exact hy⟩,⟨Z2,?_,⟨u,v,?_⟩,g1'.of fun o e=>b2.extBut _ _ D.i1z e,g2'.of fun o e=>b2.extBut _ _ D.i2z e⟩,fun b hb=>(hf' b hb).1⟩
  ·exact b2.extBut _ _ D.TIz (kp _ _ D.TIz D.TITO D.TIi1 D.TIi2 Ti)
  ·exact b2.extBut _ _ D.TOz To'
 done:=by
  intro X hP hw hK hc i pins s σ H E I hf st hg;subst hP hw hK;obtain⟨Z,Ti,⟨c,d,To⟩,g1,g2⟩:=st;obtain⟨xs,ys,q1,q2,hl⟩:=hg;obtain⟨its1,rv1,p1⟩:=q1.heap I;obtain⟨its2,rv2,p2⟩:=q2.heap I;have D:=zap hd (fun b hb=>q1.apart I (hf b hb)) (fun b hb=>q2.apart I (hf b hb));have hT:s.TypeIs (.ref zz) "zip":=⟨_,Z,rfl⟩;have l1:=rv1.length;have l2:=rv2.length;unfold pyNext;refine wpAny_bind (wpAny_attempt (wpAny_callSpecial?_slot (name:=Str.ofString "__next__") hT F.slot_zip_next (wpAny_call_entry F.slot_zip_next hT F.entry_zip_next (qh5z (I.ok.hd hc) D Z Ti To g1 g2 p1 p2 (by
   rcases hl with h|h
   ·exact .inl (by simp;lia)
   ·exact .inr (by simp;lia)) fun h' e kp hs=>?_) (F.args_zip_next_1 _))))
  obtain⟨o,ho,hcl⟩:=hs;refine wpAny_bind (wpAny_isInstance (T:="StopIteration") (b:=true) ⟨o,ho,hcl⟩ isSubtype_stop ?_);refine wpAny_pure ⟨rfl,turnedL (t':=s.toks) I (fun b o hb e=>?_) hf⟩;simp only[List.mem_cons,List.not_mem_nil,or_false,not_or] at hb;exact kp b o hb.1 hb.2.2.1 hb.2.2.2.1 hb.2.2.2.2 e
 self:=fun _ _ _ _ _ st h=>wpAny_pyIter_zip st.1 h
def itO(k:Bool)(a:Addr):Obj:=match k with
 |true=>{ cls:=.type "list_iterator",data:=.fields #[.ref a,.int 0 0]}
 |false=>{ cls:=.type "tuple_iterator",data:=.fields #[.ref a,.int 0 0]}
def zw1(k1:Bool)(h:Heap)(a1:Addr):Heap:=h.push (itO k1 a1)
def zw2(k1 k2:Bool)(h:Heap)(a1 a2:Addr):Heap:=(zw1 k1 h a1).push (itO k2 a2)
def zw3(k1 k2:Bool)(h:Heap)(a1 a2:Addr):Heap:=(zw2 k1 k2 h a1 a2).push { cls:=.type "tuple",data:=.seq #[.ref h.objs.size,.ref (zw1 k1 h a1).objs.size]}
def zw4(k1 k2:Bool)(h:Heap)(a1 a2:Addr):Heap:=(zw3 k1 k2 h a1 a2).push { cls:=.type "tuple",data:=.seq #[.none,.none]}
def zw5(k1 k2:Bool)(h:Heap)(a1 a2:Addr):Heap:=(zw4 k1 k2 h a1 a2).push { cls:=.type "zip",data:=.fields #[.none,.bool false,.bool false,.ref (zw2 k1 k2 h a1 a2).objs.size,.ref (zw3 k1 k2 h a1 a2).objs.size]}
theorem itK{k:Bool}{h:Heap}{jt a:Addr}(e:h.get? jt=some (itO k a)):Ik k h jt a 0:=by
 cases k<;>exact⟨_,e,rfl,rfl⟩
theorem qh6z{k:Bool}{a:Addr}:(itO k a).isFreed=false:=by cases k<;>rfl
theorem qqjz(k1 k2:Bool)(a1 a2:Addr)(xs ys:Array Value):Meets (Builtin.«zip.__new__» ⟨[.type "zip",.ref a1,.ref a2],[]⟩) (fun _ R s=>Sk k1 s.heap a1 xs/\Sk k2 s.heap a2 ys ∧
   R (.ok (.ret (.ref (zw4 k1 k2 s.heap a1 a2).objs.size))) { s with heap:=zw5 k1 k2 s.heap a1 a2 }):=
 .of_wp fun prog w A R s h=>by
  obtain⟨hp,g,d,tk,os⟩:=s;obtain⟨h1,h2,h⟩:=h;have hsub:=sub_zip;cases k1<;>cases k2
  ·have q1:Heap.IsTuple (Shared.heap ⟨hp,g,d,tk,os⟩) a1 xs:=h1;have q2:Heap.IsTuple (Shared.heap ⟨hp.push { cls:=.type "tuple_iterator",data:=.fields #[.ref a1,.int 0 0]},g,d,tk,os⟩) a2 ys:=Heap.IsTuple.push h2 _;wp_walk using wpAny_pyIter_tuple q1,wpAny_pyIter_tuple q2;exact⟨_,rfl,h⟩
  ·have q1:Heap.IsTuple (Shared.heap ⟨hp,g,d,tk,os⟩) a1 xs:=h1;have q2:Heap.IsList (Shared.heap ⟨hp.push { cls:=.type "tuple_iterator",data:=.fields #[.ref a1,.int 0 0]},g,d,tk,os⟩) a2 ys:=Heap.IsList.push h2 _;wp_walk using wpAny_pyIter_tuple q1,wpAny_pyIter_list q2;exact⟨_,rfl,h⟩
  ·have q1:Heap.IsList (Shared.heap ⟨hp,g,d,tk,os⟩) a1 xs:=h1;have q2:Heap.IsTuple (Shared.heap ⟨hp.push { cls:=.type "list_iterator",data:=.fields #[.ref a1,.int 0 0]},g,d,tk,os⟩) a2 ys:=Heap.IsTuple.push h2 _;wp_walk using wpAny_pyIter_list q1,wpAny_pyIter_tuple q2;exact⟨_,rfl,h⟩
  ·have q1:Heap.IsList (Shared.heap ⟨hp,g,d,tk,os⟩) a1 xs:=h1;have q2:Heap.IsList (Shared.heap ⟨hp.push { cls:=.type "list_iterator",data:=.fields #[.ref a1,.int 0 0]},g,d,tk,os⟩) a2 ys:=Heap.IsList.push h2 _;wp_walk using wpAny_pyIter_list q1,wpAny_pyIter_list q2;exact⟨_,rfl,h⟩
theorem qe6z{k1 k2:Bool}{h:Heap}{a1 a2:Addr}:IsZip (zw5 k1 k2 h a1 a2) (h.objs.size+4) (h.objs.size+2) (h.objs.size+3) .none/\IsPair (zw5 k1 k2 h a1 a2) (h.objs.size+2) (.ref h.objs.size) (.ref (h.objs.size+1))/\IsPair (zw5 k1 k2 h a1 a2) (h.objs.size+3) .none .none ∧
  Ik k1 (zw5 k1 k2 h a1 a2) h.objs.size a1 0/\Ik k2 (zw5 k1 k2 h a1 a2) (h.objs.size+1) a2 0/\(zw4 k1 k2 h a1 a2).objs.size=h.objs.size+4/\∀c o,h.get? c=some o->(zw5 k1 k2 h a1 a2).get? c=some o:=by
 have e1:(zw1 k1 h a1).objs.size=h.objs.size+1:=Heap.size_push ..;have e2:(zw2 k1 k2 h a1 a2).objs.size=h.objs.size+2:=(Heap.size_push ..).trans (by rw[e1]);have e3:(zw3 k1 k2 h a1 a2).objs.size=h.objs.size+3:=(Heap.size_push ..).trans (by rw[e2]);have e4:(zw4 k1 k2 h a1 a2).objs.size=h.objs.size+4:=(Heap.size_push ..).trans (by rw[e3]);have u5:∀c o,(zw4 k1 k2 h a1 a2).get? c=some o->(zw5 k1 k2 h a1 a2).get? c=some o:=fun c o e=>Heap.get?_push_of_some _ e;have u4:∀c o,(zw3 k1 k2 h a1 a2).get? c=some o->(zw5 k1 k2 h a1 a2).get? c=some o:=fun c o e=>u5 c o (Heap.get?_push_of_some _ e);have u3:∀c o,(zw2 k1 k2 h a1 a2).get? c=some o->(zw5 k1 k2 h a1 a2).get? c=some o:=fun c o e=>u4 c o (Heap.get?_push_of_some _ e);have u2:∀c o,(zw1 k1 h a1).get? c=some o->(zw5 k1 k2 h a1 a2).get? c=some o:=fun c o e=>u3 c o (Heap.get?_push_of_some _ e);have u1:∀c o,h.get? c=some o->(zw5 k1 k2 h a1 a2).get? c=some o:=fun c o e=>u2 c o (Heap.get?_push_of_some _ e);have g5:(zw5 k1 k2 h a1 a2).get? (zw4 k1 k2 h a1 a2).objs.size=some _:=Heap.get?_push_size _ rfl;have g4:(zw5 k1 k2 h a1 a2).get? (zw3 k1 k2 h a1 a2).objs.size=some _:=u5 _ _ (Heap.get?_push_size _ rfl);have g3:(zw5 k1 k2 h a1 a2).get? (zw2 k1 k2 h a1 a2).objs.size=some _:=u4 _ _ (Heap.get?_push_size _ rfl);have g2:(zw5 k1 k2 h a1 a2).get? (zw1 k1 h a1).objs.size=some (itO k2 a2):=u3 _ _ (Heap.get?_push_size _ qh6z);have g1:(zw5 k1 k2 h a1 a2).get? h.objs.size=some (itO k1 a1):=u2 _ _ (Heap.get?_push_size _ qh6z);rw[e2,e3,e4] at g5;rw[e1,e2] at g3;rw[e3] at g4;rw[e1] at g2;exact⟨g5,g3,g4,itK g1,itK g2,e4,u1⟩
theorem qh7z{P:Program}{w:World}{A:Around}{E:Value->Shared->Prop}{s:Shared}{k1 k2:Bool}{a1 a2:Addr}{xs ys:Array Value}{Q:Value->Shared->Prop}(h1:Sk k1 s.heap a1 xs)(h2:Sk k2 s.heap a2 ys)
  (q:Q (.ref (s.heap.objs.size+4)) { s with heap:=zw5 k1 k2 s.heap a1 a2 }):wpAny (model P w) A (call (.type "zip") [.ref a1,.ref a2]) Q E s:=by
 refine callType_new F.called_zip (by decide) (F.typeCall_zip_2 _ _) (F.newCall_zip_2 _ _) (fun obj=>F.args_object_init_3 obj _ _) F.entry_zip_new (qqjz k1 k2 a1 a2 xs ys) ⟨h1,h2,?_⟩;obtain⟨z1,_,_,_,_,z2,_⟩:=qe6z (k1:=k1) (k2:=k2) (h:=s.heap) (a1:=a1) (a2:=a2);show _/\_;rw[z2];exact⟨⟨_,z1,rfl⟩,q⟩
section
variable {X:Cx} {es:List Expr} {n0:Nat} {ps p pos:Pos}
def jZip(K:PySem.W.Frag)(ta:TA):TI:=fun σ H R=>ta σ H fun vs H1=>∃k1 k2 a1 a2,vs=[.ref a1,.ref a2]/\(∃xs,SqK K k1 H1 a1 xs)/\(∃ys,SqK K k2 H1 a2 ys)/\R (Itz K k1 k2 a1 a2) H1
theorem qqkz{a b:Expr}{ta:TA}(hg:Gl X "zip")(hm:X.mg "zip" = none)(ha:PA X [a,b] ta)(hs:starEach [a,b] X.env=[(false,eval a X.env),(false,eval b X.env)]:=by rfl)(hs2:starEach [b] X.env=[(false,eval b X.env)]:=by rfl):
  PI X (.Tuple es n0 ps) (.Call (.Name "zip" p) [a,b] [] pos) (jZip X.K ta):=by
 intro pins s σ H R I h;refine Call_ (qazz I hg hm boot_zip (PyProof.Rows.callWith_type1 (thn (ha pos pins s σ H _ I h) fun us s1 ⟨vs,H1,I1,r1,q1⟩=>?_) (by rw[hs,hs2]) (by rw[hs2];rfl)));obtain⟨k1,k2,a1,a2,e,⟨xs,q1⟩,⟨ys,q2⟩,q⟩:=q1;subst e;cases r1 with
 |cons r rr=>
  cases rr with
  |cons r' rr=>
   cases rr;cases r;cases r';obtain⟨its1,rv1,p1⟩:=q1.heap I1;obtain⟨its2,rv2,p2⟩:=q2.heap I1;refine qh7z p1 p2 ?_;obtain⟨z1,z2,z3,z4,z5,z6,z7⟩:=qe6z (k1:=k1) (k2:=k2) (h:=s1.heap) (a1:=a1) (a2:=a2);refine wpAny_pyIter_zip (s:={ s1 with heap:=zw5 k1 k2 s1.heap a1 a2 }) z1 ?_
   refine⟨s1.heap.objs.size+4,[s1.heap.objs.size+4,s1.heap.objs.size+2,s1.heap.objs.size+3,s1.heap.objs.size,s1.heap.objs.size+1],_,_,H1,rfl,I1.kept (t':=s1.toks) z7,qqiz k1 k2 a1 a2 _ _ _ _ _ (by simp),⟨z1,z2,⟨_,_,z3⟩,z4,z5⟩,fun b hb=>?_,q⟩;have hb:s1.heap.objs.size≤b:=by
    simp only[List.mem_cons,List.not_mem_nil,or_false] at hb;rcases hb with rfl|rfl|rfl|rfl|rfl
    ·exact Nat.le_add_right _ _
    ·exact Nat.le_add_right _ _
    ·exact Nat.le_add_right _ _
    ·exact Nat.le_refl _
    ·exact Nat.le_add_right _ _
   exact I1.fpOk hb (I1.hok.fresh hb)
def seqD(G:Gp):D->List D->Prop
 |.obj p,ds=>G p=some (.lst ds)
 |.tup es,ds=>ds=es
 |.scr es,ds=>ds=es
 |_,_=>False
def zipD(xs ys:List D):List D:=List.zipWith (fun x y=>.tup [x,y]) xs ys
def iZip(ta:TA3):TI3:=fun τ G R=>ta τ G fun ds G1=>match ds with
 |[x,y]=>∃xs ys,seqD G1 x xs/\seqD G1 y ys/\R ⟨zipD xs ys,fun G=>seqD G x xs/\seqD G y ys⟩ G1
 |_=>False
theorem qd6z{K:PySem.W.Frag}{H:Hp}{x:D}{v:V}(hv:Hv K H x v):∃k,∀H' G' xs,Ext H H'->RepG K G' H'->seqD G' x xs->∃a vs,v=.ref a/\SqK K k H' a vs/\Hvs K H' xs vs:=by
 cases x with
 |obj p=>
  unfold Hv at hv;subst hv;refine⟨true,fun H' G' xs E RG h=>?_⟩;obtain⟨vs,e2,e3⟩:=RG p _ h;exact⟨p,vs,rfl,SqL.of e2,e3⟩
 |tup es=>
  unfold Hv at hv;obtain⟨a,vs,rfl,e2,e3⟩:=hv;refine⟨false,fun H' G' xs E RG h=>?_⟩;cases (show xs=es from h);exact⟨a,vs,rfl,SqT.ext E e2,e3.ext E⟩
 |scr es=>
  unfold Hv at hv;obtain⟨a,vs,rfl,e2,e3⟩:=hv;refine⟨true,fun H' G' xs E RG h=>?_⟩;cases (show xs=es from h);exact⟨a,vs,rfl,(SqF.ext E e2).l,e3.ext E⟩
 |non=>exact⟨true,fun _ _ _ _ _ h=>h.elim⟩
 |bl _=>exact⟨true,fun _ _ _ _ _ h=>h.elim⟩
 |int _=>exact⟨true,fun _ _ _ _ _ h=>h.elim⟩
 |str _=>exact⟨true,fun _ _ _ _ _ h=>h.elim⟩
 |dc _=>exact⟨true,fun _ _ _ _ _ h=>h.elim⟩
theorem qqlz{xs ys:List D}{i:Nat}{d:D}(h:(zipD xs ys)[i]?=some d):∃x y,xs[i]?=some x/\ys[i]?=some y/\d=.tup [x,y]:=by
 unfold zipD at h;rw[List.getElem?_zipWith] at h;cases hx:xs[i]? with
 |none=>rw[hx] at h;cases h
 |some x=>
  cases hy:ys[i]? with
  |none=>rw[hx,hy] at h;cases h
  |some y=>
   rw[hx,hy] at h;cases h;exact⟨x,y,rfl,rfl,rfl⟩
theorem qqmz{a b:Expr}{ta:TA3}(hm:X.mg "zip" = none)(ha:PA3 X [a,b] ta)(hg:Gl X "zip":=by rfl)(hs:notStar a=true:=by rfl)(hs2:notStar b=true:=by rfl):
  PI3 X (.Tuple es n0 ps) (.Call (.Name "zip" p) [a,b] [] pos) (iZip ta):=
 qe1z (qqkz hg hm ha (by rw[qlz hs,qlz hs2];rfl) (qlz hs2)) fun σ H R ⟨τ,G,R3,RS,RG,h,k⟩=>⟨τ,G,_,RS,RG,h,fun vs H1 ds G1 h1 S1 R1 q1=>by
  rcases ds with _|⟨d,_|⟨d2,_|⟨d3,ds⟩⟩⟩
  ·exact q1.elim
  ·exact q1.elim
  ·obtain⟨xs,ys,s1,s2,q⟩:=q1;obtain⟨v,r,rfl,z1,z2⟩:=h1.inv;obtain⟨v',r',rfl,z3,z4⟩:=z2.inv;cases z4.inv0;obtain⟨k1,f1⟩:=qd6z z1;obtain⟨k2,f2⟩:=qd6z z3;obtain⟨a1,vs1,rfl,y1,w1⟩:=f1 _ _ _ (Ext.refl _) R1 s1;obtain⟨a2,vs2,rfl,y2,w2⟩:=f2 _ _ _ (Ext.refl _) R1 s2;refine⟨k1,k2,a1,a2,rfl,⟨_,y1⟩,⟨_,y2⟩,k _ _ _ _ ⟨?_,?_⟩ S1 R1 q⟩
   ·intro i d H' G' E' RG' hg hi;obtain⟨x,y,e1,e2,rfl⟩:=qqlz hi;obtain⟨b1,us1,c1,m1,n1⟩:=f1 _ _ _ E' RG' hg.1;obtain⟨b2,us2,c2,m2,n2⟩:=f2 _ _ _ E' RG' hg.2;cases c1;cases c2;obtain⟨u1,o1,o2⟩:=n1.get e1;obtain⟨u2,o3,o4⟩:=n2.get e2;refine⟨⟨_,_,_,_,⟨m1,o1⟩,m2,o3⟩,fun x' H'' hy=>?_⟩;obtain⟨T,u,v,rfl,hn,rfl,t1,t2⟩:=hy;have:=t1 _ m1;rw[o1] at this;cases this;have:=t2 _ m2;rw[o3] at this;cases this;refine⟨?_,.laid hn,RG'.laid hn⟩;unfold Hv;exact⟨T,_,rfl,.of qoz,.cons (o2.ext (.laid hn)) (.cons (o4.ext (.laid hn)) .nil)⟩
   ·intro i H' G' E' RG' hg hi;obtain⟨b1,us1,c1,m1,n1⟩:=f1 _ _ _ E' RG' hg.1;obtain⟨b2,us2,c2,m2,n2⟩:=f2 _ _ _ E' RG' hg.2;cases c1;cases c2;refine⟨_,_,m1,m2,?_⟩;have hi:(zipD xs ys).length≤i:=hi;unfold zipD at hi;rw[List.length_zipWith] at hi;rw[←n1.length,←n2.length];lia
  ·exact q1.elim⟩
end
end L3
namespace L3
open PySem PySem.Spec PyProof.Rows L2
open Sem (wp)
section
variable {X:Cx} {es:List Expr} {n0:Nat} {ps p pos:Pos}
def enumD(xs:List D):List D:=zipD (rngL 0 xs.length) xs
def iEnum(ta:TA3):TI3:=fun τ G R=>ta τ G fun ds G1=>match ds with
 |[x]=>∃xs,seqD G1 x xs/\R ⟨enumD xs,fun G=>seqD G x xs⟩ G1
 |_=>False
end
section
variable {X:Cx} {K:PySem.W.Frag}
def rIsB3:R3:=fun x y G Q=>match x,y with
 |.bl b,.bl c=>Q (.bl (b==c)) G
 |_,_=>False
theorem qh8z:OpR X (compareOp .IsNot) (fun x y H Q=>∃b c,x=.bl b/\y=.bl c/\Q (.bl (!(b==c))) H):=by
 intro pins s σ H x y v u Q I rx ry h;obtain⟨b,c,rfl,rfl,q⟩:=h;cases rx;cases ry;exact wpAny_pure (qeuz I q (by cases b<;>cases c<;>rfl))
def rIsnB3:R3:=fun x y G Q=>match x,y with
 |.bl b,.bl c=>Q (.bl (!(b==c))) G
 |_,_=>False
theorem qh9z:LowR K rIsnB3 (fun x y H Q=>∃b c,x=.bl b/\y=.bl c/\Q (.bl (!(b==c))) H):=fun x y vx vy G H Q3 Q hx hy RG h k=>by
 cases x with
 |bl b=>
  cases y with
  |bl c=>exact⟨b,c,qa0z hx,qa0z hy,k _ H _ G q6z (.refl H G) RG h⟩
  |_=>exact h.elim
 |_=>exact h.elim
end
end L3
namespace L3
open PySem PySem.Spec PyProof.Rows L2
section
variable {X:Cx} {tg:Expr} {p pos:Pos}
abbrev rIAdd3:R3:=rI3 fun i j=>.int (i+j)
theorem qqnz{K:PySem.W.Frag}:LowR K rIAdd3 (ipI fun i j=>i+j):=low_ints fun _ _ _=>q5z
end
end L3
namespace L3
open PySem PySem.Spec PyProof.Rows L2
structure QE(X:Cx)(e:Expr)(t:TE3):Prop where
 of:PE3 X e t
structure QT(X:Cx)(e:Expr)(t:TT3):Prop where
 of:PT3 X e t
structure QW(X:Cx)(e:Expr)(t:TT3):Prop where
 of:PW3 X e t
structure QA(X:Cx)(es:List Expr)(t:TA3):Prop where
 of:PA3 X es t
structure QS(X:Cx)(st:Stmt)(t:TS3):Prop where
 of:PS3 X st t
structure QSs(X:Cx)(st:List Stmt)(t:TS3):Prop where
 of:PSs3 X st t
structure QG(X:Cx)(tg:Expr)(t:TG3):Prop where
 of:PG3 X tg t
structure QGs(X:Cx)(tgs:List Expr)(t:TGs3):Prop where
 of:PGs3 X tgs t
structure QI(X:Cx)(tg iter:Expr)(t:TI3):Prop where
 of:PI3 X tg iter t
structure QO(X:Cx)(e:Option Expr)(t:TO3):Prop where
 of:PO3 X e t
structure QC(X:Cx)(ifs:List Expr)(t:TT3):Prop where
 of:PCt X ifs (lowT X.K t)
section
variable {X:Cx} {a b e c:Expr} {ta tb te:TE3} {tA tB:TT3} {pos:Pos} {es rest:List Expr}
theorem qaz{i:Nat}{x:Str}(h:PE X (.Name x pos) (tVar i)):QE X (.Name x pos) (eVar i):=⟨qntz (h:=h)⟩
end
section
variable {X:Cx} {a b e c:Expr} {ta tb te:TE3} {tA tB:TT3} {pos:Pos} {es rest:List Expr}
theorem qdz{i:Int}{j}:QE X (.Constant (.int i) j pos) (eC (.int i)):=⟨qnuz ⟩
end
section
variable {X:Cx} {a b e c:Expr} {ta tb te:TE3} {tA tB:TT3} {pos:Pos} {es rest:List Expr}
theorem q8z{i:Bool}{j}:QE X (.Constant (.bool i) j pos) (eC (.bl i)):=⟨e_bl ⟩
end
section
variable {X:Cx} {a b e c:Expr} {ta tb te:TE3} {tA tB:TT3} {pos:Pos} {es rest:List Expr}
theorem qb2z{j}:QE X (.Constant .none j pos) (eC .non):=⟨qnvz ⟩
end
section
variable {X:Cx} {a b e c:Expr} {ta tb te:TE3} {tA tB:TT3} {pos:Pos} {es rest:List Expr}
theorem qaez{x:Str}{j}:QE X (.Constant (.str x) j pos) (eC (.str x)):=⟨qnwz ⟩
end
section
variable {X:Cx} {a b e c:Expr} {ta tb te:TE3} {tA tB:TT3} {pos:Pos} {es rest:List Expr}
theorem qcoz{x:Str}{i:Int}{u:Tok}(hm:X.mg x=some (.int i u))(hg:Gl X x:=by rfl)(hd:(x==("__debug__":Str))=false:=by decide):QE X (.Name x pos) (eC (.int i)):=⟨qnxz (hm:=hm) (hg:=hg) (hd:=hd)⟩
end
section
variable {X:Cx} {a b e c:Expr} {ta tb te:TE3} {tA tB:TT3} {pos:Pos} {es rest:List Expr}
theorem qhz{op:Operator}{r:R3}{r2:R2}(L:LowR X.K r r2)(ho:OpR X (binaryOp op) r2)(ha:QE X a ta)(hb:QE X b tb):QE X (.BinOp a op b pos) (eOp r ta tb):=⟨e_op (L:=L) (ho:=ho) (ha:=ha.of) (hb:=hb.of)⟩
end
section
variable {X:Cx} {a b e c:Expr} {ta tb te:TE3} {tA tB:TT3} {pos:Pos} {es rest:List Expr}
theorem qcpz{op:CmpOp}{r:R3}{r2:R2}(L:LowR X.K r r2)(ho:OpR X (compareOp op) r2)(ha:QE X a ta)(hb:QE X b tb)(hm:behindInMarks op b=false):QE X (.Compare a [op] [b] pos) (eOp r ta tb):=⟨qnyz (L:=L) (ho:=ho) (ha:=ha.of) (hb:=hb.of) (hm:=hm)⟩
end
section
variable {X:Cx} {a b e c:Expr} {ta tb te:TE3} {tA tB:TT3} {pos:Pos} {es rest:List Expr}
theorem qqz{op:CmpOp}{r:R3}{r2:R2}(L:LowR X.K r r2)(ho:OpR X (compareOp op) r2)(ha:QE X a ta)(hb:QE X b tb)(hm:behindInMarks op b=false):QT X (.Compare a [op] [b] pos) (eTest (eOp r ta tb)):=⟨qnzz (L:=L) (ho:=ho) (ha:=ha.of) (hb:=hb.of) (hm:=hm)⟩
end
section
variable {X:Cx} {a b e c:Expr} {ta tb te:TE3} {tA tB:TT3} {pos:Pos} {es rest:List Expr}
theorem qanz(h:QE X a ta)(he:∀whole,isTrue a X.env whole=(do let v ←whole;standAt a.pos;holding [v] (truthy v)):=by intro _;rfl):QT X a (eTest ta):=⟨qn0z (h:=h.of) (he:=he)⟩
end
section
variable {X:Cx} {a b e c:Expr} {ta tb te:TE3} {tA tB:TT3} {pos:Pos} {es rest:List Expr}
theorem qqoz(ha:QE X a ta):QE X (.UnaryOp .USub a pos) (eUn rNeg3 ta):=⟨qn3z (ha:=ha.of)⟩
end
section
variable {X:Cx} {a b e c:Expr} {ta tb te:TE3} {tA tB:TT3} {pos:Pos} {es rest:List Expr}
theorem qqpz(ha:QT X a tA):QW X (.BoolOp .And [a] pos) tA:=⟨qn4z (ha:=ha.of)⟩
end
section
variable {X:Cx} {a b e c:Expr} {ta tb te:TE3} {tA tB:TT3} {pos:Pos} {es rest:List Expr}
theorem qbqz(ha:QT X a tA):QW X (.BoolOp .Or [a] pos) tA:=⟨qn5z (ha:=ha.of)⟩
end
section
variable {X:Cx} {a b e c:Expr} {ta tb te:TE3} {tA tB:TT3} {pos:Pos} {es rest:List Expr}
theorem qqqz(ha:QT X a tA)(hb:QW X (.BoolOp .And (b::rest) pos) tB):QW X (.BoolOp .And (a::b::rest) pos) (eAnd tA tB):=⟨qn6z (ha:=ha.of) (hb:=hb.of)⟩
end
section
variable {X:Cx} {a b e c:Expr} {ta tb te:TE3} {tA tB:TT3} {pos:Pos} {es rest:List Expr}
theorem qasz(ha:QT X a tA)(hb:QW X (.BoolOp .Or (b::rest) pos) tB):QW X (.BoolOp .Or (a::b::rest) pos) (eOr tA tB):=⟨qn7z (ha:=ha.of) (hb:=hb.of)⟩
end
section
variable {X:Cx} {a b e c:Expr} {ta tb te:TE3} {tA tB:TT3} {pos:Pos} {es rest:List Expr}
theorem qbdz(h:QW X a tA):QT X a tA:=⟨tt_w (h:=h.of)⟩
end
section
variable {X:Cx} {a b e c:Expr} {ta tb te:TE3} {tA tB:TT3} {pos:Pos} {es rest:List Expr}
theorem qaoz(ha:QT X a tA):QT X (.UnaryOp .Not a pos) (eNot tA):=⟨qn8z (ha:=ha.of)⟩
end
section
variable {X:Cx} {a b e c:Expr} {ta tb te:TE3} {tA tB:TT3} {pos:Pos} {es rest:List Expr}
theorem qcqz{op}(h:QE X a ta):QE X (.BoolOp op [a] pos) ta:=⟨qn9z (h:=h.of)⟩
end
section
variable {X:Cx} {a b e c:Expr} {ta tb te:TE3} {tA tB:TT3} {pos:Pos} {es rest:List Expr}
theorem qcrz(ha:QE X a ta)(hb:QE X (.BoolOp .And (b::rest) pos) tb):QE X (.BoolOp .And (a::b::rest) pos) (eAndV ta tb):=⟨qoaz (ha:=ha.of) (hb:=hb.of)⟩
end
section
variable {X:Cx} {a b e c:Expr} {ta tb te:TE3} {tA tB:TT3} {pos:Pos} {es rest:List Expr}
theorem qiaz(ha:QE X a ta):QE X (.UnaryOp .Not a pos) (eNotV ta):=⟨qobz (ha:=ha.of)⟩
end
section
variable {X:Cx} {a b e c:Expr} {ta tb te:TE3} {tA tB:TT3} {pos:Pos} {es rest:List Expr}
theorem qcz  : QA X [] aNil:=⟨qocz ⟩
end
section
variable {X:Cx} {a b e c:Expr} {ta tb te:TE3} {tA tB:TT3} {pos:Pos} {es rest:List Expr}
theorem qbz{tr:TA3}(ha:QE X a ta)(hr:QA X es tr)(hs:notStar a=true:=by rfl):QA X (a::es) (aCons ta tr):=⟨qodz (ha:=ha.of) (hr:=hr.of) (hs:=hs)⟩
end
section
variable {X:Cx} {a b e c:Expr} {ta tb te:TE3} {tA tB:TT3} {pos:Pos} {es rest:List Expr}
theorem q3z{t:TA3}{x1}(h:QA X es t):QE X (.Tuple es x1 pos) (eTup t):=⟨qoez (h:=h.of)⟩
end
section
variable {X:Cx} {a b e c:Expr} {ta tb te:TE3} {tA tB:TT3} {pos:Pos} {es rest:List Expr}
theorem q4z{t:TA3}(h:QA X es t):QE X (.List es pos) (eLst t):=⟨qofz (h:=h.of)⟩
end
section
variable {X:Cx} {st:Stmt} {rest:List Stmt} {t u:TS3} {e c:Expr} {te:TE3} {tc:TT3} {pos:Pos}
theorem q0z  : QSs X [] sNext:=⟨qolz ⟩
end
section
variable {X:Cx} {st:Stmt} {rest:List Stmt} {t u:TS3} {e c:Expr} {te:TE3} {tc:TT3} {pos:Pos}
theorem qfz(h1:QS X st t)(h2:QSs X rest u):QSs X (st::rest) (sSeq t u):=⟨qomz (h1:=h1.of) (h2:=h2.of)⟩
end
section
variable {X:Cx} {st:Stmt} {rest:List Stmt} {t u:TS3} {e c:Expr} {te:TE3} {tc:TT3} {pos:Pos}
theorem qez(h1:QS X st t):QSs X [st] t:=⟨qonz (h1:=h1.of)⟩
end
section
variable {X:Cx} {st:Stmt} {rest:List Stmt} {t u:TS3} {e c:Expr} {te:TE3} {tc:TT3} {pos:Pos}
theorem qcsz(he:QE X e te)(hs:swapsWith e none pos.line X.env=pure false:=by rfl):QS X (.Expr e pos) (sDrop te):=⟨qooz (he:=he.of) (hs:=hs)⟩
end
section
variable {X:Cx} {st:Stmt} {rest:List Stmt} {t u:TS3} {e c:Expr} {te:TE3} {tc:TT3} {pos:Pos}
theorem qjz(he:QE X e te):QS X (.Return (some e) pos) (sRet te):=⟨qopz (he:=he.of)⟩
end
section
variable {X:Cx} {st:Stmt} {rest:List Stmt} {t u:TS3} {e c:Expr} {te:TE3} {tc:TT3} {pos:Pos}
theorem q1z{a b:List Stmt}(hc:QT X c tc)(ha:QSs X a t)(hb:QSs X b u):QS X (.If c a b pos) (sIf tc t u):=⟨s_if (hc:=hc.of) (ha:=ha.of) (hb:=hb.of)⟩
end
section
variable {X:Cx} {st:Stmt} {rest:List Stmt} {t u:TS3} {e c:Expr} {te:TE3} {tc:TT3} {pos:Pos}
theorem qqrz  : QS X st sNever:=⟨qoqz ⟩
end
section
variable {X:Cx} {pos:Pos} {e:Expr} {es:List Expr}
theorem qmz{i:Nat}{x:Str}(hN:X.N.Nodup)(hi:X.N[i]?=some x:=by rfl)(hx:Loc X.env.scope x:=by first|exact Or.inl rfl|exact Or.inr rfl)(hf:X.fn x=true∨X.env.scope.names.lookup x=some .local:=by first|exact .inl rfl|exact .inr rfl|assumption):QG X (.Name x pos) (hName i):=⟨qorz (hN:=hN) (hi:=hi) (hx:=hx) (hf:=hf)⟩
end
section
variable {X:Cx} {pos:Pos} {e:Expr} {es:List Expr}
theorem qb3z  : QGs X [] hNil:=⟨qosz ⟩
end
section
variable {X:Cx} {pos:Pos} {e:Expr} {es:List Expr}
theorem qaiz{t:TG3}{u:TGs3}(h1:QG X e t)(h2:QGs X es u)(hs:(assignEach (e::es) X.env).map (·.2)=assign e X.env::(assignEach es X.env).map (·.2):=by rfl):QGs X (e::es) (hCons t u):=⟨qotz (h1:=h1.of) (h2:=h2.of) (hs:=hs)⟩
end
section
variable {X:Cx} {pos:Pos} {e:Expr} {es:List Expr}
theorem qctz{k:Nat}{t:TGs3}{n:Nat}(hc:X.calm=true)(h:QGs X es t)(hn:(assignEach es X.env).length=n:=by rfl)(hst:(assignEach es X.env).findIdx? (·.1)=none:=by rfl):QG X (.Tuple es k pos) (hTup n t):=⟨qouz (hc:=hc) (h:=h.of) (hn:=hn) (hst:=hst)⟩
end
section
variable {X:Cx} {pos:Pos} {e:Expr} {es:List Expr}
theorem qd7z{tg:Expr}{te:TE3}{g:TG3}(he:QE X e te)(hg:QG X tg g)(hs:swapsWithSole [tg] e pos.line X.env=pure false:=by rfl)(hw:swappedStores [tg] e X.env=pure none:=by rfl)(h1:(assignEach [tg] X.env).map (·.2)=[assign tg X.env]:=by rfl):QS X (.Assign [tg] e pos) (sAsg te g):=⟨qovz (he:=he.of) (hg:=hg.of) (hs:=hs) (hw:=hw) (h1:=h1)⟩
end
section
variable {X:Cx} {pos:Pos} {e:Expr} {es:List Expr}
theorem qnz{i:Nat}{x:Str}{te:TE3}{pos':Pos}(hN:X.N.Nodup)(he:QE X e te)(hi:X.N[i]?=some x:=by rfl)(hx:Loc X.env.scope x:=by first|exact Or.inl rfl|exact Or.inr rfl)(hs:swapsWith e (some (.Name x pos')) pos.line X.env=pure false:=by rfl)(hf:X.fn x=true∨X.env.scope.names.lookup x=some .local:=by first|exact .inl rfl|exact .inr rfl|assumption):QS X (.Assign [.Name x pos'] e pos) (sAsg te (hName i)):=⟨qowz (hN:=hN) (he:=he.of) (hi:=hi) (hx:=hx) (hs:=hs) (hf:=hf)⟩
end
section
variable {X:Cx} {pos:Pos} {e:Expr} {es:List Expr}
theorem qqsz{i:Nat}{x:Str}{te:TE3}{op:Operator}{r:R3}{r2:TIp}{pos':Pos}(L:LowR X.K r r2)(hN:X.N.Nodup)(he:QE X e te)(ho:PIp X op r2)(hi:X.N[i]?=some x:=by rfl)(hx:Loc X.env.scope x:=by first|exact Or.inl rfl|exact Or.inr rfl)(hf:X.fn x=true∨X.env.scope.names.lookup x=some .local:=by first|exact .inl rfl|exact .inr rfl|assumption):QS X (.AugAssign (.Name x pos') op e pos) (sAug i te r):=⟨qoxz (L:=L) (hN:=hN) (he:=he.of) (ho:=ho) (hi:=hi) (hx:=hx) (hf:=hf)⟩
end
section
variable {X:Cx} {pos:Pos} {e:Expr} {es:List Expr}
theorem qibz{o i:Expr}{to ti:TE3}(ho:QE X o to)(hi:QE X i ti) (ha:∀v,assign (.Subscript o i pos) X.env v=(do
   let ov ←holding [v] (eval o X.env)
   let iv ←holding [v,ov] (eval i X.env)
   standAt pos
   holding [v,ov,iv] (setItem ov iv v)
   release [v,ov,iv] []):=by intro _;rfl):QG X (.Subscript o i pos) (hSub to ti):=⟨qozz (ho:=ho.of) (hi:=hi.of) (ha:=ha)⟩
end
section
variable {X:Cx} {pos:Pos} {e:Expr} {es:List Expr}
theorem qe7z{c:Expr}{body:List Stmt}{tc:TT3}{tb:TS3}(hp:PassesOwn (model X.prog X.w) X.A X.env X.xe)(hc:QT X c tc)(hb:QSs X body tb):QS X (.While c body [] pos) (sWhile tc tb):=⟨qo0z (hp:=hp) (hc:=hc.of) (hb:=hb.of)⟩
end
section
variable {X:Cx} {k:Nat} {f:Addr} {fd:FuncData} {ps:List Str} {sp:Sp3} {x:Str} {p pos:Pos} {e:Expr} {es:List Expr} {t:TA3}
theorem qkz(F:FnOk3 X.prog X.w X.K X.mg X.base k f fd ps sp)(hr:Room k X.A)(hm:X.mg x=some (.ref f))(hk:PySem.W.keepIn X.K (.ref f)=true)(hb:Binds X.K fd ps [])(ha:QA X (e::es) t)(hg:Gl X x:=by rfl)(hdb:(x==("__debug__":Str))=false:=by decide)(he:notStar e=true:=by rfl)(hpl:es.all notStar=true:=by rfl):QE X (.Call (.Name x p) (e::es) [] pos) (eCall sp t):=⟨qo1z (F:=F) (hr:=hr) (hm:=hm) (hk:=hk) (hb:=hb) (ha:=ha.of) (hg:=hg) (hdb:=hdb) (he:=he) (hpl:=hpl)⟩
end
section
variable {X:Cx} {tg iter:Expr} {pos p:Pos}
theorem qajz{l:Expr}{te:TE3}(hl:QE X l te):QI X tg l (iSeq te):=⟨qo2z (hl:=hl.of)⟩
end
section
variable {X:Cx} {tg iter:Expr} {pos p:Pos}
theorem qb4z{a:Expr}{ta:TA3}(hm:X.mg "range" = none)(ha:QA X [a] ta)(hg:Gl X "range":=by rfl)(hs:notStar a=true:=by rfl):QI X tg (.Call (.Name "range" p) [a] [] pos) (iRng1 ta):=⟨qo4z (hm:=hm) (ha:=ha.of) (hg:=hg) (hs:=hs)⟩
end
section
variable {X:Cx} {tg iter:Expr} {pos p:Pos}
theorem qqtz{a b:Expr}{ta:TA3}(hm:X.mg "range" = none)(ha:QA X [a,b] ta)(hg:Gl X "range":=by rfl)(hs:notStar a=true:=by rfl)(hs2:notStar b=true:=by rfl):QI X tg (.Call (.Name "range" p) [a,b] [] pos) (iRng2 ta):=⟨qo5z (hm:=hm) (ha:=ha.of) (hg:=hg) (hs:=hs) (hs2:=hs2)⟩
end
section
variable {X:Cx} {tg iter:Expr} {pos p:Pos}
theorem qbez{body:List Stmt}{ti:TI3}{g:TG3}{tb:TS3}(hp:PassesOwn (model X.prog X.w) X.A X.env X.xe)(hc:X.calm=true)(hi:QI X tg iter ti)(hg:QG X tg g)(hb:QSs X body tb)(hs:∀x,foldedSetIterable iter X.env x=pure x:=by intro _;rfl):QS X (.For tg iter body [] pos) (sFor ti g tb):=⟨qo6z (hp:=hp) (hc:=hc) (hi:=hi.of) (hg:=hg.of) (hb:=hb.of) (hs:=hs)⟩
end
section
variable {X:Cx} {tg iter:Expr} {pos p:Pos}
theorem qa5z  : QC X [] (tNoTest3):=⟨qo7z ⟩
end
section
variable {X:Cx} {tg iter:Expr} {pos p:Pos}
theorem qcuz{c:Expr}{t:TT3}(h:QT X c t):QC X [c] (t):=⟨qo8z (h:=h.of)⟩
end
section
variable {X:Cx} {K:PySem.W.Frag}
theorem qwz{a b:Expr}{ta tb:TE3}{pos:Pos}(ha:QE X a ta)(hb:QE X b tb)(hs:PlainIx b:=by intro _ _;rfl):QE X (.Subscript a b pos) (eOp rIx3 ta tb):=⟨e_ix (ha:=ha.of) (hb:=hb.of) (hs:=hs)⟩
end
section
variable {X:Cx} {K:PySem.W.Frag}
theorem qe8z{es:List Expr}{b:Expr}{ta:TA3}{tb:TE3}{pos pos':Pos}(ha:QA X es ta)(hb:QE X b tb)(hs:PlainIx b:=by intro _ _;rfl):QE X (.Subscript (.List es pos') b pos) (eLstIx ta tb):=⟨qpgz (ha:=ha.of) (hb:=hb.of) (hs:=hs)⟩
end
section
variable {X:Cx} {a b e:Expr} {ta tb:TE3} {pos:Pos}
theorem qb5z  : QO X none oNone:=⟨qphz ⟩
end
section
variable {X:Cx} {a b e:Expr} {ta tb:TE3} {pos:Pos}
theorem qbfz(h:QE X e ta):QO X (some e) (oSome ta):=⟨qpiz (h:=h.of)⟩
end
section
variable {X:Cx} {a b e:Expr} {ta tb:TE3} {pos:Pos}
theorem qbrz{lo hi:Option Expr}{tl th:TO3}{p2:Pos}(ha:QE X a ta)(hl:QO X lo tl)(hh:QO X hi th):QE X (.Subscript a (.Slice lo hi none p2) pos) (eSl ta tl th):=⟨e_sl (ha:=ha.of) (hl:=hl.of) (hh:=hh.of)⟩
end
section
variable {X:Cx} {K:PySem.W.Frag} {e:Expr} {es:List Expr} {t:TA3} {ta:TE3} {pos p:Pos}
theorem q9z(hu:X.A.units+64<cLine)(hm:X.mg "len" = none)(ha:QA X (e::es) t)(hg:Gl X "len":=by rfl)(he:notStar e=true:=by rfl)(hpl:es.all notStar=true:=by rfl):QE X (.Call (.Name "len" p) (e::es) [] pos) (eCB qyz t):=⟨qpmz (hu:=hu) (hm:=hm) (ha:=ha.of) (hg:=hg) (he:=he) (hpl:=hpl)⟩
end
section
variable {X:Cx} {K:PySem.W.Frag} {e:Expr} {es:List Expr} {t:TA3} {ta:TE3} {pos p:Pos}
theorem qquz(hu:X.A.units+64<cLine)(hm:X.mg "int" = none)(ha:QA X (e::es) t)(hg:Gl X "int":=by rfl)(he:notStar e=true:=by rfl)(hpl:es.all notStar=true:=by rfl):QE X (.Call (.Name "int" p) (e::es) [] pos) (eCB qd2z t):=⟨qpoz (hu:=hu) (hm:=hm) (ha:=ha.of) (hg:=hg) (he:=he) (hpl:=hpl)⟩
end
section
variable {X:Cx} {K:PySem.W.Frag} {e:Expr} {es:List Expr} {t:TA3} {ta:TE3} {pos p:Pos}
theorem qqvz(hu:X.A.units+64<cLine)(hm:X.mg "max" = none)(ha:QA X (e::es) t)(hc:X.calm=true:=by rfl)(hg:Gl X "max":=by rfl)(he:notStar e=true:=by rfl)(hpl:es.all notStar=true:=by rfl):QE X (.Call (.Name "max" p) (e::es) [] pos) (eCB qe4z t):=⟨qpqz (hu:=hu) (hm:=hm) (ha:=ha.of) (hc:=hc) (hg:=hg) (he:=he) (hpl:=hpl)⟩
end
section
variable {X:Cx} {K:PySem.W.Frag} {e:Expr} {es:List Expr} {t:TA3} {ta:TE3} {pos p:Pos}
theorem qe9z(hu:X.A.units+64<cLine)(hm:X.mg "tuple" = none)(ha:QA X (e::es) t)(hg:Gl X "tuple":=by rfl)(he:notStar e=true:=by rfl)(hpl:es.all notStar=true:=by rfl):QE X (.Call (.Name "tuple" p) (e::es) [] pos) (eCB qboz t):=⟨qpsz (hu:=hu) (hm:=hm) (ha:=ha.of) (hg:=hg) (he:=he) (hpl:=hpl)⟩
end
section
variable {X:Cx} {K:PySem.W.Frag} {e:Expr} {es:List Expr} {t:TA3} {ta:TE3} {pos p:Pos}
theorem qqwz(hu:X.A.units+64<cLine)(hm:X.mg "list" = none)(ha:QA X (e::es) t)(hg:Gl X "list":=by rfl)(he:notStar e=true:=by rfl)(hpl:es.all notStar=true:=by rfl):QE X (.Call (.Name "list" p) (e::es) [] pos) (eCB qd3z t):=⟨qpuz (hu:=hu) (hm:=hm) (ha:=ha.of) (hg:=hg) (he:=he) (hpl:=hpl)⟩
end
section
variable {X:Cx} {K:PySem.W.Frag} {e:Expr} {es:List Expr} {t:TA3} {ta:TE3} {pos p:Pos}
theorem qqxz  : QE X (.Dict [] [] pos) eDct:=⟨qpxz ⟩
end
section
variable {X:Cx} {a e:Expr} {es:List Expr} {ta:TE3} {t:TA3} {pos p p2:Pos}
theorem qbgz{T:String}{TS:Str}(k:Kit T)(hv:bootBuiltins TS=some (.type T))(ha:QE X a ta)(hm:X.mg "isinstance" = none)(hm2:X.mg TS=none)(hgT:Gl X TS)(hnT:TS≠"__name__")(hdT:(TS==("__debug__":Str))=false)(hg:Gl X "isinstance":=by rfl)(he:notStar a=true:=by rfl):QE X (.Call (.Name "isinstance" p) [a,.Name TS p2] [] pos) (eInst T ta):=⟨qp0z (k:=k) (hv:=hv) (ha:=ha.of) (hm:=hm) (hm2:=hm2) (hgT:=hgT) (hnT:=hnT) (hdT:=hdT) (hg:=hg) (he:=he)⟩
end
section
variable {X:Cx} {K:PySem.W.Frag} {e:Expr} {es:List Expr} {t:TA3} {ta:TE3} {pos p p' pos':Pos}
theorem qd8z(hu:X.A.units+64<cLine)(hm:X.mg "all" = none)(ha:QA X (e::es) t)(hc:X.calm=true:=by rfl)(hg:Gl X "all":=by rfl)(he:notStar e=true:=by rfl)(hpl:es.all notStar=true:=by rfl):QE X (.Call (.Name "all" p) (e::es) [] pos) (eCB qbpz t):=⟨qp4z (hu:=hu) (hm:=hm) (ha:=ha.of) (hc:=hc) (hg:=hg) (he:=he) (hpl:=hpl)⟩
end
section
variable {X:Cx} {a:Expr} {ta:TE3} {te:TE} {pos p2 p3 p4:Pos} {j:Nat}
theorem qqyz(ha:QE X a ta):QE X (.Subscript a (.Slice none none (some (.UnaryOp .USub (.Constant (.int 1) j p4) p3)) p2) pos) (eRev ta):=⟨qqaz (ha:=ha.of)⟩
end
section
variable {X:Cx} {a b c:Expr} {ta:TE3} {tb:TA3} {p pos pos':Pos}
theorem qqzz(ha:QE X a ta)(hm:X.mg "range" = none)(hb:QA X [b] tb)(hg:Gl X "range":=by rfl)(hs:notStar b=true:=by rfl):QT X (.Compare a [.NotIn] [.Call (.Name "range" p) [b] [] pos'] pos) (eTest (eInRng1 true ta tb)):=⟨qqhz (ha:=ha.of) (hm:=hm) (hb:=hb.of) (hg:=hg) (hs:=hs)⟩
end
section
variable {X:Cx} {es:List Expr} {n0:Nat} {ps p pos:Pos}
theorem qicz{a b:Expr}{ta:TA3}(hm:X.mg "zip" = none)(ha:QA X [a,b] ta)(hg:Gl X "zip":=by rfl)(hs:notStar a=true:=by rfl)(hs2:notStar b=true:=by rfl):QI X (.Tuple es n0 ps) (.Call (.Name "zip" p) [a,b] [] pos) (iZip ta):=⟨qqmz (hm:=hm) (ha:=ha.of) (hg:=hg) (hs:=hs) (hs2:=hs2)⟩
end
section
variable {X:Cx} {a b c e o:Expr} {es:List Expr} {ta tb tc te to:TE3} {t:TA3} {pos apos cpos p:Pos}
theorem qidz{op op':CmpOp}{r r':R3}{r2 r2':R2}(L:LowR X.K r r2)(L':LowR X.K r' r2')(ho:OpR X (compareOp op) r2)(ho':OpR X (compareOp op') r2')(ha:QE X a ta)(hb:QE X b tb)(hc:QE X c tc)(hm:lastMarks [op,op'] [b,c]=false:=by with_unfolding_all rfl):
  QE X (.Compare a [op,op'] [b,c] pos) (eChain r r' ta tb tc):=⟨qn1z (op:=op) (op':=op') L L' (qmiz ho ho' ha.of hb.of hc.of hm)⟩
theorem qq0z{op op':CmpOp}{r r':R3}{r2 r2':R2}(L:LowR X.K r r2)(L':LowR X.K r' r2')(ho:OpR X (compareOp op) r2)(ho':OpR X (compareOp op') r2')(ha:QE X a ta)(hb:QE X b tb)(hc:QE X c tc)(hm:lastMarks [op,op'] [b,c]=false:=by with_unfolding_all rfl):
  QT X (.Compare a [op,op'] [b,c] pos) (eTest (eChain r r' ta tb tc)):=⟨qn2z (op:=op) (op':=op') L L' (qmjz ho ho' ha.of hb.of hc.of hm)⟩
theorem qfaz{name:Str}{id:String}{r:D->List D->Gp->V3->Prop}{r2:V->List V->Hp->VK->Prop}(L:LowM X.K r r2)(slot:Slot "list" name id)(hty:typeOf (.builtin id)=pure (.type "method_descriptor"))(hm:MtR X id r2)(ho:QE X o to)(ha:QA X (e::es) t)
  (hbase:attributeBase o name X.env (eval o X.env)=eval o X.env:=by rfl)
  (hfew:((backTo cpos (starEach (e::es) X.env)).all (fun x=>!x.1)&&(backToKw cpos (keywordEach [] X.env)).all (fun x=>x.1.isSome)
   && decide ((e::es).length+([]:List Keyword).length+(if ([]:List Keyword).isEmpty then 0 else 1)<30))=true:=by rfl)
  (hline:(apos.endLine==cpos.line)=true:=by rfl) (he:notStar e=true:=by rfl) (hpl:es.all notStar=true:=by rfl):
  QE X (.Call (.Attribute o name apos) (e::es) [] cpos) (eM r to t):=⟨qpwz L (qnjz PySem.F.plainAttrs_list slot hty hm ho.of ha.of hbase hfew hline (qlz he) (qzz hpl))⟩
theorem qq1z{i j:Nat}{x y:Str}{px py pt:Pos}{kt k2 pt2}(hc:X.calm=true)(hN:X.N.Nodup)(hi:X.N[i]?=some x)(hj:X.N[j]?=some y)(hij:i≠j)(hx:X.env.scope.names.lookup x=some .local)(hy:X.env.scope.names.lookup y=some .local)(ha:QA X [a,b] t)
  (hw:swappedStores [.Tuple [.Name x px,.Name y py] kt pt] (.Tuple [a,b] k2 pt2) X.env=pure (some [x,y])) (hs:swapsWithSole [.Tuple [.Name x px,.Name y py] kt pt] (.Tuple [a,b] k2 pt2) pos.line X.env=pure false:=by rfl):
  QS X (.Assign [.Tuple [.Name x px,.Name y py] kt pt] (.Tuple [a,b] k2 pt2) pos) (sPar i j t):=⟨qhqz (ql0z hc hN hi hj hij hx hy ha.of hw hs)⟩
end
section
variable {X:Cx} {tg iter elt:Expr} {ifs:List Expr} {scope:Scope} {own:List Str} {js:List Nat} {ti:TI3} {g:TG3} {tc:TT3} {te:TE3} {pos:Pos}
theorem qafz(hc:X.calm=true)(C:CmpOk X.N X.env.scope scope own js)(hi:QI X tg iter ti)
  (hb:∀s H fp,QG (X.cmp scope own js s H fp) tg g/\QC (X.cmp scope own js s H fp) ifs tc/\QE (X.cmp scope own js s H fp) elt te)
  (hs:∀x,foldedSetIterable iter X.env x=pure x:=by intro _;rfl):QE X (.ListComp elt [⟨tg,iter,ifs,0⟩] scope pos) (eComp own js ti g tc te):=
 ⟨qo9z hc C hi.of (fun s H fp=>⟨(hb s H fp).1.of,(hb s H fp).2.1.of,(hb s H fp).2.2.of⟩) hs⟩
end
theorem qfn3{P:Program}{w:World}{K:PySem.W.Frag}{mg:Str->Option Value}{base:Heap}{x qual:Str}{st:Stmt}{f:Addr}{fd:FuncData}{N ps:List Str}{k:Nat}{sp:Sp3}(F:Fun K x qual st f fd)(S:FnScope N ps (defScope st))(hN:ps.length≤N.length)(len:∀ds G Q,sp ds G Q->ds.length=ps.length)(tb:TS3)
  (hbody:∀(cdv:Value) (A:Around) (outer:List Env) (s:Shared) (H:Hp) (E:XK),Room k (A.deeper (envOfC qual (defScope st) s.heap.objs.size f cdv)) ->
   QSs (cxOf CX0 P w K mg base N qual (defScope st) f cdv A outer s H E).nox (defBody st) tb)
  (hrd:∀ds G Q,sp ds G Q->tb (endsOf Q) (start3 N ds) G):FnOk3 P w K mg base (k+1) f fd ps sp:=fn3 F S hN len tb (fun cdv A outer s H E hr=>(hbody cdv A outer s H E hr).of) hrd
end L3
namespace My
open PySem L2 L3
def Known(G:Gp):D->Prop
 |.obj a=>∃o,G a=some o/\o.plain
 |_=>True
def wholeD:D->Bool
 |.int _=>true
 |_=>false
theorem qgz{Q:V3}{d:D}{G:Gp}(h:Q d G):(endsOf Q).rt d G:=⟨G,Sub.refl G,h⟩
theorem qatz{Q:V3}{d:D}{G G':Gp}(s:Sub G G')(h:Q d G):(endsOf Q).rt d G':=⟨G,s,h⟩
theorem qxz{i:Int}(h1:-(10^80)<i)(h2:i<10^80):Big i:=by
 have:i.natAbs<10^80:=by lia
 exact Nat.lt_trans this (by decide)
theorem Sub.updN{G G':Gp}{a:Addr}{o:GO}(s:Sub G G')(h:G a=none):Sub G (upd3 G' a o):=fun b u e=>by
 rw[qacz (fun z=>by rw[z,h] at e;cases e)];exact s b u e
def qa6z:Sp3:=fun ds G Q=>match ds with
 |[d]=>Known G d/\Q (.bl (wholeD d)) G
 |_=>False
def qfbz:TS3:=sRet (eAndV (eInst "int" (eVar 0)) (eNotV (eInst "bool" (eVar 0))))
theorem qiez{nm:Str}:∀ds G Q,qa6z ds G Q->qfbz (endsOf Q) (start3 [nm] ds) G:=by
 intro ds G Q h;rcases ds with _|⟨d,_|⟨d2,ds⟩⟩
 ·exact h.elim
 ·cases d with
  |int i=>exact⟨fun _=>qgz h.2,nofun⟩
  |bl b=>exact⟨fun _=>qgz h.2,nofun⟩
  |non=>exact⟨nofun,fun _=>qgz h.2⟩
  |str _=>exact⟨nofun,fun _=>qgz h.2⟩
  |tup _=>exact⟨nofun,fun _=>qgz h.2⟩
  |scr _=>exact⟨nofun,fun _=>qgz h.2⟩
  |dc _=>exact⟨nofun,fun _=>qgz h.2⟩
  |obj a=>
   obtain⟨o1,h1,hp⟩:∃o,G a=some o/\o.plain:=h.1;show match instD "int" G (.obj a) with
    |some b=>_
    |none=>_
   cases hG:G a with
   |none=>rw[h1] at hG;cases hG
   |some o=>
    cases o with
    |lst _=>simp only[instD,hG];exact⟨nofun,fun _=>qgz h.2⟩
    |pen=>simp only[instD,hG];exact⟨nofun,fun _=>qgz h.2⟩
    |dct=>simp only[instD,hG];exact⟨nofun,fun _=>qgz h.2⟩
    |gen R=>
     rw[h1] at hG;cases hG;exact hp.elim
 ·exact h.elim
abbrev qq2z:=@qiez "thing"
abbrev qbsz:=qa6z
abbrev qq3z:=qfbz
abbrev qq4z:=@qiez "found"
def qcvz:Sp3:=fun ds G Q=>∃(ns:List Int) (k:Nat),ds=[.scr (ns.map .int),.int k]/\∀i:Int,Q (.int i) G
def qifz:TS3:=sSeq (sIf (eTest (eOp rLtT3 (eVar 1) (eCB qyz (aCons (eVar 0) (aNil))))) (sRet (eOp rIx3 (eVar 0) (eVar 1))) (sNext)) (sRet (eC (.int 0)))
theorem qq5z:∀ds G Q,qcvz ds G Q->qifz (endsOf Q) (start3 ["script","k"] ds) G:=by
 rintro ds G Q ⟨ns,k,rfl,q⟩;refine⟨fun h=>?_,fun h=>qgz (q 0)⟩;have h':(k:Int)<((ns.map D.int).length:Nat):=of_decide_eq_true h;rw[List.length_map] at h';have hk:k<ns.length:=by lia
 exact⟨.int ns[k],qdrz (by rw[List.getElem?_map,List.getElem?_eq_getElem hk];rfl),qgz (q _)⟩
def qb6z:Sp3:=fun ds G Q=>∃n:Int,ds=[.int n]/\0≤n/\∀r:Int,0≤r->r<2147483629->Q (.int r) G
def qigz:TS3:=sSeq (sAsg (eOp rMod3 (eOp rAdd3 (eVar 0) (eC (.int 7919))) (eC (.int 2147483647))) (hName 0)) (sRet (eOp rMod3 (eOp rAdd3 (eOp rAdd3 (eOp rMul3 (eVar 0) (eVar 0)) (eOp rMul3 (eC (.int 48271)) (eVar 0))) (eC (.int 12345))) (eC (.int 2147483629))))
theorem qq6z:∀ds G Q,qb6z ds G Q->qigz (endsOf Q) (start3 ["seed"] ds) G:=by
 rintro ds G Q ⟨n,rfl,hn,q⟩;have h1:=Int.emod_nonneg (n+7919) (show (2147483647:Int)≠0 by decide);have h2:=Int.emod_lt_of_pos (n+7919) (show (0:Int)<2147483647 by decide);have hb:Big ((n+7919)%2147483647):=qxz (by lia) (by lia);refine⟨(by decide:(0:Int)<2147483647),⟨hb,hb⟩,⟨qxz (by decide) (by decide),hb⟩,(by decide:(0:Int)<2147483629),qgz (q _ ?_ ?_)⟩
 ·exact Int.emod_nonneg _ (by decide)
 ·exact Int.emod_lt_of_pos _ (by decide)
def qd9z:Sp3:=fun ds G Q=>∃(p:Addr) (m i j k:Int),ds=[.obj p,.int m]/\G p=some (.lst [.int i,.int j,.int k])/\PenOk i j k/\0<m/\Big m ∧
 ∀r i' j' k':Int,PenOk i' j' k'->0≤r->r<m->Q (.int r) (upd3 G p (.lst [.int i',.int j',.int k']))
def q7z:Sp3:=fun ds G Q=>∃(p:Addr) (m:Int),ds=[.obj p,.int m]/\G p=some .pen/\(0<m/\Big m)/\∀r:Int,0≤r->r<m->Q (.int r) G
def qihz:TS3:=sSeq (sIf (eTest (eOp (rEq3 false) (eOp rIx3 (eVar 0) (eC (.int 1))) (eC (.int 1)))) (sSeq (sAsg (eOp rMod3 (eOp rIx3 (eVar 0) (eC (.int 0))) (eVar 1)) (hName 2)) (sSeq (sAsg (eOp rDiv3 (eOp rIx3 (eVar 0) (eC (.int 0))) (eVar 1)) (hSub (eVar 0) (eC (.int 0)))) (sRet (eVar 2)))) (sNext)) (sSeq (sAsg (eCall qb6z (aCons (eOp rAdd3 (eCall qb6z (aCons (eOp rIx3 (eVar 0) (eC (.int 2))) (aNil))) (eC (.int 7))) (aNil))) (hSub (eVar 0) (eC (.int 2)))) (sRet (eOp rMod3 (eOp rDiv3 (eOp rIx3 (eVar 0) (eC (.int 2))) (eC (.int 64))) (eVar 1))))
theorem qq7z:∀ds G Q,qd9z ds G Q->qihz (endsOf Q) (start3 ["pen","many","found"] ds) G:=by
 rintro ds G Q ⟨p,m,i,j,k,rfl,hp,ok,hm,hb,q⟩;obtain⟨o1,o2,o3⟩:=ok;refine⟨_,_,hp,rfl,_,_,rfl,rfl,Nat.zero_le _,fun _=>?_,fun _=>?_⟩
 ·refine⟨_,_,hp,rfl,hm,_,_,hp,rfl,⟨hm,hb⟩,_,0,hp,rfl,?_⟩;refine qgz (q (i%m) (i / m) j k ⟨?_,o2,o3⟩ ?_ ?_)
  ·exact Int.ediv_nonneg o1 (by lia)
  ·exact Int.emod_nonneg _ (by lia)
  ·exact Int.emod_lt_of_pos _ hm
 ·refine⟨_,_,hp,rfl,_,rfl,o2,fun r h1 h2=>⟨_,rfl,(by lia),fun r' h3 h4=>?_⟩⟩;refine⟨_,2,hp,rfl,_,_,qalz,rfl,⟨by decide,qxz (by decide) (by decide)⟩,hm,?_⟩;refine qgz (q _ i j r' ⟨o1,h3,by lia⟩ ?_ ?_)
  ·exact Int.emod_nonneg _ (by lia)
  ·exact Int.emod_lt_of_pos _ hm
theorem qq8z{K:PySem.W.Frag}:∀vs H Q E,lowSp K q7z vs H Q E->lowSp K qd9z vs H Q E:=by
 rintro vs H Q E ⟨ds,G,Q3,hd,RG,⟨p,m,rfl,hp,hm,q⟩,k⟩;obtain⟨i,j,l,e,ok⟩:=RG p _ hp;refine⟨_,upd3 G p (.lst [.int i,.int j,.int l]),fun d G'=>∃i' j' l',PenOk i' j' l'/\G'=upd3 G p (.lst [.int i',.int j',.int l'])/\Q3 d G,hd,?_,⟨p,m,i,j,l,rfl,qalz,ok,hm.1,hm.2,fun r i' j' k' ok' h1 h2=>⟨i',j',k',ok',qnqz,q r h1 h2⟩⟩,?_⟩
 ·intro a o ea;by_cases z:a=p
  ·subst z;rw[qalz] at ea;cases ea;exact⟨_,e,.cons (by simp[Hv]) (.cons (by simp[Hv]) (.cons (by simp[Hv]) .nil))⟩
  ·rw[qacz z] at ea;exact RG a o ea
 ·rintro v H' d G' hv S R ⟨i',j',l',ok',rfl,h3⟩;refine k v H' d G hv ⟨fun a o ea n=>S.fr a o ea ?_,S.trk,fun a n z=>absurd n z⟩ (fun a o ea=>?_) h3
  ·have:a≠p:=fun z=>by rw[z,hp] at n;cases n
   rw[qacz this];exact n
  ·by_cases z:a=p
   ·subst z;rw[hp] at ea;cases ea;obtain⟨ws,e1,e2⟩:=R a _ qalz;have:=qcnz e2 (ns:=[i',j',l']) rfl;subst this;exact⟨i',j',l',e1,ok'⟩
   ·exact R a o (by rw[qacz z];exact ea)
def qeaz:Sp3:=fun ds G Q=>∃c:Int,ds=[.int c]/\∀p i j k G',New G p (.lst [.int i,.int j,.int k]) G'->PenOk i j k->Q (.obj p) G'
def qfcz:Sp3:=fun ds G Q=>∃c:Int,ds=[.int c]/\∀p G',New G p .pen G'->Q (.obj p) G'
def qiiz:TS3:=sSeq (sAsg (eCB qe4z (aCons (eVar 0) (aCons (eOp rSub3 (eC (.int 0)) (eVar 0)) (aNil)))) (hName 1)) (sRet (eLst (aCons (eVar 1) (aCons (eCB qd2z (aCons (eOp rGe3 (eVar 1) (eOp rPow3 (eC (.int 10)) (eC (.int 18)))) (aNil))) (aCons (eOp rMod3 (eVar 1) (eC (.int 1000003))) (aNil))))))
theorem qq9z:∀ds G Q,qeaz ds G Q->qiiz (endsOf Q) (start3 ["cell","left"] ds) G:=by
 rintro ds G Q ⟨c,rfl,q⟩;refine⟨⟨by decide,by decide,by decide⟩,(by decide:(0:Int)<1000003),fun p G' hp=>qgz (q p _ _ _ _ hp ⟨?_,?_,?_⟩)⟩
 ·split<;>lia
 ·exact Int.emod_nonneg _ (by decide)
 ·exact Int.lt_trans (Int.emod_lt_of_pos _ (by decide)) (by decide)
theorem qraz{K:PySem.W.Frag}:∀vs H Q E,lowSp K qfcz vs H Q E->lowSp K qeaz vs H Q E:=by
 rintro vs H Q E ⟨ds,G,Q3,hd,RG,⟨c,rfl,q⟩,k⟩;refine⟨_,G,fun d G'=>∃p i j l,PenOk i j l/\New G p (.lst [.int i,.int j,.int l]) G'/\d=.obj p,hd,RG,⟨c,rfl,fun p i j l G' hp ok=>⟨p,i,j,l,ok,hp,rfl⟩⟩,?_⟩;rintro v H' d G' hv S R ⟨p,i,j,l,ok,hp,rfl⟩;refine k v H' _ (upd3 G' p .pen) hv ⟨S.fr,S.trk,fun a n z=>S.new a n ?_⟩ (fun a o ea=>?_) (q p _ ⟨hp.non,Sub.updN hp.sub hp.non,qalz⟩)
 ·by_cases y:a=p
  ·rw[y,hp.at_];simp
  ·rw[qacz y] at z;exact z
 ·by_cases z:a=p
  ·subst z;rw[qalz] at ea;cases ea;obtain⟨ws,e1,e2⟩:=R a _ hp.at_;have:=qcnz e2 (ns:=[i,j,l]) rfl;subst this;exact⟨i,j,l,e1,ok⟩
  ·rw[qacz z] at ea;exact R a o ea
abbrev Clk:=Int×Int
def cD(c:Clk):D:=.tup [.int c.1,.int c.2]
def csD(cs:List Clk):D:=.tup (cs.map cD)
def Valid(c:Clk):Prop:=0<c.1/\0≤c.2/\c.2<c.1
def rg(n:Int)(c:Clk):Bool:=n%c.1==c.2
def qcwz:Sp3:=fun ds G Q=>∃(c:Clk) (n:Int),ds=[cD c,.int n]/\0<c.1/\Q (.bl (rg n c)) G
def qijz:TS3:=sRet (eOp (rEq3 false) (eOp rMod3 (eVar 1) (eOp rIx3 (eVar 0) (eC (.int 0)))) (eOp rIx3 (eVar 0) (eC (.int 1))))
theorem qrbz:∀ds G Q,qcwz ds G Q->qijz (endsOf Q) (start3 ["clock","number"] ds) G:=by
 rintro ds G Q ⟨⟨s,r⟩,n,rfl,hs,q⟩;exact⟨_,rfl,hs,_,rfl,_,_,rfl,rfl,Nat.zero_le _,qgz q⟩
def qcxz:Sp3:=fun ds G Q=>∃(cs:List Clk) (n:Int),ds=[csD cs,.int n]/\(∀c∈cs,0<c.1)/\cs.length≤1000/\∀p G',New G p (.lst ((cs.filter (rg n)).map cD)) G'->Q (.obj p) G'
def qikz:TS3:=sRet (eComp ["clock"] [1] (iSeq (eVar 0)) (hName 0) (eTest (eCall qcwz (aCons (eVar 0) (aCons (eVar 1) (aNil))))) (eVar 0))
theorem line1000{n:Nat}(h:n≤1000):n≤sizeLine:=Nat.le_trans h (by decide)
theorem qaaz{α:Type}{guard:Gp->Prop}{g:TG3}{tc:TT3}{te:TE3}{Q:List D->Gp->Prop}(I:S3->Prop)(h:α->D)(pr:α->Bool)(f:α->D){G:Gp}(hg:guard G):∀(xs:List α) (acc:List D) (τ:S3),I τ ->
  (∀x∈xs,∀τ (K1:S3->Gp->Prop) (K2:S3->D->Gp->Prop),I τ->(pr x=true->∀τ2,I τ2->K2 τ2 (f x) G)->(pr x=false->∀τ2,I τ2->K1 τ2 G)->g (h x) τ G fun τ2 G2=>tc τ2 G2 fun b G3=>Br b (te τ2 G3 fun v G4=>K2 τ2 v G4) (K1 τ2 G3)) ->
  Q (acc++(xs.filter pr).map f) G->compGo guard g tc te Q (xs.map h) acc τ G
 |[],acc,τ,_,_,q=>⟨hg,by simpa using q⟩
 |d::ds,acc,τ,hI,hs,q=>by
  refine⟨hg,hs d List.mem_cons_self τ (fun τ2 G3=>compGo guard g tc te Q (ds.map h) acc τ2 G3) (fun τ2 v G4=>compGo guard g tc te Q (ds.map h) (acc++[v]) τ2 G4) hI (fun hp τ2 h2=>?_) fun hp τ2 h2=>?_⟩
  ·refine qaaz I h pr f hg ds _ τ2 h2 (fun d' hd=>hs d' (List.mem_cons_of_mem _ hd)) ?_;rw[List.filter_cons_of_pos hp] at q;simpa using q
  ·refine qaaz I h pr f hg ds _ τ2 h2 (fun d' hd=>hs d' (List.mem_cons_of_mem _ hd)) ?_;rw[List.filter_cons_of_neg (by rw[hp];simp)] at q;exact q
theorem qrcz:∀ds G Q,qcxz ds G Q->qikz (endsOf Q) (start3 ["clocks","number"] ds) G:=by
 rintro ds G Q ⟨cs,n,rfl,hc,hz,q⟩;refine⟨by show (cs.map cD).length≤sizeLine;rw[List.length_map];exact line1000 hz,?_⟩;refine qaaz (fun τ=>∃x,τ=[x,some (.int n)]) cD (rg n) cD (G:=G) trivial cs [] _ ⟨none,rfl⟩ ?_ ?_
 ·rintro c hm τ K1 K2 ⟨x,rfl⟩ h1 h2;exact⟨c,n,rfl,hc c hm,fun e=>h1 e _ ⟨_,rfl⟩,fun e=>h2 e _ ⟨_,rfl⟩⟩
 ·exact fun p G' hp=>qgz (q p G' hp)
end My
namespace My
open PySem L2 L3
def cX(c:Clk):Dat.D:=.tup [.int c.1,.int c.2]
theorem qebz:∀cs:List Clk,toDats0 (cs.map cD)=some (cs.map cX)
 |[]=>rfl
 |c::cs=>by
  show (match toDat0 (cD c) with
   |some x=>match toDats0 (cs.map cD) with
    |some xs=>some (x::xs)
    |none=>none
   | none=>none)=_
  rw[qebz cs];rfl
theorem qbhz{G:Gp}{a:Addr}{ds:List D}{xs:List Dat.D}(h:G a=some (.lst ds))(e:toDats0 ds=some xs):toDat G (.obj a)=some (.lst xs):=by
 unfold toDat;simp only[h,e]
theorem qilz:∀cs:List Clk,Dat.deps (cs.map cX)≤1
 |[]=>Nat.zero_le _
 |c::cs=>by
  show max (cX c).dep (Dat.deps (cs.map cX))≤1;have h1:(cX c).dep=1:=rfl;have:=qilz cs;omega
theorem qfdz(cs:List Clk):(Dat.D.lst (cs.map cX)).dep≤50:=by
 show Dat.deps (cs.map cX)+1≤50;have:=qilz cs;omega
theorem qb7z(xs:List Dat.D):(Dat.D.lst xs).eqb (.lst [])=xs.isEmpty:=by
 cases xs with
 |nil=>rfl
 |cons x xs=>rfl
def rg2(n:Int)(c:Clk):Bool:=(n-c.2)%c.1==0
theorem qrdz{c:Clk}(h:Valid c)(n:Int):rg2 n c=rg n c:=by
 obtain⟨h1,h2,h3⟩:=h;unfold rg rg2;rw[Bool.eq_iff_iff];simp only[beq_iff_eq];constructor
 ·intro e;have h4:=Int.emod_emod_of_dvd n (Int.dvd_refl c.1);have:n%c.1=c.2%c.1:=Int.emod_eq_emod_iff_emod_sub_eq_zero.mpr e;rw[this];exact Int.emod_eq_of_lt h2 h3
 ·intro e;refine Int.emod_eq_emod_iff_emod_sub_eq_zero.mp ?_;rw[e];exact (Int.emod_eq_of_lt h2 h3).symm
theorem qrez{cs:List Clk}(h:∀c∈cs,Valid c)(n:Int):cs.filter (rg2 n)=cs.filter (rg n):=List.filter_congr fun c hc=>qrdz (h c hc) n
end My
namespace My
open PySem L2 L3
def cutG{α:Type}(xs:List α)(lo hi:Option Int):List α:=(xs.drop (HT.sIx xs.length 0 lo)).take (HT.sIx xs.length xs.length hi-HT.sIx xs.length 0 lo)
theorem qfez{α:Type}(f:α->D)(xs:List α)(lo hi:Option Int):cut3 (xs.map f) lo hi=(cutG xs lo hi).map f:=by
 unfold cut3 cutG;rw[List.length_map,List.map_take,List.map_drop]
theorem qrfz{α:Type}(xs:List α)(lo hi:Option Int):(cutG xs lo hi).length≤xs.length:=by
 unfold cutG;rw[List.length_take,List.length_drop];lia
theorem qimz{α:Type}(xs:List α)(k:Nat):cutG xs none (some (k:Int))=xs.take k:=by
 unfold cutG;rw[HT.sIx_none,HT.sIx_nat];simp only[List.drop_zero,Nat.sub_zero];by_cases h:k≤xs.length
 ·rw[Nat.min_eq_left h]
 ·rw[Nat.min_eq_right (by lia),List.take_length,List.take_of_length_le (by lia)]
theorem qrgz{α:Type}(xs:List α)(k:Nat):cutG xs (some (k:Int)) none=xs.drop k:=by
 unfold cutG;rw[HT.sIx_none,HT.sIx_nat];by_cases h:k≤xs.length
 ·rw[Nat.min_eq_left h];exact List.take_of_length_le (by rw[List.length_drop];lia)
 ·rw[Nat.min_eq_right (by lia),List.drop_length,List.drop_eq_nil_of_le (by lia)];simp
def ClOk(M:Int)(cs:List Clk):Prop:=∀c∈cs,Valid c/\c.1≤M
theorem qrhz{s r k i:Int}(h:Valid (s,r))(h1:0≤i)(h2:i<k):Valid (s*k,r+s*i):=by
 obtain⟨a,b,c⟩:=h;simp only at a b c;have q:=Int.mul_le_mul_of_nonneg_left (show i≤k-1 by lia) (show 0≤s by lia);rw[Int.mul_sub,Int.mul_one] at q;have q2:=Int.mul_nonneg (show 0≤s by lia) h1;refine⟨?_,?_,?_⟩
 ·exact Int.mul_pos a (by lia)
 ·show 0≤r+s*i;lia
 ·show r+s*i<s*k;lia
theorem qecz{α:Type}(f:α->D){xs:List α}{r:Int}(h1:0≤r)(h2:r<(xs.length:Nat)):∃x,xs[r.toNat]?=some x/\x∈xs/\atI (xs.map f) r=some (f x):=by
 have hk:r.toNat<xs.length:=by lia
 refine⟨xs[r.toNat],List.getElem?_eq_getElem hk,List.getElem_mem hk,?_⟩;have e:r=((r.toNat:Nat):Int):=by lia
 have q:atI (xs.map f) ((r.toNat:Nat):Int)=some (f xs[r.toNat]):=qdrz (by rw[List.getElem?_map];simp[hk]);rw[←e] at q;exact q
theorem qffz{ns:List Int}{r:Int}(h1:0≤r)(h2:r<(ns.length:Nat)):∃n,n∈ns/\atI (ns.map D.int) r=some (.int n):=by
 obtain⟨x,_,h3,h4⟩:=qecz D.int h1 h2;exact⟨x,h3,h4⟩
end My
namespace My
open PySem L2 L3
theorem qcyz{guard:Gp->Prop}{g:TG3}{tc:TT3}{te:TE3}{Q:List D->Gp->Prop}(I:List D->List D->S3->Gp->Prop)(hg:∀ds acc τ G,I ds acc τ G->guard G)
  (step:∀d ds acc τ G (K1:S3->Gp->Prop) (K2:S3->D->Gp->Prop),I (d::ds) acc τ G->(∀τ' v G',I ds (acc++[v]) τ' G'->K2 τ' v G')->(∀τ' G',I ds acc τ' G'->K1 τ' G')->g d τ G fun τ2 G2=>tc τ2 G2 fun b G3=>Br b (te τ2 G3 fun v G4=>K2 τ2 v G4) (K1 τ2 G3))
  (hend:∀acc τ G,I [] acc τ G->Q acc G):∀ds acc τ G,I ds acc τ G->compGo guard g tc te Q ds acc τ G
 |[],acc,τ,G,h=>⟨hg _ _ _ _ h,hend _ _ _ h⟩
 |d::ds,acc,τ,G,h=>⟨hg _ _ _ _ h,step d ds acc τ G (fun τ2 G3=>compGo guard g tc te Q ds acc τ2 G3) (fun τ2 v G4=>compGo guard g tc te Q ds (acc++[v]) τ2 G4) h
   (fun τ' v G' q=>qcyz I hg step hend ds _ τ' G' q) fun τ' G' q=>qcyz I hg step hend ds _ τ' G' q⟩
theorem wrote{G G1:Gp}{q:Addr}{o o':GO}(n:New G q o G1):New G q o' (upd3 G1 q o'):=⟨n.non,Sub.updN n.sub n.non,qalz⟩
end My
namespace My
open PySem L2 L3
def qinz:Sp3:=fun ds G Q=>∃a b:Nat,ds=[.int a,.int b]/\Q (.int (Nat.gcd a b:Nat)) G
def qriz:TS3:=sPar 0 1 (aCons (eVar 1) (aCons (eOp rMod3 (eVar 0) (eVar 1)) (aNil)))
def qrjz:TS3:=sRet (eVar 0)
def qioz:TS3:=sSeq (sWhile (eTest (eOp rGt3 (eVar 1) (eC (.int 0)))) (qriz)) qrjz
theorem qrkz:∀ds G Q,qinz ds G Q->qioz (endsOf Q) (start3 ["one","other"] ds) G:=by
 rintro ds G Q ⟨a,b,rfl,q⟩;refine⟨fun m τ G'=>G'=G/\∃a':Nat,τ=[some (.int a'),some (.int (m:Nat))]/\Nat.gcd a' m=Nat.gcd a b,⟨b,rfl,a,rfl,rfl⟩,?_⟩;rintro m τ G' ⟨rfl,a',rfl,hg⟩;refine⟨fun h=>?_,fun h=>?_⟩
 ·have h':(0:Int)<(m:Int):=of_decide_eq_true h;refine⟨h',a'%m,by exact_mod_cast Nat.mod_lt a' (by omega),rfl,m,?_,?_⟩
  ·show [some (D.int (m:Nat)),some (D.int ((a':Int)%(m:Int)))]=_;rw[←Int.natCast_emod]
  ·rw[←hg,Nat.gcd_comm a' m,Nat.gcd_rec m a',Nat.gcd_comm]
 ·have h':¬((0:Int)<(m:Int)):=of_decide_eq_false h;have:m=0:=by omega
  subst this;rw[Nat.gcd_zero_right] at hg;rw[←hg] at q;exact qgz q
def rndF(cs:List Clk)(a:Nat):Nat:=cs.foldl (fun a c=>Nat.lcm a c.1.toNat) a
def rnd(cs:List Clk):Nat:=rndF cs 1
theorem qipz{M:Nat}:∀{cs:List Clk} {a:Nat},(∀c∈cs,0<c.1/\c.1≤(M:Int))->0<a->0<rndF cs a/\rndF cs a≤a*M^cs.length
 |[],a,_,h=>⟨h,by simp[rndF]⟩
 |c::cs,a,hc,h=>by
  obtain⟨h1,h2⟩:=hc c List.mem_cons_self;have hp:0<Nat.lcm a c.1.toNat:=Nat.lcm_pos h (by omega);obtain⟨h3,h4⟩:=qipz (cs:=cs) (a:=Nat.lcm a c.1.toNat) (fun d hd=>hc d (List.mem_cons_of_mem _ hd)) hp;refine⟨h3,Nat.le_trans h4 ?_⟩;rw[List.length_cons,Nat.pow_succ,Nat.mul_comm (M^cs.length) M,←Nat.mul_assoc];refine Nat.mul_le_mul_right _ ?_;have:Nat.lcm a c.1.toNat≤a*c.1.toNat:=Nat.le_of_dvd (Nat.mul_pos h (by omega)) (Nat.lcm_dvd (Nat.dvd_mul_right _ _) (Nat.dvd_mul_left _ _));exact Nat.le_trans this (Nat.mul_le_mul_left _ (by omega))
theorem qrlz{cs:List Clk}(h:ClOk 1000 cs)(hl:cs.length≤12):0<rnd cs/\rnd cs≤1000^12:=by
 obtain⟨h1,h2⟩:=qipz (M:=1000) (cs:=cs) (a:=1) (fun c hc=>⟨(h c hc).1.1,(h c hc).2⟩) (by decide);refine⟨h1,Nat.le_trans h2 ?_⟩;rw[Nat.one_mul];exact Nat.pow_le_pow_right (by decide) hl
theorem qfgz{n:Nat}(h:n<10^80):Big (n:Int):=by
 show (n:Int).natAbs<2^4000;exact Nat.lt_trans (by simpa using h) (by decide)
end My
namespace My
open PySem L2 L3
def qczz:Sp3:=fun ds G Q=>∃a b:Nat,ds=[.int a,.int b]/\Q (.int (Nat.gcd a b:Nat)) G
def qrmz:TS3:=sAsg (eVar 2) (hName 1)
def qrnz:TS3:=sSeq (sAsg (eVar 1) (hName 0)) qrmz
def qroz:TS3:=sSeq (sAsg (eOp rMod3 (eVar 0) (eVar 1)) (hName 2)) qrnz
def qrpz:TS3:=sRet (eVar 0)
def qiqz:TS3:=sSeq (sWhile (eTest (eOp (rEq3 true) (eVar 1) (eC (.int 0)))) (qroz)) qrpz
theorem qrqz:∀ds G Q,qczz ds G Q->qiqz (endsOf Q) (start3 ["one","other","left"] ds) G:=by
 rintro ds G Q ⟨a,b,rfl,q⟩;refine⟨fun m τ G'=>G'=G/\∃(a':Nat) (x:Option D),τ=[some (.int a'),some (.int (m:Nat)),x]/\Nat.gcd a' m=Nat.gcd a b,⟨b,rfl,a,_,rfl,rfl⟩,?_⟩;rintro m τ G' ⟨rfl,a',x,rfl,hg⟩;refine⟨_,_,rfl,rfl,Nat.zero_le _,fun h=>?_,fun h=>?_⟩
 ·have h1:(!((m:Int)==0))=true:=h;have h':(0:Int)<(m:Int):=by simp at h1;lia
  refine⟨h',a'%m,by exact_mod_cast Nat.mod_lt a' (by lia),rfl,m,some (.int (a'%m:Nat)),?_,?_⟩
  ·show [some (D.int (m:Nat)),some (D.int ((a':Int)%(m:Int))),some (D.int ((a':Int)%(m:Int)))]=_;rw[←Int.natCast_emod]
  ·rw[←hg,Nat.gcd_comm a' m,Nat.gcd_rec m a',Nat.gcd_comm]
 ·have h1:(!((m:Int)==0))=false:=h;have:m=0:=by simp at h1;lia
  subst this;rw[Nat.gcd_zero_right] at hg;rw[←hg] at q;exact qgz q
def nD(n:Nat):D:=.int (n:Nat)
def lcmF(ns:List Nat)(a:Nat):Nat:=ns.foldl Nat.lcm a
def qrrz:Sp3:=fun ds G Q=>∃(p:Addr) (ns:List Nat),ds=[.obj p]/\G p=some (.lst (ns.map nD))/\(∀n∈ns,0<n/\n≤1000)/\ns.length≤20/\Q (.int (lcmF ns 1:Nat)) G
def qrsz:TS3:=sAsg (eOp rMul3 (eVar 1) (eOp rDiv3 (eVar 2) (eCall qczz (aCons (eVar 1) (aCons (eVar 2) (aNil)))))) (hName 1)
def qrtz:TS3:=sRet (eVar 1)
def qruz:TS3:=sSeq (sFor (iSeq (eVar 0)) (hName 2) (qrsz)) qrtz
def qirz:TS3:=sSeq (sAsg (eC (.int 1)) (hName 1)) qruz
theorem qrvz:∀ds G Q,qrrz ds G Q->qirz (endsOf Q) (start3 ["numbers","least","number"] ds) G:=by
 rintro ds G Q ⟨p,ns,rfl,hp,ok,hl,q⟩;refine⟨_,hp,?_⟩;refine qamz (fun ds τ G'=>G'=G/\∃(zs:List Nat) (a:Nat) (x2:Option D),ds=zs.map nD/\τ=[some (.obj p),some (.int a),x2]/\(∀n∈zs,0<n/\n≤1000)/\0<a/\a*1000^zs.length≤1000^20/\lcmF zs a=lcmF ns 1) (fun _ _ _ h=>by rw[h.1];exact hp) ?_ ?_ _ _ _ ⟨rfl,ns,1,none,rfl,rfl,ok,by decide,?_,rfl⟩
 ·rintro d ds τ G' N ⟨rfl,zs,a,x2,e,rfl,okz,ha,hb,hr⟩ hN;cases zs with
  |nil=>cases e
  |cons n zs=>
   cases e;obtain⟨hs1,hs2⟩:=okz _ List.mem_cons_self;have hg:0<Nat.gcd a n:=Nat.gcd_pos_of_pos_left _ ha;have hga:Nat.gcd a n≤a:=Nat.le_of_dvd ha (Nat.gcd_dvd_left _ _);have ha20:a≤1000^20:=Nat.le_trans (Nat.le_mul_of_pos_right _ (Nat.pow_pos (by decide))) hb;have hbig:∀k:Nat,k≤1000^20->Big (k:Int):=fun k hk=>qfgz (Nat.lt_of_le_of_lt hk (by decide));refine⟨a,n,rfl,⟨by lia,hbig _ (Nat.le_trans hga ha20)⟩,⟨hbig _ ha20,?_⟩,?_⟩
   ·show Big ((n:Int) / (Nat.gcd a n:Nat));rw[←Int.natCast_ediv];exact hbig _ (Nat.le_trans (Nat.div_le_self _ _) (Nat.le_trans hs2 (by decide)))
   have el:a*(n / Nat.gcd a n)=Nat.lcm a n:=by
    unfold Nat.lcm;rw[Nat.mul_div_assoc a (Nat.gcd_dvd_right a n)]
   refine hN _ _ ⟨rfl,zs,Nat.lcm a n,some (nD n),rfl,?_,fun c hc=>okz c (List.mem_cons_of_mem _ hc),Nat.lcm_pos ha (by lia),?_,hr⟩
   ·show [some (D.obj p),some (D.int ((a:Int)*((n:Int) / (Nat.gcd a n:Nat)))),_]=_;rw[←Int.natCast_ediv,←Int.natCast_mul,el]
   ·refine Nat.le_trans ?_ hb;rw[List.length_cons,Nat.pow_succ,Nat.mul_comm (1000^zs.length) 1000,←Nat.mul_assoc];refine Nat.mul_le_mul_right _ ?_;have:Nat.lcm a n≤a*n:=Nat.le_of_dvd (Nat.mul_pos ha (by lia)) (Nat.lcm_dvd (Nat.dvd_mul_right _ _) (Nat.dvd_mul_left _ _));exact Nat.le_trans this (Nat.mul_le_mul_left _ (by lia))
 ·rintro τ G' ⟨rfl,zs,a,x2,e,rfl,okz,ha,hb,hr⟩;have:zs=[]:=by cases zs with
   |nil=>rfl
   |cons z zs=>cases e
  subst this;have hr':a=lcmF ns 1:=hr;rw[←hr'] at q;exact qgz q
 ·rw[Nat.one_mul];exact Nat.pow_le_pow_right (by decide) hl
theorem filter_all{α:Type}(xs:List α):xs.filter (fun _=>true)=xs:=List.filter_eq_self.mpr fun _ _=>rfl
end My
namespace My
open PySem L2 L3
theorem rng0(n:Nat):rngL 0 n=(List.range n).map nD:=by
 unfold rngL;refine List.map_congr_left fun i _=>?_;show D.int (0+(i:Int))=D.int (i:Int);rw[Int.zero_add]
end My
namespace My
open PySem L2 L3
def Known2(G:Gp):D->Prop
 |.tup ds=>∀d∈ds,Known G d
 |.obj a=>∃o,G a=some o/\o.plain
 |_=>True
theorem Known.sub{G G':Gp}{d:D}(s:Sub G G')(h:Known G d):Known G' d:=by
 cases d with
 |obj a=>
  obtain⟨o,e,hp⟩:=h;exact⟨o,s a o e,hp⟩
 |_=>trivial
theorem qisz{G:Gp}{d:D}(h:Known2 G d)(hn:∀ds,d≠.tup ds):instD "tuple" G d=some false:=by
 cases d with
 |obj a=>
  obtain⟨o,hG,hp⟩:∃o,G a=some o/\o.plain:=h;cases o with
  |gen R=>exact hp.elim
  |_=>simp[instD,hG]
 |tup ds=>exact absurd rfl (hn ds)
 |_=>rfl
end My
namespace My
open PySem L2 L3
abbrev qbtz:=qinz
abbrev qitz:=qioz
abbrev qiuz:=qrkz
theorem qc0z{α:Type}(f:α->Bool):∀xs:List α,blsOf (xs.map fun x=>D.bl (f x))=some (xs.map f)
 |[]=>rfl
 |x::xs=>by
  show Option.map _ (blsOf (xs.map fun x=>D.bl (f x)))=_;rw[qc0z f xs];rfl
theorem all_map{α:Type}(f:α->Bool)(xs:List α):(xs.map f).all id=xs.all f:=by
 induction xs with
 |nil=>rfl
 |cons x xs ih=>simp
end My
namespace My
open PySem L2 L3
def Kn(G:Gp):Nat->D->Prop
 |0,d=>Known G d
 |n+1,.tup ds=>∀d∈ds,Kn G n d
 |_+1,d=>Known G d
def KnD(G:Gp)(d:D):Prop:=∀n,Kn G n d
section
variable {G G':Gp}
theorem KnD.tup{ds:List D}(h:∀d∈ds,KnD G d):KnD G (.tup ds):=fun n=>match n with
 |0=>trivial
 |n+1=>fun d hd=>h d hd n
theorem KnD.int(i:Int):KnD G (.int i):=fun n=>by cases n<;>trivial
theorem KnD.bl(b:Bool):KnD G (.bl b):=fun n=>by cases n<;>trivial
theorem KnD.str(x:Str):KnD G (.str x):=fun n=>by cases n<;>trivial
theorem KnD.non:KnD G .non:=fun n=>by cases n<;>trivial
theorem KnD.el{ds:List D}{d:D}(h:KnD G (.tup ds))(hd:d∈ds):KnD G d:=fun n=>h (n+1) d hd
theorem KnD.known{d:D}(h:KnD G d):Known G d:=h 0
theorem KnD.known2{d:D}(h:KnD G d):Known2 G d:=by
 cases d with
 |tup ds=>exact fun d hd=>(h.el hd).known
 |obj a=>exact h 0
 |_=>trivial
theorem Kn.sub(s:Sub G G'):∀(n:Nat) (d:D),Kn G n d->Kn G' n d
 |0,d,h=>Known.sub s h
 |n+1,.tup ds,h=>fun d hd=>Kn.sub s n d (h d hd)
 |n+1,.non,_=>trivial
 |n+1,.bl _,_=>trivial
 |n+1,.int _,_=>trivial
 |n+1,.str _,_=>trivial
 |n+1,.scr _,_=>trivial
 |n+1,.dc _,_=>trivial
 |n+1,.obj _,h=>Known.sub s h
theorem KnD.sub{d:D}(s:Sub G G')(h:KnD G d):KnD G' d:=fun n=>Kn.sub s n d (h n)
theorem KnD.clk(c:Clk):KnD G (cD c):=.tup fun d hd=>by
 simp only[List.mem_cons,List.not_mem_nil,or_false] at hd;rcases hd with rfl|rfl
 ·exact .int _
 ·exact .int _
theorem KnD.one{a:D}(ha:KnD G a):KnD G (.tup [a]):=.tup fun d hd=>by
 simp only[List.mem_cons,List.not_mem_nil,or_false] at hd;subst hd;exact ha
theorem KnD.nil:KnD G (.tup []):=.tup nofun
theorem KnD.app{as bs:List D}(ha:KnD G (.tup as))(hb:KnD G (.tup bs)):KnD G (.tup (as++bs)):=.tup fun d hd=>by
 rcases List.mem_append.mp hd with hd|hd
 ·exact ha.el hd
 ·exact hb.el hd
theorem KnD.cut{ds:List D}(h:KnD G (.tup ds))(lo hi:Option Int):KnD G (.tup (cut3 ds lo hi)):=.tup fun d hd=>h.el (List.mem_of_mem_drop (List.mem_of_mem_take hd))
theorem KnD.rev{ds:List D}(h:KnD G (.tup ds)):KnD G (.tup ds.reverse):=.tup fun d hd=>h.el (List.mem_reverse.mp hd)
end
def clkV(s r:Int):Bool:=(decide (1≤s)&&decide (s≤1000))&&(decide (0≤r)&&decide (r<s))
def clkB:D->Bool
 |.tup [.int s,.int r]=>clkV s r
 |_=>false
def qrwz:Sp3:=fun ds G Q=>∃d:D,ds=[d]/\KnD G d/\Q (.bl (clkB d)) G
def qrxz:TS3:=sRet (eAndV (eChain rLe3 rLe3 (eC (.int 1)) (eOp rIx3 (eVar 0) (eC (.int 0))) (eC (.int 1000))) (eChain rLe3 rLtT3 (eC (.int 0)) (eOp rIx3 (eVar 0) (eC (.int 1))) (eOp rIx3 (eVar 0) (eC (.int 0)))))
def qryz:TS3:=sSeq (sIf (eOr (eNot (eTest (eCall qa6z (aCons (eOp rIx3 (eVar 0) (eC (.int 0))) (aNil))))) (eNot (eTest (eCall qa6z (aCons (eOp rIx3 (eVar 0) (eC (.int 1))) (aNil)))))) (sRet (eC (.bl false))) (sNext)) qrxz
def qivz:TS3:=sSeq (sIf (eOr (eNot (eTest (eInst "tuple" (eVar 0)))) (eTest (eOp (rEq3 true) (eCB qyz (aCons (eVar 0) (aNil))) (eC (.int 2))))) (sRet (eC (.bl false))) (sNext)) qryz
theorem qiwz{ds:List D}(h:ds.length≠2):clkB (.tup ds)=false:=by
 unfold clkB;split
 ·rename_i h2;cases h2;exact absurd rfl h
 ·rfl
theorem q09z:∀ds G Q,qrwz ds G Q->qivz (endsOf Q) (start3 ["thing"] ds) G:=by
 rintro ds G Q ⟨d,rfl,hk,q⟩;have not_tup:(∀ds,d≠.tup ds)->qivz (endsOf Q) (start3 ["thing"] [d]) G:=by
  intro hn;have e:clkB d=false:=by
   cases d with
   |tup ds=>exact absurd rfl (hn ds)
   |_=>rfl
  rw[e] at q;show match instD "tuple" G d with
   |some b=>_
   |none=>False
  rw[qisz hk.known2 hn];exact⟨fun _=>⟨fun _=>qgz q,nofun⟩,nofun⟩
 cases d with
 |tup ds=>
  refine⟨nofun,fun _=>⟨_,_,rfl,rfl,Nat.zero_le _,?_⟩⟩;rcases ds with _|⟨a,_|⟨b,_|⟨c,ds⟩⟩⟩
  ·exact⟨fun _=>qgz q,nofun⟩
  ·rw[qiwz (by simp)] at q;exact⟨fun _=>qgz q,nofun⟩
  ·refine⟨nofun,fun _=>⟨a,rfl,(hk.el (by simp)).known,?_⟩⟩;have hb:Known G b:=(hk.el (by simp)).known;cases a with
   |int s=>
    refine⟨nofun,fun _=>⟨b,rfl,hb,?_⟩⟩;cases b with
    |int r=>
     have fin:∀v,clkV s r=v->(endsOf Q).rt (.bl v) G:=fun v e=>by
      rw[←e];exact qgz q
     refine⟨nofun,fun _=>⟨_,rfl,⟨fun h1=>⟨fun h2=>⟨_,rfl,fun h3=>⟨_,rfl,fin _ ?_⟩,fun h3=>fin _ ?_⟩,fun h2=>fin _ ?_⟩,fun h1=>⟨nofun,fun _=>fin _ ?_⟩⟩⟩⟩
     ·unfold clkV;rw[h1,h2,h3];rfl
     ·unfold clkV;rw[h1,h2,h3];rfl
     ·unfold clkV;rw[h1,h2];rfl
     ·unfold clkV;rw[h1];rfl
    |_=>exact⟨fun _=>qgz q,nofun⟩
   |_=>exact⟨fun _=>⟨fun _=>qgz q,nofun⟩,nofun⟩
  ·refine⟨fun _=>?_,fun h=>?_⟩
   ·rw[qiwz (by simp)] at q;exact qgz q
   have h':(!(((ds.length+1+1+1:Nat):Int)==2))=false:=h;simp at h';omega
 |_=>exact not_tup nofun
theorem qrzz{G:Gp}{te:TE3}{Q:List D->Gp->Prop}{ds:List D}{f:D->Bool}{js:List Nat}{τ:S3}(hl:ds.length≤1000)
  (hs:∀x∈ds,∀y:Option D,∀K:V3,K (.bl (f x)) G->te (set3 (y::js.map fun j=>at3 τ j) 0 x) G K) (q:Q (ds.map fun x=>.bl (f x)) G):compGo (fun _=>True) (hName 0) tNoTest3 te Q ds [] (none::js.map fun j=>at3 τ j) G:=by
 have:=qaaz (α:=D) (guard:=fun _=>True) (g:=hName 0) (tc:=tNoTest3) (te:=te) (Q:=Q) (fun τ'=>∃x,τ'=x::js.map fun j=>at3 τ j) (fun x=>x) (fun _=>true) (fun x=>.bl (f x)) (G:=G) trivial ds [] (none::js.map fun j=>at3 τ j) ⟨none,rfl⟩ ?_ ?_
 ·rw[List.map_id'] at this;exact this
 ·rintro x hx τ' K1 K2 ⟨y,rfl⟩ h1 h2;exact⟨fun _=>hs x hx y _ (h1 rfl _ ⟨_,rfl⟩),nofun⟩
 ·rw[filter_all,List.nil_append];exact q
end My
namespace My
open PySem L2 L3
theorem qedz{α β:Type}(f:α->D)(g:β->D):∀(as:List α) (bs:List β),zipD (as.map f) (bs.map g)=(as.zip bs).map fun p=>D.tup [f p.1,g p.2]
 |[],_=>rfl
 |a::as,[]=>rfl
 |a::as,b::bs=>by
  show D.tup [f a,g b]::zipD (as.map f) (bs.map g)=D.tup [f a,g b]::(as.zip bs).map _;rw[qedz f g as bs]
theorem qr0z{α:Type}(f:α->D)(as:List α)(bs:List D):zipD (as.map f) bs=(as.zip bs).map fun p=>D.tup [f p.1,p.2]:=by
 have:=qedz f (fun d:D=>d) as bs;rw[List.map_id'] at this;exact this
theorem qr1z{β:Type}(g:β->D)(bs:List β):enumD (bs.map g)=((List.range bs.length).zip bs).map fun p=>D.tup [nD p.1,g p.2]:=by
 unfold enumD;rw[List.length_map,rng0];exact qedz nD g _ _
def rD:Option Int->D
 |none=>.non
 |some i=>.int i
def setC(ns:List Int)(rs:List (Option Int)):List Clk:=(ns.zip rs).filterMap fun p=>p.2.map fun r=>(p.1,r)
def opens(rs:List (Option Int)):List Nat:=(List.range rs.length).filter fun k=>(rs.getD k none).isNone
theorem qfhz:∀ps:List (Int×Option Int),(ps.filter fun p=>p.2.isSome).map (fun p=>cD (p.1,p.2.getD 0))=(ps.filterMap fun p=>p.2.map fun r=>((p.1,r):Clk)).map cD
 |[]=>rfl
 | (s,none)::ps=>qfhz ps
 | (s,some r)::ps=>by
  show cD (s,r)::_=cD (s,r)::_;rw[←qfhz ps]
def qr2z:TS3:=sRet (eCB qboz (aCons (eComp ["step","rest"] [] (iZip (aCons (eVar 0) (aCons (eVar 1) (aNil)))) (hTup 2 (hCons (hName 0) (hCons (hName 1) (hNil)))) (eTest (eOp (rIs3 true) (eVar 1) (eC .non))) (eTup (aCons (eVar 0) (aCons (eVar 1) (aNil))))) (aNil)))
def qr3z:Sp3:=fun ds G Q=>∃(q:Addr) (rs:List (Option Int)) (k:Nat) (r:Int),ds=[.obj q,.int k,.int r]/\G q=some (.lst (rs.map rD))/\k<rs.length/\rs.length≤100/\∀p1 G1,New G p1 (.lst ((rs.set k (some r)).map rD)) G1->Q (.obj p1) G1
theorem qr4z{rs:List (Option Int)}{k:Nat}(h:k∈opens rs):k<rs.length:=by
 have:=(List.mem_filter.mp h).1;simpa using this
def qr5z:TS3:=sRet (eCB qbpz (aCons (eComp ["step"] [] (iSeq (eVar 0)) (hName 0) (tNoTest3) (eAndV (eCall qa6z (aCons (eVar 0) (aNil))) (eChain rLe3 rLe3 (eC (.int 2)) (eVar 0) (eC (.int 24))))) (aNil)))
def qr6z:TS3:=sSeq (sIf (eOr (eNot (eTest (eInst "list" (eVar 0)))) (eNot (eTest (eChain rLe3 rLe3 (eC (.int 1)) (eCB qyz (aCons (eVar 0) (aNil))) (eC (.int 6)))))) (sRet (eC (.bl false))) (sNext)) qr5z
end My
namespace My
open PySem L2 L3
theorem qr7z{cs:List Clk}{d:Nat}:∀{a:Nat},a∣d->(∀c∈cs,c.1.toNat∣d)->rndF cs a∣d:=by
 induction cs with
 |nil=>exact fun h _=>h
 |cons c cs ih=>
  intro a h hc;exact ih (a:=Nat.lcm a c.1.toNat) (Nat.lcm_dvd h (hc c List.mem_cons_self)) fun c' h'=>hc c' (List.mem_cons_of_mem _ h')
theorem qr8z{cs:List Clk}:∀{a:Nat},a∣rndF cs a:=by
 induction cs with
 |nil=>exact Nat.dvd_refl _
 |cons c cs ih=>intro a;exact Nat.dvd_trans (Nat.dvd_lcm_left a c.1.toNat) (ih (a:=Nat.lcm a c.1.toNat))
theorem qr9z{cs:List Clk}{c:Clk}:∀{a:Nat},c∈cs->c.1.toNat∣rndF cs a:=by
 induction cs with
 |nil=>exact fun h=>nomatch h
 |cons d cs ih=>
  intro a h;rcases List.mem_cons.mp h with rfl|h
  ·exact Nat.dvd_trans (Nat.dvd_lcm_right a c.1.toNat) (qr8z (cs:=cs) (a:=Nat.lcm a c.1.toNat))
  ·exact ih (a:=Nat.lcm a d.1.toNat) h
end My
namespace My
open PySem L2 L3
def ClSm(cs:List Clk):Prop:=∀c∈cs,Valid c/\(c.1≤24/\c.1∣720)
theorem more720{s k:Int}(h0:0<s)(h:s∣720)(hk:k=2∨k=3)(hl:s*k<25):s*k∣720:=by
 obtain⟨n,rfl⟩:∃n:Nat,s=(n:Int):=⟨s.toNat,by lia⟩;have hn:n∣720:=Int.natCast_dvd_natCast.mp h;have h2:∀n:Nat,n<13->n∣720->(n*2<25->n*2∣720)/\(n*3<25->n*3∣720):=by decide
 rcases hk with rfl|rfl
 ·exact Int.natCast_dvd_natCast.mpr ((h2 n (by lia) hn).1 (by lia))
 ·exact Int.natCast_dvd_natCast.mpr ((h2 n (by lia) hn).2 (by lia))
def qc1z:Sp3:=fun ds G Q=>∃(p:Addr) (t:Int),ds=[.obj p,.int t]/\G p=some .pen/\(0≤t/\t≤1000)/\∀q cs G',ClSm cs->1≤cs.length->cs.length≤12->New G q (.lst (cs.map cD)) G'->Q (.obj q) G'
def qsaz:TS3:=sIf (eAnd (eTest (eOp rLtT3 (eOp rAdd3 (eCB qyz (aCons (eVar 2) (aNil))) (eVar 5)) (eC (.int 13)))) (eTest (eOp rLtT3 (eOp rMul3 (eVar 6) (eVar 5)) (eC (.int 25))))) (sAsg (eOp rAdd3 (eOp rAdd3 (eSl (eVar 2) (oNone) (oSome (eVar 4))) (eComp ["part"] [6,5,7] (iRng1 (aCons (eVar 5) (aNil))) (hName 0) (tNoTest3) (eTup (aCons (eOp rMul3 (eVar 1) (eVar 2)) (aCons (eOp rAdd3 (eVar 3) (eOp rMul3 (eVar 1) (eVar 0))) (aNil)))))) (eSl (eVar 2) (oSome (eOp rAdd3 (eVar 4) (eC (.int 1)))) (oNone))) (hName 2)) (sNext)
def qsbz:TS3:=sSeq (sAsg (eOp rIx3 (eVar 2) (eVar 4)) (hTup 2 (hCons (hName 6) (hCons (hName 7) (hNil))))) qsaz
def qscz:TS3:=sSeq (sAsg (eLstIx (aCons (eC (.int 2)) (aCons (eC (.int 2)) (aCons (eC (.int 3)) (aNil)))) (eCall q7z (aCons (eVar 0) (aCons (eC (.int 3)) (aNil))))) (hName 5)) qsbz
def qsdz:TS3:=sSeq (sAsg (eCall q7z (aCons (eVar 0) (aCons (eCB qyz (aCons (eVar 2) (aNil))) (aNil)))) (hName 4)) qscz
def qsez:TS3:=sRet (eVar 2)
def qsfz:TS3:=sSeq (sFor (iRng1 (aCons (eVar 1) (aNil))) (hName 3) (qsdz)) qsez
def qixz:TS3:=sSeq (sAsg (eLst (aCons (eTup (aCons (eC (.int 1)) (aCons (eC (.int 0)) (aNil)))) (aNil))) (hName 2)) qsfz
theorem qsgz:∀ds G Q,qc1z ds G Q->qixz (endsOf Q) (start3 ["pen","times","found","turn","spot","k","step","rest"] ds) G:=by
 rintro ds G Q ⟨p,t,rfl,hp,ht,q⟩;intro q0 G0 hq0;refine⟨⟨by lia,by lia⟩,?_⟩;refine qamz (fun _ τ G'=>∃q cs x3 x4 x5 x6 x7,τ=[some (.obj p),some (.int t),some (.obj q),x3,x4,x5,x6,x7]/\New G q (.lst (cs.map cD)) G'/\ClSm cs/\1≤cs.length/\cs.length≤12) (fun _ _ _ _=>trivial) ?_ ?_ _ _ _ ?_
 ·rintro d ds τ G1 N ⟨q1,cs,x3,x4,x5,x6,x7,rfl,n1,ok,l1,l2⟩ hN;have e1:=n1.at_;have hp1:=n1.sub p _ hp;refine⟨_,e1,p,_,rfl,hp1,⟨?_,?_⟩,fun spot h1 h2=>?_⟩
  ·rw[List.length_map];lia
  ·exact qxz (by rw[List.length_map];lia) (by rw[List.length_map];lia)
  rw[List.length_map] at h2;refine⟨p,3,rfl,hp1,⟨by decide,qxz (by decide) (by decide)⟩,fun r h3 h4=>?_⟩;obtain⟨k,hk,ek⟩:=qffz (ns:=[2,2,3]) h3 h4;refine⟨.int k,ek,?_⟩;obtain⟨c,ec1,hc,ec⟩:=qecz cD h1 h2;obtain⟨s,r'⟩:=c;refine⟨_,cD (s,r'),e1,ec,rfl,?_⟩;have hv:=(ok _ hc).1;have hs24:=(ok _ hc).2.1;have hs720:=(ok _ hc).2.2;have hk':k=2∨k=3:=by simp at hk;lia
  have again:N [some (.obj p),some (.int t),some (.obj q1),some d,some (.int spot),some (.int k),some (.int s),some (.int r')] G1:=
   hN _ _ ⟨q1,cs,_,_,_,_,_,rfl,n1,ok,l1,l2⟩
  refine⟨_,e1,fun h5=>⟨⟨qxz ?_ ?_,qxz ?_ ?_⟩,fun h6=>?_,fun h6=>again⟩,fun h5=>⟨nofun,fun _=>again⟩⟩
  ·have:=hv.1;simp only at this;lia
  ·simp only at hs24;lia
  ·lia
  ·lia
  have h5':((cs.map cD).length:Int)+k<13:=of_decide_eq_true h5;have h6':s*k<25:=of_decide_eq_true h6;rw[List.length_map] at h5';refine⟨_,e1,fun p1 G2 a1=>⟨⟨by lia,by lia⟩,?_,?_⟩⟩
  ·show (rngL 0 k.toNat).length≤sizeLine;rw[qckz];exact line1000 (by lia)
  refine qaaz (fun τ=>∃x,τ=[x,some (.int s),some (.int k),some (.int r')]) (fun i:Nat=>D.int (0+(i:Int))) (fun _=>true) (fun i:Nat=>cD (s*k,r'+s*(0+(i:Int)))) trivial (List.range k.toNat) [] _ ⟨none,rfl⟩ ?_ ?_
  ·rintro i hi τ K1 K2 ⟨x,rfl⟩ g1 g2;have hi':(i:Int)<k:=by have:=List.mem_range.mp hi;lia
   have b1:Big s:=qxz (by have:=hv.1;simp only at this;lia) (by simp only at hs24;lia);refine⟨fun _=>⟨⟨b1,qxz (by lia) (by lia)⟩,⟨b1,qxz (by lia) (by lia)⟩,?_⟩,nofun⟩;exact g1 rfl _ ⟨_,rfl⟩
  ·intro p2 G3 a2;obtain⟨j,rfl⟩:∃j:Nat,spot=(j:Int):=⟨spot.toNat,by lia⟩;have hj:j<cs.length:=by lia
   have el:(cut3 (cs.map cD) none (some (j:Int))++([]++((List.range k.toNat).filter fun _=>true).map fun i:Nat=>cD (s*k,r'+s*(0+(i:Int))))++cut3 (cs.map cD) (some ((j:Int)+1)) none) =
     (cs.take j++((List.range k.toNat).map fun i:Nat=>(s*k,r'+s*(0+(i:Int))))++cs.drop (j+1)).map cD:=by
    rw[qfez,qfez,qimz,show ((j:Int)+1)=((j+1:Nat):Int) by lia,qrgz,List.filter_eq_self.mpr (fun _ _=>rfl)];simp[List.map_append,List.map_map]
   have hlen:(cs.take j++((List.range k.toNat).map fun i:Nat=>(s*k,r'+s*(0+(i:Int))))++cs.drop (j+1)).length=cs.length-1+k.toNat:=by
    rw[List.length_append,List.length_append,List.length_take,List.length_drop,List.length_map,List.length_range];lia
   have hle:(cut3 (cs.map cD) none (some (j:Int))++([]++((List.range k.toNat).filter fun _=>true).map fun i:Nat=>cD (s*k,r'+s*(0+(i:Int))))++cut3 (cs.map cD) (some ((j:Int)+1)) none).length≤12:=by
    rw[el,List.length_map,hlen];lia
   refine⟨_,_,a2.sub _ _ a1.at_,a2.at_,?_,fun p3 G4 a3=>?_⟩
   ·rw[List.length_append,List.length_append] at hle;exact line1000 (by lia)
   refine⟨_,a3.sub _ _ (a2.sub _ _ (a1.sub _ _ e1)),fun p4 G5 a4=>?_⟩;refine⟨_,_,a4.sub _ _ a3.at_,a4.at_,?_,fun p5 G6 a5=>?_⟩
   ·rw[←List.length_append];exact line1000 (by lia)
   ·rw[el] at a5;have s4:=((n1.sub.trans a1.sub).trans a2.sub).trans (a3.sub.trans a4.sub);refine hN _ _ ⟨p5,_,_,_,_,_,_,rfl,⟨s4.of_none a5.non,s4.trans a5.sub,a5.at_⟩,fun c hc=>?_,by lia,by lia⟩;rcases List.mem_append.mp hc with hc|hc
    ·rcases List.mem_append.mp hc with hc|hc
     ·exact ok c (List.mem_of_mem_take hc)
     ·obtain⟨i,hi,rfl⟩:=List.mem_map.mp hc;have:=List.mem_range.mp hi;exact⟨qrhz hv (by lia) (by lia),by show s*k≤24;lia,more720 hv.1 hs720 hk' h6'⟩
    ·exact ok c (List.mem_of_mem_drop hc)
 ·rintro τ G1 ⟨q1,cs,x3,x4,x5,x6,x7,rfl,n1,ok,l1,l2⟩;exact qgz (q q1 cs _ ok l1 l2 n1)
 ·exact⟨q0,[(1,0)],_,_,_,_,_,rfl,hq0,by intro c hc;simp at hc;subst hc;exact⟨⟨by decide,by decide,by decide⟩,by decide,by decide⟩,by decide,by decide⟩
end My
namespace My
open PySem L2 L3
def qc2z:Sp3:=fun ds G Q=>∃a b:Int,ds=[.int a,.int b]/\a≤b/\Q .non G
def qiyz:TS3:=sIf (eTest (eOp rGt3 (eVar 0) (eVar 1))) (sNever) (sNext)
theorem qshz:∀ds G Q,qc2z ds G Q->qiyz (endsOf Q) (start3 ["many","most"] ds) G:=by
 rintro ds G Q ⟨a,b,rfl,h,q⟩;refine⟨fun h'=>?_,fun _=>⟨G,Sub.refl _,q⟩⟩;have:a > b:=of_decide_eq_true h';lia
def cntN(cs:List Clk)(x:Nat):Nat:=(cs.filter (rg x)).length
def oN:Option Nat->D
 |none=>.non
 |some x=>nD x
end My
namespace My
open PySem L2 L3
theorem qsiz{cs:List Clk}{z:Clk}(h:z∈cs):z.1.toNat∣rnd cs:=qr9z h
theorem cnt_pos{cs:List Clk}{x:Nat}:cntN cs x≠0↔∃z∈cs,rg x z=true:=by
 unfold cntN;rw[Ne,List.length_eq_zero_iff,List.filter_eq_nil_iff];constructor
 ·intro h;refine Classical.byContradiction fun hn=>h fun z hz hr=>hn ⟨z,hz,hr⟩
 ·rintro⟨z,hz,hr⟩ h;exact h z hz hr
end My
namespace Cve
abbrev m:Nat:=10708457761
def ws:List Nat:=[0,1,10708457760,8190244814,9228822740,361694877,8190244815,8356586839,4215031578,9482552521,5580217876,6930092342,6592417826,10130563944,5462034841,4613485046,1300538629,1809708535,7604301077,2280215166,2830671003,9007091386,3353182442,6568930816,2365614199]
def w(d:Nat):Nat:=ws.getD d 0
theorem w_ok:∀d,d<25->0<d->(w d^d%m=1/\∀j,j<d->0<j->Nat.gcd (m+1-w d^j%m) m=1):=by decide +kernel
def nx(a:Int)(f:Nat->Int):Nat->Int:=fun x=>f (x+1)-a*f x
def ops:List Int->(Nat->Int)->Nat->Int
 |[],f=>f
 |a::l,f=>ops l (nx a f)
def Z(f:Nat->Int):Prop:=∀x,(m:Int)∣f x
theorem qsjz(a b:Int)(f):nx a (nx b f)=nx b (nx a f):=by
 funext x;simp only[nx];grind
theorem qskz(l):∀a f,ops l (nx a f)=nx a (ops l f):=by
 induction l with
 |nil=>intro a f;rfl
 |cons b l ih=>intro a f;simp only[ops];rw[qsjz,ih]
theorem qslz(l l'):∀f,ops (l++l') f=ops l' (ops l f):=by
 induction l with
 |nil=>intro f;rfl
 |cons b l ih=>intro f;simp only[List.cons_append,ops];rw[ih]
theorem qsmz(l l'):∀f,ops l' (ops l f)=ops l (ops l' f):=by
 induction l with
 |nil=>intro f;rfl
 |cons b l ih=>intro f;simp only[ops];rw[ih,qskz]
theorem Z_nx{f a}(h:Z f):Z (nx a f):=fun x=>Int.dvd_sub (h (x+1)) (Int.dvd_mul_of_dvd_right (h x))
theorem qizz{l}:∀{f},Z f->Z (ops l f):=by
 induction l with
 |nil=>intro f h;exact h
 |cons b l ih=>intro f h;exact ih (Z_nx h)
theorem qi0z(l):∀c f g,ops l (fun x=>f x-c*g x)=fun x=>ops l f x-c*ops l g x:=by
 induction l with
 |nil=>intro c f g;rfl
 |cons a l ih=>
  intro c f g;simp only[ops];rw[←ih];congr 1;funext x;simp only[nx];grind
theorem qsnz(v:Int)(l):∀k f,ops (l.map (v*·)) (fun x=>v^(x+k)*f x)=fun x=>v^(x+k+l.length)*ops l f x:=by
 induction l with
 |nil=>intro k f;rfl
 |cons a l ih=>
  intro k f;simp only[List.map,ops,List.length_cons];have:nx (v*a) (fun x=>v^(x+k)*f x)=fun x=>v^(x+(k+1))*nx a f x:=by
   funext x;simp only[nx];have e1:v^(x+1+k)=v^(x+k)*v:=by rw[show x+1+k=x+k+1 by lia,Int.pow_succ]
   have e2:v^(x+(k+1))=v^(x+k)*v:=by rw[←Int.pow_succ];rfl
   rw[e1,e2];grind
  rw[this,ih];funext x;congr 2;lia
theorem qsoz(l):∀f,Z (ops l f)->(∀x<l.length,(m:Int)∣f x)->Z f:=by
 induction l with
 |nil=>intro f h _;exact h
 |cons a l ih=>
  intro f h h0 x;have hg:Z (nx a f):=ih (nx a f) h fun x hx=>Int.dvd_sub (h0 (x+1) (by simpa using hx)) (Int.dvd_mul_of_dvd_right (h0 x (by simp;lia)))
  induction x with
  |zero=>exact h0 0 (by simp)
  |succ x ihx=>
   have:=Int.dvd_add (hg x) (Int.dvd_mul_of_dvd_right (b:=a) ihx);simpa [nx] using this
def F:List (Nat×Nat)->Nat->Int
 |[],_=>1
 |c::cs,x=>F cs x-((w c.1:Int)^(x+(c.1-c.2)))*F cs x
def A:List (Nat×Nat)->List Int
 |[]=>[1]
 |c::cs=>A cs++(A cs).map ((w c.1:Int)*·)
theorem qspz(cs):(A cs).length=2^cs.length:=by
 induction cs with
 |nil=>rfl
 |cons c cs ih=>simp only[A,List.length_append,List.length_map,ih,List.length_cons];lia
theorem kills(cs):Z (ops (A cs) (F cs)):=by
 induction cs with
 |nil=>intro x;simp[A,ops,nx,F]
 |cons c cs ih=>
  have e:F (c::cs)=fun x=>F cs x-1*((w c.1:Int)^(x+(c.1-c.2))*F cs x):=by funext x;simp only[F];grind
  rw[e,A,qslz,qi0z];rw[qi0z];intro x;refine Int.dvd_sub (qizz ih x) (Int.dvd_mul_of_dvd_right ?_);rw[qsmz (A cs) ((A cs).map _),qsnz];exact qizz (l:=A cs) (fun x=>Int.dvd_mul_of_dvd_right (ih x)) x
theorem qi1z(d x:Nat):((w d:Int)^x)%m=((w d^x%m:Nat):Int):=by simp
theorem qi2z(d:Nat)(h:d<25)(h0:0<d)(k:Nat):(m:Int)∣1-(w d:Int)^(d*k):=by
 have h1:(m:Int)∣1-(w d:Int)^d:=by
  have:=(w_ok d h h0).1;have e:=qi1z d d;rw[this] at e;have e2:=Int.mul_ediv_add_emod ((w d:Int)^d) m;rw[e] at e2;exact⟨-((w d:Int)^d / m),by rw[←e2];grind⟩
 induction k with
 |zero=>simp
 |succ k ih=>
  rw[Nat.mul_succ,Int.pow_add];obtain⟨a,ha⟩:=h1;obtain⟨b,hb⟩:=ih;exact⟨a+b-m*a*b,by
   have e1:(w d:Int)^d=1-m*a:=by lia
   have e2:(w d:Int)^(d*k)=1-m*b:=by lia
   rw[e1,e2];grind⟩
def U(a:Int):Prop:=∃u:Int,(m:Int)∣1-u*a
theorem qsqz{a b}(ha:U a)(hb:U b):U (a*b):=by
 obtain⟨u,p,hp⟩:=ha;obtain⟨v,q,hq⟩:=hb;exact⟨u*v,p+q-m*p*q,by
  have e1:u*a=1-m*p:=by lia
  have e2:v*b=1-m*q:=by lia
  have:u*v*(a*b)=(u*a)*(v*b):=by grind
  rw[this,e1,e2];grind⟩
theorem U_ne{a}(h:U a):¬(m:Int)∣a:=by
 intro ha;obtain⟨u,hu⟩:=h;have:=Int.dvd_add hu (Int.dvd_mul_of_dvd_right (b:=u) ha);have h2:1-u*a+u*a=1:=by lia
 have e:(m:Int)∣1:=by rwa [h2] at this
 revert e;decide
theorem bez(a b:Nat):∃u v:Int,u*a+v*b=Nat.gcd a b:=by
 induction a,b using Nat.gcd.induction with
 |H0 n=>exact⟨0,1,by simp⟩
 |H1 a b h ih=>
  obtain⟨u,v,e⟩:=ih;have e2:(b:Int)=a*(b / a:Nat)+(b%a:Nat):=by have:=Nat.div_add_mod b a;lia
  rw[Nat.gcd_rec];exact⟨v-u*(b / a:Nat),u,by rw[←e];generalize ((b / a:Nat):Int)=q at *;generalize ((b%a:Nat):Int)=r at *;rw[e2];grind⟩
theorem qsrz(a:Nat)(h:Nat.gcd a m=1):U a:=by
 obtain⟨u,v,e⟩:=bez a m;rw[h] at e;exact⟨u,v,by have:u*(a:Int)+v*(m:Int)=1:=e;grind⟩
theorem unit(d x:Nat)(h:d<25)(h0:0<d)(hx:x%d≠0):U (1-(w d:Int)^x):=by
 have h1:=qsrz _ ((w_ok d h h0).2 (x%d) (Nat.mod_lt _ h0) (by lia));obtain⟨u,hu⟩:=h1;refine⟨u,?_⟩;have hk:=qi2z d h h0 (x / d);have e:(w d:Int)^x=(w d:Int)^(d*(x / d))*(w d:Int)^(x%d):=by rw[←Int.pow_add,Nat.div_add_mod]
 have e3:=qi1z d (x%d);have h2:(m:Int)∣(1-(w d:Int)^x)-((m+1-w d^(x%d)%m:Nat):Int):=by
  have l:w d^(x%d)%m<m:=Nat.mod_lt _ (by decide);obtain⟨b,hb⟩:=hk;have e2:(w d:Int)^(d*(x / d))=1-m*b:=by lia
  have e4:(w d:Int)^(x%d)=m*((w d:Int)^(x%d) / m)+((w d^(x%d)%m:Nat):Int):=by
   rw[←e3];exact (Int.mul_ediv_add_emod _ _).symm
  generalize hq:(w d:Int)^(x%d) / m=q at e4;generalize hr:w d^(x%d)%m=r at *;have e5:((m+1-r:Nat):Int)=(m:Int)+1-r:=by lia
  rw[e,e2,e5,e4];exact⟨b*(m*q+r)-q-1,by grind⟩
 have:=Int.dvd_sub hu (Int.dvd_mul_of_dvd_right (b:=u) h2);have e:1-u*((m+1-w d^(x%d)%m:Nat):Int)-u*(1-(w d:Int)^x-((m+1-w d^(x%d)%m:Nat):Int))=1-u*(1-(w d:Int)^x):=by
  generalize ((m+1-w d^(x%d)%m:Nat):Int)=y;grind
 rwa [e] at this
def Okc(c:Nat×Nat):Prop:=c.1<25/\c.2<c.1
theorem qi3z(cs)(h:∀c∈cs,Okc c)(x):(m:Int)∣F cs x↔∃c∈cs,x%c.1=c.2:=by
 have key:(∃c∈cs,x%c.1=c.2)/\(m:Int)∣F cs x∨(¬∃c∈cs,x%c.1=c.2)/\U (F cs x):=by
  induction cs with
  |nil=>right;exact⟨by simp,1,by simp[F]⟩
  |cons c cs ih=>
   have⟨o1,o2⟩:=h c (by simp);have e:F (c::cs) x=(1-(w c.1:Int)^(x+(c.1-c.2)))*F cs x:=by simp only[F];grind
   have ih:=ih fun c hc=>h c (by simp[hc]);rw[e];by_cases hr:x%c.1=c.2
   ·left;refine⟨⟨c,by simp,hr⟩,?_⟩;refine Int.dvd_mul_of_dvd_left ?_;have:x+(c.1-c.2)=c.1*(x / c.1+1):=by
     have:=Nat.div_add_mod x c.1;rw[Nat.mul_add];lia
    rw[this];exact qi2z _ o1 (by lia) _
   ·rcases ih with⟨⟨b,hb,hb'⟩,hd⟩|⟨hn,hu⟩
    ·left;exact⟨⟨b,by simp[hb],hb'⟩,Int.dvd_mul_of_dvd_right hd⟩
    ·right;refine⟨?_,qsqz (unit _ _ o1 (by lia) ?_) hu⟩
     ·rintro⟨b,hb,hb'⟩;rcases List.mem_cons.1 hb with rfl|hb
      ·exact hr hb'
      ·exact hn ⟨b,hb,hb'⟩
     ·intro h0;apply hr;have hx:=Nat.div_add_mod x c.1;obtain⟨k,hk⟩:=Nat.dvd_of_mod_eq_zero h0;have l:=Nat.mod_lt x (show 0<c.1 by lia);have e1:(x+(c.1-c.2))%c.1=(x%c.1+(c.1-c.2))%c.1:=by simp
      rw[h0] at e1;by_cases hlt:x%c.1+(c.1-c.2)<c.1
      ·rw[Nat.mod_eq_of_lt hlt] at e1;lia
      ·rw[Nat.mod_eq_sub_mod (by lia)] at e1;rw[Nat.mod_eq_of_lt (by lia)] at e1;lia
 rcases key with⟨a,b⟩|⟨a,b⟩
 ·exact⟨fun _=>a,fun _=>b⟩
 ·exact⟨fun d=>absurd d (U_ne b),fun c=>absurd c a⟩
theorem cve(cs:List (Nat×Nat))(h:∀c∈cs,Okc c)(h0:∀x<2^cs.length,∃c∈cs,x%c.1=c.2)(x:Nat):∃c∈cs,x%c.1=c.2:=
 (qi3z cs h x).1 (qsoz (A cs) (F cs) (kills cs) (fun y hy=>(qi3z cs h y).2 (h0 y (by rwa [qspz] at hy))) x)
end Cve
namespace My
open PySem L2 L3
structure RsOk(ns:List Int)(rs:List (Option Int)):Prop where
 len:rs.length=ns.length
 n6:ns.length≤6
 st:∀n∈ns,2≤n/\n≤24
 rest:∀(k:Nat) (r:Int),rs[k]?=some (some r)->∃n,ns[k]?=some n/\0≤r/\r<n
structure Fits(ns:List Int)(rs:List (Option Int))(ts:List Int):Prop where
 len:ts.length=ns.length
 ok:∀(k:Nat) (t n:Int),ts[k]?=some t->ns[k]?=some n->0≤t/\t<n
 set:∀(k:Nat) (r:Int),rs[k]?=some (some r)->ts[k]?=some r
 cov:∀x:Nat,∃(k:Nat) (n:Int),ns[k]?=some n/\ts[k]?=some ((x:Int)%n)
def Comp(ns:List Int)(rs:List (Option Int)):Prop:=∃ts,Fits ns rs ts
def nmO(cs:List Clk):Option Nat:=(List.range (2^cs.length)).find? fun x=>cntN cs x==0
theorem mem_setC{ns:List Int}{rs:List (Option Int)}{c:Clk}:c∈setC ns rs↔∃k:Nat,ns[k]?=some c.1/\rs[k]?=some (some c.2):=by
 unfold setC;rw[List.mem_filterMap];constructor
 ·rintro⟨⟨n,o⟩,hm,e⟩;obtain⟨k,hk⟩:=List.getElem?_of_mem hm;rw[List.getElem?_zip_eq_some] at hk;cases o with
  |none=>cases e
  |some r=>
   cases e;exact⟨k,hk.1,hk.2⟩
 ·rintro⟨k,h1,h2⟩;exact⟨(c.1,some c.2),List.mem_of_getElem? (i:=k) (List.getElem?_zip_eq_some.mpr ⟨h1,h2⟩),rfl⟩
theorem qssz(ns:List Int)(rs:List (Option Int)):(setC ns rs).length≤ns.length:=by
 unfold setC;refine Nat.le_trans (List.length_filterMap_le _ _) ?_;rw[List.length_zip];lia
theorem qstz{cs:List Clk}(hv:∀c∈cs,Valid c/\c.1≤24)(h:nmO cs=none)(x:Nat):∃c∈cs,rg x c=true:=by
 unfold nmO at h;rw[List.find?_eq_none] at h;have key:∀(x:Nat) (c:Clk),c∈cs->(rg x c=true↔x%c.1.toNat=c.2.toNat):=fun x c hc=>by
  obtain⟨⟨h1,h2,h3⟩,_⟩:=hv c hc;unfold rg;rw[beq_iff_eq];have e:(x:Int)%c.1=((x%c.1.toNat:Nat):Int):=by
   rw[Int.natCast_emod,Int.toNat_of_nonneg (by lia)]
  rw[e];lia
 have:=Cve.cve (cs.map fun c=>(c.1.toNat,c.2.toNat)) (fun d hd=>by
  obtain⟨c,hc,rfl⟩:=List.mem_map.mp hd;obtain⟨⟨h1,h2,h3⟩,h4⟩:=hv c hc;exact⟨by show c.1.toNat<25;lia,by show c.2.toNat<c.1.toNat;lia⟩) (fun y hy=>by
  rw[List.length_map] at hy;have:=h y (List.mem_range.mpr hy);obtain⟨c,hc,hr⟩:=cnt_pos.mp (show cntN cs y≠0 by simpa using this);exact⟨_,List.mem_map_of_mem hc,(key y c hc).mp hr⟩) x
 obtain⟨d,hd,e⟩:=this;obtain⟨c,hc,rfl⟩:=List.mem_map.mp hd;exact⟨c,hc,(key x c hc).mpr e⟩
theorem open_at{rs:List (Option Int)}{k:Nat}:k∈opens rs↔rs[k]?=some none:=by
 unfold opens;rw[List.mem_filter,List.mem_range];constructor
 ·rintro⟨h1,h2⟩;rw[List.getD_eq_getElem?_getD,List.getElem?_eq_getElem h1] at h2;rw[List.getElem?_eq_getElem h1];cases e:rs[k] with
  |none=>rfl
  |some r=>rw[e] at h2;cases h2
 ·intro h;refine⟨(List.getElem?_eq_some_iff.mp h).1,?_⟩;rw[List.getD_eq_getElem?_getD,h];rfl
theorem qsuz{ns:List Int}{rs:List (Option Int)}{k:Nat}{r:Int}{ts:List Int}(h:Fits ns rs ts)(hk:k∈opens rs)(ht:ts[k]?=some r):Comp ns (rs.set k (some r)):=by
 refine⟨ts,h.len,h.ok,fun j r' hj=>?_,h.cov⟩;by_cases z:k=j
 ·subst z;rw[List.getElem?_set_self (qr4z hk)] at hj;cases hj;exact ht
 ·rw[List.getElem?_set_ne z] at hj;exact h.set j r' hj
theorem RsOk.with{ns:List Int}{rs:List (Option Int)}{k:Nat}{n r:Int}(h:RsOk ns rs)(hn:ns[k]?=some n)(h0:0≤r)(h1:r<n):RsOk ns (rs.set k (some r)):=by
 refine⟨by rw[List.length_set,h.len],h.n6,h.st,fun j r' hj=>?_⟩;by_cases z:k=j
 ·subst z;have hl:=(List.getElem?_eq_some_iff.mp hn).1;rw[List.getElem?_set_self (by rw[h.len];exact hl)] at hj;cases hj;exact⟨n,hn,h0,h1⟩
 ·rw[List.getElem?_set_ne z] at hj;exact h.rest j r' hj
end My
namespace L2
open PySem
open Sem (wp)
section
variable {prog:Program} {w:World} {A:Around} {E:Value->Shared->Prop} {h:Heap} {g:Array GenState} {d:Drawn} {t:Nat} {os:OsState}
variable {nm q:Str} {C N:Addr} {bs bm bmB:List Value} {hdct:Bool} {sn:List Str} {sub:List Value} {ab:Bool} {col:Option Bool} {dd:Option Addr} {k0 k1 k2 k3 k5:Option Value} {B newId initId:String}
def excHeap(h:Heap)(C:Addr)(rest:List Value):Heap:=(h.push { cls:=.type "tuple",data:=.seq rest.toArray }).push { cls:=.ref C,data:=.fields #[.ref h.objs.size,.none,.none,.none,.bool false,.none]}
theorem qsvz(F:ExcBaseFacts B newId initId bmB)(T:OwnTail h bmB bm){mN:Str->Option Value}{rest:List Value}{f:Addr}{of:Obj}{Q:Fin->Shared->Prop}
  (hC:h.get? C=some (excClassObj nm q C N bs bm hdct sn sub ab col dd k0 k1 k2 k3 k5 newId)) (hn:h.Ns N mN) (hni:mN "__init__" = some (.ref f)) (hf:h.get? f=some of) (hfc:of.cls=.type "function")
  (hq:codeAny (model prog w) A (.call (.ref f) ⟨.ref (h.objs.size+1)::rest,[]⟩) (fun r s'=>match r with
   |.ok (.ret v)=>v=.none/\Q (.done (.ret (.ref (h.objs.size+1)))) s'
   |.ok _=>False
   | .error e=>E e s') ⟨excHeap h C rest,g,d,t,os⟩) (hrest:rest.length≤sizeLine:=by size_fits):
  wpAny (model prog w) A (Builtin.«type.__call__» ⟨.ref C::rest,[]⟩) Q E ⟨h,g,d,t,os⟩:=by
 repeat (first|with_reducible refine wpAny_loadPart_at hC ?_|with_reducible refine wpAny_madeBy_exc hC ?_|wp_step)
 refine codeAny_call_builtin_code (Code.quiet_builtin _ F.quiet) (wpAny_check_new_subT F T hC ?_);refine codeAny_exc_new_subT F T hC ?_ hrest;show wpAny _ _ _ _ _ _;have hC₁:=Heap.get?_push_of_some { cls:=.ref C,data:=.fields #[.ref h.objs.size,.none,.none,.none,.bool false,.none]}
  (Heap.get?_push_of_some { cls:=.type "tuple",data:=.seq rest.toArray } hC)
 have hf₁:=Heap.get?_push_of_some { cls:=.ref C,data:=.fields #[.ref h.objs.size,.none,.none,.none,.bool false,.none]}
  (Heap.get?_push_of_some { cls:=.type "tuple",data:=.seq rest.toArray } hf)
 have hn₁:((h.push { cls:=.type "tuple",data:=.seq rest.toArray }).push { cls:=.ref C,data:=.fields #[.ref h.objs.size,.none,.none,.none,.bool false,.none]}).Ns N mN:=
  let ⟨o,es,ep,e,r⟩:=hn;⟨o,es,ep,Heap.get?_push_of_some _ (Heap.get?_push_of_some _ e),r⟩
 have hget:((h.push { cls:=.type "tuple",data:=.seq rest.toArray }).push
   { cls:=.ref C,data:=.fields #[.ref h.objs.size,.none,.none,.none,.bool false,.none]}).get? (h.objs.size+1)=some
   { cls:=.ref C,data:=.fields #[.ref h.objs.size,.none,.none,.none,.bool false,.none]}:=by heap_get
 have hcC:(Value.ref C::bm).contains (.ref C)=true:=by simp
 have T₁:=T.keeps (h':=(h.push { cls:=.type "tuple",data:=.seq rest.toArray }).push { cls:=.ref C,data:=.fields #[.ref h.objs.size,.none,.none,.none,.bool false,.none]})
  fun b o e=>Heap.get?_push_of_some _ (Heap.get?_push_of_some _ e)
 unfold isInstance
 repeat (first|with_reducible refine wpAny_loadPart_at hget ?_|(with_reducible refine wpAny_isSubtype_exc hC₁ ?_;rw[hcC])|wp_step)
 show wpAny _ _ (typeLookup (.ref C) _) _ _ _;refine wpAny_typeLookup_tail hC₁ hn₁ T₁ F.mroIs F.init.lookup ?_;rw[hni];refine wpAny_holding (wpAny_bind (wpAny_bindSpecial_def hf₁ hfc ?_));refine wpAny_bind (wpAny_call (codeAny_mono hq fun r s' hr=>?_));cases r with
 |error e=>exact hr
 |ok fl=>
  cases fl with
  |ret v=>
   obtain⟨rfl,hr⟩:=hr;refine wpAny_pure ?_;show wpAny _ _ (ret (Value.ref (h.objs.size+1))) _ _ _;exact wpAny_pure hr
  |next=>exact hr.elim
  |brk=>exact hr.elim
  |cont=>exact hr.elim
theorem qswz(F:ExcBaseFacts B newId initId bmB)(T:OwnTail h bmB bm){mN:Str->Option Value}{rest:List Value}{f:Addr}{of:Obj}{Q:Value->Shared->Prop}
  (hC:h.get? C=some (excClassObj nm q C N bs bm hdct sn sub ab col dd k0 k1 k2 k3 k5 newId)) (hn:h.Ns N mN) (hni:mN "__init__" = some (.ref f)) (hf:h.get? f=some of) (hfc:of.cls=.type "function")
  (hq:codeAny (model prog w) (A.under (.builtin "type.__call__" ⟨.ref C::rest,[]⟩)) (.call (.ref f) ⟨.ref (h.objs.size+1)::rest,[]⟩) (fun r s'=>match r with
   |.ok (.ret v)=>v=.none/\Q (.ref (h.objs.size+1)) s'
   |.ok _=>False
   | .error e=>E e s') ⟨excHeap h C rest,g,d,t,os⟩) (hrest:rest.length≤sizeLine:=by size_fits):
  wpAny (model prog w) A (call (.ref C) rest) Q E ⟨h,g,d,t,os⟩:=by
 have f1:=tc_lookup;have f2:=tc_bind (.ref C);have hT:(⟨h,g,d,t,os⟩:Shared).TypeIs (.ref C) "type":=⟨_,hC,rfl⟩;refine wpAny_call (codeAny_of_tree ?_);show wpAny _ _ (callAny (.ref C) _) _ _ _
 repeat (any_goals (first|assumption|with_reducible refine wpAny_loadPart_at hC ?_|wp_step))
 refine⟨rfl,?_⟩;refine codeAny_call_builtin_at (Code.quiet_builtin _ (by decide +kernel)) entry_typeCall (wpAny_check_type_call_sub hC ?_);refine qsvz F T hC hn hni hf hfc (codeAny_mono hq fun r s' hr=>?_) hrest;cases r with
 |error e=>exact hr
 |ok fl=>
  cases fl with
  |ret v=>exact hr
  |next=>exact hr.elim
  |brk=>exact hr.elim
  |cont=>exact hr.elim
end
end L2
namespace L2
open PySem
open Sem (wp)
structure TracedD(base h:Heap)(e T:Addr)(cls:Value)(dx:Option Addr):Prop where
 obj:∃oe vs,h.get? e=some oe/\oe.cls=cls/\oe.dict=dx/\oe.data=.fields vs/\vs[1]?=some (.ref T)/\vs[2]?=some .none
 fresh:base.get? T=none
 ne:T≠e
 ent:∃oT ts,h.get? T=some oT/\oT.data=.fields ts/\ts[3]?=some .none
structure LeftD(base:Heap)(l:List Env)(e T₀:Addr)(cls:Value)(dx:Option Addr)(h h':Heap):Prop where
 stays:base.StaysIn h'
 funs:h'.FunFrames base l
 traced:∃T,TracedD base h' e T cls dx/\h.get? T=none
 keep:∀b o,b≠e->b≠T₀->b∉frs l->h.get? b=some o->h'.get? b=some o
 slot:∀b o,b∈frs l->h.get? b=some o->∃sl,h'.get? b=some { o with slots:=sl }
section
variable {M:Model} {A:Around} {E:Value->Shared->Prop} {s:Shared}
theorem newEntryD{base:Heap}{env:Env}{outer:List Env}{L e:Addr}{oe:Obj}{vs:Array Value}{head:Value}{hadNext:Bool}{Q:Unit->Shared->Prop}
  (hfr:A.frames=some (env::outer)) (hl:s.heap.FunFrames base (env::outer)) (hf:env.frame=some L)
  (he:s.heap.get? e=some oe) (hkb:base.StaysIn s.heap) (hen:base.get? e=none) (hd:oe.data=.fields vs) (hsz:1<vs.size) (h2:vs[2]?=some .none)
  (h:∀h',LeftD base (env::outer) e e oe.cls oe.dict s.heap h'->Q () { s with heap:=h' }):
  wpAny M A (do let a ←frameOf env;let pl ←entryPlaceOf L hadNext;let b ←EntryCells.newEntry head a .none (rawInt L) .none pl;setField (.ref e) 1 b) (fun _ s'=>wpAny M A (setFlight (.ref e) none) Q E s') E s:=by
 have hene:e∉(env::outer).filterMap (·.frame):=fun hm=>by
  obtain⟨_,o,ho,hnf⟩:=hl.mem hm;rw[he] at ho;injection ho with ho;subst ho;exact hnf vs hd
 refine wpAny_bind (wpAny_frameOf_fun hfr hl hf fun h₁ hs₁=>?_);refine wpAny_bind (wpAny_entryPlaceOf fun pl hpl=>?_);unfold EntryCells.newEntry newFields;refine wpAny_bind (wpAny_newObj_type ?_ (hpl.sizeOk5 _ _ _ _ _));have he₁:h₁.get? e=some oe:=(hs₁.2.1 e hene).trans he;have kb₁:base.StaysIn h₁:=fun b o hbo=>(hs₁.2.1 b fun hm=>by rw[(hl.mem hm).1] at hbo;cases hbo).trans (hkb b o hbo);have he₂:=Heap.get?_push_of_some (h:=h₁) { cls:=.type "traceback",dict:=none,data:=.fields ([head,.ref L,.none,rawInt L,.none]++(if pl.isEmpty then List.replicate 6 Value.none else pl)).toArray } he₁;refine wpAny_setField he₂ hd hsz ?_;have hTe:h₁.objs.size≠e:=Nat.ne_of_gt (Heap.lt_size he₁);have hd₃:=Obj.data_mapFields hd (·.setIfInBounds 1 (Value.ref h₁.objs.size));have he₃:=Heap.get?_update_self (Obj.mapFields (·.setIfInBounds 1 (Value.ref h₁.objs.size))) he₂ (Obj.isFreed_of_fields hd₃);have hT₃:=(Heap.get?_update_other (h₁.push { cls:=.type "traceback",dict:=none,data:=.fields ([head,.ref L,.none,rawInt L,.none]++(if pl.isEmpty then List.replicate 6 Value.none else pl)).toArray })
  (Obj.mapFields (·.setIfInBounds 1 (Value.ref h₁.objs.size))) (Ne.symm hTe)).trans (Heap.get?_push_size h₁ rfl)
 unfold setFlight;refine wpAny_bind (wpAny_field he₃ hd₃ (x:=.ref h₁.objs.size) (by simp[hsz]) ?_);rw[if_pos (show (Value.ref h₁.objs.size != Value.none)=true from by simp)];refine wpAny_setField hT₃ rfl (by simp only[List.size_toArray,List.length_append,List.length_cons,List.length_nil]<;>omega) (h _ ?_)
 have keep:∀b o,b≠e->h₁.get? b=some o ->
   (((h₁.push { cls:=.type "traceback",dict:=none,data:=.fields ([head,.ref L,.none,rawInt L,.none]++(if pl.isEmpty then List.replicate 6 Value.none else pl)).toArray }).update e (Obj.mapFields (·.setIfInBounds 1 (Value.ref h₁.objs.size)))).update h₁.objs.size
    (Obj.mapFields (·.setIfInBounds 3 ((none:Option Addr).elim Value.none fun f=>rawInt f)))).get? b=some o:=fun b o hbe hb=>by
  have hbT:h₁.objs.size≠b:=Nat.ne_of_gt (Heap.lt_size hb);rw[Heap.get?_update_other _ _ hbT,Heap.get?_update_other _ _ (Ne.symm hbe)];exact Heap.get?_push_of_some _ hb
 have noRecord:∀b o,s.heap.get? b=some o->(∀vs,o.data≠.fields vs)->b≠e:=fun b o hb hnf q=>by
  rw[q,he] at hb;injection hb with hb;subst hb;exact hnf vs hd
 refine⟨fun b o hbo=>keep b o (fun q=>by rw[q,hen] at hbo;cases hbo) (kb₁ b o hbo),hl.of_keeps fun b o hb hnf=>?_,⟨h₁.objs.size,⟨⟨_,_,?_,Obj.cls_mapFields _ _,?_,hd₃,by simp[hsz],by rw[Array.getElem?_setIfInBounds_ne (by decide)];exact h2⟩,kb₁.fresh,hTe,_,_,Heap.get?_update_self _ hT₃ (Obj.isFreed_of_fields (Obj.data_mapFields rfl _)),Obj.data_mapFields rfl _,by first|(simp;done)|(rcases hpl with rfl|⟨_,_,_,_,_,_,_,rfl⟩<;>simp)⟩,?_⟩,fun b o hbe _ hbf hb=>?_,fun b o hbf hb=>?_⟩
 ·obtain⟨sl,hs⟩:=hs₁.2.2 b o hb;exact⟨_,keep b _ (noRecord b o hb hnf) hs,rfl⟩
 ·rw[Heap.get?_update_other _ _ hTe];exact he₃
 ·obtain⟨c0,d0,dt0,s0⟩:=oe;cases dt0<;>rfl
 ·exact Heap.get?_none_of_le (by rw[hs₁.1];exact Nat.le_refl _)
 ·exact keep b o hbe ((hs₁.2.1 b hbf).trans hb)
 ·obtain⟨sl,hs⟩:=hs₁.2.2 b o hb;refine⟨sl,keep b _ (fun q=>?_) hs⟩;rw[q] at hbf;exact hene hbf
theorem qsxz{base:Heap}{env:Env}{outer:List Env}{L e:Addr}{oe:Obj}{vs:Array Value}{Q:Unit->Shared->Prop}
  (hfr:A.frames=some (env::outer)) (hl:s.heap.FunFrames base (env::outer)) (hf:env.frame=some L)
  (he:s.heap.get? e=some oe) (hkb:base.StaysIn s.heap) (hen:base.get? e=none) (hd:oe.data=.fields vs) (h1:vs[1]?=some .none) (h2:vs[2]?=some .none)
  (h:∀h',LeftD base (env::outer) e e oe.cls oe.dict s.heap h'->Q () { s with heap:=h' }):wpAny M A (leaving env (.ref e)) Q E s:=by
 unfold leaving noteFrame;simp only[hf];refine wpAny_bind (wpAny_bind (wpAny_field he hd h1 ?_));rw[if_neg (by decide)];exact newEntryD hfr hl hf he hkb hen hd (Array.getElem?_eq_some_iff.mp h1).1 h2 h
theorem qsyz{base:Heap}{env:Env}{outer:List Env}{L e T:Addr}{cls:Value}{dx:Option Addr}{Q:Unit->Shared->Prop}
  (hfr:A.frames=some (env::outer)) (hl:s.heap.FunFrames base (env::outer)) (hf:env.frame=some L) (ht:TracedD base s.heap e T cls dx) (hkb:base.StaysIn s.heap) (hen:base.get? e=none)
  (h:∀h',LeftD base (env::outer) e T cls dx s.heap h'->Q () { s with heap:=h' }):wpAny M A (leaving env (.ref e)) Q E s:=by
 obtain⟨⟨oe,vs,he,hcls,hdx,hd,h1,h2⟩,hnT,hTe,oT,ts,hT,hdT,h3⟩:=ht;subst hcls hdx;unfold leaving noteFrame;simp only[hf];refine wpAny_bind (wpAny_bind (wpAny_field he hd h1 ?_));rw[if_pos (show (Value.ref T != Value.none)=true from by simp)];refine wpAny_bind (wpAny_field hT hdT h3 ?_);rw[if_neg (show ¬((Value.none==rawInt L)=true) from by simp[rawInt])];refine wpAny_bind (wpAny_setField hT hdT (Array.getElem?_eq_some_iff.mp h3).1 ?_);have other:∀b,b≠T->(s.heap.update T (Obj.mapFields (·.setIfInBounds 3 Value.none))).get? b=s.heap.get? b:=fun b hb=>Heap.get?_update_other _ _ (Ne.symm hb);have noRecord:∀b o,s.heap.get? b=some o->(∀vs,o.data≠.fields vs)->b≠T:=fun b o hb hnf q=>by
  rw[q,hT] at hb;injection hb with hb;subst hb;exact hnf ts hdT
 have hTf:T∉frs (env::outer):=fun hm=>by
  obtain⟨_,o,ho,hnf⟩:=hl.mem hm;rw[hT] at ho;injection ho with ho;subst ho;exact hnf ts hdT
 refine newEntryD hfr (hl.of_keeps fun b o hb hnf=>⟨o,(other b (noRecord b o hb hnf)).trans hb,rfl⟩) hf ((other e (Ne.symm hTe)).trans he)
  (fun b o hbo=>(other b fun q=>by rw[q,hnT] at hbo;cases hbo).trans (hkb b o hbo)) hen hd (Array.getElem?_eq_some_iff.mp h1).1 h2
  fun h' ⟨x1,x2,⟨T',x3,x3'⟩,x4,x5⟩=>h h' ⟨x1,x2,⟨T',x3,?_⟩,fun b o hbe hbT hbf hb=>x4 b o hbe hbe hbf ((other b hbT).trans hb),fun b o hbf hb=>x5 b o hbf ((other b fun q=>hTf (q▸hbf)).trans hb)⟩
 by_cases hq:T'=T
 ·subst hq;obtain⟨o2,e2⟩:∃o2,(s.heap.update T' (Obj.mapFields (·.setIfInBounds 3 Value.none))).get? T'=some o2:=⟨_,Heap.get?_update_self _ hT (Obj.isFreed_of_fields (Obj.data_mapFields hdT _))⟩;rw[e2] at x3';cases x3'
 ·rw[←other T' hq];exact x3'
end
end L2
namespace L2
open PySem PySem.Spec PyProof.Rows
def CXE(P:Program)(w:World)(base:Heap):CXT:=fun outer H s E ev s'=>∃(e T C:Addr) (dx:Option Addr) (H':Hp),ev=.ref e/\s'.os=s.os/\AllBare s'.gens/\Un (frs outer) [] H H' s.heap s'.heap/\HOk P w H' s'.heap ∧
 TracedD base s'.heap e T (.ref C) dx/\(H' e=none/\H' T=none)/\base.get? e=none/\(s.heap.get? e=none/\s.heap.get? T=none)/\E (.ref C) dx H'
theorem ObjOk.there{P:Program}{w:World}{H:Hp}{h:Heap}{a:Addr}{o:HO}(x:ObjOk P w H h a o):∃ob,h.get? a=some ob:=by
 cases o with
 |lst xs=>obtain⟨_,_,_,_,e⟩:=x;exact⟨_,e⟩
 |tup xs=>obtain⟨_,_,_,ob,e,_⟩:=x;exact⟨_,e⟩
 |dK kvs=>obtain⟨_,_,_,_,o,_,_,e,_⟩:=x;exact⟨_,e⟩
 |dT kvs=>obtain⟨_,_,_,_,o,_,_,e,_⟩:=x;exact⟨_,e⟩
 |set S n=>obtain⟨o,_,_,_,e,_⟩:=x;exact⟨_,e⟩
 |ins C dx fs=>obtain⟨_,_,_,e,_⟩:=x;exact⟨_,e⟩
 |own y=>exact x
 |xd fs=>obtain⟨_,⟨_,_,_,e,_⟩,_⟩:=x;exact⟨_,e⟩
 |rng lo hi=>obtain⟨_,_,_,e⟩:=x;exact⟨_,e⟩
 |frz ob u=>obtain⟨e,_⟩:=x;exact⟨_,e⟩
 |tbl ps=>exact⟨_,(show h.get? a=some _ from x)⟩
 |met f y=>exact⟨_,(show h.get? a=some _ from x)⟩
 |ext φ=>exact x.2.1
section
variable {X:Cx} {pins:List (Addr×Obj)} {σ:St} {H:Hp} {s:Shared}
theorem Inv.left(I:Inv X pins σ H s)(hex:X.ex=[])(hst:X.stack=X.env::X.outer)(hfr:X.env.frame=some X.env.locals){e T₀:Addr}{cls:Value}{dx:Option Addr}{h':Heap}(L:LeftD X.base X.stack e T₀ cls dx s.heap h')
  (he:X.s₀.heap.get? e=none) (hT:X.s₀.heap.get? T₀=none) (hHe:H e=none) (hHT:H T₀=none):
  Un (frs X.outer) [] X.H₀ H X.s₀.heap h'/\HOk X.prog X.w H h':=by
 have hloc:X.s₀.heap.get? X.env.locals=none:=Heap.get?_none_of_le I.ok.above;have sub:∀b,b∈frs X.stack->b=X.env.locals∨b∈frs X.outer:=fun b hb=>List.mem_cons.mp (I.stkSub b hb);have ne:∀{b c:Addr} {o:Obj},X.s₀.heap.get? b=some o->X.s₀.heap.get? c=none->b≠c:=fun h1 h2 z=>by
  rw[z,h2] at h1;cases h1
 have nox:∀b:Addr,b∉X.ex:=fun b z=>by
  rw[hex] at z;cases z
 have supF:∀b,b∈frs X.outer->b∈frs X.stack:=fun b hb=>by
  rw[hst];unfold frs;rw[List.filterMap_cons,hfr];exact List.mem_cons_of_mem _ hb
 refine⟨⟨fun b o h1 h2 h3 _=>?_,fun b o h1 h2 h3 _=>?_,fun b o h1 h2 _=>I.base.free b o h1 h2 (nox b),fun b o h1 _=>?_,I.base.tups,I.base.frzs,I.base.tbls⟩,fun a o ha=>?_⟩
 ·have k1:=I.base.keep b o h1 h2 h3 (nox b);refine L.keep b o (ne h1 he) (ne h1 hT) (fun z=>?_) k1;rcases sub b z with z|z
  ·exact ne h1 hloc z
  ·exact h3 z
 ·obtain⟨sl,k1⟩:=I.base.slot b o h1 h2 h3 (nox b);obtain⟨sl',k2⟩:=L.slot b _ (supF b h3) k1;exact⟨sl',k2⟩
 ·obtain⟨o',k1⟩:=I.base.there b o h1 (nox b);by_cases hb:b∈frs X.stack
  ·obtain⟨sl,k2⟩:=L.slot b o' hb k1;exact⟨_,k2⟩
  ·exact⟨o',L.keep b o' (ne h1 he) (ne h1 hT) hb k1⟩
 ·refine (I.hok a o ha).stay (fun b u hb q=>?_) (fun _ q=>q) fun _ _ q=>q;have hHb:H b≠none:=by
   rcases hb with rfl|hb
   ·rw[ha];simp
   ·rw[hb];simp
  exact L.keep b u (fun z=>hHb (z▸hHe)) (fun z=>hHb (z▸hHT)) (fun z=>hHb (I.stkFree b z)) q
theorem Inv.fly(I:Inv X pins σ H s)(hex:X.ex=[])(hst:X.stack=X.env::X.outer)(hfr:X.env.frame=some X.env.locals){e C:Addr}{oe:Obj}{vs:Array Value}{E:XK}(he:s.heap.get? e=some oe)(hc:oe.cls=.ref C)(hd:oe.data=.fields vs)(h1:vs[1]?=some .none)(h2:vs[2]?=some .none)
  (h0:X.s₀.heap.get? e=none) (hHe:H e=none) (q:E (.ref C) oe.dict H) {R:Value->Shared->Prop}:
  wpAny (model X.prog X.w) X.A (leaving X.env (.ref e)) (fun _ s'=>CXE X.prog X.w X.base X.outer X.H₀ X.s₀ E (.ref e) s') R s:=by
 have hen:X.base.get? e=none:=by
  cases hq:X.base.get? e with
  |none=>rfl
  |some o=>
   have:=(I.ok.bs e o hq).1;rw[h0] at this;cases this
 refine qsxz (base:=X.base) (by rw[I.ok.frames,hst]) (by rw[←hst];exact I.stack) hfr he I.bk hen hd h1 h2 fun h' L=>?_;rw[←hst,hc] at L;obtain⟨u,ok⟩:=I.left hex hst hfr L h0 h0 hHe hHe;obtain⟨T,tr,hT⟩:=L.traced;have hTs:X.s₀.heap.get? T=none:=by
  cases hq:X.s₀.heap.get? T with
  |none=>rfl
  |some o=>
   obtain⟨o',e'⟩:=I.base.there T o hq (by rw[hex];simp);rw[hT] at e';cases e'
 have hHT:H T=none:=by
  cases hq:H T with
  |none=>rfl
  |some o=>
   obtain⟨ob,e'⟩:=ObjOk.there (I.hok T o hq);rw[hT] at e';cases e'
 exact⟨e,T,C,oe.dict,H,rfl,I.os,I.bare,u,ok,tr,⟨hHe,hHT⟩,hen,⟨h0,hTs⟩,q⟩
theorem qszz{E:XK}(hex:X.ex=[])(hst:X.stack=X.env::X.outer)(hfr:X.env.frame=some X.env.locals)
  (hxe:∀e s',wpAny (model X.prog X.w) X.A (leaving X.env e) (fun _ s''=>CXE X.prog X.w X.base X.outer X.H₀ X.s₀ E e s'') (fun e' s''=>CXE X.prog X.w X.base X.outer X.H₀ X.s₀ E e' s'') s'->X.xe e s'):Passes (CXE X.prog X.w X.base) X E:=by
 intro pins σ H s ev s' I h;obtain⟨e,T,C,dx,H',rfl,os,bare,u,ok,tr,⟨hHe,hHT⟩,hen,⟨he0,hT0⟩,q⟩:=h;have I':Inv X pins σ H' s':=I.call' (ch:=[]) os u ok bare (fun b z=>absurd z (by simp));have s0:∀{b:Addr},s.heap.get? b=none->X.s₀.heap.get? b=none:=fun {b} hb=>by
  cases hq:X.s₀.heap.get? b with
  |none=>rfl
  |some o=>
   obtain⟨o',e'⟩:=I.base.there b o hq (by rw[hex];simp);rw[hb] at e';cases e'
 refine hxe _ _ (qsyz (base:=X.base) (by rw[I.ok.frames,hst]) (by rw[←hst];exact I'.stack) hfr tr I'.bk hen fun h' L=>?_);rw[←hst] at L;obtain⟨u',ok'⟩:=I'.left hex hst hfr L (s0 he0) (s0 hT0) hHe hHT;obtain⟨T',tr',hT'⟩:=L.traced;have hTs:X.s₀.heap.get? T'=none:=by
  cases hq:X.s₀.heap.get? T' with
  |none=>rfl
  |some o=>
   obtain⟨o',e'⟩:=I'.base.there T' o hq (by rw[hex];simp);rw[hT'] at e';cases e'
 have hHT':H' T'=none:=by
  cases hq:H' T' with
  |none=>rfl
  |some o=>
   obtain⟨ob,e'⟩:=ObjOk.there (I'.hok T' o hq);rw[hT'] at e';cases e'
 exact⟨e,T',C,dx,H',rfl,I'.os,I'.bare,u',ok',tr',⟨hHe,hHT'⟩,hen,⟨s0 he0,hTs⟩,q⟩
theorem qs0z{P:Program}{w:World}{K:PySem.W.Frag}{mg:Str->Option Value}{base:Heap}{N:List Str}{qual:Str}{scope:Scope}{f:Addr}{cd:Value}{A:Around}{outer:List Env}{s:Shared}{H:Hp}{E:XK}:
  Passes (CXE P w base) (cxOf (CXE P w base) P w K mg base N qual scope f cd A outer s H E) E:=qszz rfl rfl rfl fun e s' h=>h
end
end L2
namespace L2
open PySem PySem.Spec PyProof.Rows
def OwnExc(K:PySem.W.Frag)(C:Addr)(bmB:List Value)(newId:String):Prop:=∀h:Heap,K.In h->∃nm q N bs bm hdct sn sub ab col dd k0 k1 k2 k3 k5 mN,h.get? C=some (excClassObj nm q C N bs bm hdct sn sub ab col dd k0 k1 k2 k3 k5 newId)/\h.Ns N mN/\mN "__init__" = none/\OwnTail h bmB bm
structure Body(X:Cx)(E:XK):Prop where
 ex:X.ex=[]
 st:X.stack=X.env::X.outer
 fr:X.env.frame=some X.env.locals
 xe:∀e s',wpAny (model X.prog X.w) X.A (leaving X.env e) (fun _ s''=>CXE X.prog X.w X.base X.outer X.H₀ X.s₀ E e s'') (fun e' s''=>CXE X.prog X.w X.base X.outer X.H₀ X.s₀ E e' s'') s'->X.xe e s'
theorem qi4z{P:Program}{w:World}{K:PySem.W.Frag}{mg:Str->Option Value}{base:Heap}{N:List Str}{qual:Str}{scope:Scope}{f:Addr}{cd:Value}{A:Around}{outer:List Env}{s:Shared}{H:Hp}{E:XK}:
  Body (cxOf (CXE P w base) P w K mg base N qual scope f cd A outer s H E) E:=⟨rfl,rfl,rfl,fun _ _ h=>h⟩
section
variable {X:Cx} {E:XK}
theorem Body.throw(B:Body X E){pins:List (Addr×Obj)}{σ:St}{H:Hp}{s:Shared}{e C:Addr}{oe:Obj}{vs:Array Value}(I:Inv X pins σ H s)(he:s.heap.get? e=some oe)(hc:oe.cls=.ref C)(hd:oe.data=.fields vs)(h1:vs[1]?=some .none)(h2:vs[2]?=some .none)
  (h0:X.s₀.heap.get? e=none) (hHe:H e=none) (q:E (.ref C) oe.dict H):X.xe (.ref e) s:=B.xe _ _ (I.fly B.ex B.st B.fr he hc hd h1 h2 h0 hHe q)
theorem qfiz{pins:List (Addr×Obj)}{σ:St}{H:Hp}{s:Shared}(I:Inv X pins σ H s){e:Addr}(h:s.heap.get? e=none):H e=none:=by
 cases hq:H e with
 |none=>rfl
 |some o=>
  obtain⟨ob,e'⟩:=ObjOk.there (I.hok e o hq);rw[h] at e';cases e'
theorem qfjz{pins:List (Addr×Obj)}{σ:St}{H:Hp}{s:Shared}(B:Body X E)(I:Inv X pins σ H s){e:Addr}(h:s.heap.get? e=none):X.s₀.heap.get? e=none:=by
 cases hq:X.s₀.heap.get? e with
 |none=>rfl
 |some o=>
  obtain⟨o',e'⟩:=I.base.there e o hq (by rw[B.ex];simp);rw[h] at e';cases e'
theorem qs1z{x:Str}{C:Addr}{np cpos pos:Pos}{bmB:List Value}{Bn newId initId:String}(B:Body X E)(hc:X.calm=true)(F:ExcBaseFacts Bn newId initId bmB)(O:OwnExc X.K C bmB newId)(hg:Gl X x)(hm:X.mg x=some (.ref C))(hdb:(x==("__debug__":Str))=false:=by decide):
  PS X (.Raise (some (.Call (.Name x np) [] [] cpos)) none pos) (fun _ _ H=>E (.ref C) none H):=by
 intro pins s σ H D I h;obtain⟨nm,q,N,bs,bm,hdct,sn,sub,ab,col,dd,k0,k1,k2,k3,k5,mN,hC,hn,hni,T⟩:=O s.heap I.kIn;refine wpAny_Raise_call_subT (C:=C) (nm:=nm) (q:=q) (N:=N) (bs:=bs) (bm:=bm) (hdct:=hdct) (sn:=sn) (sub:=sub) (ab:=ab) (col:=col) (dd:=dd) (k0:=k0) (k1:=k1) (k2:=k2) (k3:=k3) (k5:=k5)
  F (mN:=mN) (T.hasType F.hasBase) (I.ok.hd hc) rfl hni (qakz I hg hm ⟨rfl,?_⟩ hdb)
 refine evalArgs_empty ⟨rfl,Nat.zero_le _,hC,hn,T,fun h' e hm'=>?_⟩;obtain⟨t,he,_,_⟩:=hm'.there;have I2:Inv X pins σ H { s with heap:=h' }:=I.kept (t':=s.toks) hm'.keeps;exact B.throw I2 he rfl rfl rfl rfl (qfjz B I hm'.new) (qfiz I hm'.new) h
end
end L2
namespace L3
open PySem PySem.Spec PyProof.Rows L2
def vis:HO->Bool
 |.tup _=>true
 |.frz _ (.lst _)=>true
 |.frz _ (.tup _)=>true
 |.frz _ (.xd _)=>true
 |.frz _ (.ext _)=>true
 |_=>false
def hide(H:Hp):Hp:=fun a=>match H a with
 |some o=>if vis o then some o else none
 |none=>none
def joined(H H':Hp):Hp:=fun a=>match H a with
 |some o=>if vis o then H' a else some o
 |none=>H' a
section
variable {P:Program} {w:World} {H H':Hp} {h h':Heap} {a b:Addr} {o:HO} {fs:List Addr}
theorem qbuz(e:H a=none):hide H a=none:=by simp[hide,e]
theorem qauz(e:H a=some o)(v:vis o=true):hide H a=some o:=by simp[hide,e,v]
theorem qfkz(e:H a=some o)(v:vis o=false):hide H a=none:=by simp[hide,e,v]
theorem qflz(e:hide H a=some o):H a=some o/\vis o=true:=by
 unfold hide at e;cases q:H a with
 |none=>simp[q] at e
 |some u=>
  simp only[q] at e;cases v:vis u with
  |true=>
   rw[v,if_pos rfl] at e;cases e;exact⟨rfl,v⟩
  |false=>
   rw[v] at e;simp at e
theorem qavz(e:H a=none):joined H H' a=H' a:=by simp[joined,e]
theorem qa7z(e:H a=some o)(v:vis o=true):joined H H' a=H' a:=by simp[joined,e,v]
theorem qabz(e:H a=some o)(v:vis o=false):joined H H' a=some o:=by simp[joined,e,v]
theorem qi5z{H2:Hp}(v:vis o=true)(x:ObjOk P w H h a o):ObjOk P w H2 h a o:=by
 cases o with
 |tup xs=>obtain⟨z,its,r,p⟩:=x;exact⟨z,its,r,p⟩
 |frz ob u=>
  cases u with
  |lst xs=>obtain⟨e,z,its,n,r,p⟩:=x;exact⟨e,z,its,n,r,p⟩
  |tup xs=>obtain⟨e,z,its,r,p⟩:=x;exact⟨e,z,its,r,p⟩
  |xd fs=>obtain⟨e,mA,r,p⟩:=x;exact⟨e,mA,r,p⟩
  |ext φ=>exact x
  |_=>cases v
 |_=>cases v
theorem qi6z(ok:HOk P w H h):HOk P w (hide H) h:=fun a o e=>by
 obtain⟨e1,v⟩:=qflz e;exact qi5z v (ok a o e1)
variable (ok:HOk P w H h) (hfs:∀b∈fs,H b=none) (u:Un fs [] (hide H) H' h h') (ok':HOk P w H' h')
include ok u
theorem qi7z(e:H b=some o)(v:vis o=false):H' b=none:=by
 obtain⟨ob,q⟩:=ObjOk.there (ok b o e);exact u.free b ob q (qfkz e v) (by simp)
theorem qbiz(e:H' b=some o):joined H H' b=some o:=by
 cases q:H b with
 |none=>rw[qavz q];exact e
 |some x=>
  cases v:vis x with
  |true=>rw[qa7z q v];exact e
  |false=>
   rw[qi7z ok u q v] at e;cases e
include hfs ok'
theorem qeez:Un fs [] H (joined H H') h h'/\HOk P w (joined H H') h':=by
 have kept:∀b x ob,H b=some x->vis x=false->h.get? b=some ob->h'.get? b=some ob:=fun b x ob e v q=>
  u.keep b ob q (qfkz e v) (fun z=>by rw[hfs b z] at e;cases e) (by simp)
 refine⟨⟨fun b ob q n h3 h4=>u.keep b ob q (qbuz n) h3 h4,fun b ob q n h3 h4=>u.slot b ob q (qbuz n) h3 h4,fun b ob q n h3=>by rw[qavz n];exact u.free b ob q (qbuz n) h3,
  fun b ob q h3=>u.there b ob q h3,fun b xs e=>qbiz ok u (u.tups b xs (qauz e rfl)),fun b ob x e=>?_,fun b ps e=>⟨#[],by rw[Array.append_empty];exact qabz e rfl⟩⟩,fun b x e=>?_⟩
 ·cases v:vis (.frz ob x) with
  |true=>exact qbiz ok u (u.frzs b ob x (qauz e v))
  |false=>exact qabz e v
 ·have mono:H' b=some x->ObjOk P w (joined H H') h' b x:=fun z=>(ok' b x z).stay (fun _ _ _ q=>q) (fun c q=>qbiz ok u q) (fun c xs q=>qbiz ok u q);cases q:H b with
  |none=>
   rw[qavz q] at e;exact mono e
  |some y=>
   cases v:vis y with
   |true=>
    rw[qa7z q v] at e;exact mono e
   |false=>
    rw[qabz q v] at e;obtain rfl:=Option.some.inj e;refine (ok b _ q).stay (fun c ob hc z=>?_) (fun c z=>qabz z rfl) (fun c xs z=>qbiz ok u (u.tups c xs (qauz z rfl)));rcases hc with rfl|hc
    ·exact kept _ _ _ q v z
    ·exact kept _ _ _ hc rfl z
end
section
variable {K:PySem.W.Frag} {H:Hp}
theorem SqT.hid{a:Addr}{xs:List V}(h:SqT K H a xs):SqT K (hide H) a xs:=by
 rcases h with (h|⟨o,h⟩)|h
 ·exact .inl (.inl (qauz h rfl))
 ·exact .inl (.inr ⟨o,qauz h rfl⟩)
 ·exact .inr h
theorem SqF.hid{a:Addr}{xs:List V}(h:SqF K H a xs):SqF K (hide H) a xs:=by
 rcases h with⟨o,h⟩|h
 ·exact .inl ⟨o,qauz h rfl⟩
 ·exact .inr h
mutual
theorem Hv.hid:∀{d:D} {v:V},Hv K H d v->Hv K (hide H) d v
 |.non,_,h=>by simpa [Hv] using h
 |.bl _,_,h=>by simpa [Hv] using h
 |.int _,_,h=>by simpa [Hv] using h
 |.str _,_,h=>by simpa [Hv] using h
 |.obj _,_,h=>by simpa [Hv] using h
 |.dc a,v,h=>by
  unfold Hv at h ⊢;obtain⟨e,ob,φ,q,c⟩:=h;exact⟨e,ob,φ,qauz q rfl,c⟩
 |.tup ds,v,h=>by
  unfold Hv at h ⊢;obtain⟨a,vs,e,q,r⟩:=h;exact⟨a,vs,e,SqT.hid q,Hvs.hid r⟩
 |.scr ds,v,h=>by
  unfold Hv at h ⊢;obtain⟨a,vs,e,q,r⟩:=h;exact⟨a,vs,e,SqF.hid q,Hvs.hid r⟩
theorem Hvs.hid:∀{ds:List D} {vs:List V},Hvs K H ds vs->Hvs K (hide H) ds vs
 |[],_,h=>by simpa [Hvs] using h
 |d::ds,vs,h=>by
  unfold Hvs at h ⊢;obtain⟨v,r,e,q,z⟩:=h;exact⟨v,r,e,Hv.hid q,Hvs.hid z⟩
end
end
abbrev noG:Gp:=fun _=>none
def both(G1 G':Gp):Gp:=fun a=>match G1 a with
 |some o=>some o
 |none=>G' a
abbrev E3:=Str->List (Str×Int)->Prop
def ClsN(K:PySem.W.Frag)(x:Str)(C:Addr):Prop:=PySem.W.nsIn K mainGlobals x=some (some (.ref C))
def DictIs(H:Hp)(dx:Option Addr)(fs:List (Str×Int)):Prop:=(dx=none/\fs=[])∨∃d o,dx=some d/\H d=some (.frz o (.xd (fs.map fun p=>(p.1,V.int p.2))))
def lowE(K:PySem.W.Frag)(E:E3):XK:=fun cls dx H=>∃x C fs,cls=.ref C/\ClsN K x C/\E x fs/\DictIs H dx fs
abbrev SpX:=List D->V3->E3->Prop
def lowX(K:PySem.W.Frag)(sp:SpX):Sp:=fun vs H Q E=>∃ds Q3 E',Hvs K H ds vs/\(∀a o,H a=some o->vis o=true)/\sp ds Q3 E'/\(∀v H' d G',Hv K H' d v->Step H noG H' G'->RepG K G' H'->Q3 d G'->Q v H')/\∀cls dx H',lowE K E' cls dx H'->E cls dx H'
abbrev FnX(P:Program)(w:World)(K:PySem.W.Frag)(mg:Str->Option Value)(base:Heap)(k:Nat)(f:Addr)(fd:FuncData)(ps:List Str)(sp:SpX):Prop:=FnOk P w K mg base (CXE P w base) k f fd ps (lowX K sp)
structure Joins(G1 G' G2:Gp):Prop where
 old:Sub G1 G2
 new:Sub G' G2
 out:∀a,G' a≠none->G1 a=none
def eCallX(sp:SpX)(E:E3)(t:TA3):TE3:=fun τ G Q=>t τ G fun ds G1=>sp ds (fun d G'=>∀G2,Joins G1 G' G2->Q d G2) E
section
variable {X:Cx} {k:Nat} {f:Addr} {fd:FuncData} {ps:List Str} {sp:SpX} {E:E3} {x:Str} {p pos:Pos} {e:Expr} {es:List Expr} {t:TA3}
theorem qfmz{K:PySem.W.Frag}{P:Program}{w:World}{fs:List Addr}{H H':Hp}{h h':Heap}{G1 G':Gp}{d:D}{v:V}(ok:HOk P w H h)(hfs:∀b∈fs,H b=none)(u:Un fs [] (hide H) H' h h')(ok':HOk P w H' h')
  (R1:RepG K G1 H) (hv:Hv K H' d v) (S:Step (hide H) noG H' G') (R':RepG K G' H'):
  Hv K (joined H H') d v/\Step H G1 (joined H H') (both G1 G')/\RepG K (both G1 G') (joined H H')/\Joins G1 G' (both G1 G'):=by
 have E2:Ext H' (joined H H'):=⟨fun b xs e=>qbiz ok u e,fun b o x e=>qbiz ok u e⟩;have E1:Ext H (joined H H'):=by
  obtain⟨u2,_⟩:=qeez ok hfs u ok';exact⟨u2.tups,u2.frzs⟩
 have outG:∀a,G' a≠none->H a=none:=fun a n=>by
  have z:hide H a=none:=S.new a rfl n;cases q:H a with
  |none=>rfl
  |some o=>
   cases v:vis o with
   |true=>rw[qauz q v] at z;cases z
   |false=>
    have:=qi7z ok u q v;cases q':G' a with
    |none=>exact absurd q' n
    |some g=>
     obtain⟨o',z',_⟩:=(R' a g q').mut;rw[this] at z';cases z'
 have out1:∀a,G' a≠none->G1 a=none:=fun a n=>R1.free (outG a n);refine⟨hv.ext E2,⟨fun a o e n=>?_,fun a n=>?_,fun a n q=>?_⟩,fun a g e=>?_,⟨fun a o e=>by simp[both,e],fun a o e=>by simp[both,out1 a (by rw[e];simp),e],out1⟩⟩
 ·cases v:vis o with
  |true=>
   rw[qa7z e v];exact S.fr a o (qauz e v) rfl
  |false=>exact qabz e v
 ·cases q:H a with
  |none=>exact absurd q n
  |some o=>
   cases v:vis o with
   |true=>
    rw[qa7z q v];exact S.trk a (by rw[qauz q v];simp)
   |false=>rw[qabz q v];simp
 ·simp only[both,n] at q;exact outG a q
 ·cases q:G1 a with
  |some o=>
   simp only[both,q] at e;cases e;obtain⟨o',z,h1,h2⟩:=(R1 a g q).mut;have hv:vis o'=false:=by
    cases o' with
    |tup xs=>exact absurd rfl (h1 xs)
    |frz ob y=>exact absurd rfl (h2 ob y)
    |_=>rfl
   exact (R1 a g q).ext E1 (by rw[qabz z hv,z])
  |none=>
   simp only[both,q] at e;have hn:=outG a (by rw[e];simp);exact (R' a g e).ext E2 (by rw[qavz hn])
theorem qi8z(G1:Gp):both G1 noG=G1:=by
 funext a;unfold both;cases G1 a<;>rfl
theorem qs2z{H H':Hp}{fs:List Addr}{h h':Heap}(u:Un fs [] (hide H) H' h h'):Step (hide H) noG H' noG:=by
 have fr:∀a o,hide H a=some o->H' a=some o:=fun a o e=>by
  obtain⟨_,v⟩:=qflz e;cases o with
  |tup xs=>exact u.tups a xs e
  |frz ob y=>exact u.frzs a ob y e
  |_=>cases v
 refine⟨fun a o e _=>fr a o e,fun a n=>?_,fun a _ q=>absurd rfl q⟩;cases q:hide H a with
 |none=>exact absurd q n
 |some o=>rw[fr a o q];simp
def lowE2(K:PySem.W.Frag)(E:E3)(H:Hp)(G:Gp):XK:=fun cls dx H'=>lowE K E cls dx H'/\RepG K G H'/\Step H G H' G
theorem CXE.mono{P:Program}{w:World}{base:Heap}{outer:List Env}{H:Hp}{s s':Shared}{E E':XK}{ev:Value}(h:CXE P w base outer H s E ev s')(m:∀cls dx H',E cls dx H'->E' cls dx H'):CXE P w base outer H s E' ev s':=by
 obtain⟨e,T,C,dx,H',a1,a2,a3,a4,a5,a6,a7,a8,a9,q⟩:=h;exact⟨e,T,C,dx,H',a1,a2,a3,a4,a5,a6,a7,a8,a9,m _ _ _ q⟩
theorem CXE.hid{P:Program}{w:World}{K:PySem.W.Frag}{base:Heap}{outer:List Env}{H:Hp}{s s':Shared}{G1:Gp}{ev:Value}(ok:HOk P w H s.heap)(hfs:∀b∈frs outer,H b=none)(R1:RepG K G1 H)(h:CXE P w base outer (hide H) s (lowE K E) ev s'):
  CXE P w base outer H s (lowE2 K E H G1) ev s':=by
 obtain⟨e,T,C,dx,H',rfl,os,bare,u,ok',tr,⟨hHe,hHT⟩,hen,⟨he0,hT0⟩,x,C',fs,ec,cn,q,dd⟩:=h;obtain⟨u2,ok2⟩:=qeez ok hfs u ok';obtain⟨_,z2,z3,_⟩:=qfmz (G':=noG) (d:=.non) (v:=.non) ok hfs u ok' R1 (by simp[Hv]) (qs2z u) (fun _ _ e=>nomatch e);rw[qi8z] at z2 z3;have out:∀b,s.heap.get? b=none->H' b=none->joined H H' b=none:=fun b hb hn=>by
  cases hq:H b with
  |none=>rw[qavz hq];exact hn
  |some o=>
   obtain⟨ob,e'⟩:=ObjOk.there (ok b o hq);rw[hb] at e';cases e'
 refine⟨e,T,C,dx,joined H H',rfl,os,bare,u2,ok2,tr,⟨out _ he0 hHe,out _ hT0 hHT⟩,hen,⟨he0,hT0⟩,⟨x,C',fs,ec,cn,q,?_⟩,z3,z2⟩;rcases dd with⟨d1,d2⟩|⟨d,o,d1,d2⟩
 ·exact .inl ⟨d1,d2⟩
 ·exact .inr ⟨d,o,d1,qbiz ok u d2⟩
theorem qs3z{pins:List (Addr×Obj)}{σ:L2.St}{H:Hp}{s:Shared}{Q:VK}{G1:Gp}{Q3:V3}{ds:List D}{us:List Value}{vs:List V}{XE:Value->Shared->Prop}(F:FnX X.prog X.w X.K X.mg X.base k f fd ps sp)(hr:Room k X.A)(hb:Binds X.K fd ps [])
  (hx:∀ev s',CXE X.prog X.w X.base X.stack H s (lowE2 X.K E H G1) ev s'->XE ev s')
  (I:Inv X pins σ H s) (r:Vals vs us) (hd:Hvs X.K H ds vs) (R1:RepG X.K G1 H) (h:sp ds (fun d G'=>∀G2,Joins G1 G' G2->Q3 d G2) E) (kk:∀v H' d G',Hv X.K H' d v->Step H G1 H' G'->RepG X.K G' H'->Q3 d G'->Q v H'):
  wpAny (model X.prog X.w) X.A (call (.ref f) us) (EP X pins σ Q) XE s:=by
 have hq:lowX X.K sp vs (hide H) (fun v H'=>∃d G',Hv X.K H' d v/\Step (hide H) noG H' G'/\RepG X.K G' H'/\∀G2,Joins G1 G' G2->Q3 d G2) (lowE X.K E):=
  ⟨ds,_,E,hd.hid,fun a o e=>(qflz e).2,h,fun v H' d G' a b c q=>⟨d,G',a,b,c,q⟩,fun _ _ _ z=>z⟩
 have hl:(us++[]).length=ps.length:=by rw[List.append_nil,←r.length];exact F.len _ _ _ _ hq
 have e0:Env0 X.prog X.w X.K X.mg X.base X.A X.stack s (hide H):=⟨I.ok.frames,I.ok.mod,fun b o e=>⟨(I.bs b o e).1,qbuz (I.bs b o e).2⟩,Nat.le_trans I.ok.bsz I.sz,I.stack,fun b hb=>qbuz (I.stkFree b hb),qi6z I.hok,I.bare⟩;have hb':=hb s us I.kIn hl;rw[List.append_nil] at hb';refine wpAny_call (codeAny_mono (F.run X.A X.stack s (hide H) ⟨us,[]⟩ us vs _ (lowE X.K E) hr e0 hb' r hq) fun r s' hq'=>?_);cases r with
 |error e=>exact hx e s' (CXE.hid I.hok I.stkFree R1 hq')
 |ok fl=>
  cases fl with
  |ret u=>
   obtain⟨v,H',os,bare,un,hok,rv,d,G',a,b,c,q⟩:=hq';obtain⟨un2,ok2⟩:=qeez I.hok I.stkFree un hok;obtain⟨z1,z2,z3,z4⟩:=qfmz I.hok I.stkFree un hok R1 a b c;exact I.after ⟨v,joined H H',os,bare,un2,ok2,rv,kk v _ d _ z1 z2 z3 (q _ z4)⟩
  |next=>exact False.elim hq'
  |brk=>exact False.elim hq'
  |cont=>exact False.elim hq'
theorem qs4z(F:FnX X.prog X.w X.K X.mg X.base k f fd ps sp)(hr:Room k X.A)(hx:Passes (CXE X.prog X.w X.base) X (lowE X.K E))(hm:X.mg x=some (.ref f))(hk:PySem.W.keepIn X.K (.ref f)=true)(hb:Binds X.K fd ps [])(ha:PA3 X (e::es) t)(hg:Gl X x:=by rfl)
  (hdb:(x==("__debug__":Str))=false:=by decide) (he:notStar e=true:=by rfl) (hpl:es.all notStar=true:=by rfl):
  PE3 X (.Call (.Name x p) (e::es) [] pos) (eCallX sp E t):=by
 intro pins s σ H Q I ⟨τ,G,Q3,RS,RG,h,kk⟩;refine wpAny_Call_Name_kw (qakz I hg hm ?_ hdb);refine PySem.W.callWith_K (h₀:=X.base) I.ok.mod.kin hk (thn (ha pos pins s σ H (fun vs H1=>∃ds G1,Hvs X.K H1 ds vs/\Step H G H1 G1/\RepG X.K G1 H1/\sp ds (fun d G'=>∀G2,Joins G1 G' G2->Q3 d G2) E) I
  ⟨τ,G,_,RS,RG,h,fun vs H1 ds G1 a b c q=>⟨ds,G1,a,b,c,q⟩⟩) fun us s1 ⟨vs,H1,I1,r,ds,G1,hd,S1,R1,q⟩=>⟨I1.kIn,?_⟩) (qlz he) (qzz hpl)
 exact qs3z F hr hb (fun ev s' h=>hx pins σ H1 s1 ev s' I1 (CXE.mono h fun _ _ _ z=>z.1)) I1 r hd R1 q fun v H' d G' a b c q=>kk v H' d G' a (S1.trans b) c q
end
section
variable {P:Program} {w:World} {K:PySem.W.Frag} {mg:Str->Option Value} {base:Heap}
theorem fnX{x qual:Str}{st:Stmt}{f:Addr}{fd:FuncData}{N ps:List Str}{k:Nat}{sp:SpX}(F:Fun K x qual st f fd)(S:FnScope N ps (defScope st))(hN:ps.length≤N.length)(len:∀ds Q E,sp ds Q E->ds.length=ps.length)(tb:E3->TS3)
  (hbody:∀(cdv:Value) (A:Around) (outer:List Env) (s:Shared) (H:Hp) (E:XK) (E':E3),Room k (A.deeper (envOfC qual (defScope st) s.heap.objs.size f cdv))->(∀cls dx H',lowE K E' cls dx H'->E cls dx H') ->
   PSs3 (cxOf (CXE P w base) P w K mg base N qual (defScope st) f cdv A outer s H E) (defBody st) (tb E'))
  (hrd:∀ds Q E,sp ds Q E->tb E (endsOf Q) (start3 N ds) noG):FnX P w K mg base (k+1) f fd ps sp:=by
 obtain⟨oc,od,kV,doc,pm,an,cdv,ct,osl,rfl,lk,hcd⟩:=F.ex;refine qg3z lk hcd S (fun vs H Q E h=>?_) (fun A outer s H vs Q E hr h=>?_)
 ·obtain⟨ds,Q3,E',h1,_,h3,_⟩:=h;rw[←h1.length];exact len _ _ _ h3
 ·obtain⟨ds,Q3,E',h1,h2,h3,h4,h5⟩:=h;refine⟨_,hbody cdv A outer s H E E' hr h5,start3 N ds,noG,endsOf Q3,.start h1 ?_,(fun _ _ e=>nomatch e),hrd _ _ _ h3,⟨?_,?_,?_,?_⟩⟩
  ·rw[←h1.length,len _ _ _ h3];exact hN
  ·exact fun τ σ G' H' a b c ⟨G0,s0,q⟩=>h4 _ H' .non G0 (by simp[Hv]) (b.trans (.sub s0)) (c.sub s0) q
  ·exact fun τ σ G' H' a b c q=>q.elim
  ·exact fun τ σ G' H' a b c q=>q.elim
  ·exact fun d v G' H' a b c ⟨G0,s0,q⟩=>h4 _ H' d G0 a (b.trans (.sub s0)) (c.sub s0) q
end
theorem passX{P:Program}{w:World}{K:PySem.W.Frag}{mg:Str->Option Value}{base:Heap}{N:List Str}{qual:Str}{scope:Scope}{f:Addr}{cd:Value}{A:Around}{outer:List Env}{s:Shared}{H:Hp}{E:XK}{E':E3}(h:∀cls dx H',lowE K E' cls dx H'->E cls dx H'):
  Passes (CXE P w base) (cxOf (CXE P w base) P w K mg base N qual scope f cd A outer s H E) (lowE K E'):=fun pins σ H1 s1 ev s' I q=>qs0z pins σ H1 s1 ev s' I (CXE.mono q h)
end L3
namespace L2
open PySem PySem.Spec PyProof.Rows
structure RoomH(k:Nat)(A:Around):Prop where
 dp:A.depth+3*k+5<recursionLimit
 un:A.units+16*k+200<cLine
theorem RoomH.mono{j k:Nat}{A:Around}(r:RoomH k A)(h:j≤k):RoomH j A:=⟨by have:=r.dp;omega,by have:=r.un;omega⟩
theorem RoomH.deeper{k:Nat}{A:Around}(r:RoomH (k+1) A)(env:Env):RoomH k (A.deeper env):=
 ⟨by have:=r.dp;show A.depth+1+3*k+5<_;omega,by have:=r.un;show A.units+3+16*k+200<_;omega⟩
theorem RoomH.depth{k:Nat}{A:Around}(r:RoomH k A):A.depth<recursionLimit:=by have:=r.dp;omega
theorem RoomH.units{k:Nat}{A:Around}(r:RoomH k A):A.units+64<cLine:=by have:=r.un;omega
theorem RoomH.mark{k:Nat}{A:Around}{v:Option Value}(r:RoomH k A):RoomH k (A.mark v):=⟨r.dp,r.un⟩
theorem Room.h{k:Nat}{A:Around}(r:Room k A):RoomH k A:=⟨r.dp,r.un⟩
structure FnOkH(P:Program)(w:World)(K:PySem.W.Frag)(mg:Str->Option Value)(base:Heap)(k:Nat)(f:Addr)(fd:FuncData)(ps:List Str)(sp:Sp):Prop where
 len:∀vs H Q E,sp vs H Q E->vs.length=ps.length
 run:∀(A:Around) (outer:List Env) (s:Shared) (H:Hp) (args:Args) (us:List Value) (vs:List V) (Q:VK) (E:XK),RoomH k A->Env0 P w K mg base A outer s H->BindsTo s fd args (ps.zip us)->Vals vs us->sp vs H Q E ->
  codeAny (model P w) A (.call (.ref f) args) (CR CX0 outer P w H s Q E) s
section
variable {P:Program} {w:World} {K:PySem.W.Frag} {mg:Str->Option Value} {base:Heap} {j k:Nat} {f:Addr} {fd:FuncData} {ps:List Str} {sp:Sp}
theorem FnOkH.calm(F:FnOkH P w K mg base k f fd ps sp):FnOk P w K mg base CX0 k f fd ps sp:=⟨F.len,fun A outer s H args us vs Q E hr=>F.run A outer s H args us vs Q E hr.h⟩
theorem FnOkH.mono(F:FnOkH P w K mg base j f fd ps sp)(h:j≤k):FnOkH P w K mg base k f fd ps sp:=⟨F.len,fun A outer s H args us vs Q E hr=>F.run A outer s H args us vs Q E (hr.mono h)⟩
end
def cxH(P:Program)(w:World)(K:PySem.W.Frag)(mg:Str->Option Value)(base:Heap)(N:List Str)(qual:Str)(scope:Scope)(f:Addr)(cd:Value)(A:Around)(outer:List Env)(s:Shared)(H:Hp)(E:XK):Cx:=
 { cxOf CX0 P w K mg base N qual scope f cd A outer s H E with calm:=false,xe:=fun _ _=>False }
section
variable {P:Program} {w:World} {K:PySem.W.Frag} {mg:Str->Option Value} {base:Heap} {N:List Str} {qual:Str} {scope:Scope} {f:Addr} {cd:Value} {A:Around} {outer:List Env} {s s1:Shared} {H H1:Hp} {E:XK} {pins:List (Addr×Obj)} {σ:St}
theorem Inv.loud(I:Inv (cxOf CX0 P w K mg base N qual scope f cd { A with handled:=none } outer s H E) pins σ H1 s1)(hf:A.frames=some outer):Inv (cxH P w K mg base N qual scope f cd A outer s H E) pins σ H1 s1:=by
 obtain⟨ok,a1,a2,a3,a4,a5,a6,a7,a8,a9,a10⟩:=I;obtain⟨o1,o2,o3,o4,o5,o6,o7,o8,_,_,o11,o12,o13,o14,o15,o16,o17,o18⟩:=ok;exact⟨⟨o1,o2,o3,o4,o5,o6,o7,o8,(fun z=>nomatch z),Around.frames_deeper hf,o11,o12,o13,o14,o15,o16,o17,o18⟩,a1,a2,a3,a4,a5,a6,a7,a8,a9,a10⟩
end
theorem qs5z{P:Program}{w:World}{K:PySem.W.Frag}{mg:Str->Option Value}{base:Heap}{k:Nat}{x qual:Str}{st:Stmt}{f:Addr}{fd:FuncData}{N ps:List Str}{sp:Sp}(F:Fun K x qual st f fd)(S:FnScope N ps (defScope st))(len:∀vs H Q E,sp vs H Q E->vs.length=ps.length)
  (hbody:∀(cdv:Value) (A:Around) (outer:List Env) (s:Shared) (H:Hp) (vs:List V) (Q:VK) (E:XK),RoomH k (A.deeper (envOfC qual (defScope st) s.heap.objs.size f cdv))->sp vs H Q E ->
   ∃t,PSs (cxH P w K mg base N qual (defScope st) f cdv A outer s H E) (defBody st) t/\t { nx:=fun _ H'=>Q .non H',rt:=Q } (start N vs) H):
  FnOkH P w K mg base (k+1) f fd ps sp:=by
 obtain⟨oc,od,kV,doc,pm,an,cdv,ct,osl,rfl,lk,hcd⟩:=F.ex;refine⟨len,fun A outer s H args us vs Q E hr e0 hb r hsp=>?_⟩;have hl:=len _ _ _ _ hsp;have KX:K.In s.heap:=e0.mod.kin.keeps fun b o e=>(e0.bs b o e).1;have lim:s.heap.NoLimit:=e0.mod.nolimit.keeps fun b o e=>(e0.bs b o e).1;have hkind:∀y∈ps.zip us,(defScope st).names.lookup y.1=some .local∨((defScope st).names.lookup y.1=some .cell/\((cellsFrom (s.heap.objs.size+1) (defScope st).names []).lookup y.1).isSome=true):=fun⟨n,v⟩ hy=>by
  rcases S.par n (List.of_mem_zip hy).1 with q|q
  ·exact .inl q
  ·exact .inr ⟨q,PySem.W.cellsFrom_some _ _ _ (.inl q)⟩
 refine codeAny_call_function hr.depth (KX _ _ lk) rfl S.co S.gen rfl (PySem.W.codeRec_of KX hcd) (hb _ _ _ _ ?_);refine wpAny_newFunctionEnv_cells S.kind hkind fun env he s1 x=>?_;subst he;refine⟨lim.keeps x.toInCall.keep,codeAny_func ?_⟩;obtain⟨t,ht,hq⟩:=hbody cdv A outer s H vs Q E (hr.deeper _) hsp;have e1:Env0 P w K mg base { A with handled:=none } outer s H:=⟨e0.frames,e0.mod,e0.bs,e0.bsz,e0.funs,e0.frf,e0.hok,e0.bare⟩;have I0:Inv (cxOf CX0 P w K mg base N qual (defScope st) f cdv { A with handled:=none } outer s H E) [] (start N vs) H s1:=qevz S rfl e1 hl r x;have I:=I0.loud (A:=A) e0.frames;refine wpAny_mono (ht [] s1 (start N vs) H _ I hq) (fun fl s' hs=>?_) fun e s' hs=>hs.elim;have fin:∀{σ':St} {H':Hp} {v:V} {u:Value},Inv (cxH P w K mg base N qual (defScope st) f cdv A outer s H E) [] σ' H' s'->RelV v u->Q v H'->CE outer P w H s Q u s':=
  fun {σ' H' v u} J rv q=>⟨v,H',J.os,J.bare,J.base,J.hok,rv,q⟩
 cases fl with
 |ret u=>
  obtain⟨v,σ',H',J,rv,q⟩:=hs;exact fin J rv q
 |next=>
  obtain⟨σ',H',J,q⟩:=hs;exact fin (v:=V.non) (u:=Value.none) J rfl q
 |brk=>
  obtain⟨_,_,_,q⟩:=hs;exact False.elim q
 |cont=>
  obtain⟨_,_,_,q⟩:=hs;exact False.elim q
section
variable {X:Cx} {k:Nat} {f:Addr} {fd:FuncData} {ps:List Str} {sp:Sp} {E:XK} {x:Str} {p pos:Pos} {e:Expr} {es:List Expr} {t:TA}
theorem qs6z{pins:List (Addr×Obj)}{σ:St}{H:Hp}{s:Shared}{Q:VK}{us:List Value}{vs:List V}(F:FnOkH X.prog X.w X.K X.mg X.base k f fd ps sp)(hr:RoomH k X.A)(hb:Binds X.K fd ps [])
  (I:Inv X pins σ H s) (r:Vals vs us) (h:sp vs H Q E):wpAny (model X.prog X.w) X.A (call (.ref f) us) (EP X pins σ Q) X.xe s:=by
 have hl:(us++[]).length=ps.length:=by rw[List.append_nil,←r.length];exact F.len _ _ _ _ h
 have hb':=hb s us I.kIn hl;rw[List.append_nil] at hb';refine wpAny_call (codeAny_mono (F.run X.A X.stack s H ⟨us,[]⟩ us vs Q E hr I.env0 hb' r h) fun r s' hq=>?_);cases r with
 |error e=>exact False.elim hq
 |ok fl=>
  cases fl with
  |ret u=>exact I.after hq
  |next=>exact False.elim hq
  |brk=>exact False.elim hq
  |cont=>exact False.elim hq
theorem qs7z(F:FnOkH X.prog X.w X.K X.mg X.base k f fd ps sp)(hr:RoomH k X.A)(hg:Gl X x)(hm:X.mg x=some (.ref f))(hk:PySem.W.keepIn X.K (.ref f)=true)(hb:Binds X.K fd ps [])
  (ha:PA X (e::es) t) (hdb:(x==("__debug__":Str))=false:=by decide) (he:starEach (e::es) X.env=(false,eval e X.env)::starEach es X.env:=by rfl) (hpl:(backTo pos (starEach es X.env)).any (·.1)=false:=by rfl):
  PE X (.Call (.Name x p) (e::es) [] pos) (tCall sp [] E t):=by
 intro pins s σ H Q I h;refine wpAny_Call_Name_kw (qakz I hg hm ?_ hdb);refine PySem.W.callWith_K (h₀:=X.base) I.ok.mod.kin hk (thn (ha pos pins s σ H _ I h) fun us s1 ⟨vs,H1,I1,r,q⟩=>⟨I1.kIn,?_⟩) he hpl;have q':sp (vs++[]) H1 Q E:=q;rw[List.append_nil] at q';exact qs6z F hr hb I1 r q'
end
end L2
namespace L3
open PySem PySem.Spec PyProof.Rows L2
abbrev FnH3(P:Program)(w:World)(K:PySem.W.Frag)(mg:Str->Option Value)(base:Heap)(k:Nat)(f:Addr)(fd:FuncData)(ps:List Str)(sp:Sp3):Prop:=FnOkH P w K mg base k f fd ps (lowSp K sp)
theorem qs8z{X:Cx}{k:Nat}{f:Addr}{fd:FuncData}{ps:List Str}{sp:Sp3}{x:Str}{p pos:Pos}{e:Expr}{es:List Expr}{t:TA3}(F:FnH3 X.prog X.w X.K X.mg X.base k f fd ps sp)(hr:RoomH k X.A)(hm:X.mg x=some (.ref f))(hk:PySem.W.keepIn X.K (.ref f)=true)(hb:Binds X.K fd ps [])(ha:PA3 X (e::es) t)(hg:Gl X x:=by rfl)
  (hdb:(x==("__debug__":Str))=false:=by decide) (he:notStar e=true:=by rfl) (hpl:es.all notStar=true:=by rfl):
  PE3 X (.Call (.Name x p) (e::es) [] pos) (eCall sp t):=qpz (qs7z (E:=E0) F hr hg hm hk hb ha hdb (qlz he) (qzz hpl)) fun σ H Q h=>qe0z h
theorem fnH3{P:Program}{w:World}{K:PySem.W.Frag}{mg:Str->Option Value}{base:Heap}{x qual:Str}{st:Stmt}{f:Addr}{fd:FuncData}{N ps:List Str}{k:Nat}{sp:Sp3}(F:Fun K x qual st f fd)(S:FnScope N ps (defScope st))(hN:ps.length≤N.length)(len:∀ds G Q,sp ds G Q->ds.length=ps.length)(tb:TS3)
  (hbody:∀(cdv:Value) (A:Around) (outer:List Env) (s:Shared) (H:Hp) (E:XK),RoomH k (A.deeper (envOfC qual (defScope st) s.heap.objs.size f cdv)) ->
   PSs3 (cxH P w K mg base N qual (defScope st) f cdv A outer s H E) (defBody st) tb)
  (hrd:∀ds G Q,sp ds G Q->tb (endsOf Q) (start3 N ds) G):FnH3 P w K mg base (k+1) f fd ps sp:=by
 refine qs5z F S (fun vs H Q E h=>?_) (fun cdv A outer s H vs Q E hr h=>?_)
 ·obtain⟨ds,G,Q3,h1,h2,h3,h4⟩:=h;rw[←h1.length];exact len _ _ _ h3
 ·obtain⟨ds,G,Q3,h1,h2,h3,h4⟩:=h;refine⟨_,hbody cdv A outer s H E hr,start3 N ds,G,endsOf Q3,.start h1 ?_,h2,hrd _ _ _ h3,⟨?_,?_,?_,?_⟩⟩
  ·rw[←h1.length,len _ _ _ h3];exact hN
  ·exact fun τ σ G' H' a b c ⟨G0,s0,q⟩=>h4 _ H' .non G0 (by simp[Hv]) (b.trans (.sub s0)) (c.sub s0) q
  ·exact fun τ σ G' H' a b c q=>q.elim
  ·exact fun τ σ G' H' a b c q=>q.elim
  ·exact fun d v G' H' a b c ⟨G0,s0,q⟩=>h4 _ H' d G0 a (b.trans (.sub s0)) (c.sub s0) q
end L3
namespace L3
open PySem PySem.Spec PyProof.Rows L2
abbrev XK3:=S3->Gp->E3
abbrev TEX:=XK3->TE3
abbrev TSX:=XK3->TS3
def ExcTo(X:Cx)(pins:List (Addr×Obj))(H:Hp)(G:Gp)(KX:XK3)(XE:Value->Shared->Prop):Prop:=
 ∀(σ1:L2.St) (τ1:S3) (H1:Hp) (s1:Shared) (G1:Gp) (ev:Value) (s':Shared),Inv X pins σ1 H1 s1->RepS X.K τ1 σ1 H1->RepG X.K G1 H1->Step H G H1 G1->CXE X.prog X.w X.base X.stack H1 s1 (lowE2 X.K (KX τ1 G1) H1 G1) ev s'->XE ev s'
theorem ExcTo.step{X:Cx}{pins:List (Addr×Obj)}{H H1:Hp}{G G1:Gp}{KX:XK3}{XE:Value->Shared->Prop}(x:ExcTo X pins H G KX XE)(S:Step H G H1 G1):ExcTo X pins H1 G1 KX XE:=
 fun σ1 τ1 H2 s2 G2 ev s' a b c d e=>x σ1 τ1 H2 s2 G2 ev s' a b c (S.trans d) e
def PEX(X:Cx)(e:Expr)(t:TEX):Prop:=
 ∀(pins:List (Addr×Obj)) (s:Shared) (σ:L2.St) (H:Hp) (Q:VK) (XE:Value->Shared->Prop) (τ:S3) (G:Gp) (Q3:V3) (KX:XK3),Inv X pins σ H s->RepS X.K τ σ H->RepG X.K G H->t KX τ G Q3 ->
  (∀v H' d G',Hv X.K H' d v->Step H G H' G'->RepG X.K G' H'->Q3 d G'->Q v H')->ExcTo X pins H G KX XE->wpAny (model X.prog X.w) X.A (eval e X.env) (EP X pins σ Q) XE s
def PSX(X:Cx)(st:List Stmt)(t:TSX):Prop:=
 ∀(pins:List (Addr×Obj)) (s:Shared) (σ:L2.St) (H:Hp) (D2:Ends) (XE:Value->Shared->Prop) (τ:S3) (G:Gp) (D3:Ends3) (KX:XK3),Inv X pins σ H s->RepS X.K τ σ H->RepG X.K G H->t KX D3 τ G->EndsLow X.K H G D3 D2->ExcTo X pins H G KX XE ->
  wpAny (model X.prog X.w) X.A (execs st X.env) (SP X pins D2) XE s
section
variable {X:Cx} {k:Nat} {f:Addr} {fd:FuncData} {ps:List Str} {sp:SpX} {x:Str} {p pos:Pos} {a b e c:Expr} {es:List Expr} {t:TA3} {te:TE3} {tx:TEX} {tax:TAX} {tc:TT3} {ta tb tr:TSX} {sa sb rest:List Stmt}
def sxExpr(tx:TEX)(tr:TSX):TSX:=fun KX D τ G=>tx KX τ G fun _ G1=>tr KX D τ G1
theorem qs9z(h:PEX X e tx)(hr:PSX X rest tr)(hs:swapsWith e none pos.line X.env=pure false:=by rfl):PSX X (.Expr e pos::rest) (sxExpr tx tr):=by
 intro pins s σ H D2 XE τ G D3 KX I RS RG ht EL xx;refine wpAny_execs_cons (wpAny_Expr_any (thn (h pins s σ H (fun v H1=>∃d G1,Hv X.K H1 d v/\Step H G H1 G1/\RepG X.K G1 H1/\tr KX D3 τ G1) XE τ G _ KX I RS RG ht (fun v H' d G' a b c q=>⟨d,G',a,b,c,q⟩) xx) fun v s1 ⟨x,H1,I1,r1,d,G1,hd,S1,R1,q1⟩=>?_) I.quiet hs);exact hr pins s1 σ H1 D2 XE τ G1 D3 KX I1 (RS.ext (S1.ext RG)) R1 q1 (EL.step S1) (xx.step S1)
def sxNext:TSX:=fun _ D τ G=>D.nx τ G
theorem qtaz:PSX X [] sxNext:=fun _ _ σ H D2 XE τ G D3 KX I RS RG h EL _=>wpAny_execs_nil ⟨σ,H,I,EL.nx τ σ G H RS (.refl H G) RG h⟩
end
end L3
namespace L2
open PySem PySem.Spec PyProof.Rows
open Builtin Builtin.ObjectAttr
open Sem (wp)
abbrev veTail:List Value:=[.type "ValueError",.type "Exception",.type "BaseException",.type "object"]
def strKeysB(es:Array DictEntry):Bool:=es.toList.all fun e=>match e.key with
 |.str _ _=>true
 |_=>false
theorem qtbz{es:Array DictEntry}(h:strKeysB es=true):StrKeys es:=fun e he=>by
 have:=List.all_eq_true.mp h e (by simpa using he);cases q:e.key with
 |str n t=>exact⟨n,t,rfl⟩
 |_=>rw[q] at this;cases this
def nsB(K:PySem.W.Frag)(N:Addr)(init:Option Value):Bool:=match K.lookup N with
 |some ⟨_,_,.dict es _,_⟩=>strKeysB es&&nsFind es "__init__" == init
 |_=>false
theorem qtcz{K:PySem.W.Frag}{h:Heap}{N:Addr}{init:Option Value}(X:K.In h)(e:nsB K N init=true):∃m,h.Ns N m/\m "__init__" = init:=by
 unfold nsB at e;split at e
 ·rename_i c d es ep sl ho;rw[Bool.and_eq_true] at e;exact⟨nsFind es,⟨_,es,ep,X _ _ ho,rfl,qtbz e.1,fun _=>rfl⟩,beq_iff_eq.mp e.2⟩
 ·cases e
def excIn(K:PySem.W.Frag)(C:Addr)(bm:List Value)(init:Option Value)(newId:String):Bool:=match K.lookup C with
 | some ⟨.type "type",_,.cls cd,sl⟩=>(match cd.mro,sl.toList with
  |.ref C'::bm',[_,_,_,_,some (.builtin n),_]=>C'==C&&bm'==bm && !cd.hasDel&&cd.hasDict&&n==newId&&nsB K cd.ns init
  | _,_=>false)
 |_=>false
theorem qefz{K:PySem.W.Frag}{h:Heap}{C:Addr}{bm:List Value}{init:Option Value}{newId:String}(X:K.In h)(q:excIn K C bm init newId=true):∃nm qn N bs sn sub ab col dd k0 k1 k2 k3 k5 mN,
  h.get? C=some (excClassObj nm qn C N bs bm true sn sub ab col dd k0 k1 k2 k3 k5 newId)/\h.Ns N mN/\mN "__init__" = init:=by
 unfold excIn at q;split at q
 ·rename_i dd cd sl ho;split at q
  ·rename_i C' bm' k0 k1 k2 k3 n k5 hm hs;simp only[Bool.and_eq_true,beq_iff_eq,Bool.not_eq_true'] at q;obtain⟨⟨⟨⟨⟨rfl,rfl⟩,hdel⟩,hdct⟩,rfl⟩,hns⟩:=q;obtain⟨nm,bs,mro,ns,qn,hd,sn,sub,ab,col,del⟩:=cd;dsimp only at hm hdel hdct hns;subst hm hdel hdct;have hsl:sl = #[k0,k1,k2,k3,some (.builtin n),k5]:=by
    obtain⟨l⟩:=sl;simp only at hs;rw[hs]
   subst hsl;obtain⟨m,h1,h2⟩:=qtcz X hns;exact⟨nm,qn,ns,bs,sn,sub,ab,col,dd,k0,k1,k2,k3,k5,m,X _ _ ho,h1,h2⟩
  ·cases q
 ·cases q
structure ExcCls(K:PySem.W.Frag)(C B:Addr)(init:Option Value):Prop where
 cls:excIn K C (.ref B::veTail) init "ValueError.__new__" = true
 base:excIn K B veTail none "ValueError.__new__" = true
theorem ExcCls.own{K:PySem.W.Frag}{C B:Addr}{init:Option Value}(x:ExcCls K C B init){h:Heap}(X:K.In h):∃nm qn N bs sn sub ab col dd k0 k1 k2 k3 k5 mN,
  h.get? C=some (excClassObj nm qn C N bs (.ref B::veTail) true sn sub ab col dd k0 k1 k2 k3 k5 "ValueError.__new__")/\h.Ns N mN/\mN "__init__" = init/\OwnTail h veTail (.ref B::veTail):=by
 obtain⟨nm,qn,N,bs,sn,sub,ab,col,dd,k0,k1,k2,k3,k5,mN,h1,h2,h3⟩:=qefz X x.cls;obtain⟨nm',qn',N',bs',sn',sub',ab',col',dd',k0',k1',k2',k3',k5',mN',h1',h2',h3'⟩:=qefz X x.base;exact⟨nm,qn,N,bs,sn,sub,ab,col,dd,k0,k1,k2,k3,k5,mN,h1,h2,h3,.own h1' h2' h3' .base⟩
structure ExcSet(K:PySem.W.Frag)(C B:Addr)(names:List Str):Prop where
 sa:PySem.W.findIn K (.ref C) "__setattr__" = some (some (.builtin "object.__setattr__"))
 obj:PySem.W.mroIn K C (.type "object")=some true
 mro:∃cd,PySem.W.clsIn K C=some cd/\cd.mro=.ref C::.ref B::veTail/\cd.hasDict=true
 nm:∀n∈names,PySem.W.findIn K (.ref C) n=some none
section
variable {prog:Program} {w:World} {A:Around} {E:Value->Shared->Prop} {s:Shared} {K:PySem.W.Frag} {C B x:Addr} {names:List Str} {name:Str} {v:Value} {mA:Str->Option Value}
theorem qtdz{h:Heap}(I:h.Inst x C mA):∃ox od,PySem.W.InstAt h x ox C od:=by
 obtain⟨o,hx,hc,hnc,hd⟩:=I;have hn:PySem.W.notCls o=true:=by
  unfold PySem.W.notCls;split
  ·rename_i c q;exact absurd q (hnc c)
  ·rfl
 rcases hd with⟨hd,_⟩|⟨d,hd,_,od,es,ep,hod,_⟩
 ·exact⟨o,none,hx,hc,hn,by rw[hd];trivial⟩
 ·exact⟨o,some od,hx,hc,hn,by rw[hd];exact hod⟩
theorem qtez{ns:List Str}{Q:Unit->Shared->Prop}(S:ExcSet K C B names)(hn:name∈names)(X:K.In s.heap)(I:s.heap.Inst x C mA)(hw:Within mA ns)(hsz:ns.length≤1000)
  (hq:∀h' tk',h'.Inst x C (fun y=>if y=name then some v else mA y) ->
   (∀b o,b≠x->(∀o₀ dx,s.heap.get? x=some o₀->o₀.dict=some dx->b≠dx)->s.heap.get? b=some o->h'.get? b=some o) ->
   (∀o₀,s.heap.get? x=some o₀->∃o₁,h'.get? x=some o₁/\o₁.cls=o₀.cls/\o₁.data=o₀.data/\o₁.slots=o₀.slots/\(∀dx,o₀.dict=some dx->o₁.dict=some dx)/\(o₀.dict=none->o₁.dict=some s.heap.objs.size))->Q () { s with heap:=h',toks:=tk' }):
  wpAny (model prog w) A (setAttr (.ref x) name v) Q E s:=by
 obtain⟨ox,od,IA⟩:=qtdz I;obtain⟨cd,hcd,hmro,hdct⟩:=S.mro;refine PySem.W.set_plain X IA S.sa ?_;have X':K.In ({ s with toks:=s.toks+1 }:Shared).heap:=X;have IA':PySem.W.InstAt ({ s with toks:=s.toks+1 }:Shared).heap x ox C od:=IA;have SF:=PySem.F.store_object;have sub:PySem.W.Looks (model prog w) ({ s with toks:=s.toks+1 }:Shared).heap (isInstance (.ref x) (.type "object")) true:=IA'.type.andThen (PySem.W.looks_mroIn X' S.obj);have hm:PySem.W.Looks (model prog w) ({ s with toks:=s.toks+1 }:Shared).heap (mroOf (.ref C)) cd.mro:=(PySem.W.looks_clsIn X' hcd).andThen .now;refine codeAny_call_builtin SF.slot.plain SF.entry (@PySem.W.check_slot (model prog w) _ _ { s with toks:=s.toks+1 } "object.__setattr__" "object" "__setattr__" (.ref x) [.str name s.toks,v] [] _ SF.kind SF.split sub (SF.args (.ref x) (.str name s.toks) v) ?_);rw[PySem.W.osa_eq,refuse_eq];refine wpAny_bind (wpAny_bind (IA'.type.here (wpAny_bind (hm.here ?_))));rw[hmro,refuseLoop_ref,refuseLoop_ref,PySem.F.store_ValueError.passes];refine wpAny_pure (wpAny_bind (IA'.type.here (wpAny_bind ((PySem.W.looks_findIn X' (S.nm name hn)).here (wpAny_bind (wpAny_pure ?_))))));obtain⟨o,hx,hc,hnc,hd⟩:=I;obtain⟨hp,g,dr,tk0,os⟩:=s;dsimp only at hx X IA hq hd X' IA';have LC:=PySem.W.looks_clsIn (M:=model prog w) X' hcd;obtain⟨oc,odi,oda,osl⟩:=o;dsimp only at hc hnc hd;subst hc;show wpAny _ _ (storeInOwnDict (.ref x) (.ref C) (.str name tk0) name v false) _ _ _;refine wpAny_bind (wpAny_pure (wpAny_bind (wpAny_bind (wpAny_loadPart hx (wpAny_bind (LC.here ?_))))));rw[hdct];rcases hd with⟨hdn,hmA⟩|⟨dx,hdx,hne,hns⟩
 ·subst hdn;have hx₁:(hp.push { cls:=.type "dict",data:=.dict #[]}).get? x=some ⟨.ref C,none,oda,osl⟩:=Heap.get?_push_of_some _ hx;have hxs:x≠hp.objs.size:=Nat.ne_of_lt (Heap.lt_size hx);have hgd:((hp.push { cls:=.type "dict",data:=.dict #[]}).update x fun o=>{ o with dict:=some hp.objs.size }).get? hp.objs.size
     = some { cls:=.type "dict",data:=.dict #[]}:=
    (Heap.get?_update_ne _ _ _ _ hxs.symm).trans (Heap.get?_push_at rfl rfl)
  have hnd:((hp.push { cls:=.type "dict",data:=.dict #[]}).update x fun o=>{ o with dict:=some hp.objs.size }).Ns hp.objs.size (fun _=>none):=
    ⟨_,#[],_,hgd,rfl,fun e he=>absurd he (by simp),fun _=>rfl⟩
  have core:wpAny (model prog w) A.in1 (storeInDict hp.objs.size (.str name tk0) name v) (fun fin s'=>match fin with | .done f=>(match f with | .ret _=>Q () s' | _=>False) | .again c'=>False) (fun e s'=>E e s') ⟨(hp.push { cls:=.type "dict",data:=.dict #[]}).update x fun o=>{ o with dict:=some hp.objs.size },g,dr,tk0+1,os⟩:=by
   unfold storeInDict newKeyGuard;refine wpAny_bind (wpAny_pure (wpAny_bind (wpAny_nsSet1 (Heap.Ns1.of_empty hnd) fun h' hn' hs=>?_)));obtain⟨oD,esD,epD,hoD,hdD,hcD⟩:=hn'.count (Within.cons name v Within.nil);refine wpAny_bind (wpAny_lookBehind hoD (by rw[hdD];exact pastItsLine_dict (Nat.le_trans hcD (by rw[List.length_cons,List.length_nil,sizeLine_eq];omega))) ?_);refine wpAny_pure ?_;have hx':h'.get? x=some ⟨.ref C,some hp.objs.size,oda,osl⟩:=by
    refine (hs.2 x hxs).trans (Heap.get?_update_self _ hx₁ ?_);have hfr:=(Heap.get?_some_iff.mp hx).2;cases oda<;>first|rfl|exact hfr
   refine hq h' _ ⟨_,hx',rfl,hnc,.inr ⟨hp.objs.size,rfl,hxs.symm,?_⟩⟩ (fun b ob hbx _ hb=>?_)
    (fun o₀ h₀=>by obtain rfl:=Option.some.inj (hx.symm.trans h₀);exact⟨_,hx',rfl,rfl,rfl,fun dx e=>(nomatch e),fun _=>rfl⟩)
   ·obtain⟨o',es,ep,e1,e2,e3,eu,e4⟩:=hn';exact⟨o',es,ep,e1,e2,e3,eu,fun y=>by rw[e4 y];by_cases hy:y=name<;>simp[hy,hmA]⟩
   ·exact (hs.2 b (Nat.ne_of_lt (Heap.lt_size hb))).trans ((Heap.get?_update_ne _ _ _ _ hbx).trans (Heap.get?_push_of_some _ hb))
  rw[if_neg (by decide)];dsimp only;rw[if_neg (by simp[typeHasDict])];split
  ·first
    | (rename_i q;exact absurd q (hnc _))
    | (rename_i q _;exact absurd q (hnc _))
    | (rename_i q _ _;exact absurd q (hnc _))
    | (exfalso;simp_all)
  ·refine wpAny_bind (wpAny_alloc' ?_);refine wpAny_bind (wpAny_update' hx₁ ?_);refine wpAny_pure (a:=some hp.objs.size) ?_;show wpAny _ _ (storeInDict hp.objs.size (.str name tk0) name v) _ _ _;refine wpAny_mono core (fun fin s' z=>?_) fun _ _ z=>z;cases fin with
   |done f=>
    cases f with
    |ret r=>exact z
    |_=>exact z.elim
   |again c=>exact z.elim
 ·subst hdx;refine wpAny_pure (a:=some dx) ?_;show wpAny _ _ (storeInDict dx (.str name tk0) name v) _ _ _;unfold storeInDict newKeyGuard;refine wpAny_bind (wpAny_pure (wpAny_bind (wpAny_nsSet1 hns fun h' hn' hs=>?_)));obtain⟨oD,esD,epD,hoD,hdD,hcD⟩:=hn'.count (Within.cons name v hw);refine wpAny_bind (wpAny_lookBehind hoD (by rw[hdD];exact pastItsLine_dict (Nat.le_trans hcD (by rw[List.length_cons,sizeLine_eq];omega))) ?_);refine wpAny_pure ?_;have hx':=(hs.2 x hne.symm).trans hx;refine hq h' _ ⟨_,hx',rfl,hnc,.inr ⟨dx,rfl,hne,hn'⟩⟩ (fun b ob _ hbd hb=>(hs.2 b (hbd _ dx hx rfl)).trans hb)
   (fun o₀ h₀=>by obtain rfl:=Option.some.inj (hx.symm.trans h₀);exact⟨_,hx',rfl,rfl,rfl,fun _ e=>e,fun e=>(nomatch e)⟩)
end
end L2
namespace L2
open PySem PySem.Spec PyProof.Rows
open Sem (wp)
structure TurnX(l:List Env)(e T:Addr)(h h':Heap):Prop where
 keep:∀b o,b≠e->b≠T->b∉frs l->h.get? b=some o->h'.get? b=some o
 slot:∀b o,b∈frs l->h.get? b=some o->∃sl,h'.get? b=some { o with slots:=sl }
theorem LeftD.turnX{base:Heap}{l:List Env}{e T:Addr}{cls:Value}{dx:Option Addr}{h h':Heap}(L:LeftD base l e T cls dx h h'):TurnX l e T h h':=⟨L.keep,L.slot⟩
section
variable {M:Model} {A:Around} {E:Value->Shared->Prop} {s:Shared}
theorem qtfz{base:Heap}{env:Env}{outer:List Env}{L e T:Addr}{cls:Value}{dx:Option Addr}{Q:Unit->Shared->Prop}
  (hfr:A.frames=some (env::outer)) (hl:s.heap.FunFrames base (env::outer)) (hf:env.frame=some L) (ht:TracedD base s.heap e T cls dx) (hkb:base.StaysIn s.heap) (hen:base.get? e=none)
  (h:∀h',LeftD base (env::outer) e T cls dx s.heap h'->Q () { s with heap:=h' }):wpAny M A (noteFrame (.ref e) env) (fun _ s'=>wpAny M A (setFlight (.ref e) none) Q E s') E s:=by
 obtain⟨⟨oe,vs,he,hcls,hdx,hd,h1,h2⟩,hnT,hTe,oT,ts,hT,hdT,h3⟩:=ht;subst hcls hdx;unfold noteFrame;simp only[hf];refine wpAny_bind (wpAny_field he hd h1 ?_);rw[if_pos (show (Value.ref T != Value.none)=true from by simp)];refine wpAny_bind (wpAny_field hT hdT h3 ?_);rw[if_neg (show ¬((Value.none==rawInt L)=true) from by simp[rawInt])];refine wpAny_bind (wpAny_setField hT hdT (Array.getElem?_eq_some_iff.mp h3).1 ?_);have other:∀b,b≠T->(s.heap.update T (Obj.mapFields (·.setIfInBounds 3 Value.none))).get? b=s.heap.get? b:=fun b hb=>Heap.get?_update_other _ _ (Ne.symm hb);have noRecord:∀b o,s.heap.get? b=some o->(∀vs,o.data≠.fields vs)->b≠T:=fun b o hb hnf q=>by
  rw[q,hT] at hb;injection hb with hb;subst hb;exact hnf ts hdT
 have hTf:T∉frs (env::outer):=fun hm=>by
  obtain⟨_,o,ho,hnf⟩:=hl.mem hm;rw[hT] at ho;injection ho with ho;subst ho;exact hnf ts hdT
 refine newEntryD hfr (hl.of_keeps fun b o hb hnf=>⟨o,(other b (noRecord b o hb hnf)).trans hb,rfl⟩) hf ((other e (Ne.symm hTe)).trans he)
  (fun b o hbo=>(other b fun q=>by rw[q,hnT] at hbo;cases hbo).trans (hkb b o hbo)) hen hd (Array.getElem?_eq_some_iff.mp h1).1 h2
  fun h' ⟨x1,x2,⟨T',x3,x3'⟩,x4,x5⟩=>h h' ⟨x1,x2,⟨T',x3,?_⟩,fun b o hbe hbT hbf hb=>x4 b o hbe hbe hbf ((other b hbT).trans hb),fun b o hbf hb=>x5 b o hbf ((other b fun q=>hTf (q▸hbf)).trans hb)⟩
 by_cases hq:T'=T
 ·subst hq;obtain⟨o2,e2⟩:∃o2,(s.heap.update T' (Obj.mapFields (·.setIfInBounds 3 Value.none))).get? T'=some o2:=⟨_,Heap.get?_update_self _ hT (Obj.isFreed_of_fields (Obj.data_mapFields hdT _))⟩;rw[e2] at x3';cases x3'
 ·rw[←other T' hq];exact x3'
theorem flightD{base:Heap}{e T:Addr}{cls:Value}{dx:Option Addr}{Q:Unit->Shared->Prop}(ht:TracedD base s.heap e T cls dx)
  (h:∀h',(∀b o,b≠T->s.heap.get? b=some o->h'.get? b=some o)->TracedD base h' e T cls dx->Q () { s with heap:=h' }):wpAny M A (setFlight (.ref e) none) Q E s:=by
 obtain⟨⟨oe,vs,he,hcls,hdx,hd,h1,h2⟩,hnT,hTe,oT,ts,hT,hdT,h3⟩:=ht;unfold setFlight;refine wpAny_bind (wpAny_field he hd h1 ?_);rw[if_pos (show (Value.ref T != Value.none)=true from by simp)];have hz:=(Array.getElem?_eq_some_iff.mp h3).1;refine wpAny_setField hT hdT hz (h _ (fun b o hb q=>(Heap.get?_update_other _ _ (Ne.symm hb)).trans q) ⟨⟨oe,vs,(Heap.get?_update_other _ _ hTe).trans he,hcls,hdx,hd,h1,h2⟩,hnT,hTe,_,_,Heap.get?_update_self _ hT (Obj.isFreed_of_fields (Obj.data_mapFields hdT _)),Obj.data_mapFields hdT _,?_⟩);simp[hz]
theorem excMatchesB{nm q:Str}{C N B:Addr}{bs bm:List Value}{hdct:Bool}{sn:List Str}{sub:List Value}{ab:Bool}{col:Option Bool}{dd:Option Addr}{k0 k1 k2 k3 k5:Option Value}{newId:String}
  {nm' q':Str} {N':Addr} {bs' bm':List Value} {hdct':Bool} {sn':List Str} {sub':List Value} {ab':Bool} {col':Option Bool} {dd':Option Addr} {k0' k1' k2' k3' k5':Option Value} {newId':String}
  {h:Heap} {g:Array GenState} {d:Drawn} {t:Nat} {os:OsState} {e:Addr} {oe:Obj} {Q:Bool->Shared->Prop}
  (hC:h.get? C=some (excClassObj nm q C N bs bm hdct sn sub ab col dd k0 k1 k2 k3 k5 newId)) (hB:h.get? B=some (excClassObj nm' q' B N' bs' bm' hdct' sn' sub' ab' col' dd' k0' k1' k2' k3' k5' newId'))
  (he:h.get? e=some oe) (hcls:oe.cls=.ref C) (hbase:bm'.contains (.type "BaseException")=true) (hsub:(Value.ref C::bm).contains (.ref B)=true)
  (hq:Q true ⟨h,g,d,t,os⟩):wpAny M A (excMatches (.ref e) (.ref B)) Q E ⟨h,g,d,t,os⟩:=by
 have hcB:(Value.ref B::bm').contains (.type "BaseException")=true:=by rw[List.contains_cons,hbase,Bool.or_true]
 have f:=tc_notTuple;unfold excMatches
 repeat (first|(with_reducible refine wpAny_loadPart_at he ?_;rw[hcls])|with_reducible refine wpAny_loadPart_at hB ?_|(with_reducible refine wpAny_isSubtype_exc hB ?_;rw[hcB])|(with_reducible refine wpAny_isSubtype_exc hC ?_;rw[hsub])|wp_step)
 exact hq
end
section
variable {X:Cx} {pins:List (Addr×Obj)} {σ:St} {H:Hp} {s:Shared} {h':Heap} {e T:Addr}
structure Frame(X:Cx):Prop where
 ex:X.ex=[]
 st:X.stack=X.env::X.outer
 fr:X.env.frame=some X.env.locals
theorem Inv.turnedX(I:Inv X pins σ H s)(F:Frame X)(L:TurnX X.stack e T s.heap h')(he:X.s₀.heap.get? e=none)(hT:X.s₀.heap.get? T=none)(hHe:H e=none)(hHT:H T=none)
  (hp:∀p∈X.pn++pins,p.1≠e/\p.1≠T) (eo:∃oe vs,s.heap.get? e=some oe/\oe.data=.fields vs) (To:∃oe vs,s.heap.get? T=some oe/\oe.data=.fields vs):Inv X pins σ H { s with heap:=h' }:=by
 have hloc:X.s₀.heap.get? X.env.locals=none:=Heap.get?_none_of_le I.ok.above;have sub:∀b,b∈frs X.stack->b=X.env.locals∨b∈frs X.outer:=fun b hb=>List.mem_cons.mp (I.stkSub b hb);have ne:∀{b c:Addr} {o:Obj},X.s₀.heap.get? b=some o->X.s₀.heap.get? c=none->b≠c:=fun h1 h2 z=>by
  rw[z,h2] at h1;cases h1
 have nox:∀b:Addr,b∉X.ex:=fun b z=>by
  rw[F.ex] at z;cases z
 have inStk:X.env.locals∈frs X.stack:=by
  rw[F.st];unfold frs;rw[List.filterMap_cons,F.fr];exact List.mem_cons_self
 have supF:∀b,b∈frs X.outer->b∈frs X.stack:=fun b hb=>by
  rw[F.st];unfold frs;rw[List.filterMap_cons,F.fr];exact List.mem_cons_of_mem _ hb
 have noF:∀{b:Addr} {o:Obj},s.heap.get? b=some o->(∀vs,o.data≠.fields vs)->b≠e/\b≠T:=fun {b o} hb hn=>⟨fun z=>by
  obtain⟨oe,vs,q1,q2⟩:=eo;rw[z,q1] at hb;cases hb;exact hn vs q2,fun z=>by
  obtain⟨oe,vs,q1,q2⟩:=To;rw[z,q1] at hb;cases hb;exact hn vs q2⟩
 have cellK:∀c v,s.heap.IsCell c v->h'.IsCell c v:=fun c v hc=>by
  obtain⟨o,ho,hd⟩:=hc;by_cases hb:c∈frs X.stack
  ·obtain⟨sl,k2⟩:=L.slot c o hb ho;exact⟨_,k2,hd⟩
  ·obtain⟨n1,n2⟩:=noF ho (fun vs q=>by rw[hd] at q;cases q);exact⟨o,L.keep c o n1 n2 hb ho,hd⟩
 refine⟨I.ok,I.os,I.bare,⟨fun b o h1 h2 h3 _=>?_,fun b o h1 h2 h3 _=>?_,I.base.free,fun b o h1 hx=>?_,I.base.tups,I.base.frzs,I.base.tbls⟩,?_,fun x c hc=>?_,I.free,I.freeC,fun p hp'=>?_,fun a o ha=>?_,I.len⟩
 ·have k1:=I.base.keep b o h1 h2 h3 (nox b);refine L.keep b o (ne h1 he) (ne h1 hT) (fun z=>?_) k1;rcases sub b z with z|z
  ·exact ne h1 hloc z
  ·exact h3 z
 ·obtain⟨sl,k1⟩:=I.base.slot b o h1 h2 h3 (nox b);obtain⟨sl',k2⟩:=L.slot b _ (supF b h3) k1;exact⟨sl',k2⟩
 ·obtain⟨o',k1⟩:=I.base.there b o h1 (nox b);by_cases hb:b∈frs X.stack
  ·obtain⟨sl,k2⟩:=L.slot b o' hb k1;exact⟨_,k2⟩
  ·exact⟨o',L.keep b o' (ne h1 he) (ne h1 hT) hb k1⟩
 ·obtain⟨m,⟨o,es,ep,ho,r⟩,hl⟩:=I.loc;obtain⟨sl,k2⟩:=L.slot _ o inStk ho;refine⟨m,⟨_,es,ep,k2,r⟩,fun i x v h1 h2 h3=>?_⟩;obtain⟨u,ru,lk⟩:=hl i x v h1 h2 h3;refine⟨u,ru,?_⟩;rcases lk with lk|⟨kd,c,hc,ic⟩
  ·exact .inl lk
  ·exact .inr ⟨kd,c,hc,cellK c _ ic⟩
 ·obtain⟨v,hv⟩:=I.cell x c hc;exact⟨v,cellK c v hv⟩
 ·obtain⟨q1,q2,q3,q4,q5⟩:=I.pin p hp';refine⟨L.keep p.1 p.2 (hp p hp').1 (hp p hp').2 (fun z=>?_) q1,q2,q3,q4,q5⟩;rcases sub _ z with z|z
  ·exact q3 z
  ·exact q4 z
 ·refine (I.hok a o ha).stay (fun b u hb q=>?_) (fun _ q=>q) fun _ _ q=>q;have hHb:H b≠none:=by
   rcases hb with rfl|hb
   ·rw[ha];simp
   ·rw[hb];simp
  exact L.keep b u (fun z=>hHb (z▸hHe)) (fun z=>hHb (z▸hHT)) (fun z=>hHb (I.stkFree b z)) q
theorem Inv.forget{m':Str->Option Value}{t':Nat}(I:Inv X pins σ H s)(hs:Heap.SameBut X.env.locals s.heap h')(hn:h'.Ns X.env.locals m'):Inv X pins (List.replicate X.N.length none) H { s with heap:=h',toks:=t' }:=by
 have hloc:X.s₀.heap.get? X.env.locals=none:=Heap.get?_none_of_le I.ok.above;have k:∀b o,b≠X.env.locals->s.heap.get? b=some o->h'.get? b=some o:=fun b o hb q=>(hs.2 b hb).trans q;have ne:∀{b:Addr} {o:Obj},X.s₀.heap.get? b=some o->b≠X.env.locals:=fun h1 z=>by
  rw[z,hloc] at h1;cases h1
 refine⟨I.ok,I.os,I.bare,⟨fun b o h1 h2 h3 h4=>k b o (ne h1) (I.base.keep b o h1 h2 h3 h4),fun b o h1 h2 h3 h4=>?_,I.base.free,fun b o h1 h2=>?_,I.base.tups,I.base.frzs,I.base.tbls⟩,⟨m',hn,fun i x v h1 h2 h3=>?_⟩,fun x c hc=>?_,I.free,I.freeC,fun p hp=>?_,fun a o ha=>?_,by simp⟩
 ·obtain⟨sl,q⟩:=I.base.slot b o h1 h2 h3 h4;exact⟨sl,k _ _ (ne h1) q⟩
 ·obtain⟨o',q⟩:=I.base.there b o h1 h2;exact⟨o',k _ _ (ne h1) q⟩
 ·rw[List.getElem?_replicate] at h2;split at h2<;>cases h2
 ·obtain⟨v,o,ho,hd⟩:=I.cell x c hc;exact⟨v,o,k _ _ (I.cne x c hc) ho,hd⟩
 ·obtain⟨q1,q2,q3,q4,q5⟩:=I.pin p hp;exact⟨k _ _ q3 q1,q2,q3,q4,q5⟩
 ·refine (I.hok a o ha).stay (fun b u hb q=>k b u (fun z=>?_) q) (fun _ q=>q) fun _ _ q=>q;rcases hb with hb|hb
  ·rw[←hb,z,I.free] at ha;cases ha
  ·rw[z,I.free] at hb;cases hb
abbrev Cx.caught(X:Cx)(e:Addr):Cx:={ X with A:=X.A.mark (some (.ref e)),calm:=false,xe:=fun _ _=>False }
theorem Inv.caught(I:Inv X pins σ H s)(e:Addr):Inv (X.caught e) pins σ H s:=by
 obtain⟨ok,a1,a2,a3,a4,a5,a6,a7,a8,a9,a10⟩:=I;obtain⟨o1,o2,o3,o4,o5,o6,o7,o8,_,o10,o11,o12,o13,o14,o15,o16,o17,o18⟩:=ok;exact⟨⟨o1,o2,o3,o4,o5,o6,o7,o8,(fun z=>nomatch z),o10,o11,o12,o13,o14,o15,o16,o17,o18⟩,a1,a2,a3,a4,a5,a6,a7,a8,a9,a10⟩
theorem Inv.uncaught{e:Addr}(I:Inv (X.caught e) pins σ H s)(ok:X.Ok):Inv X pins σ H s:=by
 obtain⟨_,a1,a2,a3,a4,a5,a6,a7,a8,a9,a10⟩:=I;exact⟨ok,a1,a2,a3,a4,a5,a6,a7,a8,a9,a10⟩
theorem trackHOk{P:Program}{w:World}{h:Heap}{a:Addr}{o:HO}(ok:HOk P w H h)(hn:H a=none)(new:ObjOk P w (upd H a o) h a o):HOk P w (upd H a o) h:=fun b u e=>by
 by_cases z:b=a
 ·subst z;rw[qoz] at e;cases e;exact new
 ·rw[qiz z] at e;refine (ok b u e).stay (fun _ _ _ q=>q) (fun c q=>?_) fun c xs q=>?_
  ·rw[qiz (fun z=>by rw[z,hn] at q;cases q)];exact q
  ·rw[qiz (fun z=>by rw[z,hn] at q;cases q)];exact q
theorem Inv.track{a:Addr}{o:HO}(I:Inv X pins σ H s)(hn:H a=none)(h0:X.s₀.heap.get? a=none)(new:ObjOk X.prog X.w (upd H a o) s.heap a o)(hl:a≠X.env.locals)(hc:∀x c,X.env.cells.lookup x=some c->c≠a)(hp:∀p∈X.pn++pins,p.1≠a):Inv X pins σ (upd H a o) s:=by
 refine⟨I.ok,I.os,I.bare,⟨I.base.keep,I.base.slot,fun b ob h1 h2 h3=>?_,I.base.there,fun b xs e=>?_,fun b x u e=>?_,fun b ps e=>?_⟩,I.loc,I.cell,by rw[qiz hl.symm];exact I.free,fun x c e=>by rw[qiz (hc x c e)];exact I.freeC x c e,fun p hp'=>?_,trackHOk I.hok hn new,I.len⟩
 ·rw[qiz (fun z=>by rw[z,h0] at h1;cases h1)];exact I.base.free b ob h1 h2 h3
 ·have:=I.base.tups b xs e;rw[qiz (fun z=>by rw[z,hn] at this;cases this)];exact this
 ·have:=I.base.frzs b x u e;rw[qiz (fun z=>by rw[z,hn] at this;cases this)];exact this
 ·obtain⟨more,q⟩:=I.base.tbls b ps e;refine⟨more,?_⟩;rw[qiz (fun z=>by rw[z,hn] at q;cases q)];exact q
 ·obtain⟨q1,q2,q3,q4,q5⟩:=I.pin p hp';exact⟨q1,by rw[qiz (hp p hp')];exact q2,q3,q4,q5⟩
end
end L2
namespace L3
open PySem PySem.Spec PyProof.Rows L2
def excφ(a C:Addr)(dx:Option Addr):Heap->Prop:=fun h=>∃oe vs,h.get? a=some oe/\oe.cls=.ref C/\oe.dict=dx/\oe.data=.fields vs/\vs[2]?=some .none
def excR(x:Str)(fs:List (Str×Int)):PySem.W.Frag->Addr->Hp->Prop:=fun K a H=>∃C dx,ClsN K x C/\H a=some (.ext (excφ a C dx))/\DictIs H dx fs
theorem DictIs.keep{H H':Hp}{dx:Option Addr}{fs:List (Str×Int)}(h:DictIs H dx fs)(k:∀b o u,H b=some (.frz o u)->H' b=some (.frz o u)):DictIs H' dx fs:=by
 rcases h with h|⟨d,o,h1,h2⟩
 ·exact .inl h
 ·exact .inr ⟨d,o,h1,k _ _ _ h2⟩
theorem qtgz{K:PySem.W.Frag}{H:Hp}{a:Addr}{x:Str}{fs:List (Str×Int)}(h:excR x fs K a H):GOk K H a (.gen (excR x fs)):=
 ⟨h,by obtain⟨C,dx,_,e,_⟩:=h;exact⟨_,e,fun _=>nofun,fun _ _=>nofun⟩,fun H1 H2 t f e ⟨C,dx,h1,h2,h3⟩=>⟨C,dx,h1,e.trans h2,h3.keep f⟩⟩
def Takes(K:PySem.W.Frag)(names:List Str)(B:Addr):Prop:=∀x∈names,∀C,ClsN K x C->∃init,ExcCls K C B init
def sTryP(names:List Str)(i:Nat)(tx:TSX)(th:Addr->TS3)(tr:TS3):TS3:=fun D τ G=>
 tx (fun τ1 G1 x fs=>x∈names/\∀p G2,New G1 p (.gen (excR x fs)) G2->th p { nx:=fun _ _=>False,rt:=D.rt } (set3 τ1 i (.obj p)) G2) { D with nx:=tr D } τ G
theorem qthz{X:Cx}{i:Nat}{cx en:Str}{names:List Str}{body suite rest:List Stmt}{b₀:Stmt}{np hpos pos:Pos}{tx:TSX}{th:Addr->TS3}{tr:TS3}{B:Addr}(F:Frame X)(T7:Takes X.K names B)(hm:X.mg cx=some (.ref B))(hN:X.N.Nodup)(hb:PSX X body tx)(hh:∀e,PSs3 (X.caught e) (b₀::suite) (th e))(hr:PSs3 X rest tr)
  (hi:X.N[i]?=some en:=by rfl) (hl:X.env.scope.names.lookup en=some .local:=by rfl) (hg:Gl X cx:=by rfl) (hdb:(cx==("__debug__":Str))=false:=by decide):
  PSs3 X (.Try body [.ExceptHandler (some (.Name cx np)) (some en) (b₀::suite) hpos] [] [] pos::rest) (sTryP names i tx th tr):=by
 intro pins s σ H D2 I ⟨τ,G,D3,RS,RG,ht,EL⟩;refine wpAny_execs_cons (wpAny_Try_except ?_);have EL':EndsLow X.K H G { D3 with nx:=tr D3 } { D2 with nx:=fun σ' H'=>lowS X.K tr D2 σ' H' }:=⟨fun τ' σ' G' H' a b c q=>⟨τ',G',D3,a,c,q,EL.step b⟩,EL.bk,EL.ct,EL.rt⟩;refine wpAny_mono (hb pins s σ H _ _ τ G _ _ I RS RG ht EL' ?exc) (fun fl s1 q=>?fin) (fun e s1 q=>q)
 case fin=>
  cases fl with
  |next=>
   obtain⟨σ',H',I',q⟩:=q;exact wpAny_execs_nil (hr pins s1 σ' H' D2 I' q)
  |ret u=>exact q
  |brk=>exact q
  |cont=>exact q
 case exc=>
  intro σ1 τ1 H1 s1 G1 ev s' I1 RS1 R1 S1 cxx;obtain⟨e,T,C,dx,H',rfl,os,bare,u,ok,tr',⟨hHe,hHT⟩,hen,⟨he0,hT0⟩,⟨x,C',fs,ec,cn,⟨hxn,kq⟩,dd⟩,R2,S2⟩:=cxx;cases ec;have I':Inv X pins σ1 H' s':=I1.call' (ch:=[]) os u ok bare (fun b z=>absurd z (by simp));have s0:∀{b:Addr},s1.heap.get? b=none->X.s₀.heap.get? b=none:=fun {b} hb=>by
   cases hq:X.s₀.heap.get? b with
   |none=>rfl
   |some o=>
    obtain⟨o',e'⟩:=I1.base.there b o hq (by rw[F.ex];simp);rw[hb] at e';cases e'
  have pne:∀p∈X.pn++pins,p.1≠e/\p.1≠T:=fun p hp=>by
   have q:=(I1.pin p hp).1;refine⟨fun z=>?_,fun z=>?_⟩
   ·rw[z,he0] at q;cases q
   ·rw[z,hT0] at q;cases q
  have eo:=tr'.obj;have To:=tr'.ent;refine qtfz (base:=X.base) (by rw[I'.ok.frames,F.st]) (by rw[←F.st];exact I'.stack) F.fr tr' I'.bk hen fun h2 L=>?_;rw[←F.st] at L;have I2:=I'.turnedX F L.turnX (s0 he0) (s0 hT0) hHe hHT pne (by obtain⟨oe,vs,q1,_,_,q2,_⟩:=eo;exact⟨oe,vs,q1,q2⟩) (by obtain⟨oe,vs,q1,q2,_⟩:=To;exact⟨oe,vs,q1,q2⟩);obtain⟨T2,tr2,hT2⟩:=L.traced;obtain⟨oe,vs,q1,q2,q3,q4,q5,q6⟩:=tr2.obj;obtain⟨oT,ts,r1,r2,r3⟩:=tr2.ent;have Ic:=I2.caught e;obtain⟨init,ec⟩:=T7 x hxn C cn;refine wpAny_handleBy_cons (codeAny_handlers_test (qakz (X:=X.caught e) Ic hg hm ?_ hdb)) (by intro q;cases q);obtain⟨nm,qn,N,bs,sn,sub,ab,col,dd',k0,k1,k2,k3,k5,mN,hC,_⟩:=qefz Ic.kIn ec.cls;obtain⟨nm',qn',N',bs',sn',sub',ab',col',dd'',k0',k1',k2',k3',k5',mN',hB,_⟩:=qefz Ic.kIn ec.base;refine excMatchesB hC hB q1 q2 (by decide +kernel) (by simp) ?_;refine codeAny_handlers_suite_as ?_;refine flightD tr2 fun h3 kp tr3=>?_;have sT2:X.s₀.heap.get? T2=none:=by
   cases hq:X.s₀.heap.get? T2 with
   |none=>rfl
   |some o=>
    obtain⟨o',e'⟩:=I'.base.there T2 o hq (by rw[F.ex];simp);rw[hT2] at e';cases e'
  have hHT2:H' T2=none:=by
   cases hq:H' T2 with
   |none=>rfl
   |some o=>
    obtain⟨ob,e'⟩:=ObjOk.there (I'.hok T2 o hq);rw[hT2] at e';cases e'
  have I3:=I2.turnedX (h':=h3) F (e:=e) (T:=T2) ⟨fun b o _ hT _ q=>kp b o hT q,fun b o hb q=>⟨o.slots,kp b o (fun z=>by
   obtain⟨_,o',ho',hd⟩:=I2.stack.mem hb;rw[z,r1] at ho';cases ho';exact hd _ r2) q⟩⟩ (s0 he0) sT2 hHe hHT2 (fun p hp=>⟨(pne p hp).1,fun z=>by
   have:=(I'.pin p hp).1;rw[z,hT2] at this;cases this⟩) ⟨oe,vs,q1,q4⟩ ⟨oT,ts,r1,r2⟩
  obtain⟨oe,vs,q1,q2,q3,q4,q5,q6⟩:=tr3.obj;refine qgqz (X:=X.caught e) (i:=i) (v:=.ref e) (I3.caught e) hN hi (.inl hl) rfl (fun s4 I4 sb=>?_) (.inr hl);have nl:e≠X.env.locals:=fun z=>by
   obtain⟨m,⟨o,es,ep,ho,hd,_⟩,_⟩:=I3.loc;rw[←z] at ho;rw[show h3.get? e=_ from q1] at ho;cases ho;rw[q4] at hd;cases hd
  have nc:∀y c,X.env.cells.lookup y=some c->c≠e:=fun y c hc z=>by
   obtain⟨v,o,ho,hd⟩:=I3.cell y c hc;rw[z] at ho;rw[show h3.get? e=_ from q1] at ho;cases ho;rw[q4] at hd;cases hd
  obtain⟨a,sb1,sb2⟩:=sb;have q1':s4.heap.get? e=some oe:=(sb1.2 e (fun z=>by
   rcases sb2 with sb2|sb2
   ·exact nl (z.trans sb2)
   ·exact nc _ _ sb2 z.symm)).trans q1
  have I5:=I4.track (o:=.ext (excφ e C dx)) hHe (s0 he0) ⟨⟨oe,vs,q1',q2,q3,q4,q6⟩,⟨oe,q1'⟩,fun h1 h2 ⟨oe,vs,a,b⟩ k=>⟨oe,vs,k _ a,b⟩⟩ nl nc (fun p hp=>(pne p hp).1);have E2:=S2.ext R1;have RG5:RepG X.K (upd3 G1 e (.gen (excR x fs))) (upd H' e (.ext (excφ e C dx))):=R2.laidG hHe (qtgz ⟨C,dx,cn,qoz,dd.keep (Ext.laid hHe).frz⟩);have S5:Step H1 G1 (upd H' e (.ext (excφ e C dx))) (upd3 G1 e (.gen (excR x fs))):=S2.trans (.laidG hHe);have RS5:RepS X.K (set3 τ1 i (.obj e)) (σ1.set i (some (.ref e))) (upd H' e (.ext (excφ e C dx))):=((RS1.ext E2).ext (.laid hHe)).set (by simp[Hv]);refine wpAny_mono (hh e pins s4 _ _ { nx:=fun _ _=>False,rt:=D2.rt } I5 ⟨_,_,{ nx:=fun _ _=>False,rt:=D3.rt },RS5,RG5,kq e _ (.mk' (R2.free hHe)),⟨fun _ _ _ _ _ _ _ q=>q.elim,fun _ _ _ _ _ _ _ q=>q.elim,fun _ _ _ _ _ _ _ q=>q.elim,fun d v G' H' a b c q=>EL.rt d v G' H' a (S1.trans (S5.trans b)) c q⟩⟩) (fun fl s5 q=>?_) (fun _ _ z=>z.elim);cases fl with
  |ret u=>
   obtain⟨v,σ',H6,I6,rv,qv⟩:=q;obtain⟨m,hn,_⟩:=I6.loc;refine wpAny_nameGoes hl hn (by rw[I.ok.kind];rfl) fun h7 m7 hn7 hs7=>?_;exact⟨v,_,H6,(I6.uncaught I.ok).forget hs7 hn7,rv,qv⟩
  |next=>
   obtain⟨_,_,_,q⟩:=q;exact q.elim
  |brk=>
   obtain⟨_,_,_,q⟩:=q;exact q.elim
  |cont=>
   obtain⟨_,_,_,q⟩:=q;exact q.elim
end L3
namespace L2
open PySem PySem.Spec PyProof.Rows
open Sem (wp)
structure InitSt(s1:Heap)(e C:Addr)(mA:Str->Option Value)(h:Heap):Prop where
 keep:∀b o,b≠e->s1.get? b=some o->h.get? b=some o
 inst:h.Inst e C mA
 obj:∃o1 o2,s1.get? e=some o1/\h.get? e=some o2/\o2.cls=o1.cls/\o2.data=o1.data
 fresh:∀o dx,h.get? e=some o->o.dict=some dx->s1.get? dx=none
def putN(mA:Str->Option Value)(p:Str×Value):Str->Option Value:=fun y=>if y=p.1 then some p.2 else mA y
def IsStore(n:Str)(st:Stmt):Prop:=∃p1 p2 p3 p4,st=.Assign [.Attribute (.Name "self" p1) n p2] (.Name n p3) p4
section
variable {prog:Program} {w:World} {A:Around} {E:Value->Shared->Prop} {K:PySem.W.Frag} {C B e:Addr} {names:List Str} {env:Env} {s1:Heap} {m:Str->Option Value}
theorem InitSt.store{mA:Str->Option Value}{ns:List Str}{n:Str}{v:Value}{Q:Unit->Shared->Prop}{s:Shared}(S:ExcSet K C B names)(hn:n∈names)(X:K.In s.heap)(T:InitSt s1 e C mA s.heap)(hw:Within mA ns)(hsz:ns.length≤1000)
  (hq:∀h' tk',InitSt s1 e C (putN mA (n,v)) h'->Q () { s with heap:=h',toks:=tk' }):wpAny (model prog w) A (setAttr (.ref e) n v) Q E s:=by
 refine qtez S hn X T.inst hw hsz fun h' tk' I' hk hs=>hq h' tk' ⟨fun b o hb q=>?_,I',?_,fun o dx q1 q2=>?_⟩
 ·exact hk b o hb (fun o₀ dx h0 hd z=>by
   have:=T.fresh o₀ dx h0 hd;rw[←z,q] at this;cases this) (T.keep b o hb q)
 ·obtain⟨o1,o2,a1,a2,a3,a4⟩:=T.obj;obtain⟨o3,b1,b2,b3,_⟩:=hs o2 a2;exact⟨o1,o3,a1,b1,b2.trans a3,b3.trans a4⟩
 ·obtain⟨o1,o2,a1,a2,a3,a4⟩:=T.obj;obtain⟨o3,b1,b2,b3,b4,b5,b6⟩:=hs o2 a2;rw[b1] at q1;cases q1;cases hd:o2.dict with
  |some dx0=>
   rw[b5 dx0 hd] at q2;obtain rfl:=Option.some.inj q2;exact T.fresh o2 _ a2 hd
  |none=>
   rw[b6 hd] at q2;cases q2;cases q3:s1.get? s.heap.objs.size with
   |none=>rfl
   |some o=>
    have hne:s.heap.objs.size≠e:=fun z=>by
     have:=Heap.lt_size a2;rw[←z] at this;exact absurd this (Nat.lt_irrefl _)
    have:=Heap.lt_size (T.keep _ _ hne q3);exact absurd this (Nat.lt_irrefl _)
theorem qtiz{L:Addr}(S:ExcSet K C B names)(hk:env.scope.kind=.function)(hloc:env.locals=L)(hLe:L≠e)(hself:env.kindOf "self" = some .local)(hds:(("self":Str)==("__debug__":Str))=false)(hms:m "self" = some (.ref e))(hns:s1.Ns L m)(kin:∀h:Heap,(∀b o,b≠e->s1.get? b=some o->h.get? b=some o)->K.In h):
  ∀(nvs:List (Str×Value)) (body:List Stmt),Paired (fun (p:Str×Value) st=>IsStore p.1 st/\(p.1==("__debug__":Str))=false) nvs body->(∀p∈nvs,env.kindOf p.1=some .local/\m p.1=some p.2/\p.1∈names) ->
   ∀(mA:Str->Option Value) (ns:List Str) (s:Shared) (Q:Flow->Shared->Prop),InitSt s1 e C mA s.heap->Within mA ns->ns.length+nvs.length≤1000 ->
   (∀h' tk',InitSt s1 e C (nvs.foldl putN mA) h'->Q .next { s with heap:=h',toks:=tk' })->wpAny (model prog w) A (execs body env) Q E s:=by
 intro nvs
 induction nvs with
 |nil=>
  intro body hp _ mA ns s Q T _ _ hq;cases hp;exact wpAny_execs_nil (hq s.heap s.toks T)
 |cons p nvs ih=>
  intro body hpr hp mA ns s Q T hw hz hq;cases hpr with
  |@cons _ st0 _ bd hst r=>
   obtain⟨⟨p1,p2,p3,p4,rfl⟩,hdb⟩:=hst;obtain⟨k1,k2,k3⟩:=hp p List.mem_cons_self;have hnsH:s.heap.Ns env.locals m:=by
    obtain⟨o,es,ep,ho,rr⟩:=hns;rw[hloc];exact⟨o,es,ep,T.keep _ _ hLe ho,rr⟩
   have e1:wpAny (model prog w) A (eval (.Name p.1 p3) env) (fun v s₁=>wpAny (model prog w) A (eval (.Name "self" p1) env) (fun ov s₂=>wpAny (model prog w) A (setAttr ov p.1 v) (fun _ s3=>wpAny (model prog w) A (execs bd env) Q E s3) E s₂) E s₁) E s:=by
    refine wpAny_Name (wpAny_loadName_local hk k1 hnsH k2 ?_) hdb;refine wpAny_Name (wpAny_loadName_local hk hself hnsH hms ?_) hds;refine T.store S k3 (kin _ T.keep) hw (by rw[List.length_cons] at hz;omega) fun h' tk' T'=>?_;exact ih _ r (fun q hq'=>hp q (List.mem_cons_of_mem _ hq')) (putN mA p) (p.1::ns) { s with heap:=h',toks:=tk' } Q T' (Within.cons p.1 p.2 hw) (by rw[List.length_cons] at hz ⊢;omega) fun h'' tk'' T''=>hq h'' tk'' T''
   exact wpAny_execs_cons (plainObj_wpAny_Assign_Attribute e1 rfl)
end
end L2
namespace L2
open PySem PySem.Spec PyProof.Rows
open Sem (wp)
structure OwnInit(K:PySem.W.Frag)(C B f:Addr)(fd:FuncData)(qual:Str)(st:Stmt)(names:List Str):Prop where
 ex:ExcCls K C B (some (.ref f))
 set:ExcSet K C B names
 fn:Fun K "__init__" qual st f fd
 sc:FnScope ("self" :: names) ("self" :: names) (defScope st)
 body:Paired (fun n st=>IsStore n st/\(n==("__debug__":Str))=false) names (defBody st)
 loc:∀n∈(("self":Str)::names),(defScope st).names.lookup n=some .local
 bi:Binds K fd ("self" :: names) []
 kp:PySem.W.keepIn K (.ref C)=true
 few:names.length≤10
 ty:∃o,K.lookup f=some o/\o.cls=.type "function"
structure MadeD(h h':Heap)(e d C:Addr)(mA:Str->Option Value):Prop where
 keep:∀b o,h.get? b=some o->h'.get? b=some o
 newE:h.get? e=none
 newD:h.get? d=none
 ne:d≠e
 obj:∃oe t,h'.get? e=some oe/\oe.cls=.ref C/\oe.dict=some d/\oe.data=.fields #[.ref t,.none,.none,.none,.bool false,.none]
 ns:h'.Ns1 d mA
theorem qi9z{α β γ:Type}{R:α->β->Prop}:∀{as:List α} {bs:List β} {cs:List γ},Paired R as bs->as.length=cs.length->Paired (fun (p:α×γ) b=>R p.1 b) (as.zip cs) bs
 |_,_,[],.nil,_=>.nil
 |_,_,c::cs,.cons h r,e=>.cons h (qi9z r (by simpa using e))
theorem qtjz{P:Program}{w:World}{K:PySem.W.Frag}{C B f:Addr}{fd:FuncData}{qual:Str}{st:Stmt}{names:List Str}{A:Around}{E:Value->Shared->Prop}{s:Shared}{us:List Value}{Q:Value->Shared->Prop}
  (O:OwnInit K C B f fd qual st names) (X:K.In s.heap) (lim:s.heap.NoLimit) (hl:us.length=names.length) (hne:names≠[]) (hdp:A.depth+4<recursionLimit)
  (hq:∀e d h' tk,MadeD s.heap h' e d C ((names.zip us).foldl putN fun _=>none)->Q (.ref e) { s with heap:=h',toks:=tk }):wpAny (model P w) A (call (.ref C) us) Q E s:=by
 obtain⟨nm,qn,N,bs,sn,sub,ab,col,dd,k0,k1,k2,k3,k5,mN,hC,hn,hni,T⟩:=O.ex.own X;obtain⟨oc,od,kV,doc,pm,an,cdv,ct,osl,rfl,lk,hcd⟩:=O.fn.ex;obtain⟨h,g,dr,t,os⟩:=s;have hf:=X _ _ lk;have hsz:us.length≤sizeLine:=by rw[hl];exact Nat.le_trans O.few (by decide)
 have keepE:∀b o,h.get? b=some o->(excHeap h C us).get? b=some o:=fun b o q=>Heap.get?_push_of_some _ (Heap.get?_push_of_some _ q);have XE:K.In (excHeap h C us):=X.keeps keepE;have limE:(excHeap h C us).NoLimit:=lim.keeps keepE;have hsE:(excHeap h C us).objs.size=h.objs.size+2:=by
  unfold excHeap;rw[Heap.size_push,Heap.size_push]
 have heE:(excHeap h C us).get? (h.objs.size+1)=some { cls:=.ref C,data:=.fields #[.ref h.objs.size,.none,.none,.none,.bool false,.none]}:=by
  unfold excHeap
  heap_get
 refine qswz (f:=f) PySem.F.excBase_ValueError T hC hn hni hf (by obtain⟨o,e,c⟩:=O.ty;rw[lk] at e;cases e;exact c) ?_ hsz;have hb:=O.bi ⟨excHeap h C us,g,dr,t,os⟩ (.ref (h.objs.size+1)::us) XE (by simp[hl]);rw[List.append_nil] at hb;have hkind:∀y∈(("self":Str)::names).zip (.ref (h.objs.size+1)::us),(defScope st).names.lookup y.1=some .local∨((defScope st).names.lookup y.1=some .cell/\((cellsFrom ((excHeap h C us).objs.size+1) (defScope st).names []).lookup y.1).isSome=true):=fun⟨n,v⟩ hy=>
  .inl (O.loc n (List.of_mem_zip hy).1)
 refine codeAny_call_function (by rw[qmrz];omega) (XE _ _ lk) rfl O.sc.co O.sc.gen rfl (PySem.W.codeRec_of XE hcd) (hb _ _ _ _ ?_);refine wpAny_newFunctionEnv_cells O.sc.kind hkind fun env he s1 x=>?_;subst he;refine⟨limE.keeps x.toInCall.keep,codeAny_func ?_⟩;have ndP:(("self":Str)::names).Nodup:=O.sc.nd;have hne1:(excHeap h C us).objs.size≠h.objs.size+1:=by rw[hsE];omega
 have e1:=x.toInCall.keep _ _ heE;have hloc:∀n∈(("self":Str)::names),(envOfC qual (defScope st) (excHeap h C us).objs.size f cdv).kindOf n=some .local:=fun n hn=>O.loc n hn;have inst0:s1.heap.Inst (h.objs.size+1) C (fun _=>none):=⟨_,e1,rfl,fun c=>nofun,.inl ⟨rfl,fun _=>rfl⟩⟩;have T0:InitSt s1.heap (h.objs.size+1) C (fun _=>none) s1.heap:=⟨fun _ _ _ q=>q,inst0,⟨_,_,e1,e1,rfl,rfl⟩,fun o dx q1 q2=>by
  rw[e1] at q1;cases q1;cases q2⟩
 have hNK:∀b o,K.lookup b=some o->b≠h.objs.size+1:=fun b o q z=>by
  have:=Heap.lt_size (X _ _ q);rw[z] at this;exact absurd this (by show ¬_<h.objs.size;omega)
 obtain⟨tk,hs1⟩:∃tk,s1=⟨s1.heap,g,dr,tk,os⟩:=by
  obtain⟨h1,tk,q,_⟩:=x.done;exact⟨tk,by rw[q]⟩
 refine qtiz (L:=(excHeap h C us).objs.size) (s1:=s1.heap) (e:=h.objs.size+1) (m:=_) O.set O.sc.kind rfl hne1 (hloc "self" List.mem_cons_self) (by decide) ?_ x.toInCall.ns (fun h2 k b o q=>k b o (hNK b o q) (x.toInCall.keep _ _ (XE _ _ q))) (names.zip us) (defBody st) (qi9z O.body hl.symm) (fun p hp=>?_) (fun _=>none) [] s1 _ T0 Within.nil ?_ fun h' tk' T'=>?_
 ·exact qdqz (i:=0) ndP rfl rfl (hloc "self" List.mem_cons_self)
 ·obtain⟨i,hi,ei⟩:=List.getElem_of_mem hp;have hpm:=List.of_mem_zip hp;refine⟨hloc p.1 (List.mem_cons_of_mem _ hpm.1),?_,hpm.1⟩;have hi2:i<names.length:=by rw[List.length_zip] at hi;omega
  have hi3:i<us.length:=by omega
  have ep:p=(names[i],us[i]):=by rw[←ei,List.getElem_zip]
  refine qdqz (i:=i+1) ndP ?_ ?_ (hloc p.1 (List.mem_cons_of_mem _ hpm.1))
  ·rw[List.getElem?_cons_succ,ep,List.getElem?_eq_getElem hi2]
  ·rw[List.getElem?_cons_succ,ep,List.getElem?_eq_getElem hi3]
 ·rw[List.length_nil,List.length_zip];have:=O.few;omega
 ·refine⟨rfl,?_⟩;obtain⟨o1,o2,a1,a2,a3,a4⟩:=T'.obj;rw[e1] at a1;cases a1;obtain⟨oe,b1,b2,b3,b4⟩:=T'.inst;rw[a2] at b1;cases b1;rw[hs1];rcases b4 with⟨_,z⟩|⟨d,c1,c2,c3⟩
  ·exfalso;cases names with
   |nil=>exact hne rfl
   |cons n0 ns0=>
    have key:∀(l:List (Str×Value)) (m0:Str->Option Value) (y:Str),(∃v,m0 y=some v)->∃v,l.foldl putN m0 y=some v:=fun l=>by
     induction l with
     |nil=>exact fun m0 y q=>q
     |cons p l ih=>
      intro m0 y q;refine ih (putN m0 p) y ?_;unfold putN;by_cases z:y=p.1
      ·exact⟨_,if_pos z⟩
      ·rw[if_neg z];exact q
    cases us with
    |nil=>cases hl
    |cons u0 us0=>
     obtain⟨v,hv⟩:=key (ns0.zip us0) (putN (fun _=>none) (n0,u0)) n0 ⟨u0,if_pos rfl⟩;have z0:=z n0;have z1:(ns0.zip us0).foldl putN (putN (fun _=>none) (n0,u0)) n0=none:=z0;rw[hv] at z1;cases z1
  ·have fr:=T'.fresh o2 d a2 c1;refine hq (h.objs.size+1) d h' tk' ⟨fun b o q=>T'.keep b o (fun z=>?_) (x.toInCall.keep _ _ (keepE b o q)),Heap.get?_none_of_le (Nat.le_succ _),?_,c2,⟨o2,h.objs.size,a2,b2,c1,a4⟩,c3⟩
   ·have:=Heap.lt_size q;rw[z] at this;exact absurd (show h.objs.size+1<h.objs.size from this) (by omega)
   ·cases q:h.get? d with
    |none=>rfl
    |some o=>
     rw[x.toInCall.keep _ _ (keepE d o q)] at fr;cases fr
end L2
namespace L2
open PySem PySem.Spec PyProof.Rows PySem.W
open Builtin Builtin.ObjectAttr
structure GetExc(K:Frag)(C:Addr):Prop where
 ga:findIn K (.ref C) "__getattribute__" = some (some (.builtin "BaseException.__getattribute__"))
 gn:findIn K (.ref C) "__getattr__" = some none
 be:mroIn K C (.type "BaseException")=some true
section
variable {prog:Program} {w:World} {A:Around} {E:Value->Shared->Prop} {K:Frag} {x C:Addr} {ox:Obj} {od:Option Obj} {name:Str} {s:Shared}
theorem qtkz:builtinKind "BaseException.__getattribute__" = some .slot:=by decide +kernel
theorem qtlz:splitId "BaseException.__getattribute__" = some ("BaseException","__getattribute__"):=by decide +kernel
theorem qtmz:plainId "BaseException.__getattribute__" = true:=by decide +kernel
theorem qtnz(self:Value):bindSpecial (.builtin "BaseException.__getattribute__") self=pure (.builtin "BaseException.__getattribute__",[self]):=by kernel_rfl
theorem qjaz{tk:Tok}{fill expr:Bool}{f:Builtin.ObjectAttr.Found}{Q:Value->Shared->Prop}(a:GetExc K C)(X:K.In s.heap)(I:InstAt s.heap x ox C od)(hf:findObj K C od name=some f)
  (h:wpAny (model prog w) A.in1 (match f with | .value v=>ret v | .bind g b=>bindTo g b (.ref x) (.ref C) | .missing=>unsupported "") (fun fin s'=>match fin with | .done (.ret v)=>wpAny (model prog w) A (handedOut v) Q E s' | _=>False) (fun _ _=>False) s) (hm:f≠.missing):
  wpAny (model prog w) A (getAttrBy (.ref x) (.str name tk) fill expr) Q E s:=by
 obtain⟨hh,g,d,t,os⟩:=s;have L0:=I.type (M:=model prog w);have L1:=looks_findIn (M:=model prog w) X a.ga;have L2:=looks_findIn (M:=model prog w) X a.gn;have L3:=looks_find (M:=model prog w) X I hf;have sub:Looks (model prog w) hh (isInstance (.ref x) (.type "BaseException")) true:=I.type.andThen (looks_mroIn X a.be);unfold getAttrBy;refine wpAny_holding (wpAny_bind (L0.at (wpAny_bind (L1.at ?_))));have hx2:(Value.builtin "BaseException.__getattribute__" == Value.builtin "object.__getattribute__")=false:=by decide +kernel
 show wpAny _ _ (if (onTheHeap (Value.ref C)&&Value.builtin "BaseException.__getattribute__" == Value.builtin "object.__getattribute__")=true then _ else getAttrByItsOwn _ _ _ _ _ _) _ _ _;rw[hx2,if_neg (by simp)];unfold getAttrByItsOwn;refine wpAny_bind ?_;show wpAny _ _ (typeLookup (.ref C) "__getattr__") _ _ _;refine L2.at ?_;refine wpAny_bind (wpAny_attempt (wpAny_holding ?_));have hx0:(expr&&onTheHeap (Value.builtin "BaseException.__getattribute__"))=false:=by cases expr<;>rfl
 show wpAny _ _ (if (expr&&onTheHeap (Value.builtin "BaseException.__getattribute__"))=true then _ else boundAndCalled _ _ _) _ _ _;rw[hx0,if_neg (by simp)];unfold boundAndCalled;rw[qtnz];refine wpAny_bind (wpAny_pure (wpAny_call ?_));refine codeAny_call_builtin qtmz F.entry_bexc_ga (@check_slot (model prog w) _ _ ⟨hh,g,d,t,os⟩ "BaseException.__getattribute__" "BaseException" "__getattribute__" (.ref x) [.str name tk] [] _ qtkz qtlz sub (F.args_bexc_ga (.ref x) (.str name tk)) ?_);unfold Builtin.«object.__getattribute__»;refine wpAny_bind (wpAny_pure (wpAny_bind (wpAny_pure (wpAny_bind (L0.at (wpAny_bind (L3.at ?_)))))));cases f with
 |missing=>exact absurd rfl hm
 |value v=>
  refine wpAny_mono h (fun fin s' z=>?_) fun _ _ z=>z.elim;rcases fin with (_|_|_|_)|_<;>first|exact z|exact z.elim
 |bind g b=>
  refine wpAny_mono h (fun fin s' z=>?_) fun _ _ z=>z.elim;rcases fin with (_|_|_|_)|_<;>first|exact z|exact z.elim
theorem qtoz{expr:Bool}{v:Value}{Q:Value->Shared->Prop}(a:GetExc K C)(X:K.In s.heap)(I:InstAt s.heap x ox C od)(hf:findObj K C od name=some (.value v))(hh:handedIn v=true)(h:Q v { s with toks:=s.toks+1 }):
  wpAny (model prog w) A (getAttr (.ref x) name expr) Q E s:=by
 unfold getAttr;refine wpAny_bind (wpAny_mkText (qjaz (s:={ s with toks:=s.toks+1 }) a X I hf (wpAny_pure ?_) (by simp)));show wpAny _ _ (handedOut v) _ _ _;rw[handedOut_of hh];exact wpAny_pure h
theorem qtpz{Q:Option Value->Shared->Prop}(a:GetExc K C)(hc:(clsIn K C).isSome=true)(ha:findIn K (.ref C) "__class__" = some (some (.builtin "object.__class__")))(hn:specialIn K (.builtin "object.__class__") "__get__" = some (some (.builtin "getset_descriptor.__get__")))
  (htk:takesIn K (.builtin "object.__class__")=some true) (hm:mroIn K C (.type "object")=some true) (X:K.In s.heap) (I:InstAt s.heap x ox C od) (h:Q (some (.ref C)) { s with toks:=s.toks+1 }):wpAny (model prog w) A (getAttr? (.ref x) "__class__") Q E s:=by
 have hf:findObj K C od "__class__" = some (.bind (.builtin "getset_descriptor.__get__") (.builtin "object.__class__")):=by
  obtain⟨cd,hcd⟩:=Option.isSome_iff_exists.mp hc;unfold findObj;rw[hcd,Option.bind_some,ha,Option.bind_some];simp[hn,htk]
 unfold getAttr? getAttrBy?;refine wpAny_bind (wpAny_mkText (wpAny_bind (wpAny_attempt ?_)));refine qjaz (s:={ s with toks:=s.toks+1 }) a X I hf ?_ (by simp);show wpAny _ _ (holding [_] (call (.builtin "getset_descriptor.__get__") [.builtin "object.__class__",.ref x,.ref C]) >>= ret) _ _ _;refine wpAny_bind (wpAny_holding (wpAny_call (class_get (s:={ s with toks:=s.toks+1 }) (ox:=ox) (od:=od) X I hm ?_)));exact wpAny_pure (handed_on rfl (wpAny_pure h))
theorem qtqz(a:GetExc K C)(hc:(clsIn K C).isSome=true)(ha:findIn K (.ref C) "__class__" = some (some (.builtin "object.__class__")))(hn:specialIn K (.builtin "object.__class__") "__get__" = some (some (.builtin "getset_descriptor.__get__")))
  (htk:takesIn K (.builtin "object.__class__")=some true) (hm:mroIn K C (.type "object")=some true):KitX K (.ref x) (.ref C) (fun h=>InstAt h x ox C od):=by
 obtain⟨cd,hcd⟩:=Option.isSome_iff_exists.mp hc;obtain⟨o,ho,hcl⟩:∃o,K.lookup C=some o/\∃c,o.data=.cls c:=by
  unfold clsIn at hcd;split at hcd
  ·rename_i q;exact⟨_,q,_,rfl⟩
  ·cases hcd
 obtain⟨oc,odd,oda,osl⟩:=o;obtain⟨c,e⟩:=hcl;dsimp only at e;subst e;refine⟨fun _ _ _ I=>I.type,fun _ _ X _=>?_,fun h tp dd its n sl X htp=>?_,fun X I k=>qtpz a hc ha hn htk hm X I k⟩
 ·intro A' Q' E' s' k q;unfold isType loadHead;exact wpAny_bind (wpAny_loadPart (k _ _ (X _ _ ho)) (wpAny_pure q))
 ·refine Bool.eq_false_iff.mpr fun q=>?_;have e:C=tp:=Value.ref.inj (beq_iff_eq.mp q);subst e;have z:=(X _ _ ho).symm.trans htp;cases z
end
end L2
namespace L3
open PySem PySem.Spec PyProof.Rows L2
structure ExcAsk(K:PySem.W.Frag)(C:Addr):Prop where
 ge:GetExc K C
 hd:(PySem.W.clsIn K C).isSome=true
 ha:PySem.W.findIn K (.ref C) "__class__" = some (some (.builtin "object.__class__"))
 hn:PySem.W.specialIn K (.builtin "object.__class__") "__get__" = some (some (.builtin "getset_descriptor.__get__"))
 ht:PySem.W.takesIn K (.builtin "object.__class__")=some true
 hm:PySem.W.mroIn K C (.type "object")=some true
theorem qtrz{P:Program}{w:World}{K:PySem.W.Frag}{H:Hp}{h:Heap}{p:Addr}{x:Str}{fs:List (Str×Int)}(ok:HOk P w H h)(e:excR x fs K p H):∃C oe od,ClsN K x C/\PySem.W.InstAt h p oe C od:=by
 obtain⟨C,dx,cn,e1,dd⟩:=e;obtain⟨⟨oe,vs,q1,q2,q3,q4,_⟩,_⟩:=(show ObjOk P w H h p (.ext (excφ p C dx)) from ok p _ e1);have hn:PySem.W.notCls oe=true:=by
  unfold PySem.W.notCls;rw[q4]
 rcases dd with⟨rfl,_⟩|⟨d,o,rfl,e2⟩
 ·exact⟨C,oe,none,cn,q1,q2,hn,by rw[q3];trivial⟩
 ·obtain⟨r1,_⟩:=(show ObjOk P w H h d (.frz o (.xd _)) from ok d _ e2);exact⟨C,oe,some o,cn,q1,q2,hn,by rw[q3];exact r1⟩
theorem qtsz{P:Program}{w:World}{K:PySem.W.Frag}{H:Hp}{h:Heap}{p:Addr}{x:Str}{fs:List (Str×Int)}(ok:HOk P w H h)(e:excR x fs K p H)(hne:fs≠[]):
  ∃C oe od mA d,ClsN K x C/\PySem.W.InstAt h p oe C (some od)/\h.get? d=some od/\h.Ns1 d mA/\∀f,RelO ((fs.map fun p=>(p.1,V.int p.2)).lookup f) (mA f):=by
 obtain⟨C,dx,cn,e1,dd⟩:=e;obtain⟨⟨oe,vs,q1,q2,q3,q4,_⟩,_⟩:=(show ObjOk P w H h p (.ext (excφ p C dx)) from ok p _ e1);rcases dd with⟨_,z⟩|⟨d,o,rfl,e2⟩
 ·exact absurd z hne
 ·obtain⟨r1,mA,r2,r3⟩:=(show ObjOk P w H h d (.frz o (.xd _)) from ok d _ e2);refine⟨C,oe,o,mA,d,cn,⟨q1,q2,?_,by rw[q3];exact r1⟩,r1,r2,r3⟩;unfold PySem.W.notCls;rw[q4]
section
variable {X:Cx} {a:Expr} {ta:TE3} {pos p p2:Pos}
def eIsX(rs:List Str)(y:Str)(ta:TE3):TE3:=fun τ G Q=>ta τ G fun x G1=>match x with
 |.obj p=>∃z fs,G1 p=some (.gen (excR z fs))/\z∈rs/\Q (.bl (z==y)) G1
 |_=>False
theorem qjbz{c:Value}{cv:V}(hc:RelV cv c)(hu:∀c',RelV cv c'->c'=c):CallR X (.builtin "isinstance") (fun vs H Q=>∃q z fs b,vs=[.ref q,cv]/\excR z fs X.K q H/\(∀C,ClsN X.K z C->ExcAsk X.K C/\PySem.W.kitOne X.K (.ref C) c=some b)/\Q (.bl b) H):=by
 intro pins s σ H vs us Q I r h;obtain⟨q,z,fs,b,rfl,hx,hk,qq⟩:=h;obtain⟨u,c',rfl,ru,rc⟩:=vals2 r;cases (show u=Value.ref q from ru);cases hu c' rc;obtain⟨C,oe,od,cn,J⟩:=qtrz I.hok hx;obtain⟨K1,K2⟩:=hk C cn;exact PySem.W.kia_one (qtqz K1.ge K1.hd K1.ha K1.hn K1.ht K1.hm) I.kIn J K2 (fun z=>nomatch z) fun tk=>⟨.bl b,H,I.tok tk,rfl,qq⟩
theorem qttz{rs:List Str}{y:Str}{c:Value}{cv:V}(hk:∀z∈rs,∀C,ClsN X.K z C->ExcAsk X.K C/\PySem.W.kitOne X.K (.ref C) c=some (z==y)){σ:L2.St}{H:Hp}{Q:VK}(h:low X.K (eIsX rs y ta) σ H Q):
  tCB (fun vs H Q=>∃q z fs b,vs=[.ref q,cv]/\excR z fs X.K q H/\(∀C,ClsN X.K z C->ExcAsk X.K C/\PySem.W.kitOne X.K (.ref C) c=some b)/\Q (.bl b) H) (tCons (low X.K ta) (tCons (tC cv) tNil)) σ H Q:=by
 obtain⟨τ,G,Q3,RS,RG,h,k⟩:=h;refine⟨τ,G,_,RS,RG,h,fun v H1 d G1 h1 S1 R1 q1=>?_⟩;cases d with
 |obj q=>
  obtain⟨z,fs,e1,hz,q2⟩:=q1;rw[qsz h1];exact⟨q,z,fs,_,rfl,(R1 q _ e1).1,fun C cn=>hk z hz C cn,k _ H1 (.bl (z==y)) G1 q6z S1 R1 q2⟩
 |_=>exact q1.elim
theorem qtuz{rs:List Str}{y:Str}{C:Addr}(hk:∀z∈rs,∀D,ClsN X.K z D->ExcAsk X.K D/\PySem.W.kitOne X.K (.ref D) (.ref C)=some (z==y))(ha:PE3 X a ta)(hm:X.mg "isinstance" = none)(hmy:X.mg y=some (.ref C))(hgy:Gl X y:=by rfl)(hdy:(y==("__debug__":Str))=false:=by decide)(hg:Gl X "isinstance":=by rfl)(he:notStar a=true:=by rfl):
  PE3 X (.Call (.Name "isinstance" p) [a,.Name y p2] [] pos) (eIsX rs y ta):=
 qpz (qbyz (qjbz (c:=.ref C) (cv:=.ref C) rfl fun c' r=>r) hg hm rfl (qbkz ha (qbkz (qgsz (v:=.ref C) hgy hmy rfl hdy) qdpz (qlz rfl)) (qlz he)) (he:=qlz he) (hpl:=qzz rfl)) fun σ H Q h=>qttz hk h
def eIsV(rs:List Str)(ta:TE3):TE3:=fun τ G Q=>ta τ G fun x G1=>match x with
 |.obj p=>∃z fs,G1 p=some (.gen (excR z fs))/\z∈rs/\Q (.bl true) G1
 |_=>False
theorem qtvz{rs:List Str}(hk:∀z∈rs,∀D,ClsN X.K z D->ExcAsk X.K D/\PySem.W.kitOne X.K (.ref D) (.type "ValueError")=some true)(ha:PE3 X a ta)(hm:X.mg "isinstance" = none)(hmy:X.mg "ValueError" = none)(hgy:Gl X "ValueError":=by rfl)(hg:Gl X "isinstance":=by rfl)(he:notStar a=true:=by rfl):
  PE3 X (.Call (.Name "isinstance" p) [a,.Name "ValueError" p2] [] pos) (eIsV rs ta):=
 qpz (qbyz (qjbz (c:=.type "ValueError") (cv:=.ty "ValueError") rfl fun c' r=>r) hg hm rfl (qbkz ha (qbkz (qgtz (v:=.ty "ValueError") hgy hmy rfl rfl (by decide) (by decide)) qdpz (qlz rfl)) (qlz he)) (he:=qlz he) (hpl:=qzz rfl)) fun σ H Q h=>by
  obtain⟨τ,G,Q3,RS,RG,h,k⟩:=h;refine⟨τ,G,_,RS,RG,h,fun v H1 d G1 h1 S1 R1 q1=>?_⟩;cases d with
  |obj q=>
   obtain⟨z,fs,e1,hz,q2⟩:=q1;rw[qsz h1];exact⟨q,z,fs,_,rfl,(R1 q _ e1).1,fun C cn=>hk z hz C cn,k _ H1 (.bl true) G1 q6z S1 R1 q2⟩
  |_=>exact q1.elim
end
end L3
namespace L3
open PySem PySem.Spec PyProof.Rows L2
theorem qfnz:∀{bs:List Bool} {its:List Value},Vals (bs.map V.bl) its->its=bs.map Value.bool
 |[],_,h=>h.zero
 |b::bs,_,h=>by
  cases h with
  |cons r1 r2=>rw[qfnz r2,show _=Value.bool b from r1];rfl
def rCountB:V->List V->Hp->VK->Prop:=fun x vs H Q=>∃(l:Addr) (bs:List Bool),x=.ref l/\vs=[.bl true]/\H l=some (.lst (bs.map V.bl))/\Q (.int ((bs.countP id:Nat):Int)) H
def rIndexB:V->List V->Hp->VK->Prop:=fun x vs H Q=>∃(l:Addr) (bs:List Bool) (j:Nat),x=.ref l/\vs=[.bl true]/\H l=some (.lst (bs.map V.bl))/\bs[j]?=some true/\(∀i,i<j->bs[i]?=some false)/\j<1000/\Q (.int ((j:Nat):Int)) H
def isT:Value->Bool
 |.bool b=>b
 |_=>false
section
variable {X:Cx}
theorem qtwz:MtR X "list.count" rCountB:=by
 intro pins s σ H x vs v us Q I rx rv h;obtain⟨l,bs,rfl,rfl,hH,q⟩:=h;cases rx;obtain⟨u,rfl,ru⟩:=rv.one;cases (show u=Value.bool true from ru);obtain⟨z,its,n,r,hl,e⟩:=I.lstM hH;rw[qfnz r] at e;refine call_meets F.slot_list_count ⟨_,e,rfl⟩ F.entry_list_count (F.args_list_count_2 _ _) (SeqAt.list_countAt l (bs.map Value.bool).toArray n none #[] (.bool true) isT) ⟨e,fun y hy=>?_,?_⟩
 ·obtain⟨b,_,rfl⟩:=List.mem_map.mp (Array.mem_toList_iff.mpr hy);have:=SeqAt.EqAt.bool_bool (A:=X.A.in1) (s:=s) b true;cases b<;>exact this
 ·refine⟨.int ((bs.countP id:Nat):Int),H,I.tok _,⟨s.toks,?_⟩,q⟩;have e2:((bs.map Value.bool).toArray.toList).countP isT=bs.countP id:=by
   show (bs.map Value.bool).countP isT=_;rw[List.countP_map];rfl
  rw[e2]
theorem qtxz:MtR X "list.index" rIndexB:=by
 intro pins s σ H x vs v us Q I rx rv h;obtain⟨l,bs,j,rfl,rfl,hH,h1,h2,h3,q⟩:=h;cases rx;obtain⟨u,rfl,ru⟩:=rv.one;cases (show u=Value.bool true from ru);obtain⟨z,its,n,r,hl,e⟩:=I.lstM hH;rw[qfnz r] at e;have hj:j<bs.length:=(List.getElem?_eq_some_iff.mp h1).1;refine call_meets F.slot_list_index ⟨_,e,rfl⟩ F.entry_list_index (F.args_list_index_2 _ _) (SeqAt.list_indexAt l (bs.map Value.bool).toArray n none #[] (.bool true) isT j (by simpa using hj) (by omega) ?_ fun m hm hmj=>?_) ⟨e,fun y hy=>?_,?_⟩
 ·simp only[List.getElem_toArray,List.getElem_map];rw[(List.getElem?_eq_some_iff.mp h1).2];rfl
 ·simp only[List.getElem_toArray,List.getElem_map];rw[(List.getElem?_eq_some_iff.mp (h2 m hmj)).2];rfl
 ·obtain⟨b,_,rfl⟩:=List.mem_map.mp (Array.mem_toList_iff.mpr hy);have:=SeqAt.EqAt.bool_bool (A:=X.A.in1) (s:=s) b true;cases b<;>exact this
 ·exact⟨.int ((j:Nat):Int),H,I.tok _,⟨_,rfl⟩,q⟩
end
section
variable {K:PySem.W.Frag}
def qfoz:D->List D->Gp->V3->Prop:=fun x ds G Q=>match x,ds with
 |.obj p,[.bl true]=>∃xs bs,G p=some (.lst xs)/\blsOf xs=some bs/\Q (.int ((bs.countP id:Nat):Int)) G
 |_,_=>False
def qfpz:D->List D->Gp->V3->Prop:=fun x ds G Q=>match x,ds with
 |.obj p,[.bl true]=>∃xs bs j,G p=some (.lst xs)/\blsOf xs=some bs/\bs[j]?=some true/\(∀i,i<j->bs[i]?=some false)/\j<1000/\Q (.int ((j:Nat):Int)) G
 |_,_=>False
theorem qtyz:LowM K qfoz rCountB:=fun x vx ds vs G H Q3 Q hx hs RG q k=>by
 unfold qfoz at q;split at q
 ·rename_i p;obtain⟨xs,bs,e1,e2,q⟩:=q;obtain⟨ys,e3,hv⟩:=RG p _ e1;obtain⟨v,r,rfl,hv1,hv2⟩:=hs.inv;rw[hv2.inv0,qa0z hv1,qsz hx];exact⟨p,bs,rfl,rfl,by rw[e3,qd4z hv e2],k _ H (.int _) G q5z (.refl H G) RG q⟩
 ·exact q.elim
theorem qtzz:LowM K qfpz rIndexB:=fun x vx ds vs G H Q3 Q hx hs RG q k=>by
 unfold qfpz at q;split at q
 ·rename_i p;obtain⟨xs,bs,j,e1,e2,q1,q2,q3,q⟩:=q;obtain⟨ys,e3,hv⟩:=RG p _ e1;obtain⟨v,r,rfl,hv1,hv2⟩:=hs.inv;rw[hv2.inv0,qa0z hv1,qsz hx];exact⟨p,bs,j,rfl,rfl,by rw[e3,qd4z hv e2],q1,q2,q3,k _ H (.int _) G q5z (.refl H G) RG q⟩
 ·exact q.elim
end
end L3
namespace L3
open PySem PySem.Spec PyProof.Rows L2
open Sem (wp)
def sRaise(x:Str)(names:List Str)(E:E3)(t:TA3):TS3:=fun _ τ G=>t τ G fun ds _=>∃is:List Int,ds=is.map D.int/\is.length=names.length/\E x (names.zip is)
theorem qjcz:∀(names:List Str) (is:List Int) (us:List Value) (m0:Str->Option Value) (fs0:List (Str×V)),Vals (is.map V.int) us->names.length=is.length->(names.Nodup)->(∀n∈names,fs0.lookup n=none)->(∀f,RelO (fs0.lookup f) (m0 f)) ->
  ∀f,RelO ((((names.zip is).map fun p=>(p.1,V.int p.2))++fs0).lookup f) ((names.zip us).foldl putN m0 f)
 |[],[],us,m0,fs0,hv,_,_,_,h=>by
  rw[hv.zero];exact h
 |n::ns,i::is,us,m0,fs0,hv,hl,nd,hn,h=>by
  cases hv with
  |@cons v u vs us2 r1 r2=>
   have hnd:=List.nodup_cons.mp nd;intro f;have key:=qjcz ns is us2 (putN m0 (n,u)) (fs0++[(n,V.int i)]) r2 (by simpa using hl) hnd.2 (fun y hy=>by
    rw[List.lookup_append,hn y (List.mem_cons_of_mem _ hy),List.lookup_cons,List.lookup_nil];have:(y==n)=false:=by
     rw[beq_eq_false_iff_ne];intro z;exact hnd.1 (z▸hy)
    rw[this];rfl) (fun y=>by
    unfold putN;by_cases z:y=n
    ·subst z;rw[if_pos rfl,List.lookup_append,hn y List.mem_cons_self,List.lookup_cons,beq_self_eq_true];exact r1
    ·rw[if_neg z,List.lookup_append,List.lookup_cons,List.lookup_nil,beq_eq_false_iff_ne.mpr z];have:=h y;cases q:fs0.lookup y with
     |none=>rw[q] at this;exact this
     | some w=>rw[q] at this;exact this) f
   show RelO ((((n,V.int i)::(ns.zip is).map fun p=>(p.1,V.int p.2))++fs0).lookup f) ((ns.zip us2).foldl putN (putN m0 (n,u)) f);have e:((((n,V.int i)::(ns.zip is).map fun p=>(p.1,V.int p.2))++fs0).lookup f)=((((ns.zip is).map fun p=>(p.1,V.int p.2))++(fs0++[(n,V.int i)])).lookup f):=by
    rw[List.cons_append,List.lookup_cons,List.lookup_append,List.lookup_append,List.lookup_append,List.lookup_cons,List.lookup_nil];by_cases z:f=n
    ·subst z;have hz:((ns.zip is).map fun p=>(p.1,V.int p.2)).lookup f=none:=by
      rw[List.lookup_eq_none_iff];intro p hp;obtain⟨q,hq,rfl⟩:=List.mem_map.mp hp;rw[bne_iff_ne];intro z;exact hnd.1 (z▸(List.of_mem_zip hq).1)
     rw[beq_self_eq_true,hz,hn f List.mem_cons_self];rfl
    ·rw[beq_eq_false_iff_ne.mpr z];cases ((ns.zip is).map fun p=>(p.1,V.int p.2)).lookup f<;>cases fs0.lookup f<;>rfl
   rw[e];exact key
theorem qjdz{K:PySem.W.Frag}{H:Hp}:∀{is:List Int} {vs:List V},Hvs K H (is.map D.int) vs->vs=is.map V.int
 |[],_,h=>h.inv0
 |i::is,_,h=>by
  obtain⟨v,r,rfl,h1,h2⟩:=h.inv;rw[qjdz h2,qrz h1];rfl
theorem qfqz{K:PySem.W.Frag}{C:Addr}{bm:List Value}{init:Option Value}{newId:String}(q:excIn K C bm init newId=true):∃nm qn N bs sn sub ab col dd k0 k1 k2 k3 k5,K.lookup C=some (excClassObj nm qn C N bs bm true sn sub ab col dd k0 k1 k2 k3 k5 newId):=by
 unfold excIn at q;split at q
 ·rename_i dd cd sl ho;split at q
  ·rename_i C' bm' k0 k1 k2 k3 n k5 hm hs;simp only[Bool.and_eq_true,beq_iff_eq,Bool.not_eq_true'] at q;obtain⟨⟨⟨⟨⟨rfl,rfl⟩,hdel⟩,hdct⟩,rfl⟩,hns⟩:=q;obtain⟨nm,bs,mro,ns,qn,hd,sn,sub,ab,col,del⟩:=cd;dsimp only at hm hdel hdct hns;subst hm hdel hdct;have hsl:sl = #[k0,k1,k2,k3,some (.builtin n),k5]:=by
    obtain⟨l⟩:=sl;simp only at hs;rw[hs]
   subst hsl;exact⟨nm,qn,ns,bs,sn,sub,ab,col,dd,k0,k1,k2,k3,k5,ho⟩
  ·cases q
 ·cases q
theorem qt0z{prog:Program}{w:World}{A:Around}{E:Value->Shared->Prop}{s:Shared}{env:Env}{nm q:Str}{C N:Addr}{bs bm:List Value}{hdct:Bool}{sn:List Str}{sub:List Value}{ab:Bool}{col:Option Bool}{dd:Option Addr}{k0 k1 k2 k3 k5:Option Value}{newId:String}
  {x:Sem Value} {Q:Flow->Shared->Prop} (hbase:bm.contains (.type "BaseException")=true) (hh:A.handled=none)
  (h:wpAny (model prog w) A x (fun v s₁=>∃e oe t,v=.ref e/\s₁.heap.get? C=some (excClassObj nm q C N bs bm hdct sn sub ab col dd k0 k1 k2 k3 k5 newId)/\s₁.heap.get? e=some oe/\oe.cls=.ref C/\oe.data=.fields #[.ref t,.none,.none,.none,.bool false,.none]/\E (.ref e) s₁) E s):
  wpAny (model prog w) A (raiseStmt env (some x) none) Q E s:=by
 have hcB:(Value.ref C::bm).contains (.type "BaseException")=true:=by rw[List.contains_cons,hbase,Bool.or_true]
 unfold raiseStmt;refine wpAny_bind (wpAny_mono h (fun v s₁ h₁=>?_) fun _ _ x=>x);obtain⟨e,oe,t,rfl,hC,he,h1,h2,hE⟩:=h₁;obtain⟨hp,g,d,tk,os⟩:=s₁;obtain⟨oc,od,oda,osl⟩:=oe;dsimp only at h1 h2;subst h1 h2
 repeat (first|with_reducible refine wpAny_loadPart_at he ?_|with_reducible refine wpAny_loadPart_at hC ?_|(with_reducible refine wpAny_isSubtype_exc hC ?_;rw[hcB])|wp_step)
 exact wpAny_raiseNew_none hh hE
theorem qt1z{X:Cx}{E:XK}{E':E3}{x:Str}{C B f:Addr}{fd:FuncData}{qual:Str}{st:Stmt}{names:List Str}{k:Nat}{e:Expr}{es:List Expr}{t:TA3}{np cpos pos:Pos}(hB:Body X E)(hE:∀cls dx H',lowE X.K E' cls dx H'->E cls dx H')(O:OwnInit X.K C B f fd qual st names)(cn:ClsN X.K x C)(hm:X.mg x=some (.ref C))(hr:Room k X.A)(hc:X.calm=true)(ha:PA3 X (e::es) t)
  (hne:names≠[]:=by decide) (hg:Gl X x:=by rfl) (hdb:(x==("__debug__":Str))=false:=by decide) (he:notStar e=true:=by rfl) (hpl:es.all notStar=true:=by rfl):
  PS3 X (.Raise (some (.Call (.Name x np) (e::es) [] cpos)) none pos) (sRaise x names E' t):=by
 intro pins s σ H D2 I ⟨τ,G,D3,RS,RG,h,EL⟩;rw[arm_exec_Raise];simp only[evalOpt,Option.map];refine wpAny_bind (wpAny_standAt ?_);obtain⟨nm,qn,N,bs,sn,sub,ab,col,dd,k0,k1,k2,k3,k5,lk⟩:=qfqz O.ex.cls;refine qt0z (C:=C) (nm:=nm) (q:=qn) (N:=N) (bs:=bs) (bm:=.ref B::veTail) (hdct:=true) (sn:=sn) (sub:=sub) (ab:=ab) (col:=col) (dd:=dd) (k0:=k0) (k1:=k1) (k2:=k2) (k3:=k3) (k5:=k5) (newId:="ValueError.__new__") (by rw[List.contains_cons,show veTail.contains (.type "BaseException")=true by decide +kernel,Bool.or_true]) (I.ok.hd hc) ?_;refine wpAny_bind (thn (Q:=fun v s₁=>∃e oe t,v=.ref e/\s₁.heap.get? C=some (excClassObj nm qn C N bs (.ref B::veTail) true sn sub ab col dd k0 k1 k2 k3 k5 "ValueError.__new__")/\s₁.heap.get? e=some oe/\oe.cls=.ref C/\oe.data=.fields #[.ref t,.none,.none,.none,.bool false,.none]/\X.xe (.ref e) s₁) ?_ fun v s2 q=>wpAny_bind (wpAny_standAt (wpAny_pure q)));refine wpAny_Call_Name_kw (qakz I hg hm ?_ hdb);refine PySem.W.callWith_K (h₀:=X.base) I.ok.mod.kin O.kp (thn (ha cpos pins s σ H (fun vs H1=>∃is:List Int,vs=is.map V.int/\is.length=names.length/\E' x (names.zip is)) I
  ⟨τ,G,_,RS,RG,h,fun vs H1 ds G1 a b c q=>by obtain⟨is,rfl,hl,q⟩:=q;exact⟨is,qjdz a,hl,q⟩⟩) fun us s1 ⟨vs,H1,I1,r,is,ev,hl,q⟩=>⟨I1.kIn,?_⟩) (qlz he) (qzz hpl)
 subst ev;have hlu:us.length=names.length:=by rw[←r.length,List.length_map];exact hl
 refine qtjz O I1.kIn I1.nolimit hlu hne (by have:=hr.dp;omega) fun e1 d h' tk M=>?_;obtain⟨oe,t1,o1,o2,o3,o4⟩:=M.obj;obtain⟨od,es1,ep1,n1,nr⟩:=M.ns;have I1k:Inv X pins σ H1 { s1 with heap:=h',toks:=tk }:=I1.kept M.keep;have gone:∀{b:Addr} {o:Obj},s1.heap.get? b=some o->b≠d:=fun {b o} hb z=>by
  rw[z,M.newD] at hb;cases hb
 have I2:=I1k.track (a:=d) (o:=.frz od (.xd ((names.zip is).map fun p=>(p.1,V.int p.2)))) (qfiz I1 M.newD) (qfjz hB I1 M.newD)
  ⟨n1,(names.zip us).foldl putN (fun _=>none),⟨od,es1,ep1,n1,nr⟩,fun f=>by
   have:=qjcz names is us (fun _=>none) [] r hl.symm (List.nodup_cons.mp O.sc.nd).2 (fun _ _=>rfl) (fun _=>trivial) f;rw[List.append_nil] at this;exact this⟩
  (fun z=>by
   obtain⟨m,⟨o,_,_,ho,_⟩,_⟩:=I1.loc;exact gone ho z.symm)
  (fun y c hcc z=>by
   obtain⟨v,o,ho,_⟩:=I1.cell y c hcc;exact gone ho z)
  (fun p hp=>gone (I1.pin p hp).1)
 refine⟨e1,oe,t1,rfl,I2.kIn _ _ lk,o1,o2,o4,?_⟩;have hne1:e1≠d:=M.ne.symm;refine hB.throw I2 o1 o2 o4 rfl rfl (qfjz hB I1 M.newE) (by rw[qiz hne1];exact qfiz I1 M.newE) (hE _ _ _ ⟨x,C,names.zip is,rfl,cn,q,.inr ⟨d,od,o3,qoz⟩⟩)
def sRaise0(x:Str)(E:E3):TS3:=fun _ _ _=>E x []
theorem qt2z{X:Cx}{E:XK}{E':E3}{x:Str}{C B:Addr}{np cpos pos:Pos}(hB:Body X E)(hE:∀cls dx H',lowE X.K E' cls dx H'->E cls dx H')(O:ExcCls X.K C B none)(cn:ClsN X.K x C)(hm:X.mg x=some (.ref C))(hc:X.calm=true)(hg:Gl X x:=by rfl)(hdb:(x==("__debug__":Str))=false:=by decide):
  PS3 X (.Raise (some (.Call (.Name x np) [] [] cpos)) none pos) (sRaise0 x E'):=
 qahz (qs1z (bmB:=veTail) (newId:="ValueError.__new__") hB hc PySem.F.excBase_ValueError (fun h K1=>by
  obtain⟨nm,qn,N,bs,sn,sub,ab,col,dd,k0,k1,k2,k3,k5,mN,h1,h2,h3,h4⟩:=O.own K1;exact⟨nm,qn,N,bs,_,true,sn,sub,ab,col,dd,k0,k1,k2,k3,k5,mN,h1,h2,h3,h4⟩) hg hm hdb) fun D σ H ⟨τ,G,D3,RS,RG,h,EL⟩=>hE _ _ _ ⟨x,C,[],rfl,cn,h,.inl ⟨rfl,rfl⟩⟩
end L3
namespace L3
open PySem PySem.Spec PyProof.Rows L2
structure QEX(X:Cx)(e:Expr)(t:TEX):Prop where
 of:PEX X e t
structure QSX(X:Cx)(st:List Stmt)(t:TSX):Prop where
 of:PSX X st t
section
variable {X:Cx} {k:Nat} {f:Addr} {fd:FuncData} {ps:List Str} {sp:SpX} {sp3:Sp3} {E':E3} {x:Str} {p pos:Pos} {a b e c:Expr} {es:List Expr} {t:TA3} {te:TE3} {tx:TEX} {tax:TAX} {tc:TT3} {ta tb tr:TSX} {sa sb rest:List Stmt}
theorem qfrz(F:FnX X.prog X.w X.K X.mg X.base k f fd ps sp)(hr:Room k X.A)(hx:Passes (CXE X.prog X.w X.base) X (lowE X.K E'))(hm:X.mg x=some (.ref f))(hk:PySem.W.keepIn X.K (.ref f)=true)(hb:Binds X.K fd ps [])(ha:QA X (e::es) t)(hg:Gl X x:=by rfl)
  (hdb:(x==("__debug__":Str))=false:=by decide) (he:notStar e=true:=by rfl) (hpl:es.all notStar=true:=by rfl):QE X (.Call (.Name x p) (e::es) [] pos) (eCallX sp E' t):=⟨qs4z F hr hx hm hk hb ha.of hg hdb he hpl⟩
theorem qc3z(F:FnH3 X.prog X.w X.K X.mg X.base k f fd ps sp3)(hr:RoomH k X.A)(hm:X.mg x=some (.ref f))(hk:PySem.W.keepIn X.K (.ref f)=true)(hb:Binds X.K fd ps [])(ha:QA X (e::es) t)(hg:Gl X x:=by rfl)
  (hdb:(x==("__debug__":Str))=false:=by decide) (he:notStar e=true:=by rfl) (hpl:es.all notStar=true:=by rfl):QE X (.Call (.Name x p) (e::es) [] pos) (eCall sp3 t):=⟨qs8z F hr hm hk hb ha.of hg hdb he hpl⟩
theorem qt3z(h:QEX X e tx)(hr:QSX X rest tr)(hs:swapsWith e none pos.line X.env=pure false:=by rfl):QSX X (.Expr e pos::rest) (sxExpr tx tr):=⟨qs9z h.of hr.of hs⟩
theorem qt4z:QSX X [] sxNext:=⟨qtaz⟩
theorem qt5z{E:XK}{C B:Addr}{qual:Str}{st:Stmt}{names:List Str}{np cpos:Pos}(hB:Body X E)(hE:∀cls dx H',lowE X.K E' cls dx H'->E cls dx H')(O:OwnInit X.K C B f fd qual st names)(cn:ClsN X.K x C)(hm:X.mg x=some (.ref C))(hr:Room k X.A)(hc:X.calm=true)(ha:QA X (e::es) t)
  (hne:names≠[]:=by decide) (hg:Gl X x:=by rfl) (hdb:(x==("__debug__":Str))=false:=by decide) (he:notStar e=true:=by rfl) (hpl:es.all notStar=true:=by rfl):
  QS X (.Raise (some (.Call (.Name x np) (e::es) [] cpos)) none pos) (sRaise x names E' t):=⟨qt1z hB hE O cn hm hr hc ha.of hne hg hdb he hpl⟩
theorem qt6z{E:XK}{C B:Addr}{np cpos:Pos}(hB:Body X E)(hE:∀cls dx H',lowE X.K E' cls dx H'->E cls dx H')(O:ExcCls X.K C B none)(cn:ClsN X.K x C)(hm:X.mg x=some (.ref C))(hc:X.calm=true)(hg:Gl X x:=by rfl)(hdb:(x==("__debug__":Str))=false:=by decide):
  QS X (.Raise (some (.Call (.Name x np) [] [] cpos)) none pos) (sRaise0 x E'):=⟨qt2z hB hE O cn hm hc hg hdb⟩
theorem qbvz{rs:List Str}{y:Str}{C:Addr}{p2:Pos}(hk:∀z∈rs,∀D,ClsN X.K z D->ExcAsk X.K D/\PySem.W.kitOne X.K (.ref D) (.ref C)=some (z==y))(ha:QE X a te)(hm:X.mg "isinstance" = none)(hmy:X.mg y=some (.ref C))(hgy:Gl X y:=by rfl)(hdy:(y==("__debug__":Str))=false:=by decide)(hg:Gl X "isinstance":=by rfl)(he:notStar a=true:=by rfl):
  QE X (.Call (.Name "isinstance" p) [a,.Name y p2] [] pos) (eIsX rs y te):=⟨qtuz hk ha.of hm hmy hgy hdy hg he⟩
theorem qt7z{rs:List Str}{p2:Pos}(hk:∀z∈rs,∀D,ClsN X.K z D->ExcAsk X.K D/\PySem.W.kitOne X.K (.ref D) (.type "ValueError")=some true)(ha:QE X a te)(hm:X.mg "isinstance" = none)(hmy:X.mg "ValueError" = none)(hgy:Gl X "ValueError":=by rfl)(hg:Gl X "isinstance":=by rfl)(he:notStar a=true:=by rfl):
  QE X (.Call (.Name "isinstance" p) [a,.Name "ValueError" p2] [] pos) (eIsV rs te):=⟨qtvz hk ha.of hm hmy hgy hg he⟩
end
theorem frame0{P:Program}{w:World}{K:PySem.W.Frag}{mg:Str->Option Value}{base:Heap}{N:List Str}{qual:Str}{scope:Scope}{f:Addr}{cd:Value}{A:Around}{outer:List Env}{s:Shared}{H:Hp}{E:XK}:Frame (cxOf CX0 P w K mg base N qual scope f cd A outer s H E).nox:=⟨rfl,rfl,rfl⟩
theorem qfnX{P:Program}{w:World}{K:PySem.W.Frag}{mg:Str->Option Value}{base:Heap}{x qual:Str}{st:Stmt}{f:Addr}{fd:FuncData}{N ps:List Str}{k:Nat}{sp:SpX}(F:Fun K x qual st f fd)(S:FnScope N ps (defScope st))(hN:ps.length≤N.length)(len:∀ds Q E,sp ds Q E->ds.length=ps.length)(tb:E3->TS3)
  (hbody:∀(cdv:Value) (A:Around) (outer:List Env) (s:Shared) (H:Hp) (E:XK) (E':E3),Room k (A.deeper (envOfC qual (defScope st) s.heap.objs.size f cdv))->(∀cls dx H',lowE K E' cls dx H'->E cls dx H') ->
   QSs (cxOf (CXE P w base) P w K mg base N qual (defScope st) f cdv A outer s H E) (defBody st) (tb E'))
  (hrd:∀ds Q E,sp ds Q E->tb E (endsOf Q) (start3 N ds) noG):FnX P w K mg base (k+1) f fd ps sp:=fnX F S hN len tb (fun cdv A outer s H E E' hr hE=>(hbody cdv A outer s H E E' hr hE).of) hrd
theorem qfnH{P:Program}{w:World}{K:PySem.W.Frag}{mg:Str->Option Value}{base:Heap}{x qual:Str}{st:Stmt}{f:Addr}{fd:FuncData}{N ps:List Str}{k:Nat}{sp:Sp3}(F:Fun K x qual st f fd)(S:FnScope N ps (defScope st))(hN:ps.length≤N.length)(len:∀ds G Q,sp ds G Q->ds.length=ps.length)(tb:TS3)
  (hbody:∀(cdv:Value) (A:Around) (outer:List Env) (s:Shared) (H:Hp) (E:XK),RoomH k (A.deeper (envOfC qual (defScope st) s.heap.objs.size f cdv)) ->
   QSs (cxH P w K mg base N qual (defScope st) f cdv A outer s H E) (defBody st) tb)
  (hrd:∀ds G Q,sp ds G Q->tb (endsOf Q) (start3 N ds) G):FnH3 P w K mg base (k+1) f fd ps sp:=fnH3 F S hN len tb (fun cdv A outer s H E hr=>(hbody cdv A outer s H E hr).of) hrd
end L3
namespace L3
open PySem PySem.Spec PyProof.Rows L2
structure FldAsk(K:PySem.W.Frag)(C:Addr)(f:Str):Prop where
 ge:GetExc K C
 hd:PySem.W.hasDictIn K C=true
 nm:PySem.W.findIn K (.ref C) f=some none
def eFldR(rs:List Str)(f:Str)(ta:TE3):TE3:=fun τ G Q=>ta τ G fun x G1=>match x with
 |.obj p=>∃z fs i,G1 p=some (.gen (excR z fs))/\z∈rs/\fs.lookup f=some i/\Q (.int i) G1
 |_=>False
theorem qjez(f:Str):∀fs:List (Str×Int),(fs.map fun p=>(p.1,V.int p.2)).lookup f=(fs.lookup f).map V.int
 |[]=>rfl
 |p::fs=>by
  rw[List.map_cons,List.lookup_cons,List.lookup_cons,qjez f fs];cases f==p.1<;>rfl
theorem qt8z{K:PySem.W.Frag}{C:Addr}{od:Obj}{f:Str}{u:Value}(a:FldAsk K C f)(hl:PySem.W.lookIn f od=some (some u)):PySem.W.findObj K C (some od) f=some (.value u):=by
 obtain⟨cd,hc,hd⟩:=PySem.W.any_some a.hd;unfold PySem.W.findObj PySem.W.ownOf;rw[hc,Option.bind_some,a.nm,Option.bind_some];dsimp only[Option.bind_some];rw[hd,if_pos rfl,hl];rfl
section
variable {X:Cx} {a:Expr} {ta:TE3} {pos:Pos} {f:Str}
theorem qt9z{rs:List Str}(hk:∀z∈rs,∀C,ClsN X.K z C->FldAsk X.K C f)(ha:PE3 X a ta)(hb:attributeBase a f X.env (eval a X.env)=eval a X.env:=by rfl):PE3 X (.Attribute a f pos) (eFldR rs f ta):=by
 intro pins s σ H Q I ⟨τ,G,Q3,RS,RG,h,k⟩;refine qmqz hb (thn (ha pins s σ H (fun v H1=>∃p z fs i,v=.ref p/\excR z fs X.K p H1/\z∈rs/\fs.lookup f=some i/\Q (.int i) H1) I ⟨τ,G,_,RS,RG,h,fun v H1 d G1 h1 S1 R1 q1=>?_⟩) fun u s1 ⟨v,H1,I1,rv,p,z,fs,i,ev,ex,hz,hl,q⟩=>?_)
 ·cases d with
  |obj p=>
   obtain⟨z,fs,i,e1,hz,hl,q2⟩:=q1;exact⟨p,z,fs,i,qsz h1,(R1 p _ e1).1,hz,hl,k _ H1 (.int i) G1 q5z S1 R1 q2⟩
  |_=>exact q1.elim
 ·subst ev;cases (show u=Value.ref p from rv);have hne:fs≠[]:=fun w=>by
   rw[w] at hl;cases hl
  obtain⟨C,oe,od,mA,d,cn,J,hod,hns,hrel⟩:=qtsz I1.hok ex hne;obtain⟨od2,h2,lk⟩:=qmpz hns;rw[hod] at h2;cases h2;have hf:=hrel f;rw[qjez,hl] at hf;obtain⟨u,hu,ru⟩:=RelO.some_of (v:=V.int i) (o:=mA f) hf;obtain⟨tk,rfl⟩:=(show ∃t,u=Value.int i t from ru);have A1:=hk z hz C cn;exact qtoz A1.ge I1.kIn J (qt8z A1 (by rw[lk,hu])) rfl ⟨.int i,H1,I1.tok _,⟨tk,rfl⟩,q⟩
theorem qegz{rs:List Str}(hk:∀z∈rs,∀C,ClsN X.K z C->FldAsk X.K C f)(ha:QE X a ta)(hb:attributeBase a f X.env (eval a X.env)=eval a X.env:=by rfl):QE X (.Attribute a f pos) (eFldR rs f ta):=⟨qt9z hk ha.of hb⟩
end
end L3
namespace L3
open PySem PySem.Spec PyProof.Rows L2
theorem quaz{K:PySem.W.Frag}{C B:Addr}{init:Option Value}{newId:String}(e:excIn K C (.ref B::veTail) init newId=true):∃cd,PySem.W.clsIn K C=some cd/\cd.mro=.ref C::.ref B::veTail/\cd.hasDict=true:=by
 obtain⟨nm,qn,N,bs,sn,sub,ab,col,dd,k0,k1,k2,k3,k5,lk⟩:=qfqz e;unfold PySem.W.clsIn;rw[lk];exact⟨_,rfl,rfl,rfl⟩
theorem qjfz{K:PySem.W.Frag}{C:Addr}{bm:List Value}{init:Option Value}{newId:String}(e:excIn K C bm init newId=true):(PySem.W.clsIn K C).isSome=true:=by
 obtain⟨nm,qn,N,bs,sn,sub,ab,col,dd,k0,k1,k2,k3,k5,lk⟩:=qfqz e;unfold PySem.W.clsIn;rw[lk];rfl
theorem qubz{K:PySem.W.Frag}{f:Addr}{T:Value}(h:PySem.W.typeIn K (.ref f)=some T):∃o,K.lookup f=some o/\o.cls=T:=by
 unfold PySem.W.typeIn at h;cases q:K.lookup f with
 |none=>simp[q] at h
 |some o=>
  simp[q] at h;exact⟨o,rfl,h⟩
def noE:E3:=fun _ _=>False
theorem passN{X:Cx}:Passes (CXE X.prog X.w X.base) X (lowE X.K noE):=fun _ _ _ _ _ _ _ h=>by
 obtain⟨_,_,_,_,_,_,_,_,_,_,_,_,_,_,_,_,_,_,_,z,_⟩:=h;exact z.elim
theorem len1{us:List Value}(h:us.length=1):∃a,us=[a]:=List.length_eq_one_iff.mp h
theorem len2{us:List Value}(h:us.length=2):∃a b,us=[a,b]:=by
 rcases us with _|⟨a,us⟩
 ·cases h
 ·obtain⟨b,rfl⟩:=len1 (us:=us) (Nat.succ.inj h);exact⟨a,b,rfl⟩
theorem len3{us:List Value}(h:us.length=3):∃a b c,us=[a,b,c]:=by
 rcases us with _|⟨a,us⟩
 ·cases h
 ·obtain⟨b,c,rfl⟩:=len2 (us:=us) (Nat.succ.inj h);exact⟨a,b,c,rfl⟩
end L3
namespace My
open PySem L2 L3
def qc4z:SpX:=fun ds Q E=>∃(a b:Int),ds=[.int a,.int b]/\(a≤b->Q .non noG)/\(b<a->E "TooGreat" [("many",a),("most",b)])
def qjgz(E:E3):TS3:=sIf (eTest (eOp rGt3 (eVar 0) (eVar 1))) (sRaise "TooGreat" ["many","most"] E (aCons (eVar 0) (aCons (eVar 1) (aNil)))) (sNext)
theorem qucz:∀ds Q E,qc4z ds Q E->qjgz E (endsOf Q) (start3 ["many","most"] ds) noG:=by
 rintro ds Q E ⟨a,b,rfl,q1,q2⟩;refine⟨fun h=>?_,fun h=>⟨noG,Sub.refl _,q1 ?_⟩⟩
 ·have h':a > b:=of_decide_eq_true h;exact⟨[a,b],rfl,rfl,q2 h'⟩
 ·have h':¬a > b:=of_decide_eq_false h;omega
theorem qbwz(G:Gp):Sub noG G:=fun _ _ e=>nomatch e
abbrev grR(a b:Int):GO:=.gen (excR "TooGreat" [("many",a),("most",b)])
def qb8z(rs:List Str):Sp3:=fun ds G Q=>∃(p:Addr) (a b:Int),ds=[.obj p]/\G p=some (grR a b)/\("TooGreat":Str)∈rs/\∀G',Sub G G'->Q (.str "great") G'
def qudz(rs:List Str):TS3:=sRet (eLstIx (aCons (eC (.str "clock")) (aCons (eC (.str "number")) (aCons (eC (.str "place")) (aCons (eC (.str "row")) (aCons (eC (.str "clocks")) (aCons (eC (.str "text")) (aCons (eC (.str "great")) (aNil)))))))) (eM qfpz (eVar 1) (aCons (eC (.bl true)) (aNil))))
def quez(rs:List Str):TS3:=sSeq (sIf (eOr (eNot (eTest (eIsV rs (eVar 0)))) (eTest (eOp (rEq3 true) (eM qfoz (eVar 1) (aCons (eC (.bl true)) (aNil))) (eC (.int 1))))) (sRet (eC (.str "other"))) (sNext)) (qudz rs)
def qufz(rs:List Str):TS3:=sSeq (sAsg (eOp rAdd3 (eVar 1) (eLst (aCons (eIsX rs "NoClocks" (eVar 0)) (aCons (eIsX rs "NoText" (eVar 0)) (aCons (eIsX rs "TooGreat" (eVar 0)) (aNil)))))) (hName 1)) (quez rs)
def qjhz(rs:List Str):TS3:=sSeq (sAsg (eLst (aCons (eIsX rs "NoClock" (eVar 0)) (aCons (eIsX rs "NoNumber" (eVar 0)) (aCons (eIsX rs "NoPlace" (eVar 0)) (aCons (eIsX rs "NoRow" (eVar 0)) (aNil)))))) (hName 1)) (qufz rs)
theorem qugz(rs:List Str):∀ds G Q,qb8z rs ds G Q->qjhz rs (endsOf Q) (start3 ["e","marks"] ds) G:=by
 rintro ds G Q ⟨p,a,b,rfl,hp,hr,q⟩;refine⟨_,_,hp,hr,_,_,hp,hr,_,_,hp,hr,_,_,hp,hr,fun p1 G1 n1=>?_⟩;have hp1:=n1.sub _ _ hp;have b1:(("TooGreat":Str)=="NoClock")=false:=by decide
 have b2:(("TooGreat":Str)=="NoNumber")=false:=by decide
 have b3:(("TooGreat":Str)=="NoPlace")=false:=by decide
 have b4:(("TooGreat":Str)=="NoRow")=false:=by decide
 have b5:(("TooGreat":Str)=="NoClocks")=false:=by decide
 have b6:(("TooGreat":Str)=="NoText")=false:=by decide
 have b7:(("TooGreat":Str)=="TooGreat")=true:=by decide
 rw[b1,b2,b3,b4] at n1;refine⟨_,_,hp1,hr,_,_,hp1,hr,_,_,hp1,hr,fun p2 G2 n2=>?_⟩;rw[b5,b6,b7] at n2;have hp2:=n2.sub _ _ hp1;refine⟨_,_,n2.sub _ _ n1.at_,n2.at_,by decide,fun p3 G3 n3=>?_⟩;have hp3:=n3.sub _ _ hp2;refine⟨_,_,hp3,hr,fun h=>(nomatch h),fun _=>?_⟩;refine⟨⟨p3,_,rfl,n3.at_⟩,_,[false,false,false,false,false,false,true],n3.at_,rfl,_,_,rfl,rfl,Nat.zero_le _,fun h=>?_,fun _=>?_⟩
 ·exact absurd h (by decide)
 refine⟨⟨p3,_,rfl,n3.at_⟩,_,[false,false,false,false,false,false,true],6,n3.at_,rfl,rfl,fun i hi=>?_,by decide,.str "great",rfl,qgz (q G3 ((n1.sub.trans n2.sub).trans n3.sub))⟩
 match i,hi with
 |0,_=>rfl
 |1,_=>rfl
 |2,_=>rfl
 |3,_=>rfl
 |4,_=>rfl
 |5,_=>rfl
def qc5z(rs:List Str):Sp3:=fun ds G Q=>∃(p:Addr) (a b:Int),ds=[.obj p]/\G p=some (grR a b)/\("TooGreat":Str)∈rs/\∀G',Sub G G'->Q (.tup [.str "great",.int a,.int b]) G'
def quhz(rs:List Str):TS3:=sRet (eTup (aCons (eC (.str "great")) (aCons (eFldR rs "many" (eVar 0)) (aCons (eFldR rs "most" (eVar 0)) (aNil)))))
def qjiz(rs:List Str):TS3:=sSeq (sIf (eOr (eTest (eOp (rEq3 true) (eCall (qb8z rs) (aCons (eVar 0) (aNil))) (eC (.str "great")))) (eOr (eNot (eTest (eCall qbsz (aCons (eFldR rs "many" (eVar 0)) (aNil))))) (eNot (eTest (eCall qbsz (aCons (eFldR rs "most" (eVar 0)) (aNil))))))) (sRet (eTup (aCons (eCall (qb8z rs) (aCons (eVar 0) (aNil))) (aNil)))) (sNext)) (quhz rs)
theorem quiz(rs:List Str):∀ds G Q,qc5z rs ds G Q->qjiz rs (endsOf Q) (start3 ["e"] ds) G:=by
 rintro ds G Q ⟨p,a,b,rfl,hp,hr,q⟩;refine⟨p,a,b,rfl,hp,hr,fun G1 s1=>⟨_,_,rfl,rfl,Nat.zero_le _,fun h=>?_,fun _=>?_⟩⟩
 ·exact absurd h (by decide)
 have hp1:=s1 _ _ hp;refine⟨_,_,a,hp1,hr,rfl,trivial,fun h=>(nomatch h),fun _=>⟨_,_,b,hp1,hr,rfl,trivial,fun h=>(nomatch h),fun _=>?_⟩⟩;exact⟨_,_,a,hp1,hr,rfl,_,_,b,hp1,hr,rfl,qgz (q G1 s1)⟩
end My
namespace L3
open PySem PySem.Spec PyProof.Rows L2
def isLst:HO->Bool
 |.lst _=>true
 |.ext _=>true
 |_=>false
def hidL(h:Heap)(H:Hp):Hp:=fun a=>match H a with
 |some o=>if isLst o then (h.get? a).map fun ob=>.frz ob o else if vis o then some o else none
 |none=>none
section
variable {P:Program} {w:World} {H H':Hp} {h h':Heap} {a b:Addr} {o:HO} {fs:List Addr} {ob:Obj}
theorem qujz(v:vis o=true):isLst o=false:=by
 cases o with
 |lst xs=>cases v
 |ext φ=>cases v
 |_=>rfl
theorem qb9z(e:H a=none):hidL h H a=none:=by unfold hidL;rw[e]
theorem qapz(e:H a=some o)(v:vis o=true):hidL h H a=some o:=by
 unfold hidL;rw[e];show (if isLst o=true then _ else if vis o=true then some o else none)=_;rw[if_neg (by rw[qujz v];exact Bool.false_ne_true),if_pos v]
theorem qfsz(e:H a=some o)(v:vis o=false)(n:isLst o=false):hidL h H a=none:=by
 unfold hidL;rw[e];show (if isLst o=true then _ else if vis o=true then some o else none)=_;rw[if_neg (by rw[n];exact Bool.false_ne_true),if_neg (by rw[v];exact Bool.false_ne_true)]
theorem qc6z(e:H a=some o)(n:isLst o=true)(q:h.get? a=some ob):hidL h H a=some (.frz ob o):=by
 unfold hidL;rw[e];show (if isLst o=true then (h.get? a).map _ else if vis o=true then some o else none)=_;rw[if_pos n,q];rfl
theorem qjjz(e:hidL h H a=some o):(H a=some o/\vis o=true)∨∃u ob,H a=some u/\isLst u=true/\h.get? a=some ob/\o=.frz ob u:=by
 cases q:H a with
 |none=>rw[qb9z q] at e;cases e
 |some u=>
  cases n:isLst u with
  |true=>
   cases g:h.get? a with
   |none=>
    unfold hidL at e;rw[q] at e;have e':(if isLst u=true then (h.get? a).map fun ob=>HO.frz ob u else if vis u=true then some u else none)=some o:=e;rw[if_pos n,g] at e';cases e'
   |some ob=>
    rw[qc6z q n g] at e;exact .inr ⟨u,ob,rfl,n,rfl,(Option.some.inj e).symm⟩
  |false=>
   cases v:vis u with
   |true=>
    rw[qapz q v] at e;cases e;exact .inl ⟨rfl,v⟩
   |false=>
    rw[qfsz q v n] at e;cases e
theorem qjkz(e:hidL h H a=some o):vis o=true:=by
 rcases qjjz e with⟨_,v⟩|⟨u,ob,_,n,_,rfl⟩
 ·exact v
 ·cases u with
  |lst xs=>rfl
  |ext φ=>rfl
  |_=>cases n
theorem qukz(ok:HOk P w H h):HOk P w (hidL h H) h:=fun a o e=>by
 rcases qjjz e with⟨e1,v⟩|⟨u,ob,e1,n,q,rfl⟩
 ·exact qi5z v (ok a o e1)
 ·cases u with
  |lst xs=>
   obtain⟨z,its,n,r,p⟩:=ok a _ e1;exact⟨q,z,its,n,r,p⟩
  |ext φ=>exact⟨q,ok a _ e1⟩
  |_=>cases n
variable (ok:HOk P w H h) (hfs:∀b∈fs,H b=none) (u:Un fs [] (hidL h H) H' h h') (ok':HOk P w H' h')
include ok u
theorem freeL(e:H b=some o)(v:vis o=false)(n:isLst o=false):H' b=none:=by
 obtain⟨ob,q⟩:=ObjOk.there (ok b o e);exact u.free b ob q (qfsz e v n) (by simp)
theorem lstL(e:H b=some o)(n:isLst o=true):∃ob,h.get? b=some ob/\H' b=some (.frz ob o):=by
 obtain⟨ob,q⟩:=ObjOk.there (ok b _ e);exact⟨ob,q,u.frzs b ob _ (qc6z e n q)⟩
theorem joinL(e:H' b=some o)(n:∀ob u,isLst u=true->o≠.frz ob u):joined H H' b=some o:=by
 cases q:H b with
 |none=>rw[qavz q];exact e
 |some x=>
  cases v:vis x with
  |true=>rw[qa7z q v];exact e
  |false=>
   cases l:isLst x with
   |true=>
    obtain⟨ob,_,z⟩:=lstL ok u q l;rw[z] at e;exact absurd (Option.some.inj e).symm (n ob x l)
   |false=>
    rw[freeL ok u q v l] at e;cases e
include hfs ok'
theorem qftz:Un fs [] H (joined H H') h h'/\HOk P w (joined H H') h':=by
 have kept:∀b x ob,H b=some x->vis x=false->h.get? b=some ob->h'.get? b=some ob:=fun b x ob e v q=>by
  cases l:isLst x with
  |true=>
   obtain⟨ob',q',z⟩:=lstL ok u e l;rw[q] at q';cases q';exact (ok' b _ z).1
  |false=>exact u.keep b ob q (qfsz e v l) (fun z=>by rw[hfs b z] at e;cases e) (by simp)
 refine⟨⟨fun b ob q n h3 h4=>u.keep b ob q (qb9z n) h3 h4,fun b ob q n h3 h4=>u.slot b ob q (qb9z n) h3 h4,fun b ob q n h3=>by rw[qavz n];exact u.free b ob q (qb9z n) h3,
  fun b ob q h3=>u.there b ob q h3,fun b xs e=>joinL ok u (u.tups b xs (qapz e rfl)) (fun _ u n z=>by cases z),fun b ob x e=>?_,fun b ps e=>⟨#[],by rw[Array.append_empty];exact qabz e rfl⟩⟩,fun b x e=>?_⟩
 ·cases v:vis (.frz ob x) with
  |true=>
   rw[qa7z e v];exact u.frzs b ob x (qapz e v)
  |false=>exact qabz e v
 ·have mono:H' b=some x->ObjOk P w (joined H H') h' b x:=fun z=>(ok' b x z).stay (fun _ _ _ q=>q) (fun c q=>joinL ok u q fun _ u n z=>by cases z) (fun c xs q=>joinL ok u q fun _ u n z=>by cases z);cases q:H b with
  |none=>
   rw[qavz q] at e;exact mono e
  |some y=>
   cases v:vis y with
   |true=>
    rw[qa7z q v] at e;exact mono e
   |false=>
    rw[qabz q v] at e;obtain rfl:=Option.some.inj e;refine (ok b _ q).stay (fun c ob hc z=>?_) (fun c z=>qabz z rfl) (fun c xs z=>joinL ok u (u.tups c xs (qapz z rfl)) fun _ u n z=>by cases z);rcases hc with rfl|hc
    ·exact kept _ _ _ q v z
    ·exact kept _ _ _ hc rfl z
end
mutual
def noScr:D->Bool
 |.tup ds=>noScrs ds
 |.scr _=>false
 |.dc _=>false
 |_=>true
def noScrs:List D->Bool
 |[]=>true
 |d::ds=>noScr d&&noScrs ds
end
def GO.noScr:GO->Prop
 |.lst ds=>noScrs ds=true
 |.gen _=>False
 |_=>True
def NoScr(G:Gp):Prop:=∀a o,G a=some o->GO.noScr o
theorem NoScr.no:NoScr noG:=fun _ _ e=>nomatch e
def shw(G:Gp):D->D
 |.obj p=>match G p with
  |some (.lst xs)=>.scr xs
  |some .dct=>.dc p
  |_=>.obj p
 |d=>d
section
variable {K:PySem.W.Frag} {H H':Hp} {h:Heap}
theorem SqT.hidL{a:Addr}{xs:List V}(q:SqT K H a xs):SqT K (hidL h H) a xs:=by
 rcases q with (q|⟨o,q⟩)|q
 ·exact .inl (.inl (qapz q rfl))
 ·exact .inl (.inr ⟨o,qapz q rfl⟩)
 ·exact .inr q
theorem SqF.hidL{a:Addr}{xs:List V}(q:SqF K H a xs):SqF K (hidL h H) a xs:=by
 rcases q with⟨o,q⟩|q
 ·exact .inl ⟨o,qapz q rfl⟩
 ·exact .inr q
mutual
theorem Hv.hidL:∀{d:D} {v:V},Hv K H d v->Hv K (hidL h H) d v
 |.non,_,q=>by simpa [Hv] using q
 |.bl _,_,q=>by simpa [Hv] using q
 |.int _,_,q=>by simpa [Hv] using q
 |.str _,_,q=>by simpa [Hv] using q
 |.obj _,_,q=>by simpa [Hv] using q
 |.dc a,v,q=>by
  unfold Hv at q ⊢;obtain⟨e,ob,φ,q,c⟩:=q;exact⟨e,ob,φ,qapz q rfl,c⟩
 |.tup ds,v,q=>by
  unfold Hv at q ⊢;obtain⟨a,vs,e,q,r⟩:=q;exact⟨a,vs,e,SqT.hidL q,Hvs.hidL r⟩
 |.scr ds,v,q=>by
  unfold Hv at q ⊢;obtain⟨a,vs,e,q,r⟩:=q;exact⟨a,vs,e,SqF.hidL q,Hvs.hidL r⟩
theorem Hvs.hidL:∀{ds:List D} {vs:List V},Hvs K H ds vs->Hvs K (hidL h H) ds vs
 |[],_,q=>by simpa [Hvs] using q
 |d::ds,vs,q=>by
  unfold Hvs at q ⊢;obtain⟨v,r,e,q,z⟩:=q;exact⟨v,r,e,Hv.hidL q,Hvs.hidL z⟩
end
mutual
theorem Hv.bare(t:∀a xs,H a=some (.tup xs)->H' a=some (.tup xs))(f:∀a o xs,H a=some (.frz o (.tup xs))->H' a=some (.frz o (.tup xs))):∀{d:D} {v:V},noScr d=true->Hv K H d v->Hv K H' d v
 |.non,_,_,q=>by simpa [Hv] using q
 |.bl _,_,_,q=>by simpa [Hv] using q
 |.int _,_,_,q=>by simpa [Hv] using q
 |.str _,_,_,q=>by simpa [Hv] using q
 |.obj _,_,_,q=>by simpa [Hv] using q
 |.tup ds,v,n,q=>by
  unfold Hv at q ⊢;unfold noScr at n;obtain⟨a,vs,e,q,r⟩:=q;refine⟨a,vs,e,?_,Hvs.bare t f n r⟩;rcases q with (q|⟨o,q⟩)|q
  ·exact .inl (.inl (t _ _ q))
  ·exact .inl (.inr ⟨o,f _ _ _ q⟩)
  ·exact .inr q
 |.scr ds,v,n,q=>by
  unfold noScr at n;cases n
 |.dc a,v,n,q=>by
  unfold noScr at n;cases n
theorem Hvs.bare(t:∀a xs,H a=some (.tup xs)->H' a=some (.tup xs))(f:∀a o xs,H a=some (.frz o (.tup xs))->H' a=some (.frz o (.tup xs))):∀{ds:List D} {vs:List V},noScrs ds=true->Hvs K H ds vs->Hvs K H' ds vs
 |[],_,_,q=>by simpa [Hvs] using q
 |d::ds,vs,n,q=>by
  unfold Hvs at q ⊢;unfold noScrs at n;rw[Bool.and_eq_true] at n;obtain⟨v,r,e,q,z⟩:=q;exact⟨v,r,e,Hv.bare t f n.1 q,Hvs.bare t f n.2 z⟩
end
theorem qcaz{G:Gp}{p:Addr}{xs:List D}(e:G p=some (.lst xs)):shw G (.obj p)=.scr xs:=by
 show (match G p with|some (.lst xs)=>D.scr xs|some .dct=>D.dc p|_=>D.obj p)=_
 rw[e]
theorem qulz{G:Gp}{p:Addr}(e:G p=some .dct):shw G (.obj p)=.dc p:=by
 show (match G p with|some (.lst xs)=>D.scr xs|some .dct=>D.dc p|_=>D.obj p)=_
 rw[e]
theorem qumz{G:Gp}{p:Addr}(e:∀xs,G p≠some (.lst xs))(e2:G p≠some .dct):shw G (.obj p)=.obj p:=by
 show (match G p with|some (.lst xs)=>D.scr xs|some .dct=>D.dc p|_=>D.obj p)=_
 cases q:G p with
 |none=>rfl
 |some g=>cases g with
  |lst xs=>exact absurd q (e xs)
  |dct=>exact absurd q e2
  |_=>rfl
theorem qunz{P:Program}{w:World}{G:Gp}(ok:HOk P w H h)(R:RepG K G H){d:D}{v:V}(q:Hv K H d v):Hv K (hidL h H) (shw G d) v:=by
 cases d with
 |obj p=>
  by_cases e:∃xs,G p=some (.lst xs)
  ·obtain⟨xs,e⟩:=e;rw[qcaz e];obtain⟨vs,e1,e2⟩:=R p _ e;obtain⟨ob,e3⟩:=ObjOk.there (ok p _ e1);rw[qsz q];unfold Hv;exact⟨p,vs,rfl,.inl ⟨ob,qc6z e1 rfl e3⟩,e2.hidL⟩
  by_cases e':G p=some .dct
  ·rw[qulz e'];have e1:H p=some (.ext fun h=>∃o,h.get? p=some o/\o.cls=.type "dict"):=R p _ e';obtain⟨⟨ob,h1,h2⟩,_⟩:=(show ObjOk P w H h p _ from ok p _ e1);unfold Hv;exact⟨qsz q,ob,_,qc6z e1 rfl h1,h2⟩
  ·rw[qumz (fun xs z=>e ⟨xs,z⟩) e'];exact q.hidL
 |_=>exact q.hidL
theorem quoz{P:Program}{w:World}{G:Gp}(ok:HOk P w H h)(R:RepG K G H):∀{ds:List D} {vs:List V},Hvs K H ds vs->Hvs K (hidL h H) (ds.map (shw G)) vs:=by
 intro ds
 induction ds with
 |nil=>intro vs q;cases q.inv0;exact .nil
 |cons d ds ih=>
  intro vs q;obtain⟨v,r,rfl,z1,z2⟩:=q.inv;exact .cons (qunz ok R z1) (ih z2)
end
section
variable {X:Cx} {k:Nat} {f:Addr} {fd:FuncData} {ps:List Str} {sp:SpX} {E:E3} {x:Str} {p pos:Pos} {e:Expr} {es:List Expr} {t:TA3}
theorem qjlz{K:PySem.W.Frag}{P:Program}{w:World}{fs:List Addr}{H H':Hp}{h h':Heap}{G1 G':Gp}{d:D}{v:V}(ok:HOk P w H h)(hfs:∀b∈fs,H b=none)(u:Un fs [] (hidL h H) H' h h')(ok':HOk P w H' h')
  (R1:RepG K G1 H) (hd:noScr d=true) (hG:NoScr G') (hv:Hv K H' d v) (S:Step (hidL h H) noG H' G') (R':RepG K G' H'):
  Hv K (joined H H') d v/\Step H G1 (joined H H') (both G1 G')/\RepG K (both G1 G') (joined H H')/\Joins G1 G' (both G1 G'):=by
 have t2:∀a xs,H' a=some (.tup xs)->joined H H' a=some (.tup xs):=fun a xs e=>joinL ok u e fun _ u n z=>by cases z
 have f2:∀a o xs,H' a=some (.frz o (.tup xs))->joined H H' a=some (.frz o (.tup xs)):=fun a o xs e=>joinL ok u e fun _ u n z=>by cases z;cases n
 have E1:Ext H (joined H H'):=by
  obtain⟨u2,_⟩:=qftz ok hfs u ok';exact⟨u2.tups,u2.frzs⟩
 have outG:∀a,G' a≠none->H a=none:=fun a n=>by
  have z:hidL h H a=none:=S.new a rfl n;cases q:H a with
  |none=>rfl
  |some o=>
   cases v:vis o with
   |true=>rw[qapz q v] at z;cases z
   |false=>
    cases l:isLst o with
    |true=>
     obtain⟨ob,e3⟩:=ObjOk.there (ok a _ q);rw[qc6z q l e3] at z;cases z
    |false=>
     have:=freeL ok u q v l;cases q':G' a with
     |none=>exact absurd q' n
     |some g=>
      obtain⟨o',z',_⟩:=(R' a g q').mut;rw[this] at z';cases z'
 have out1:∀a,G' a≠none->G1 a=none:=fun a n=>R1.free (outG a n);refine⟨hv.bare t2 f2 hd,⟨fun a o e n=>?_,fun a n=>?_,fun a n q=>?_⟩,fun a g e=>?_,⟨fun a o e=>by simp[both,e],fun a o e=>by simp[both,out1 a (by rw[e];simp),e],out1⟩⟩
 ·cases v:vis o with
  |true=>
   rw[qa7z e v];exact S.fr a o (qapz e v) rfl
  |false=>exact qabz e v
 ·cases q:H a with
  |none=>exact absurd q n
  |some o=>
   cases v:vis o with
   |true=>
    rw[qa7z q v];exact S.trk a (by rw[qapz q v];simp)
   |false=>rw[qabz q v];simp
 ·simp only[both,n] at q;exact outG a q
 ·cases q:G1 a with
  |some o=>
   simp only[both,q] at e;cases e;obtain⟨o',z,h1,h2⟩:=(R1 a g q).mut;have hv:vis o'=false:=by
    cases o' with
    |tup xs=>exact absurd rfl (h1 xs)
    |frz ob y=>exact absurd rfl (h2 ob y)
    |_=>rfl
   exact (R1 a g q).ext E1 (by rw[qabz z hv,z])
  |none=>
   simp only[both,q] at e;have hn:=outG a (by rw[e];simp);have ha:joined H H' a=H' a:=qavz hn;have hg:=hG a g e;cases g with
   |lst ds=>
    obtain⟨vs,e1,e2⟩:=R' a _ e;exact⟨vs,ha.trans e1,e2.bare t2 f2 hg⟩
   |pen=>
    obtain⟨i,j,l,e1,e2⟩:=R' a _ e;exact⟨i,j,l,ha.trans e1,e2⟩
   |dct=>exact ha.trans (R' a _ e)
   |gen R=>exact hg.elim
theorem stepL{P:Program}{w:World}{H H':Hp}{fs:List Addr}{h h':Heap}(u:Un fs [] (hidL h H) H' h h'):Step (hidL h H) noG H' noG:=by
 have fr:∀a o,hidL h H a=some o->H' a=some o:=fun a o e=>by
  have v:=qjkz e;cases o with
  |tup xs=>exact u.tups a xs e
  |frz ob y=>exact u.frzs a ob y e
  |_=>cases v
 refine⟨fun a o e _=>fr a o e,fun a n=>?_,fun a _ q=>absurd rfl q⟩;cases q:hidL h H a with
 |none=>exact absurd q n
 |some o=>rw[fr a o q];simp
theorem CXE.hidL{P:Program}{w:World}{K:PySem.W.Frag}{base:Heap}{outer:List Env}{H:Hp}{s s':Shared}{G1:Gp}{ev:Value}(ok:HOk P w H s.heap)(hfs:∀b∈frs outer,H b=none)(R1:RepG K G1 H)(h:CXE P w base outer (hidL s.heap H) s (lowE K E) ev s'):
  CXE P w base outer H s (lowE2 K E H G1) ev s':=by
 obtain⟨e,T,C,dx,H',rfl,os,bare,u,ok',tr,⟨hHe,hHT⟩,hen,⟨he0,hT0⟩,x,C',fs,ec,cn,q,dd⟩:=h;obtain⟨u2,ok2⟩:=qftz ok hfs u ok';obtain⟨_,z2,z3,_⟩:=qjlz (G':=noG) (d:=.non) (v:=.non) ok hfs u ok' R1 rfl NoScr.no (by simp[Hv]) (stepL (P:=P) (w:=w) u) (fun _ _ e=>nomatch e);rw[qi8z] at z2 z3;have out:∀b,s.heap.get? b=none->H' b=none->joined H H' b=none:=fun b hb hn=>by
  cases hq:H b with
  |none=>rw[qavz hq];exact hn
  |some o=>
   obtain⟨ob,e'⟩:=ObjOk.there (ok b o hq);rw[hb] at e';cases e'
 refine⟨e,T,C,dx,joined H H',rfl,os,bare,u2,ok2,tr,⟨out _ he0 hHe,out _ hT0 hHT⟩,hen,⟨he0,hT0⟩,⟨x,C',fs,ec,cn,q,?_⟩,z3,z2⟩;rcases dd with⟨d1,d2⟩|⟨d,o,d1,d2⟩
 ·exact .inl ⟨d1,d2⟩
 ·exact .inr ⟨d,o,d1,joinL ok u d2 fun _ u n z=>by cases z;cases n⟩
def toldL(G1:Gp)(Q3:V3):V3:=fun d G'=>noScr d=true/\NoScr G'/\∀G2,Joins G1 G' G2->Q3 d G2
theorem qjmz{pins:List (Addr×Obj)}{σ:L2.St}{H:Hp}{s:Shared}{Q:VK}{G1:Gp}{Q3:V3}{ds:List D}{us:List Value}{vs:List V}{XE:Value->Shared->Prop}(F:FnX X.prog X.w X.K X.mg X.base k f fd ps sp)(hr:Room k X.A)(hb:Binds X.K fd ps [])
  (hx:∀ev s',CXE X.prog X.w X.base X.stack H s (lowE2 X.K E H G1) ev s'->XE ev s')
  (I:Inv X pins σ H s) (r:Vals vs us) (hd:Hvs X.K H ds vs) (R1:RepG X.K G1 H) (h:sp (ds.map (shw G1)) (toldL G1 Q3) E) (kk:∀v H' d G',Hv X.K H' d v->Step H G1 H' G'->RepG X.K G' H'->Q3 d G'->Q v H'):
  wpAny (model X.prog X.w) X.A (call (.ref f) us) (EP X pins σ Q) XE s:=by
 have hq:lowX X.K sp vs (hidL s.heap H) (fun v H'=>∃d G',Hv X.K H' d v/\Step (hidL s.heap H) noG H' G'/\RepG X.K G' H'/\toldL G1 Q3 d G') (lowE X.K E):=
  ⟨ds.map (shw G1),_,E,quoz I.hok R1 hd,fun a o e=>qjkz e,h,fun v H' d G' a b c q=>⟨d,G',a,b,c,q⟩,fun _ _ _ z=>z⟩
 have hl:(us++[]).length=ps.length:=by rw[List.append_nil,←r.length];exact F.len _ _ _ _ hq
 have e0:Env0 X.prog X.w X.K X.mg X.base X.A X.stack s (hidL s.heap H):=⟨I.ok.frames,I.ok.mod,fun b o e=>⟨(I.bs b o e).1,qb9z (I.bs b o e).2⟩,Nat.le_trans I.ok.bsz I.sz,I.stack,fun b hb=>qb9z (I.stkFree b hb),qukz I.hok,I.bare⟩;have hb':=hb s us I.kIn hl;rw[List.append_nil] at hb';refine wpAny_call (codeAny_mono (F.run X.A X.stack s (hidL s.heap H) ⟨us,[]⟩ us vs _ (lowE X.K E) hr e0 hb' r hq) fun r s' hq'=>?_);cases r with
 |error e=>exact hx e s' (CXE.hidL I.hok I.stkFree R1 hq')
 |ok fl=>
  cases fl with
  |ret u=>
   obtain⟨v,H',os,bare,un,hok,rv,d,G',a,b,c,q1,q2,q⟩:=hq';obtain⟨un2,ok2⟩:=qftz I.hok I.stkFree un hok;obtain⟨z1,z2,z3,z4⟩:=qjlz I.hok I.stkFree un hok R1 q1 q2 a b c;exact I.after ⟨v,joined H H',os,bare,un2,ok2,rv,kk v _ d _ z1 z2 z3 (q _ z4)⟩
  |next=>exact False.elim hq'
  |brk=>exact False.elim hq'
  |cont=>exact False.elim hq'
def eCallL(sp:SpX)(E:E3)(t:TA3):TE3:=fun τ G Q=>t τ G fun ds G1=>sp (ds.map (shw G1)) (toldL G1 Q) E
theorem qupz(F:FnX X.prog X.w X.K X.mg X.base k f fd ps sp)(hr:Room k X.A)(hx:Passes (CXE X.prog X.w X.base) X (lowE X.K E))(hm:X.mg x=some (.ref f))(hk:PySem.W.keepIn X.K (.ref f)=true)(hb:Binds X.K fd ps [])(ha:PA3 X (e::es) t)(hg:Gl X x:=by rfl)
  (hdb:(x==("__debug__":Str))=false:=by decide) (he:notStar e=true:=by rfl) (hpl:es.all notStar=true:=by rfl):
  PE3 X (.Call (.Name x p) (e::es) [] pos) (eCallL sp E t):=by
 intro pins s σ H Q I ⟨τ,G,Q3,RS,RG,h,kk⟩;refine wpAny_Call_Name_kw (qakz I hg hm ?_ hdb);refine PySem.W.callWith_K (h₀:=X.base) I.ok.mod.kin hk (thn (ha pos pins s σ H (fun vs H1=>∃ds G1,Hvs X.K H1 ds vs/\Step H G H1 G1/\RepG X.K G1 H1/\sp (ds.map (shw G1)) (toldL G1 Q3) E) I
  ⟨τ,G,_,RS,RG,h,fun vs H1 ds G1 a b c q=>⟨ds,G1,a,b,c,q⟩⟩) fun us s1 ⟨vs,H1,I1,r,ds,G1,hd,S1,R1,q⟩=>⟨I1.kIn,?_⟩) (qlz he) (qzz hpl)
 exact qjmz F hr hb (fun ev s' h=>hx pins σ H1 s1 ev s' I1 (CXE.mono h fun _ _ _ z=>z.1)) I1 r hd R1 q fun v H' d G' a b c q=>kk v H' d G' a (S1.trans b) c q
def exCallL(sp:SpX)(t:TA3):TEX:=fun KX τ G Q=>t τ G fun ds G1=>sp (ds.map (shw G1)) (toldL G1 Q) (KX τ G1)
theorem quqz(F:FnX X.prog X.w X.K X.mg X.base k f fd ps sp)(hr:Room k X.A)(hm:X.mg x=some (.ref f))(hk:PySem.W.keepIn X.K (.ref f)=true)(hb:Binds X.K fd ps [])(ha:PA3 X.nox (e::es) t)(hg:Gl X x:=by rfl)
  (hdb:(x==("__debug__":Str))=false:=by decide) (he:notStar e=true:=by rfl) (hpl:es.all notStar=true:=by rfl):
  PEX X (.Call (.Name x p) (e::es) [] pos) (exCallL sp t):=by
 intro pins s σ H Q XE τ G Q3 KX I RS RG h kk xx;refine wpAny_Call_Name_kw (qakz I hg hm ?_ hdb);refine PySem.W.callWith_K (h₀:=X.base) I.ok.mod.kin hk (wpAny_mono (ha pos pins s σ H (fun vs H1=>∃ds G1,Hvs X.K H1 ds vs/\Step H G H1 G1/\RepG X.K G1 H1/\sp (ds.map (shw G1)) (toldL G1 Q3) (KX τ G1)) (I.wish _)
  ⟨τ,G,_,RS,RG,h,fun vs H1 ds G1 a b c q=>⟨ds,G1,a,b,c,q⟩⟩) (fun us s1 ⟨vs,H1,I1,r,ds,G1,hd,S1,R1,q⟩=>⟨I1.kIn,?_⟩) fun _ _ z=>False.elim z) (qlz he) (qzz hpl)
 exact qjmz F hr hb (fun ev s' h=>xx σ τ H1 s1 G1 ev s' I1.unwish (RS.ext (S1.ext RG)) R1 S1 h) I1.unwish r hd R1 q fun v H' d G' a b c q=>kk v H' d G' a (S1.trans b) c q
end
end L3
namespace L3
open PySem PySem.Spec PyProof.Rows L2
section
variable {X:Cx} {k:Nat} {f:Addr} {fd:FuncData} {ps:List Str} {sp:SpX} {E':E3} {x:Str} {p pos:Pos} {e:Expr} {es:List Expr} {t:TA3}
theorem qehz(F:FnX X.prog X.w X.K X.mg X.base k f fd ps sp)(hr:Room k X.A)(hx:Passes (CXE X.prog X.w X.base) X (lowE X.K E'))(hm:X.mg x=some (.ref f))(hk:PySem.W.keepIn X.K (.ref f)=true)(hb:Binds X.K fd ps [])(ha:QA X (e::es) t)(hg:Gl X x:=by rfl)
  (hdb:(x==("__debug__":Str))=false:=by decide) (he:notStar e=true:=by rfl) (hpl:es.all notStar=true:=by rfl):QE X (.Call (.Name x p) (e::es) [] pos) (eCallL sp E' t):=⟨qupz F hr hx hm hk hb ha.of hg hdb he hpl⟩
theorem qurz(F:FnX X.prog X.w X.K X.mg X.base k f fd ps sp)(hr:Room k X.A)(hm:X.mg x=some (.ref f))(hk:PySem.W.keepIn X.K (.ref f)=true)(hb:Binds X.K fd ps [])(ha:QA X.nox (e::es) t)(hg:Gl X x:=by rfl)
  (hdb:(x==("__debug__":Str))=false:=by decide) (he:notStar e=true:=by rfl) (hpl:es.all notStar=true:=by rfl):QEX X (.Call (.Name x p) (e::es) [] pos) (exCallL sp t):=⟨quqz F hr hm hk hb ha.of hg hdb he hpl⟩
end
end L3
namespace My
open PySem L2 L3
def okS:D->Bool
 |.int i=>decide (2≤i)&&decide (i≤24)
 |_=>false
def stB:D->Bool
 |.scr xs=>(decide (1≤xs.length)&&decide (xs.length≤6))&&xs.all okS
 |_=>false
def notO:D->Prop
 |.obj _=>False
 |_=>True
theorem notO.known{G:Gp}{d:D}(h:notO d):Known G d:=by
 cases d with
 |obj a=>exact h.elim
 |_=>trivial
def KnS(d:D):Prop:=notO d/\∀xs,d=.scr xs->∀x∈xs,notO x
def qc7z:Sp3:=fun ds G Q=>∃d:D,ds=[d]/\KnS d/\Q (.bl (stB d)) G
abbrev qjnz:=qr6z
theorem qusz:∀ds G Q,qc7z ds G Q->qjnz (endsOf Q) (start3 ["thing"] ds) G:=by
 rintro ds G Q ⟨d,rfl,hk,q⟩;cases d with
 |scr xs=>
  refine⟨nofun,fun _=>⟨fun h=>⟨fun h2=>?_,fun h2=>?_⟩,fun h=>?_⟩⟩
  ·have h':(!(decide (((xs.length:Nat):Int)≤6)))=true:=h2;have e:stB (.scr xs)=false:=by
    have:decide (xs.length≤6)=false:=by
     rw[decide_eq_false_iff_not];intro z;rw[decide_eq_true (by lia)] at h';cases h'
    show ((_&&decide (xs.length≤6))&&_)=false;rw[this,Bool.and_false,Bool.false_and]
   rw[e] at q;exact qgz q
  ·have h1:(1:Int)≤((xs.length:Nat):Int):=of_decide_eq_true h;have h':(!(decide (((xs.length:Nat):Int)≤6)))=false:=h2;have l6:xs.length≤6:=by
    refine Nat.le_of_not_lt fun z=>?_;rw[decide_eq_false (by lia)] at h';cases h'
   refine⟨by show xs.length≤sizeLine;exact line1000 (by lia),?_⟩;show compGo _ _ _ _ _ xs _ _ _;rw[←List.map_id xs];refine qaaz (fun τ=>∃x,τ=[x]) id (fun _=>true) (fun x=>.bl (okS x)) (G:=G) trivial xs [] _ ⟨none,rfl⟩ ?_ ?_
   ·rintro x hm τ K1 K2 ⟨y,rfl⟩ g1 g2;have hn:=hk.2 xs rfl x hm;have k:=g1 rfl [some x] ⟨_,rfl⟩;refine⟨fun _=>⟨hn.known,?_⟩,nofun⟩;cases x with
    |int i=>
     refine⟨fun _=>⟨fun a=>?_,fun a=>?_⟩,nofun⟩
     ·have e:okS (.int i)=decide (i≤24):=by
       show (decide (2≤i)&&decide (i≤24))=_;rw[show decide (2≤i)=true from a,Bool.true_and]
      rw[e] at k;exact k
     ·have e:okS (.int i)=false:=by
       show (decide (2≤i)&&decide (i≤24))=_;rw[show decide (2≤i)=false from a,Bool.false_and]
      rw[e] at k;exact k
    |obj a=>exact hn.elim
    |_=>exact⟨nofun,fun _=>k⟩
   ·intro p1 G1 n1;rw[filter_all,List.nil_append] at n1;refine⟨_,_,n1.at_,qc0z okS xs,?_⟩;have e:stB (.scr xs)=(xs.map okS).all id:=by
     show ((decide (1≤xs.length)&&decide (xs.length≤6))&&xs.all okS)=_;rw[decide_eq_true (by lia),decide_eq_true l6,List.all_map];rfl
    rw[e] at q;exact qatz n1.sub q
  ·have h':decide ((1:Int)≤((xs.length:Nat):Int))=false:=h;have e:stB (.scr xs)=false:=by
    show ((decide (1≤xs.length)&&_)&&_)=false;rw[decide_eq_false (by rw[decide_eq_false_iff_not] at h';lia),Bool.false_and,Bool.false_and]
   rw[e] at q;exact⟨fun _=>qgz q,nofun⟩
 |obj a=>exact hk.1.elim
 |_=>exact⟨fun _=>⟨fun _=>qgz q,nofun⟩,nofun⟩
def qc8z:SpX:=fun ds Q E=>∃d:D,ds=[d]/\KnS d/\(stB d=true->Q .non noG)/\(stB d=false->E "NoNumber" [])
def qjoz(E:E3):TS3:=sIf (eNot (eTest (eCall qc7z (aCons (eVar 0) (aNil))))) (sRaise0 "NoNumber" E) (sNext)
theorem qutz:∀ds Q E,qc8z ds Q E->qjoz E (endsOf Q) (start3 ["thing"] ds) noG:=by
 rintro ds Q E ⟨d,rfl,hk,q1,q2⟩;refine⟨d,rfl,hk,fun h=>?_,fun h=>?_⟩
 ·exact q2 (by simpa using h)
 ·exact qgz (q1 (by simpa using h))
def qc9z:Sp3:=fun ds G Q=>∃(d:D) (ns:List Nat),ds=[d]/\(∀es,d≠.tup es)/\seqD G d (ns.map nD)/\(∀n∈ns,0<n/\n≤1000)/\ns.length≤20/\Q (.int (lcmF ns 1:Nat)) G
abbrev qjpz:=qirz
theorem quuz:∀ds G Q,qc9z ds G Q->qjpz (endsOf Q) (start3 ["numbers","least","number"] ds) G:=by
 rintro ds G Q ⟨d,ns,rfl,ht,hd,ok,hl,q⟩;cases d with
 |obj p=>exact qrvz _ _ _ ⟨p,ns,rfl,hd,ok,hl,q⟩
 |scr es=>
  have hd:ns.map nD=es:=hd;subst hd;refine qamz (fun ds τ G'=>G'=G/\∃(zs:List Nat) (a:Nat) (x2:Option D),ds=zs.map nD/\τ=[some (.scr (ns.map nD)),some (.int a),x2]/\(∀n∈zs,0<n/\n≤1000)/\0<a/\a*1000^zs.length≤1000^20/\lcmF zs a=lcmF ns 1) (fun _ _ _ _=>trivial) ?_ ?_ _ _ _ ⟨rfl,ns,1,none,rfl,rfl,ok,by decide,?_,rfl⟩
  ·rintro d ds τ G' N ⟨rfl,zs,a,x2,e,rfl,okz,ha,hb,hr⟩ hN;cases zs with
   |nil=>cases e
   |cons n zs=>
    cases e;obtain⟨hs1,hs2⟩:=okz _ List.mem_cons_self;have hg:0<Nat.gcd a n:=Nat.gcd_pos_of_pos_left _ ha;have hga:Nat.gcd a n≤a:=Nat.le_of_dvd ha (Nat.gcd_dvd_left _ _);have ha20:a≤1000^20:=Nat.le_trans (Nat.le_mul_of_pos_right _ (Nat.pow_pos (by decide))) hb;have hbig:∀k:Nat,k≤1000^20->Big (k:Int):=fun k hk=>qfgz (Nat.lt_of_le_of_lt hk (by decide));refine⟨a,n,rfl,⟨by lia,hbig _ (Nat.le_trans hga ha20)⟩,⟨hbig _ ha20,?_⟩,?_⟩
    ·show Big ((n:Int) / (Nat.gcd a n:Nat));rw[←Int.natCast_ediv];exact hbig _ (Nat.le_trans (Nat.div_le_self _ _) (Nat.le_trans hs2 (by decide)))
    have el:a*(n / Nat.gcd a n)=Nat.lcm a n:=by
     unfold Nat.lcm;rw[Nat.mul_div_assoc a (Nat.gcd_dvd_right a n)]
    refine hN _ _ ⟨rfl,zs,Nat.lcm a n,some (nD n),rfl,?_,fun c hc=>okz c (List.mem_cons_of_mem _ hc),Nat.lcm_pos ha (by lia),?_,hr⟩
    ·show [some (D.scr (ns.map nD)),some (D.int ((a:Int)*((n:Int) / (Nat.gcd a n:Nat)))),_]=_;rw[←Int.natCast_ediv,←Int.natCast_mul,el]
    ·refine Nat.le_trans ?_ hb;rw[List.length_cons,Nat.pow_succ,Nat.mul_comm (1000^zs.length) 1000,←Nat.mul_assoc];refine Nat.mul_le_mul_right _ ?_;have:Nat.lcm a n≤a*n:=Nat.le_of_dvd (Nat.mul_pos ha (by lia)) (Nat.lcm_dvd (Nat.dvd_mul_right _ _) (Nat.dvd_mul_left _ _));exact Nat.le_trans this (Nat.mul_le_mul_left _ (by lia))
  ·rintro τ G' ⟨rfl,zs,a,x2,e,rfl,okz,ha,hb,hr⟩;have:zs=[]:=by cases zs with
    |nil=>rfl
    |cons z zs=>cases e
   subst this;have hr':a=lcmF ns 1:=hr;rw[←hr'] at q;exact qgz q
  ·rw[Nat.one_mul];exact Nat.pow_le_pow_right (by decide) hl
 |tup es=>exact absurd rfl (ht es)
 |_=>exact hd.elim
abbrev stD(ns:List Int):D:=.scr (ns.map D.int)
structure St(ns:List Int):Prop where
 l1:1≤ns.length
 l6:ns.length≤6
 st:∀n∈ns,2≤n/\n≤24
def rndS(ns:List Int):Nat:=lcmF (ns.map Int.toNat) 1
theorem quvz{ns:List Int}(h:∀n∈ns,2≤n/\n≤24):ns.map D.int=(ns.map Int.toNat).map nD:=by
 rw[List.map_map];refine List.map_congr_left fun n hn=>?_;have:=h n hn;show D.int n=D.int ((n.toNat:Nat):Int);rw[Int.toNat_of_nonneg (by lia)]
def qdaz:Sp3:=fun ds G Q=>∃(d:D) (ns:List Int) (rs:List (Option Int)),ds=[stD ns,d]/\seqD G d (rs.map rD)/\ns.length≤1000/\Q (csD (setC ns rs)) G
abbrev qjqz:=qr2z
theorem quwz:∀ds G Q,qdaz ds G Q->qjqz (endsOf Q) (start3 ["steps","rests"] ds) G:=by
 rintro ds G Q ⟨d,ns,rs,rfl,hq,hl,k⟩;refine⟨ns.map D.int,rs.map rD,rfl,hq,?_⟩;rw[qedz D.int rD ns rs];refine⟨?_,?_⟩
 ·show ((ns.zip rs).map _).length≤sizeLine;rw[List.length_map,List.length_zip];exact line1000 (by lia)
 refine qaaz (fun τ=>∃x y,τ=[x,y]) (fun p:Int×Option Int=>D.tup [.int p.1,rD p.2]) (fun p=>p.2.isSome) (fun p=>cD (p.1,p.2.getD 0)) (G:=G) ⟨rfl,hq⟩ (ns.zip rs) [] _ ⟨none,none,rfl⟩ ?_ ?_
 ·rintro⟨s,r⟩ hm τ K1 K2 ⟨x,y,rfl⟩ h1 h2;cases r with
  |none=>exact⟨rfl,nofun,fun _=>h2 rfl _ ⟨_,_,rfl⟩⟩
  |some r=>exact⟨rfl,fun _=>h1 rfl _ ⟨_,_,rfl⟩,nofun⟩
 ·intro p1 G1 n1;rw[List.nil_append,qfhz] at n1;exact⟨_,n1.at_,qatz n1.sub k⟩
def qdbz:Sp3:=fun ds G Q=>∃n:Nat,ds=[.int n]/\n≤60/\Q (.int ((2^n:Nat):Int)) G
def quxz:TS3:=sAug 1 (eVar 1) rIAdd3
def quyz:TS3:=sRet (eVar 1)
def quzz:TS3:=sSeq (sFor (iRng1 (aCons (eVar 0) (aNil))) (hName 2) (quxz)) quyz
def qjrz:TS3:=sSeq (sAsg (eC (.int 1)) (hName 1)) quzz
theorem qu0z:∀ds G Q,qdbz ds G Q->qjrz (endsOf Q) (start3 ["times","number","turn"] ds) G:=by
 rintro ds G Q ⟨n,rfl,hn,q⟩;refine⟨⟨by lia,by lia⟩,?_⟩;show forGo _ _ _ _ (rngL 0 ((n:Int)).toNat) _ _;rw[Int.toNat_natCast,rng0];refine qamz (fun ds τ G'=>G'=G/\∃(k:Nat) (x2:Option D),ds.length+k=n/\τ=[some (.int n),some (.int ((2^k:Nat):Int)),x2]) (fun _ _ _ _=>trivial) ?_ ?_ _ _ _ ⟨rfl,0,none,by simp,rfl⟩
 ·rintro d ds τ G' N ⟨rfl,k,x2,hk,rfl⟩ hN;refine hN _ _ ⟨rfl,k+1,some d,by simp at hk;lia,?_⟩;show [some (D.int n),some (D.int (((2^k:Nat):Int)+((2^k:Nat):Int))),_]=_;rw[show ((2^k:Nat):Int)+((2^k:Nat):Int)=((2^(k+1):Nat):Int) by rw[Nat.pow_succ];lia]
 ·rintro τ G' ⟨rfl,k,x2,hk,rfl⟩;have:k=n:=by simpa using hk
  rw[this];exact qgz q
def qdcz:Sp3:=fun ds G Q=>∃cs:List Clk,ds=[csD cs]/\cs.length≤60/\Q (.int ((2^cs.length:Nat):Int)) G
def qjsz:TS3:=sRet (eCall qdbz (aCons (eCB qyz (aCons (eVar 0) (aNil))) (aNil)))
theorem qu1z:∀ds G Q,qdcz ds G Q->qjsz (endsOf Q) (start3 ["clocks"] ds) G:=by
 rintro ds G Q ⟨cs,rfl,hl,q⟩;refine⟨cs.length,?_,hl,qgz q⟩;show [D.int (((cs.map cD).length:Nat):Int)]=_;rw[List.length_map]
def qddz:Sp3:=fun ds G Q=>∃cs:List Clk,ds=[csD cs,.int 0]/\(∀c∈cs,0<c.1)/\cs.length≤6/\Q (oN (nmO cs)) G
def qu2z:TS3:=sIf (eTest (eOp (rEq3 false) (eCall qcxz (aCons (eVar 0) (aCons (eVar 2) (aNil)))) (eLst (aNil)))) (sRet (eVar 2)) (sNext)
def qu3z:TS3:=sRet (eC .non)
def qu4z:TS3:=sSeq (sFor (iRng2 (aCons (eVar 1) (aCons (eOp rAdd3 (eVar 1) (eCall qdcz (aCons (eVar 0) (aNil)))) (aNil)))) (hName 2) (qu2z)) qu3z
def qjtz:TS3:=sSeq (sDrop (eCall qc2z (aCons (eCB qyz (aCons (eVar 0) (aNil))) (aCons (eC (.int 10)) (aNil))))) qu4z
theorem qu5z:∀ds G Q,qddz ds G Q->qjtz (endsOf Q) (start3 ["clocks","number","looked"] ds) G:=by
 rintro ds G Q ⟨cs,rfl,hp,hl,q⟩;have hlm:(((cs.map cD).length:Nat):Int)=(cs.length:Nat):=by rw[List.length_map]
 refine⟨_,_,rfl,?_,cs,rfl,by lia,?_⟩
 ·show (((cs.map cD).length:Nat):Int)≤10;lia
 have h64:2^cs.length≤2^6:=Nat.pow_le_pow_right (by decide) hl;have h64:2^cs.length≤64:=h64;have q:Q (oN ((List.range (2^cs.length)).find? fun x=>cntN cs x==0)) G:=q;generalize 2^cs.length=N at h64 q ⊢;refine⟨⟨by lia,by lia,by lia,by lia⟩,?_⟩;show forGo _ _ _ _ (rngL 0 (0+(N:Int)-0).toNat) _ _;rw[show (0+(N:Int)-0).toNat=N by lia,rng0];refine qamz (fun ds τ G'=>Sub G G'/\∃(xs:List Nat) (x2:Option D),ds=xs.map nD/\τ=[some (csD cs),some (.int 0),x2]/\xs.find? (fun x=>cntN cs x==0)=(List.range N).find? fun x=>cntN cs x==0) (fun _ _ _ _=>trivial) ?_ ?_ _ _ _ ⟨Sub.refl _,List.range N,none,rfl,rfl,rfl⟩
 ·rintro d ds τ G' N' ⟨s1,xs,x2,e,rfl,hf⟩ hN;cases xs with
  |nil=>cases e
  |cons x xs=>
   cases e;refine⟨cs,(x:Int),rfl,hp,by lia,fun p2 G2 n2 p3 G3 n3=>?_⟩;refine⟨_,_,qbhz (n3.sub _ _ n2.at_) (qebz _),qbhz n3.at_ rfl,qfdz _,fun h=>?_,fun h=>?_⟩
   ·have h':(Dat.D.lst ((cs.filter (rg (x:Int))).map cX)).eqb (.lst [])=true:=h;rw[qb7z] at h';have h0:(cntN cs x==0)=true:=by
     unfold cntN;cases e2:cs.filter (rg (x:Int)) with
     |nil=>rfl
     |cons a l=>rw[e2] at h';cases h'
    rw[List.find?_cons_of_pos (by exact h0)] at hf;rw[←hf] at q;exact qatz ((s1.trans n2.sub).trans n3.sub) q
   ·have h':(Dat.D.lst ((cs.filter (rg (x:Int))).map cX)).eqb (.lst [])=false:=h;rw[qb7z] at h';have h0:(cntN cs x==0)=false:=by
     unfold cntN;cases e2:cs.filter (rg (x:Int)) with
     |nil=>rw[e2] at h';cases h'
     |cons a l=>rfl
    rw[List.find?_cons_of_neg (by rw[h0];decide)] at hf;exact hN _ _ ⟨(s1.trans n2.sub).trans n3.sub,xs,_,rfl,rfl,hf⟩
 ·rintro τ G' ⟨s1,xs,x2,e,rfl,hf⟩;cases xs with
  |cons x xs=>cases e
  |nil=>
   rw[←hf] at q;exact qatz s1 q
def qdez:Sp3:=fun ds G Q=>∃(d:D) (ns:List Int) (rs:List (Option Int)),ds=[stD ns,d]/\seqD G d (rs.map rD)/\(∀n∈ns,0<n)/\ns.length≤6/\Q (.bl (nmO (setC ns rs)).isNone) G
def qjuz:TS3:=sRet (eOp (rIs3 false) (eCall qddz (aCons (eCall qdaz (aCons (eVar 0) (aCons (eVar 1) (aNil)))) (aCons (eC (.int 0)) (aNil)))) (eC .non))
theorem qu6z{ns:List Int}{rs:List (Option Int)}(h:∀n∈ns,0<n):∀c∈setC ns rs,0<c.1:=fun c hc=>by
 obtain⟨k,h1,_⟩:=mem_setC.mp hc;exact h _ (List.mem_of_getElem? h1)
theorem qu7z:∀ds G Q,qdez ds G Q->qjuz (endsOf Q) (start3 ["steps","rests"] ds) G:=by
 rintro ds G Q ⟨d,ns,rs,rfl,hd,hp,hl,q⟩;have:=qssz ns rs;refine⟨d,ns,rs,rfl,hd,by lia,setC ns rs,rfl,qu6z hp,by lia,?_⟩;have e:isNon (oN (nmO (setC ns rs)))=(nmO (setC ns rs)).isNone:=by cases nmO (setC ns rs)<;>rfl
 show (endsOf Q).rt (.bl (isNon (oN (nmO (setC ns rs))))) G;rw[e];exact qgz q
end My
namespace L3
open PySem PySem.Spec PyProof.Rows L2
open Sem (wp)
def IsZipN(h:Heap)(z TI TO:Addr)(a:Nat)(b:Bool):Prop:=
 h.get? z=some { cls:=.type "zip",dict:=none,data:=.fields #[rawInt a,.bool b,.bool false,.ref TI,.ref TO],slots:=#[]}
section
variable {P:Program} {w:World} {A:Around} {E:Value->Shared->Prop} {s:Shared}
theorem qu8z{a:Addr}{o:Obj}{Q:Option Obj->Shared->Prop}(ho:s.heap.get? a=some o)(h:Q (some o) s):wpAny (model P w) A (loadIfAlive a) Q E s:=by
 have h':Q (s.heap.get? a) s:=by rw[ho];exact h
 exact fun _ _ _=>h'
theorem qjvz{zz ti ot a:Addr}{b:Bool}{oa:Obj}{Q:Bool->Shared->Prop}(Z:IsZipN s.heap zz ti ot a b)(ha:s.heap.get? a=some oa)
  (q:∀h',IsZipN h' zz ti ot a true->Heap.SameBut zz s.heap h'->Q false { s with heap:=h' }):wpAny (model P w) A (Builtin.SmallTypes.ownedTupleIsFree (.ref zz)) Q E s:=by
 unfold IsZipN at Z;unfold Builtin.SmallTypes.ownedTupleIsFree;refine wpAny_bind (wpAny_field Z rfl (x:=rawInt a) rfl ?_);show wpAny _ _ (loadIfAlive ((a:Int).toNat) >>= _) _ _ _;rw[Int.toNat_natCast];refine wpAny_bind (qu8z ha ?_);simp only[Option.isNone_some,Bool.false_eq_true,if_false];refine wpAny_bind (wpAny_field Z rfl (x:=.bool b) rfl ?_);cases b with
 |true=>
  rw[if_neg (show ¬((Value.bool true != Value.bool true)=true) from Bool.false_ne_true)];exact wpAny_pure (q s.heap Z (Heap.SameBut.refl _ _))
 |false=>
  rw[if_pos (show (Value.bool false != Value.bool true)=true from rfl)];refine wpAny_bind (wpAny_setField_rec Z (by simp) fun h₃ he₃ hs₃=>?_);exact wpAny_pure (q h₃ he₃ hs₃)
theorem zipN{k1 k2:Bool}{zz ti ot j1 j2 a1 a2 a:Addr}{b:Bool}{oa:Obj}{m n:Nat}{xs ys:Array Value}{u v:Value}{Q:Value->Shared->Prop}(D:ZipApart zz ti ot j1 j2 a1 a2)
  (Z:IsZipN s.heap zz ti ot a b) (ha:s.heap.get? a=some oa) (Ti:IsPair s.heap ti (.ref j1) (.ref j2)) (g1:Ik k1 s.heap j1 a1 m) (g2:Ik k2 s.heap j2 a2 n) (s1:Sk k1 s.heap a1 xs) (s2:Sk k2 s.heap a2 ys) (hu:xs[m]?=some u) (hv:ys[n]?=some v)
  (q:∀h',IsZipN h' zz ti ot a true->Ik k1 h' j1 a1 (m+1)->Ik k2 h' j2 a2 (n+1)->IsPair h' s.heap.objs.size u v ->
   (∀b o,b≠zz->b≠ot->b≠j1->b≠j2->s.heap.get? b=some o->h'.get? b=some o)->Q (.ref s.heap.objs.size) { s with heap:=h' }):
  wpAny (model P w) A (Builtin.«zip.__next__» ⟨[.ref zz],[]⟩) (fun fin s'=>∃r,fin=.done (.ret r)/\Q r s') E s:=by
 have Z0:=Z;unfold IsZipN at Z0;show wpAny _ _ (field (.ref zz) 2 >>= _) _ _ _;refine wpAny_bind (wpAny_field Z0 rfl (x:=.bool false) rfl ?_);show wpAny _ _ (field (.ref zz) 3 >>= _) _ _ _;refine wpAny_bind (wpAny_field Z0 rfl (x:=.ref ti) rfl ?_);refine wpAny_bind (wpAny_seqItems Ti rfl ?_);show wpAny _ _ (Builtin.SmallTypes.ownedTupleIsFree (.ref zz) >>= _) _ _ _;refine wpAny_bind (qjvz Z ha fun w1 Z1 b1=>?_);have k1_:∀b o,b≠zz->s.heap.get? b=some o->w1.get? b=some o:=fun b o h e=>b1.extBut b o h e;simp only[Bool.false_eq_true,if_false];refine wpAny_bind ?_;rw[←Array.forIn_toList];simp only[List.forIn_nil,List.forIn_cons];refine wpAny_bind (wpAny_bind (wpAny_holding ?_));show wpAny _ _ (Builtin.SmallTypes.nextOf (.ref j1) >>= _) _ _ _;refine wpAny_bind (nextK (g1.of fun o e=>k1_ _ o D.i1z e) (s1.of fun o e=>k1_ _ o D.l1z e) hu fun w2 J1 b2=>wpAny_pure ?_);have k2_:∀b o,b≠zz->b≠j1->s.heap.get? b=some o->w2.get? b=some o:=fun b o h h2 e=>b2.extBut b o h2 (k1_ b o h e);refine wpAny_pure ?_;refine wpAny_bind (wpAny_bind (wpAny_holding ?_));show wpAny _ _ (Builtin.SmallTypes.nextOf (.ref j2) >>= _) _ _ _;refine wpAny_bind (nextK (g2.of fun o e=>k2_ _ o D.i2z D.i12.symm e) (s2.of fun o e=>k2_ _ o D.l2z D.l2i1 e) hv fun w3 J2 b3=>wpAny_pure ?_);refine wpAny_pure (wpAny_pure ?_);refine wpAny_bind (wpAny_newTuple (hsz:=by show 2≤sizeLine;decide) ?_);have sz:w3.objs.size=s.heap.objs.size:=by rw[b3.1,b2.1,b1.1]
 refine wpAny_pure ⟨_,rfl,?_⟩;show Q (.ref w3.objs.size) _;have T8:IsPair (w3.push { cls:=.type "tuple",data:=.seq #[u,v]}) w3.objs.size u v:=Heap.get?_push_size _ rfl;rw[sz] at T8 ⊢;have Z3:IsZipN w3 zz ti ot a true:=b3.extBut _ _ D.i2z.symm (b2.extBut _ _ D.i1z.symm Z1);exact q _ (Heap.get?_push_of_some _ Z3) (J1.of fun o e=>Heap.get?_push_of_some _ (b3.extBut _ _ D.i12 e)) (J2.of fun o e=>Heap.get?_push_of_some _ e) T8 fun b o c1 c2 c3 c4 e=>Heap.get?_push_of_some _ (b3.extBut _ _ c4 (k2_ b o c1 c3 e))
theorem qu9z{k1 k2:Bool}{zz ti ot j1 j2 a1 a2 a:Addr}{b:Bool}{oa:Obj}{m n:Nat}{xs ys:Array Value}{Q:Fin->Shared->Prop}(hh:A.handled=none)(D:ZipApart zz ti ot j1 j2 a1 a2)
  (Z:IsZipN s.heap zz ti ot a b) (ha:s.heap.get? a=some oa) (Ti:IsPair s.heap ti (.ref j1) (.ref j2)) (g1:Ik k1 s.heap j1 a1 m) (g2:Ik k2 s.heap j2 a2 n) (s1:Sk k1 s.heap a1 xs) (s2:Sk k2 s.heap a2 ys) (he:xs[m]?=none∨ys[n]?=none)
  (q:∀h' e,(∀b o,b≠zz->b≠ot->b≠j1->b≠j2->s.heap.get? b=some o->h'.get? b=some o)->(∃o,h'.get? e=some o/\o.cls=.type "StopIteration")->E (.ref e) { s with heap:=h' }):
  wpAny (model P w) A (Builtin.«zip.__next__» ⟨[.ref zz],[]⟩) Q E s:=by
 have Z0:=Z;unfold IsZipN at Z0;show wpAny _ _ (field (.ref zz) 2 >>= _) _ _ _;refine wpAny_bind (wpAny_field Z0 rfl (x:=.bool false) rfl ?_);show wpAny _ _ (field (.ref zz) 3 >>= _) _ _ _;refine wpAny_bind (wpAny_field Z0 rfl (x:=.ref ti) rfl ?_);refine wpAny_bind (wpAny_seqItems Ti rfl ?_);show wpAny _ _ (Builtin.SmallTypes.ownedTupleIsFree (.ref zz) >>= _) _ _ _;refine wpAny_bind (qjvz Z ha fun w1 Z1 b1=>?_);have k1_:∀b o,b≠zz->s.heap.get? b=some o->w1.get? b=some o:=fun b o h e=>b1.extBut b o h e;simp only[Bool.false_eq_true,if_false];refine wpAny_bind ?_;rw[←Array.forIn_toList];simp only[List.forIn_nil,List.forIn_cons];refine wpAny_bind (wpAny_bind (wpAny_holding ?_));show wpAny _ _ (Builtin.SmallTypes.nextOf (.ref j1) >>= _) _ _ _;cases hx:xs[m]? with
 |none=>
  exact wpAny_bind (qd5z hh (g1.of fun o e=>k1_ _ o D.i1z e) (s1.of fun o e=>k1_ _ o D.l1z e) hx fun w2 e b2 hs=>q w2 e (fun b o c1 _ c3 _ x=>b2 _ _ c3 (k1_ b o c1 x)) hs)
 |some u=>
  have hy:ys[n]?=none:=by
   rcases he with h|h
   ·rw[hx] at h;cases h
   ·exact h
  refine wpAny_bind (nextK (g1.of fun o e=>k1_ _ o D.i1z e) (s1.of fun o e=>k1_ _ o D.l1z e) hx fun w2 J1 b2=>wpAny_pure ?_);have k2_:∀b o,b≠zz->b≠j1->s.heap.get? b=some o->w2.get? b=some o:=fun b o h h2 e=>b2.extBut b o h2 (k1_ b o h e);refine wpAny_pure ?_;refine wpAny_bind (wpAny_bind (wpAny_holding ?_));show wpAny _ _ (Builtin.SmallTypes.nextOf (.ref j2) >>= _) _ _ _;exact wpAny_bind (qd5z hh (g2.of fun o e=>k2_ _ o D.i2z D.i12.symm e) (s2.of fun o e=>k2_ _ o D.l2z D.l2i1 e) hy fun w3 e b3 hs=>q w3 e (fun b o c1 _ c3 c4 x=>b3 _ _ c4 (k2_ b o c1 c3 x)) hs)
structure ZS(k1 k2:Bool)(zz ti ot j1 j2 a1 a2 S:Addr)(xs ys:Array Value)(h:Heap)(i:Nat):Prop where
 z:(i=0/\IsZip h zz ti ot .none/\∃c d,IsPair h ot c d)∨∃a b oa,IsZipN h zz ti ot a b/\h.get? a=some oa/\S<a
 t:IsPair h ti (.ref j1) (.ref j2)
 g1:Ik k1 h j1 a1 i
 g2:Ik k2 h j2 a2 i
 s1:Sk k1 h a1 xs
 s2:Sk k2 h a2 ys
structure Below(zz ti ot j1 j2 a1 a2 S:Addr):Prop where
 z:zz<S
 t:ti<S
 o:ot<S
 i1:j1<S
 i2:j2<S
 l1:a1<S
 l2:a2<S
theorem ZS.keep{k1 k2:Bool}{zz ti ot j1 j2 a1 a2 S:Addr}{xs ys:Array Value}{h h':Heap}{i:Nat}(x:ZS k1 k2 zz ti ot j1 j2 a1 a2 S xs ys h i)(B:Below zz ti ot j1 j2 a1 a2 S)(k:∀b o,b≠S->h.get? b=some o->h'.get? b=some o):ZS k1 k2 zz ti ot j1 j2 a1 a2 S xs ys h' i:=by
 obtain⟨hz,ht,hg1,hg2,hs1,hs2⟩:=x;refine⟨?_,k _ _ (Nat.ne_of_lt B.t) ht,hg1.of fun o e=>k _ _ (Nat.ne_of_lt B.i1) e,hg2.of fun o e=>k _ _ (Nat.ne_of_lt B.i2) e,hs1.of fun o e=>k _ _ (Nat.ne_of_lt B.l1) e,hs2.of fun o e=>k _ _ (Nat.ne_of_lt B.l2) e⟩;rcases hz with⟨e0,e1,c,d,e2⟩|⟨a,b,oa,e1,e2,e3⟩
 ·exact .inl ⟨e0,k _ _ (Nat.ne_of_lt B.z) e1,c,d,k _ _ (Nat.ne_of_lt B.o) e2⟩
 ·exact .inr ⟨a,b,oa,k _ _ (Nat.ne_of_lt B.z) e1,k _ _ (Nat.ne_of_gt e3) e2,e3⟩
theorem qvaz{k1 k2:Bool}{zz ti ot j1 j2 a1 a2 S:Addr}{xs ys:Array Value}{i:Nat}{u v:Value}{Q:Option Value->Shared->Prop}(D:ZipApart zz ti ot j1 j2 a1 a2)(B:Below zz ti ot j1 j2 a1 a2 S)(st:ZS k1 k2 zz ti ot j1 j2 a1 a2 S xs ys s.heap i)(hS:S<s.heap.objs.size)
  (hu:xs[i]?=some u) (hv:ys[i]?=some v)
  (q:∀h',ZS k1 k2 zz ti ot j1 j2 a1 a2 S xs ys h' (i+1)->IsPair h' s.heap.objs.size u v->(∀b o,b≠zz->b≠ot->b≠j1->b≠j2->s.heap.get? b=some o->h'.get? b=some o)->Q (some (.ref s.heap.objs.size)) { s with heap:=h' }):
  wpAny (model P w) A (pyNext (.ref zz)) Q E s:=by
 obtain⟨hz,ht,hg1,hg2,hs1,hs2⟩:=st;unfold pyNext;rcases hz with⟨rfl,Z,c,d,To⟩|⟨a,b,oa,Z,ha,hSa⟩
 ·have hT:s.TypeIs (.ref zz) "zip":=⟨_,Z,rfl⟩;refine wpAny_bind (wpAny_attempt (wpAny_callSpecial?_slot (name:=Str.ofString "__next__") hT F.slot_zip_next (wpAny_call_entry F.slot_zip_next hT F.entry_zip_next (zipK D Z ht To hg1 hg2 hs1 hs2 hu hv fun h' Z' To' g1' g2' T' kp=>?_) (F.args_zip_next_1 _))));exact wpAny_pure (q h' ⟨.inr ⟨_,false,_,Z',T',hS⟩,kp _ _ D.TIz D.TITO D.TIi1 D.TIi2 ht,g1',g2',hs1.of fun o e=>kp _ _ D.l1z D.l1TO D.l1i1 D.l1i2 e,hs2.of fun o e=>kp _ _ D.l2z D.l2TO D.l2i1 D.l2i2 e⟩ T' kp)
 ·have hT:s.TypeIs (.ref zz) "zip":=⟨_,Z,rfl⟩;refine wpAny_bind (wpAny_attempt (wpAny_callSpecial?_slot (name:=Str.ofString "__next__") hT F.slot_zip_next (wpAny_call_entry F.slot_zip_next hT F.entry_zip_next (zipN D Z ha ht hg1 hg2 hs1 hs2 hu hv fun h' Z' g1' g2' T' kp=>?_) (F.args_zip_next_1 _))));exact wpAny_pure (q h' ⟨.inr ⟨_,true,_,Z',kp _ _ (Nat.ne_of_gt (Nat.lt_trans B.z hSa)) (Nat.ne_of_gt (Nat.lt_trans B.o hSa)) (Nat.ne_of_gt (Nat.lt_trans B.i1 hSa)) (Nat.ne_of_gt (Nat.lt_trans B.i2 hSa)) ha,hSa⟩,kp _ _ D.TIz D.TITO D.TIi1 D.TIi2 ht,g1',g2',hs1.of fun o e=>kp _ _ D.l1z D.l1TO D.l1i1 D.l1i2 e,hs2.of fun o e=>kp _ _ D.l2z D.l2TO D.l2i1 D.l2i2 e⟩ T' kp)
theorem qvbz{k1 k2:Bool}{zz ti ot j1 j2 a1 a2 S:Addr}{xs ys:Array Value}{i:Nat}{Q:Option Value->Shared->Prop}(hh:A.handled=none)(D:ZipApart zz ti ot j1 j2 a1 a2)(st:ZS k1 k2 zz ti ot j1 j2 a1 a2 S xs ys s.heap i)(he:xs[i]?=none∨ys[i]?=none)
  (q:∀h',(∀b o,b≠zz->b≠ot->b≠j1->b≠j2->s.heap.get? b=some o->h'.get? b=some o)->Q none { s with heap:=h' }):
  wpAny (model P w) A (pyNext (.ref zz)) Q E s:=by
 obtain⟨hz,ht,hg1,hg2,hs1,hs2⟩:=st;unfold pyNext;rcases hz with⟨rfl,Z,c,d,To⟩|⟨a,b,oa,Z,ha,hSa⟩
 ·have hT:s.TypeIs (.ref zz) "zip":=⟨_,Z,rfl⟩;refine wpAny_bind (wpAny_attempt (wpAny_callSpecial?_slot (name:=Str.ofString "__next__") hT F.slot_zip_next (wpAny_call_entry F.slot_zip_next hT F.entry_zip_next (qh5z (A:=A.in1) hh D Z ht To hg1 hg2 hs1 hs2 he fun h' e kp hs=>?_) (F.args_zip_next_1 _))));obtain⟨o,ho,hcl⟩:=hs;refine wpAny_bind (wpAny_isInstance (T:="StopIteration") (b:=true) ⟨o,ho,hcl⟩ isSubtype_stop ?_);exact wpAny_pure (q h' kp)
 ·have hT:s.TypeIs (.ref zz) "zip":=⟨_,Z,rfl⟩;refine wpAny_bind (wpAny_attempt (wpAny_callSpecial?_slot (name:=Str.ofString "__next__") hT F.slot_zip_next (wpAny_call_entry F.slot_zip_next hT F.entry_zip_next (qu9z (A:=A.in1) hh D Z ha ht hg1 hg2 hs1 hs2 he fun h' e kp hs=>?_) (F.args_zip_next_1 _))));obtain⟨o,ho,hcl⟩:=hs;refine wpAny_bind (wpAny_isInstance (T:="StopIteration") (b:=true) ⟨o,ho,hcl⟩ isSubtype_stop ?_);exact wpAny_pure (q h' kp)
structure ZG(xs ys:Array Value)(lo:Addr)(h:Heap)(as:List Addr):Prop where
 rise:as.Pairwise (· < ·)
 above:∀a∈as,lo<a
 pairs:∀(j:Nat) (a:Addr),as[j]?=some a->∃u v,xs[j]?=some u/\ys[j]?=some v/\IsPair h a u v
theorem ZG.there{xs ys:Array Value}{lo:Addr}{h:Heap}{as:List Addr}(g:ZG xs ys lo h as){a:Addr}(ha:a∈as):a<h.objs.size:=by
 obtain⟨j,hj⟩:=List.mem_iff_getElem?.mp ha;obtain⟨_,_,_,_,e⟩:=g.pairs j a hj;exact Heap.lt_size e
end
section
variable {P:Program} {w:World} {A:Around} {s:Shared} {R:Result->Shared->Prop} {xs ys:Array Value} {k1 k2:Bool} {zz ti ot j1 j2 a1 a2 S:Addr}
theorem qvcz(hh:A.handled=none)(D:ZipApart zz ti ot j1 j2 a1 a2)(B:Below zz ti ot j1 j2 a1 a2 S)(hn:xs.size≤sizeLine)(res:Value){h₁:Heap}
  (hR:∀h' acc c as,(∀b o,b≠S->b≠zz->b≠ot->b≠j1->b≠j2->h₁.get? b=some o->h'.get? b=some o)->h'.get? S=some { cls:=.type "list",dict:=none,data:=.seq acc c,slots:=#[]}->as.length=min xs.size ys.size->ZG xs ys S h' as ->
   acc.toList=as.map Value.ref->R (.ok (.ret res)) { s with heap:=h' }):
  ∀(k i:Nat) (h:Heap) (c:Nat) (acc:Array Value) (as:List Addr),min xs.size ys.size-i=k->i≤min xs.size ys.size->ZS k1 k2 zz ti ot j1 j2 a1 a2 S xs ys h i->(∀b o,b≠S->b≠zz->b≠ot->b≠j1->b≠j2->h₁.get? b=some o->h.get? b=some o) ->
   h.get? S=some { cls:=.type "list",dict:=none,data:=.seq acc c,slots:=#[]}->acc.toList=as.map Value.ref->as.length=i->ZG xs ys S h as ->
   codeAny (model P w) A (.builtin "list.extend.loop" ⟨[.ref S,.ref zz,res],[]⟩) R { s with heap:=h }:=by
 have nz:=Nat.ne_of_gt B.z;have no:=Nat.ne_of_gt B.o;have n1:=Nat.ne_of_gt B.i1;have n2:=Nat.ne_of_gt B.i2;have ab:∀a,S<a->a≠zz/\a≠ot/\a≠j1/\a≠j2/\a≠S:=fun a ha=>⟨Nat.ne_of_gt (Nat.lt_trans B.z ha),Nat.ne_of_gt (Nat.lt_trans B.o ha),Nat.ne_of_gt (Nat.lt_trans B.i1 ha),Nat.ne_of_gt (Nat.lt_trans B.i2 ha),Nat.ne_of_gt ha⟩;intro k
 induction k with
 |zero=>
  intro i h c acc as hk hi hst hkeep hS hacc hal hG;have hin:i=min xs.size ys.size:=by omega
  refine codeAny_builtin F.entry_extend_loop ?_;rw[Around.under_plainId F.plain_extend_loop _];show wpAny _ A.in1 (pyNext (.ref zz) >>= _) _ _ _;refine wpAny_bind (qvbz (s:={ s with heap:=h }) (A:=A.in1) hh D hst ?_ fun h' kp=>?_)
  ·rcases Nat.lt_or_ge i xs.size with h1|h1
   ·exact .inr (Array.getElem?_eq_none (by omega))
   ·exact .inl (Array.getElem?_eq_none h1)
  refine wpAny_pure (hR h' acc c as (fun b o c0 c1 c2 c3 c4 e=>kp b o c1 c2 c3 c4 (hkeep b o c0 c1 c2 c3 c4 e)) (kp S _ nz no n1 n2 hS) (by omega) ⟨hG.rise,hG.above,fun j a hj=>?_⟩ hacc);obtain⟨u,v,e1,e2,e3⟩:=hG.pairs j a hj;obtain⟨d1,d2,d3,d4,_⟩:=ab a (hG.above a (List.mem_of_getElem? hj));exact⟨u,v,e1,e2,kp a _ d1 d2 d3 d4 e3⟩
 |succ k ih=>
  intro i h c acc as hk hi hst hkeep hS hacc hal hG;have hlt:i<min xs.size ys.size:=by omega
  obtain⟨u,hu⟩:∃p,xs[i]?=some p:=⟨xs[i]'(by omega),Array.getElem?_eq_getElem (by omega)⟩;obtain⟨v,hv⟩:∃p,ys[i]?=some p:=⟨ys[i]'(by omega),Array.getElem?_eq_getElem (by omega)⟩;have hsz:acc.size=i:=by rw[←Array.length_toList,hacc,List.length_map,hal]
  have hSl:S<h.objs.size:=Heap.lt_size hS;refine codeAny_builtin F.entry_extend_loop ?_;rw[Around.under_plainId F.plain_extend_loop _];show wpAny _ A.in1 (pyNext (.ref zz) >>= _) _ _ _;refine wpAny_bind (qvaz (s:={ s with heap:=h }) (A:=A.in1) D B hst hSl hu hv fun h' hst' ht hkp=>?_);dsimp only at ht hkp ⊢;have hS':=hkp S _ nz no n1 n2 hS;have up:∀b o,b≠S->h'.get? b=some o->(h'.update S (Obj.mapSeq (·.push (Value.ref h.objs.size)))).get? b=some o:=fun b o hb e=>(Heap.get?_update_other _ _ (Ne.symm hb)).trans e;show wpAny _ A.in1 (updateSeq S (·.push (Value.ref h.objs.size)) >>= _) _ _ _;refine wpAny_bind ?_;refine wpAny_updateSeq hS' rfl (wpAny_pure ⟨plainId_quiet F.plain_extend_loop _,ih (i+1) _ _ (acc.push (Value.ref h.objs.size)) (as++[h.objs.size]) (by omega) hlt (hst'.keep B up)
   (fun b o c0 c1 c2 c3 c4 e=>up b o c0 (hkp b o c1 c2 c3 c4 (hkeep b o c0 c1 c2 c3 c4 e))) (Heap.get?_update_self _ hS' rfl) (by rw[Array.toList_push,hacc,List.map_append];rfl) (by rw[List.length_append,hal];rfl) ⟨?_,?_,?_⟩⟩) (by rw[hsz];omega) (by show (acc.push (Value.ref h.objs.size)).size≤sizeLine+1;rw[Array.size_push,hsz];omega)
  ·refine List.pairwise_append.mpr ⟨hG.rise,List.pairwise_singleton _ _,fun a ha b hb=>?_⟩;rw[List.mem_singleton.mp hb];exact hG.there ha
  ·intro a ha;rcases List.mem_append.mp ha with ha|ha
   ·exact hG.above a ha
   ·rw[List.mem_singleton.mp ha];exact hSl
  ·intro j b hj;rcases Nat.lt_trichotomy j as.length with h1|h1|h1
   ·rw[List.getElem?_append_left h1] at hj;obtain⟨u',v',e1,e2,e3⟩:=hG.pairs j b hj;obtain⟨d1,d2,d3,d4,d5⟩:=ab b (hG.above b (List.mem_of_getElem? hj));exact⟨u',v',e1,e2,up b _ d5 (hkp b _ d1 d2 d3 d4 e3)⟩
   ·subst h1;have hb:h.objs.size=b:=by simpa using hj
    subst hb;exact⟨u,v,by rw[hal];exact hu,by rw[hal];exact hv,up _ _ (Nat.ne_of_gt hSl) ht⟩
   ·have hnone:(as++[h.objs.size])[j]?=none:=List.getElem?_eq_none (by rw[List.length_append,List.length_singleton];omega);rw[hnone] at hj;cases hj
end
theorem qvdz:typeLookup (.type "zip") "__len__" = pure none:=by rw[typeLookup_type,builtinLookup_eq_fast];kernel_rfl
theorem qvez:typeLookup (.type "zip") "__length_hint__" = pure none:=by rw[typeLookup_type,builtinLookup_eq_fast];kernel_rfl
section
variable {P:Program} {w:World} {A:Around} {E:Value->Shared->Prop} {s:Shared} {R:Result->Shared->Prop} {xs ys:Array Value} {k1 k2:Bool} {zz ti ot j1 j2 a1 a2 S:Addr}
theorem qvfz(hT:s.TypeIs (.ref zz) "zip"){Q:Bool->Shared->Prop}(h:Q true s):wpAny (model P w) A (Builtin.List.listLengthHint (.ref zz)) Q E s:=by
 unfold Builtin.List.listLengthHint;refine wpAny_bind (wpAny_specialOf hT qvdz ?_);refine wpAny_ite_split (fun hab=>absurd hab (by decide)) (fun _=>?_);refine wpAny_ite_split (fun hab=>absurd hab (by decide)) (fun _=>?_);refine wpAny_bind (wpAny_specialOf hT qvez ?_);exact wpAny_pure h
theorem qvgz(hh:A.handled=none)(D:ZipApart zz ti ot j1 j2 a1 a2)(B:Below zz ti ot j1 j2 a1 a2 S)(hn:xs.size≤sizeLine)(res:Value)(c₀:Nat)
  (Z:IsZip s.heap zz ti ot .none) (To:∃c d,IsPair s.heap ot c d) (Ti:IsPair s.heap ti (.ref j1) (.ref j2)) (g1:Ik k1 s.heap j1 a1 0) (g2:Ik k2 s.heap j2 a2 0) (s1:Sk k1 s.heap a1 xs) (s2:Sk k2 s.heap a2 ys) (hS:s.heap.get? S=some { cls:=.type "list",data:=.seq #[] c₀ })
  (hR:∀h' acc c as,(∀b o,b≠S->b≠zz->b≠ot->b≠j1->b≠j2->s.heap.get? b=some o->h'.get? b=some o)->h'.get? S=some { cls:=.type "list",dict:=none,data:=.seq acc c,slots:=#[]}->as.length=min xs.size ys.size->ZG xs ys S h' as ->
   acc.toList=as.map Value.ref->R (.ok (.ret res)) { s with heap:=h' }):
  wpAny (model P w) A.in1 (Builtin.List.listExtendWith (.ref S) (.ref zz) res)
   (fun fin s'=>match fin with | .done f=>R (.ok f) s' | .again c'=>c'.quiet=true/\codeAny (model P w) A c' R s') (fun e s'=>R (.error e) s') s:=by
 have hSr:S≠zz:=Nat.ne_of_gt B.z;have key:∀(h:Heap) (c₁:Nat),(∀b o,b≠S->s.heap.get? b=some o->h.get? b=some o)->h.get? S=some { cls:=.type "list",data:=.seq #[] c₁ } ->
   codeAny (model P w) A (.builtin "list.extend.loop" ⟨[.ref S,.ref zz,res],[]⟩) R { s with heap:=h }:=by
  intro h c₁ hk hS₁;have st:ZS k1 k2 zz ti ot j1 j2 a1 a2 S xs ys s.heap 0:=⟨.inl ⟨rfl,Z,To⟩,Ti,g1,g2,s1,s2⟩;exact qvcz (h₁:=s.heap) hh D B hn res hR _ 0 h c₁ #[] [] rfl (Nat.zero_le _) (st.keep B hk) (fun b o c0 _ _ _ _ e=>hk b o c0 e) hS₁ rfl rfl ⟨List.Pairwise.nil,(fun _ ha=>nomatch ha),(fun j a hj=>by simp at hj)⟩
 unfold Builtin.List.listExtendWith;refine wpAny_bind (wpAny_typeOf (T:="zip") ⟨_,Z,rfl⟩ ?_);have h1:Builtin.List.listSameRef (.ref S) (.ref zz)=false:=by simp[Builtin.List.listSameRef,hSr]
 have h2:(Value.type "zip" == Value.type "list")=false:=by decide
 have h3:(Value.type "zip" == Value.type "tuple")=false:=by decide
 simp only[h1,h2,h3,Bool.or_false,Bool.false_eq_true,if_false];refine wpAny_bind (wpAny_pyIter_zip Z ?_);refine wpAny_bind (wpAny_holding (qvfz ⟨_,Z,rfl⟩ ?_));refine wpAny_ite_split (fun _=>?_) (fun hab=>absurd rfl hab);refine wpAny_bind (wpAny_rule ?_);refine wpAny_bind ?_;show wpAny _ _ (updateSeq S (·.push .none) >>= fun _=>updateSeq S (·.pop)) _ _ _;refine wpAny_bind (wpAny_updateSeq hS rfl ?_);have hS₂:=Heap.get?_update_self (Obj.mapSeq (·.push Value.none)) hS rfl;refine wpAny_updateSeq (hz:=by seq_fits) hS₂ rfl ?_;have hS₃:=Heap.get?_update_self (Obj.mapSeq (·.pop)) hS₂ rfl;refine wpAny_pure ⟨plainId_quiet F.plain_extend_loop _,key _ _ (fun b o hb e=>?_) hS₃⟩;exact (Heap.get?_update_other _ _ (Ne.symm hb)).trans ((Heap.get?_update_other _ _ (Ne.symm hb)).trans e)
theorem qvhz(hh:A.handled=none)(D:ZipApart zz ti ot j1 j2 a1 a2)(B:Below zz ti ot j1 j2 a1 a2 S)(hn:xs.size≤sizeLine)
  (Z:IsZip s.heap zz ti ot .none) (To:∃c d,IsPair s.heap ot c d) (Ti:IsPair s.heap ti (.ref j1) (.ref j2)) (g1:Ik k1 s.heap j1 a1 0) (g2:Ik k2 s.heap j2 a2 0) (s1:Sk k1 s.heap a1 xs) (s2:Sk k2 s.heap a2 ys) (hS:s.heap.get? S=some { cls:=.type "list",data:=.seq #[]})
  (hR:∀h' acc c as,(∀b o,b≠S->b≠zz->b≠ot->b≠j1->b≠j2->s.heap.get? b=some o->h'.get? b=some o)->h'.get? S=some { cls:=.type "list",dict:=none,data:=.seq acc c,slots:=#[]}->as.length=min xs.size ys.size->ZG xs ys S h' as ->
   acc.toList=as.map Value.ref->R (.ok (.ret .none)) { s with heap:=h' }):
  wpAny (model P w) A.in1 (Builtin.«list.__init__» ⟨[.ref S,.ref zz],[]⟩)
   (fun fin s'=>match fin with | .done f=>R (.ok f) s' | .again c'=>c'.quiet=true/\codeAny (model P w) A c' R s') (fun e s'=>R (.error e) s') s:=by
 show wpAny _ _ (do let old ←Builtin.List.listItems (.ref S);Builtin.List.listUpdate (.ref S) (fun _=>#[]);letGo old.toList.reverse;Builtin.List.listExtendWith (.ref S) (.ref zz) .none) _ _ s
 refine wpAny_bind ?_;unfold Builtin.List.listItems;refine wpAny_bind (wpAny_seqItems hS rfl (wpAny_pure ?_));show wpAny _ _ (updateSeq S (fun _=>#[]) >>= fun _=>letGo (#[]:Array Value).toList.reverse >>= fun _=>Builtin.List.listExtendWith (.ref S) (.ref zz) .none) _ _ s;refine wpAny_bind (wpAny_updateSeq hS rfl ?_);have hS₂:=Heap.get?_update_self (Obj.mapSeq (fun _=>(#[]:Array Value))) hS rfl;have oth:∀b o,b≠S->s.heap.get? b=some o->(s.heap.update S (Obj.mapSeq (fun _=>(#[]:Array Value)))).get? b=some o:=
  fun b o hb e=>(Heap.get?_update_other _ _ (Ne.symm hb)).trans e
 refine wpAny_bind (wpAny_letGo ?_);obtain⟨c,d,To⟩:=To;exact qvgz hh D B hn .none _ (oth _ _ (Nat.ne_of_lt B.z) Z) ⟨c,d,oth _ _ (Nat.ne_of_lt B.o) To⟩ (oth _ _ (Nat.ne_of_lt B.t) Ti) (g1.of fun o e=>oth _ _ (Nat.ne_of_lt B.i1) e) (g2.of fun o e=>oth _ _ (Nat.ne_of_lt B.i2) e) (s1.of fun o e=>oth _ _ (Nat.ne_of_lt B.l1) e) (s2.of fun o e=>oth _ _ (Nat.ne_of_lt B.l2) e) hS₂
  fun h' acc c as hk hS' hl hG hacc=>hR h' acc c as (fun b o c0 c1 c2 c3 c4 e=>hk b o c0 c1 c2 c3 c4 (oth b o c0 e)) hS' hl hG hacc
theorem qviz{Q:Value->Shared->Prop}(hh:A.handled=none)(D:ZipApart zz ti ot j1 j2 a1 a2)(hn:xs.size≤sizeLine)
  (Z:IsZip s.heap zz ti ot .none) (To:∃c d,IsPair s.heap ot c d) (Ti:IsPair s.heap ti (.ref j1) (.ref j2)) (g1:Ik k1 s.heap j1 a1 0) (g2:Ik k2 s.heap j2 a2 0) (s1:Sk k1 s.heap a1 xs) (s2:Sk k2 s.heap a2 ys)
  (hQ:∀h' acc c as,(∀b o,b≠zz->b≠ot->b≠j1->b≠j2->s.heap.get? b=some o->h'.get? b=some o)->h'.get? s.heap.objs.size=some { cls:=.type "list",dict:=none,data:=.seq acc c,slots:=#[]}->as.length=min xs.size ys.size->ZG xs ys s.heap.objs.size h' as ->
   acc.toList=as.map Value.ref->Q (.ref s.heap.objs.size) { s with heap:=h' }):
  wpAny (model P w) A (call (.type "list") [.ref zz]) Q E s:=by
 refine callType_codes (Q₁:=fun obj s₁=>obj=.ref s.heap.objs.size/\s₁={ s with heap:=s.heap.push { cls:=.type "list",data:=.seq #[]}}) F.called_list (F.typeCall_list_1 _) F.entry_list_init
  (code_list_new _ ⟨rfl,rfl⟩) fun obj s₁ h₁=>?_
 obtain⟨rfl,rfl⟩:=h₁;have hS:(s.heap.push { cls:=.type "list",data:=.seq #[]}).get? s.heap.objs.size=some { cls:=.type "list",data:=.seq #[]}:=Heap.get?_push_size _ rfl;have up:∀b o,s.heap.get? b=some o->(s.heap.push { cls:=.type "list",data:=.seq #[]}).get? b=some o:=fun b o e=>Heap.get?_push_of_some _ e;obtain⟨c,d,To⟩:=To;have hlt:∀{k:Bool} {a:Addr} {vs:Array Value},Sk k s.heap a vs->a<s.heap.objs.size:=fun {k a vs} h=>by cases k<;>(obtain⟨o,e,_⟩:=h;exact Heap.lt_size e)
 have hli:∀{k:Bool} {j a:Addr} {i:Nat},Ik k s.heap j a i->j<s.heap.objs.size:=fun {k j a i} h=>by cases k<;>(obtain⟨o,e,_⟩:=h;exact Heap.lt_size e)
 refine⟨⟨_,hS,rfl⟩,F.args_list_init_2 _ _,qvhz (A:=A.in1) hh D ⟨Heap.lt_size Z,Heap.lt_size Ti,Heap.lt_size To,hli g1,hli g2,hlt s1,hlt s2⟩ hn (up _ _ Z) ⟨c,d,up _ _ To⟩ (up _ _ Ti) (g1.of fun o e=>up _ _ e) (g2.of fun o e=>up _ _ e) (s1.of fun o e=>up _ _ e) (s2.of fun o e=>up _ _ e) hS fun h' acc c as hk hS' hl hG hacc=>?_⟩;exact⟨rfl,hQ h' acc c as (fun b o c1 c2 c3 c4 e=>hk b o (Nat.ne_of_lt (Heap.lt_size e)) c1 c2 c3 c4 (up _ _ e)) hS' hl hG hacc⟩
end
def lays:Hp->List Addr->List (V×V)->Hp
 |H,a::as,p::ps=>lays (upd H a (.tup [p.1,p.2])) as ps
 |H,_,_=>H
theorem qjwz{H:Hp}{ps:List (V×V)}:lays H [] ps=H:=by cases ps<;>rfl
theorem qcbz{b:Addr}:∀{as:List Addr} {ps:List (V×V)} {H:Hp},b∉as->lays H as ps b=H b
 |[],_,_,_=>by rw[qjwz]
 |a::as,[],_,_=>rfl
 |a::as,p::ps,H,h=>by
  simp only[List.mem_cons,not_or] at h;obtain⟨h1,h2⟩:=h;show lays (upd H a _) as ps b=_;rw[qcbz h2,qiz h1]
theorem qjxz:∀{as:List Addr} {ps:List (V×V)} {H:Hp} {j:Nat} {a:Addr} {p:V×V},as.Nodup->as[j]?=some a->ps[j]?=some p->lays H as ps a=some (.tup [p.1,p.2])
 |[],_,_,_,_,_,_,h,_=>by simp at h
 |b::as,[],_,_,_,_,_,_,h=>by simp at h
 |b::as,q::ps,H,0,a,p,hd,h,h'=>by
  simp at h h';subst h h';show lays (upd H b _) as ps b=_;rw[qcbz (List.nodup_cons.mp hd).1,qoz]
 |b::as,q::ps,H,j+1,a,p,hd,h,h'=>by
  show lays (upd H b _) as ps a=_;exact qjxz (List.nodup_cons.mp hd).2 (by simpa using h) (by simpa using h')
section
variable {X:Cx} {pins:List (Addr×Obj)} {σ:L2.St} {H H':Hp} {s:Shared}
theorem laidAll{h':Heap}{t':Nat}{fp:List Addr}(I:L2.Inv X pins σ H s)(k:∀b o,b∉fp->s.heap.get? b=some o->h'.get? b=some o)(hf:∀b∈fp,FpOk X pins H b)(hold:∀b,b<s.heap.objs.size->H' b=H b)
  (new:∀a o,s.heap.objs.size≤a->H' a=some o->ObjOk X.prog X.w H' h' a o):L2.Inv X pins σ H' { s with heap:=h',toks:=t' }:=by
 have nit:∀b u,H b=some u->b∉fp:=fun b u e z=>by rw[(hf b z).1] at e;cases e
 have kp:∀b u,H b=some u->H' b=some u:=fun b u e=>by rw[hold b (I.hok.lt e)];exact e
 refine I.step (g':=s.gens) (d':=s.drawn) (ch:=fp) (fun b hb=>?_) (fun b o _ _ hc e _=>k b o hc e) (fun b o _ _ hc e _=>⟨o.slots,k b o hc e⟩) (fun b o _ e n=>by rw[hold b (Heap.lt_size e)];exact n) (fun b o hc e=>⟨o,k b o hc e⟩) (fun _ _ e=>kp _ _ e) (fun _ _ _ e=>kp _ _ e) (fun b ps e=>⟨#[],by rw[kp _ _ e];simp⟩) (fun m hm=>?_) (fun b u e=>?_) I.bare
 ·obtain⟨f0,f1,f2,f3,f4,f5⟩:=hf b hb;exact⟨f3,f1,f4,f5⟩
 ·obtain⟨o,es,ep,ho,r⟩:=hm;exact⟨o,es,ep,k _ o (fun z=>(hf _ z).2.1 rfl) ho,r⟩
 ·rcases Nat.lt_or_ge b s.heap.objs.size with hb|hb
  ·rw[hold b hb] at e;refine (I.hok b u e).stay (fun c v hc q=>k c v ?_ q) (fun _ q=>kp _ _ q) fun _ _ q=>kp _ _ q;rcases hc with z|z
   ·rw[z];exact nit b u e
   ·exact nit c _ z
  ·exact new b u hb e
end
section
variable {X:Cx} {a b:Expr} {ta:TA} {p p2 pos pos2:Pos}
def jLZ(K:PySem.W.Frag)(ta:TA):TE:=fun σ H Q=>ta σ H fun vs H1=>∃k1 k2 a1 a2 xs ys,vs=[.ref a1,.ref a2]/\SqK K k1 H1 a1 xs/\SqK K k2 H1 a2 ys/\xs.length≤1000 ∧
 ∀as S,as.length=min xs.length ys.length->as.Nodup->(∀c∈as,H1 c=none)->H1 S=none->S∉as->Q (.ref S) (upd (lays H1 as (xs.zip ys)) S (.lst (as.map V.ref)))
theorem qvjz(hc:X.calm=true)(hg:Gl X "zip")(hm:X.mg "zip" = none)(hgl:Gl X "list")(hml:X.mg "list" = none)(ha:PA X [a,b] ta)(hs:starEach [a,b] X.env=[(false,eval a X.env),(false,eval b X.env)])(hs2:starEach [b] X.env=[(false,eval b X.env)]):
  PE X (.Call (.Name "list" p) [.Call (.Name "zip" p2) [a,b] [] pos2] [] pos) (jLZ X.K ta):=by
 intro pins s σ H Q I h;refine wpAny_Call_Name_kw (qazz I hgl hml boot_list ?_);refine PyProof.Rows.callWith_type1 ?_ rfl rfl;show wpAny _ _ (spliced ((false,eval (.Call (.Name "zip" p2) [a,b] [] pos2) X.env)::backTo pos [])) _ _ s;refine Calls.spliced_cons ?_;refine Call_ (qazz I hg hm boot_zip (PyProof.Rows.callWith_type1 (thn (ha pos2 pins s σ H _ I h) fun us s1 ⟨vs,H1,I1,r1,q1⟩=>?_) (by rw[hs,hs2]) (by rw[hs2];rfl)));obtain⟨k1,k2,a1,a2,xs,ys,e,q1,q2,hx,q⟩:=q1;subst e;cases r1 with
 |cons r rr=>
  cases rr with
  |cons r' rr=>
   cases rr;cases r;cases r';obtain⟨its1,rv1,p1⟩:=q1.heap I1;obtain⟨its2,rv2,p2⟩:=q2.heap I1;refine qh7z p1 p2 ?_;obtain⟨z1,z2,z3,z4,z5,z6,z7⟩:=qe6z (k1:=k1) (k2:=k2) (h:=s1.heap) (a1:=a1) (a2:=a2);refine Calls.spliced_nil ?_;have I2:L2.Inv X pins σ H1 { s1 with heap:=zw5 k1 k2 s1.heap a1 a2 }:=I1.kept (t':=s1.toks) z7
   have hb:∀c∈[s1.heap.objs.size+4,s1.heap.objs.size+2,s1.heap.objs.size+3,s1.heap.objs.size,s1.heap.objs.size+1],FpOk X pins H1 c:=fun c hc=>by
    have hb:s1.heap.objs.size≤c:=by
     simp only[List.mem_cons,List.not_mem_nil,or_false] at hc;rcases hc with rfl|rfl|rfl|rfl|rfl
     ·exact Nat.le_add_right _ _
     ·exact Nat.le_add_right _ _
     ·exact Nat.le_add_right _ _
     ·exact Nat.le_refl _
     ·exact Nat.le_add_right _ _
    exact I1.fpOk hb (I1.hok.fresh hb)
   have D:=zap (zz:=s1.heap.objs.size+4) (ti:=s1.heap.objs.size+2) (ot:=s1.heap.objs.size+3) (j1:=s1.heap.objs.size) (j2:=s1.heap.objs.size+1) (a1:=a1) (a2:=a2) (by simp) (fun c hc=>q1.apart I1 (hb c hc)) (fun c hc=>q2.apart I1 (hb c hc));have l1:=rv1.length;have l2:=rv2.length;refine qviz (s:={ s1 with heap:=zw5 k1 k2 s1.heap a1 a2 }) (xs:=its1.toArray) (ys:=its2.toArray) (I2.ok.hd hc) D (by show its1.toArray.size≤sizeLine;rw[List.size_toArray,←l1];exact Nat.le_trans hx (by decide)) z1 ⟨_,_,z3⟩ z2 z4 z5 (p1.of fun o e=>z7 _ _ e) (p2.of fun o e=>z7 _ _ e) fun h' acc c as kp eS hl hG hacc=>?_;have hl':as.length=min xs.length ys.length:=by rw[hl,List.size_toArray,List.size_toArray,l1,l2]
   have nd:as.Nodup:=hG.rise.imp fun h=>Nat.ne_of_lt h;have fr:∀c∈as,H1 c=none:=fun c hc=>I2.hok.fresh (Nat.le_of_lt (hG.above c hc));have fS:H1 (zw5 k1 k2 s1.heap a1 a2).objs.size=none:=I2.hok.fresh (Nat.le_refl _);have nS:(zw5 k1 k2 s1.heap a1 a2).objs.size∉as:=fun hm=>Nat.lt_irrefl _ (hG.above _ hm);refine⟨.ref (zw5 k1 k2 s1.heap a1 a2).objs.size,_,laidAll (s:={ s1 with heap:=zw5 k1 k2 s1.heap a1 a2 }) (t':=s1.toks) (h':=h') I2 (fun b o hb e=>?_) hb (fun b hb=>?_) (fun a o hle e=>?_),rfl,q as _ hl' nd fr fS nS⟩
   ·simp only[List.mem_cons,List.not_mem_nil,or_false,not_or] at hb;exact kp b o hb.1 hb.2.2.1 hb.2.2.2.1 hb.2.2.2.2 e
   ·rw[qiz (Nat.ne_of_lt hb),qcbz fun hm=>Nat.lt_asymm hb (hG.above b hm)]
   ·by_cases ea:a=(zw5 k1 k2 s1.heap a1 a2).objs.size
    ·subst ea;rw[qoz] at e;cases e;refine⟨by rw[List.length_map,hl'];exact Nat.le_trans (Nat.le_trans (Nat.min_le_left _ _) hx) (by decide),as.map Value.ref,c,?_,?_⟩
     ·clear hG hacc hl hl' nd fr nS
      induction as with
      |nil=>exact .nil
      |cons x as ih=>exact .cons rfl ih
     ·rw[eS,←hacc]
    ·rw[qiz ea] at e;by_cases hm:a∈as
     ·obtain⟨j,hj⟩:=List.mem_iff_getElem?.mp hm;obtain⟨u,v,e1,e2,e3⟩:=hG.pairs j a hj;have hj':j<min xs.length ys.length:=by
       rw[←hl'];exact (List.getElem?_eq_some_iff.mp hj).1
      have x1:xs[j]?=some xs[j]:=List.getElem?_eq_getElem (by omega);have y1:ys[j]?=some ys[j]:=List.getElem?_eq_getElem (by omega);rw[qjxz nd hj (p:=(xs[j],ys[j])) (List.getElem?_zip_eq_some.mpr ⟨x1,y1⟩)] at e;cases e;obtain⟨u',hu,ru⟩:=rv1.get x1;obtain⟨v',hv,rv⟩:=rv2.get y1;have eu:u'=u:=by
       have:its1[j]?=some u:=by simpa using e1
       rw[this] at hu;exact (Option.some.inj hu).symm
      have ev:v'=v:=by
       have:its2[j]?=some v:=by simpa using e2
       rw[this] at hv;exact (Option.some.inj hv).symm
      subst eu ev;exact⟨by show 2≤sizeLine;decide,[u',v'],.cons ru (.cons rv .nil),⟨_,e3,rfl,_,rfl⟩⟩
     ·rw[qcbz hm,I2.hok.fresh hle] at e;cases e
end
section
variable {K:PySem.W.Frag}
theorem qfuz{G:Gp}:∀{as:List Addr} {ps:List (V×V)} {H:Hp},as.Nodup->(∀c∈as,H c=none)->RepG K G H->Step H G (lays H as ps) G/\RepG K G (lays H as ps)
 |[],ps,H,_,_,R=>by rw[qjwz];exact⟨.refl H G,R⟩
 |a::as,[],H,_,_,R=>⟨.refl H G,R⟩
 |a::as,p::ps,H,hd,hf,R=>by
  have h0:=hf a List.mem_cons_self;obtain⟨n1,n2⟩:=List.nodup_cons.mp hd;obtain⟨S1,R1⟩:=qfuz (G:=G) (as:=as) (ps:=ps) (H:=upd H a (.tup [p.1,p.2])) n2 (fun c hc=>by rw[qiz (show c≠a from fun z=>n1 (z▸hc))];exact hf c (List.mem_cons_of_mem _ hc)) (R.laid h0);exact⟨(Step.laid h0).trans S1,R1⟩
theorem qjyz{G:Gp}:∀{as:List Addr} {xs ys:List D} {vs ws:List V} {H:Hp},as.length=min xs.length ys.length->as.Nodup->(∀c∈as,H c=none)->RepG K G H->Hvs K H xs vs->Hvs K H ys ws->Hvs K (lays H as (vs.zip ws)) (zipD xs ys) (as.map V.ref)
 |[],xs,ys,vs,ws,H,hl,_,_,_,h1,h2=>by
  have:zipD xs ys=[]:=by
   unfold zipD;apply List.eq_nil_of_length_eq_zero;rw[List.length_zipWith];simp at hl;omega
  rw[this];exact .nil
 |a::as,[],ys,vs,ws,H,hl,_,_,_,_,_=>by simp at hl
 |a::as,x::xs,[],vs,ws,H,hl,_,_,_,_,_=>by simp at hl
 |a::as,x::xs,y::ys,vs,ws,H,hl,hd,hf,R,h1,h2=>by
  obtain⟨v,vs',rfl,z1,z2⟩:=h1.inv;obtain⟨w,ws',rfl,z3,z4⟩:=h2.inv;have h0:=hf a List.mem_cons_self;obtain⟨n1,n2⟩:=List.nodup_cons.mp hd;have hf':∀c∈as,upd H a (.tup [v,w]) c=none:=fun c hc=>by rw[qiz (show c≠a from fun z=>n1 (z▸hc))];exact hf c (List.mem_cons_of_mem _ hc)
  have R':=R.laid (o:=.tup [v,w]) h0;have E1:Ext H (upd H a (.tup [v,w])):=.laid h0;obtain⟨S1,_⟩:=qfuz (K:=K) (G:=G) (as:=as) (ps:=vs'.zip ws') n2 hf' R';have E2:Ext (upd H a (.tup [v,w])) (lays (upd H a (.tup [v,w])) as (vs'.zip ws')):=S1.ext R';show Hvs K (lays (upd H a (.tup [v,w])) as (vs'.zip ws')) (D.tup [x,y]::zipD xs ys) (V.ref a::as.map V.ref);refine .cons ?_ (qjyz (G:=G) (by simp at hl;omega) n2 hf' R' (z2.ext E1) (z4.ext E1));unfold Hv;exact⟨a,[v,w],rfl,.of (by rw[qcbz n1];exact qoz),.cons ((z1.ext E1).ext E2) (.cons ((z3.ext E1).ext E2) .nil)⟩
end
section
variable {X:Cx} {a b:Expr} {ta:TA3} {p p2 pos pos2:Pos}
def eLZ(ta:TA3):TE3:=fun τ G Q=>ta τ G fun ds G1=>match ds with
 |[x,y]=>∃xs ys,seqD G1 x xs/\seqD G1 y ys/\xs.length≤1000/\∀p G2,New G1 p (.lst (zipD xs ys)) G2->Q (.obj p) G2
 |_=>False
theorem qvkz(hc:X.calm=true)(hm:X.mg "zip" = none)(hml:X.mg "list" = none)(ha:PA3 X [a,b] ta)(hg:Gl X "zip":=by rfl)(hgl:Gl X "list":=by rfl)(hs:notStar a=true:=by rfl)(hs2:notStar b=true:=by rfl):
  PE3 X (.Call (.Name "list" p) [.Call (.Name "zip" p2) [a,b] [] pos2] [] pos) (eLZ ta):=
 qpz (qvjz hc hg hm hgl hml ha (by rw[qlz hs,qlz hs2];rfl) (qlz hs2)) fun σ H Q ⟨τ,G,Q3,RS,RG,h,k⟩=>⟨τ,G,_,RS,RG,h,fun vs H1 ds G1 h1 S1 R1 q1=>by
  rcases ds with _|⟨d,_|⟨d2,_|⟨d3,ds⟩⟩⟩
  ·exact q1.elim
  ·exact q1.elim
  ·obtain⟨xs,ys,s1,s2,hl,q⟩:=q1;obtain⟨v,r,rfl,z1,z2⟩:=h1.inv;obtain⟨v',r',rfl,z3,z4⟩:=z2.inv;cases z4.inv0;obtain⟨k1,f1⟩:=qd6z z1;obtain⟨k2,f2⟩:=qd6z z3;obtain⟨a1,vs1,rfl,y1,w1⟩:=f1 _ _ _ (Ext.refl _) R1 s1;obtain⟨a2,vs2,rfl,y2,w2⟩:=f2 _ _ _ (Ext.refl _) R1 s2;have e1:=w1.length;have e2:=w2.length;refine⟨k1,k2,a1,a2,vs1,vs2,rfl,y1,y2,by rw[←e1];exact hl,fun as S hl' nd fr fS nS=>?_⟩;obtain⟨S2,R2⟩:=qfuz (K:=X.K) (G:=G1) (ps:=vs1.zip vs2) nd fr R1;have hS:lays H1 as (vs1.zip vs2) S=none:=by rw[qcbz nS];exact fS
   exact k _ _ (.obj S) _ qbnz ((S1.trans S2).trans (.laidG hS)) (R2.newL hS (qjyz (by rw[hl',e1,e2]) nd fr R1 w1 w2)) (q S _ (.mk' (R2.free hS)))
  ·exact q1.elim⟩
end
end L3
namespace L3
open PySem PySem.Spec PyProof.Rows L2
section
variable {X:Cx} {a b:Expr} {ta:TA3} {p p2 pos pos2:Pos}
theorem qvlz(hc:X.calm=true)(hm:X.mg "zip" = none)(hml:X.mg "list" = none)(ha:QA X [a,b] ta)(hg:Gl X "zip":=by rfl)(hgl:Gl X "list":=by rfl)(hs:notStar a=true:=by rfl)(hs2:notStar b=true:=by rfl):
  QE X (.Call (.Name "list" p) [.Call (.Name "zip" p2) [a,b] [] pos2] [] pos) (eLZ ta):=⟨qvkz hc hm hml ha.of hg hgl hs hs2⟩
end
end L3
namespace My
open PySem L2 L3
def covB(ns is:List Int):Bool:=(nmO (setC ns (is.map some))).isNone
theorem St.stB{ns:List Int}(h:St ns):My.stB (stD ns)=true:=by
 have h1:=h.l1;have h6:=h.l6;have hl:(ns.map D.int).length=ns.length:=List.length_map _;show (decide (1≤(ns.map D.int).length)&&decide ((ns.map D.int).length≤6)&&(ns.map D.int).all okS)=true;rw[hl,Bool.and_eq_true,Bool.and_eq_true];refine⟨⟨decide_eq_true h1,decide_eq_true h6⟩,List.all_eq_true.mpr fun d hd=>?_⟩;obtain⟨n,hn,rfl⟩:=List.mem_map.mp hd;have:=h.st n hn;show (decide (2≤n)&&decide (n≤24))=true;rw[Bool.and_eq_true];exact⟨decide_eq_true this.1,decide_eq_true this.2⟩
theorem St.kn{ns:List Int}(h:St ns):KnS (stD ns):=⟨trivial,fun xs e x hx=>by
 cases e;obtain⟨n,_,rfl⟩:=List.mem_map.mp hx;trivial⟩
def shC(ns:List Int):List Clk:=ns.map fun n=>((n,0):Clk)
end My
namespace My
open PySem L2 L3
theorem nones{m:Nat}:(List.replicate m [D.non]).flatten=(List.replicate m (none:Option Int)).map rD:=by
 induction m with
 |zero=>rfl
 |succ m ih=>
  rw[List.replicate_succ,List.flatten_cons,List.replicate_succ,List.map_cons,ih];rfl
theorem St.rs{ns:List Int}(h:St ns):RsOk ns (List.replicate ns.length none):=by
 refine⟨by simp,h.l6,h.st,fun k r hk=>?_⟩;rw[List.getElem?_replicate] at hk;split at hk<;>cases hk
theorem none_list{ns:List Int}{G:Gp}{Q:V3}{τ:S3}(h:St ns)(k:∀p G',New G p (.lst ((List.replicate ns.length (none:Option Int)).map rD)) G'->Q (.obj p) G'):eOp rMul3 (eLst (aCons (eC .non) (aNil))) (eCB qyz (aCons (eVar 0) (aNil))) (some (stD ns)::τ) G Q:=by
 have hlm:(ns.map D.int).length=ns.length:=List.length_map ..;have:=h.l6;refine fun p1 G1 n1=>⟨_,n1.at_,⟨by omega,by rw[hlm];omega⟩,?_,fun p2 G2 n2=>?_⟩
 ·rw[hlm,Int.toNat_natCast];exact line1000 (by show 1*ns.length≤1000;omega)
 ·rw[hlm,Int.toNat_natCast,nones] at n2;exact k p2 G2 ⟨n1.sub.of_none n2.non,n1.sub.trans n2.sub,n2.at_⟩
def qccz:SpX:=fun ds Q E=>∃ns:List Int,ds=[stD ns]/\St ns/\(rndS ns≤10000->Q .non noG)/\(10000<rndS ns->E "TooGreat" [("many",((rndS ns:Nat):Int)),("most",10000)])
def qvmz(E:E3):TS3:=sDrop (eCallX qc4z E (aCons (eCall qc9z (aCons (eVar 0) (aNil))) (aCons (eC (.int 10000)) (aNil))))
def qjzz(E:E3):TS3:=sSeq (sDrop (eCallX qc8z E (aCons (eVar 0) (aNil)))) (qvmz E)
theorem qvnz:∀ds Q E,qccz ds Q E->qjzz E (endsOf Q) (start3 ["steps"] ds) noG:=by
 rintro ds Q E ⟨ns,rfl,hs,q1,q2⟩;refine⟨stD ns,rfl,hs.kn,fun h G1 j1=>?_,fun h=>?_⟩
 ·refine⟨_,ns.map Int.toNat,rfl,nofun,(quvz hs.st).symm,fun k hk=>?_,by rw[List.length_map];have:=hs.l6;omega,_,_,rfl,fun h G2 j2=>qatz (qbwz _) (q1 ?_),fun h=>q2 ?_⟩
  ·obtain⟨n,hm,rfl⟩:=List.mem_map.mp hk;have:=hs.st n hm;omega
  ·have h:((rndS ns:Nat):Int)≤10000:=h;omega
  ·have h:(10000:Int)<((rndS ns:Nat):Int):=h;omega
 ·rw[hs.stB] at h;cases h
end My
namespace My
open PySem L2 L3
def qvoz:Sp3:=fun ds G Q=>∃(q:Addr) (ns:List Int) (rs:List (Option Int)),ds=[stD ns,.obj q]/\G q=some (.lst (rs.map rD))/\RsOk ns rs/\(Comp ns rs->∀G',Sub G G'->Q (.bl true) G')/\(¬Comp ns rs->∀G',Sub G G'->Q (.bl false) G')
abbrev RsL:=List (Addr×List (Option Int))
def qvpz:Sp3:=fun ds G Q=>∃(p:Addr) (ns:List Int) (zs:RsL),ds=[stD ns,.obj p]/\G p=some (.lst (zs.map fun z=>D.obj z.1))/\(∀z∈zs,G z.1=some (.lst (z.2.map rD))/\RsOk ns z.2)/\(∃z∈zs,Comp ns z.2)/\∀(pre:RsL) (z:Addr×List (Option Int)) (post:RsL),zs=pre++z::post->(∀y∈pre,¬Comp ns y.2)->Comp ns z.2->∀G',Sub G G'->Q (.obj z.1) G'
end My
namespace My
open PySem L2 L3
theorem qvqz{ns:List Int}{s:Nat}{z:Nat×Int}{zs:List (Nat×Int)}(h:z::zs=((List.range ns.length).zip ns).drop s):z.1=s/\ns[s]?=some z.2/\zs=((List.range ns.length).zip ns).drop (s+1):=by
 have hl:s<((List.range ns.length).zip ns).length:=by
  refine Nat.lt_of_not_le fun w=>?_;rw[List.drop_eq_nil_of_le w] at h;cases h
 rw[List.drop_eq_getElem_cons hl,List.getElem_zip] at h;cases h;rw[List.length_zip,List.length_range] at hl;exact⟨List.getElem_range _,List.getElem?_eq_getElem (by lia),rfl⟩
theorem range_drop{m i:Nat}{d:D}{ds:List D}(h:d::ds=((List.range m).drop i).map nD):i<m/\d=nD i/\ds=((List.range m).drop (i+1)).map nD:=by
 have hl:i<(List.range m).length:=by
  refine Nat.lt_of_not_le fun w=>?_;rw[List.drop_eq_nil_of_le w] at h;cases h
 rw[List.drop_eq_getElem_cons hl,List.getElem_range] at h;cases h;rw[List.length_range] at hl;exact⟨hl,rfl,rfl⟩
def preR(ns is:List Int):List (Option Int):=is.map some++List.replicate (ns.length-is.length) none
theorem qvrz{ns is:List Int}(h:is.length=ns.length):preR ns is=is.map some:=by
 unfold preR;rw[h,Nat.sub_self];exact List.append_nil _
theorem preR_at{ns is:List Int}{k:Nat}{r:Int}:(preR ns is)[k]?=some (some r)↔is[k]?=some r:=by
 unfold preR;by_cases h:k<is.length
 ·rw[List.getElem?_append_left (by rw[List.length_map];exact h),List.getElem?_map];cases is[k]?<;>simp
 ·rw[List.getElem?_append_right (by rw[List.length_map];lia),List.getElem?_replicate,List.getElem?_eq_none (l:=is) (by lia)];split<;>simp
theorem qfvz{ns is:List Int}{k:Nat}(h1:is.length≤k)(h2:k<ns.length):(preR ns is)[k]?=some none:=by
 unfold preR;rw[List.getElem?_append_right (by rw[List.length_map];exact h1),List.getElem?_replicate,List.length_map,if_pos (by lia)]
theorem qfwz{ns is:List Int}{r:Int}(h:is.length<ns.length):(preR ns is).set is.length (some r)=preR ns (is++[r]):=by
 apply List.ext_getElem?;intro k;have hl:(preR ns is).length=ns.length:=by unfold preR;rw[List.length_append,List.length_map,List.length_replicate];lia
 rcases Nat.lt_trichotomy k is.length with w|w|w
 ·rw[List.getElem?_set_ne (by lia)];unfold preR;rw[List.getElem?_append_left (by rw[List.length_map];exact w),List.getElem?_append_left (by rw[List.length_map,List.length_append];lia),List.getElem?_map,List.getElem?_map,List.getElem?_append_left w]
 ·subst w;rw[List.getElem?_set_self (by lia)];exact (preR_at.mpr (by simp)).symm
 ·rw[List.getElem?_set_ne (by lia)];rcases Nat.lt_or_ge k ns.length with u|u
  ·rw[qfvz (by lia) u,qfvz (by rw[List.length_append,List.length_singleton];lia) u]
  ·rw[List.getElem?_eq_none (by lia),List.getElem?_eq_none];unfold preR;rw[List.length_append,List.length_map,List.length_replicate,List.length_append,List.length_singleton];lia
structure FirstR(ns is:List Int):Prop where
 le:is.length≤ns.length
 ok:RsOk ns (preR ns is)
 comp:Comp ns (preR ns is)
 fst:∀(k:Nat) (t:Int),is[k]?=some t->∀r:Int,0≤r->r<t->¬Comp ns (preR ns (is.take k++[r]))
def qvsz:SpX:=fun ds Q E=>∃ns:List Int,ds=[stD ns]/\St ns/\(rndS ns≤10000->(¬Comp ns (preR ns [])->Q .non noG)/\∀is,FirstR ns is->is.length=ns.length->Q (.tup (is.map D.int)) noG)/\(10000<rndS ns->E "TooGreat" [("many",((rndS ns:Nat):Int)),("most",10000)])
def qvtz(E:E3):TS3:=sAsg (eCall qvpz (aCons (eVar 0) (aCons (eVar 4) (aNil)))) (hName 1)
def qj0z(E:E3):TS3:=sSeq (sAsg (eComp ["rest"] [1,2] (iRng1 (aCons (eVar 3) (aNil))) (hName 0) (tNoTest3) (eCall qr3z (aCons (eVar 1) (aCons (eVar 2) (aCons (eVar 0) (aNil)))))) (hName 4)) (qvtz E)
def qvuz(E:E3):TS3:=sRet (eCB qboz (aCons (eVar 1) (aNil)))
def qvvz(E:E3):TS3:=sSeq (sFor (iEnum (aCons (eVar 0) (aNil))) (hTup 2 (hCons (hName 2) (hCons (hName 3) (hNil)))) ((qj0z E))) (qvuz E)
def qvwz(E:E3):TS3:=sSeq (sIf (eNot (eTest (eCall qvoz (aCons (eVar 0) (aCons (eVar 1) (aNil)))))) (sRet (eC .non)) (sNext)) (qvvz E)
def qvxz(E:E3):TS3:=sSeq (sAsg (eOp rMul3 (eLst (aCons (eC .non) (aNil))) (eCB qyz (aCons (eVar 0) (aNil)))) (hName 1)) (qvwz E)
def qvyz(E:E3):TS3:=sSeq (sDrop (eCallX qccz E (aCons (eVar 0) (aNil)))) (qvxz E)
def ForI(ns:List Int)(ds:List D)(τ:S3)(G':Gp):Prop:=∃(is:List Int) (q:Addr) (x2 x3 x4:Option D),ds=(((List.range ns.length).zip ns).drop is.length).map (fun p=>D.tup [nD p.1,D.int p.2])/\τ=[some (stD ns),some (.obj q),x2,x3,x4]/\G' q=some (.lst ((preR ns is).map rD))/\FirstR ns is
theorem qvzz{ns:List Int}{E:E3}{D3:Ends3}{n:Int}{q:Addr}{is:List Int}{x4:Option D}{G1:Gp}{ds:List D}(en:ns[is.length]?=some n)(hq:G1 q=some (.lst ((preR ns is).map rD)))(hf:FirstR ns is)
  (e:ds=(((List.range ns.length).zip ns).drop (is.length+1)).map (fun p=>D.tup [nD p.1,D.int p.2])) (hN:∀τ' G',ForI ns ds τ' G'->D3.nx τ' G'):qj0z E D3 [some (stD ns),some (.obj q),some (nD is.length),some (.int n),x4] G1:=by
 have hjl:is.length<ns.length:=(List.getElem?_eq_some_iff.mp en).1;have hr:=hf.ok;have hn2:=hr.st n (List.mem_of_getElem? en);have h6:=hr.n6;have hrl:=hr.len;obtain⟨m,rfl⟩:∃m:Nat,n=(m:Int):=⟨n.toNat,by lia⟩;have hop:is.length∈opens (preR ns is):=open_at.mpr (qfvz (Nat.le_refl _) hjl);refine⟨⟨by lia,by lia⟩,?_,?_⟩
 ·show (rngL 0 ((m:Int)).toNat).length≤sizeLine;rw[qckz];exact line1000 (by lia)
 show compGo _ _ _ _ _ (rngL 0 ((m:Int)).toNat) _ _ _;rw[Int.toNat_natCast,rng0];refine qcyz (fun ds acc τ G'=>Sub G1 G'/\∃(i:Nat) (zs:RsL) (x:Option D),ds=((List.range m).drop i).map nD/\acc=zs.map (fun z=>D.obj z.1)/\(∀z∈zs,G' z.1=some (.lst (z.2.map rD)))/\zs.map (·.2)=((List.range m).take i).map (fun r:Nat=>preR ns (is++[(r:Int)]))/\τ=[x,some (.obj q),some (nD is.length)]) (fun _ _ _ _ _=>trivial) ?_ ?_ _ _ _ _ ⟨Sub.refl _,0,[],none,rfl,rfl,nofun,rfl,rfl⟩
 ·rintro d ds' acc τ G2 K1 K2 ⟨s2,i,zs,x,e1,rfl,hz,hi,rfl⟩ g1 g2;obtain⟨him,rfl,rfl⟩:=range_drop e1;refine⟨fun _=>⟨q,_,is.length,(i:Int),rfl,s2 _ _ hq,by lia,by lia,fun p5 G5 n5=>?_⟩,nofun⟩;rw[qfwz hjl] at n5;refine g1 _ _ _ ⟨s2.trans n5.sub,i+1,zs++[(p5,preR ns (is++[(i:Int)]))],_,rfl,by simp,fun z hz'=>?_,?_,rfl⟩
  ·rcases List.mem_append.mp hz' with h|h
   ·exact n5.sub _ _ (hz z h)
   ·have:z=(p5,preR ns (is++[(i:Int)])):=by simpa using h
    subst this;exact n5.at_
  ·rw[List.map_append,hi,List.take_add_one,List.map_append,List.getElem?_range him];rfl
 ·rintro acc τ G2 ⟨s2,i,zs,x,e1,rfl,hz,hi,rfl⟩ p6 G6 n6;have him:m≤i:=by
   have:=congrArg List.length e1;rw[List.length_map,List.length_drop,List.length_range] at this;have:0=m-i:=this;lia
  rw[List.take_of_length_le (by rw[List.length_range];exact him)] at hi;have hzr:∀z∈zs,∃r:Nat,r<m/\z.2=preR ns (is++[(r:Int)]):=fun z h=>by
   have:z.2∈zs.map (·.2):=List.mem_map_of_mem h;rw[hi] at this;obtain⟨r,hrm,e⟩:=List.mem_map.mp this;exact⟨r,List.mem_range.mp hrm,e.symm⟩
  have hrok:∀r:Nat,r<m->RsOk ns (preR ns (is++[(r:Int)])):=fun r h=>by
   rw[←qfwz hjl];exact hr.with en (by lia) (by lia)
  refine⟨p6,ns,zs,rfl,n6.at_,fun z h=>?_,?_,fun pre z post hzs hpre hcz G7 s7=>?_⟩
  ·obtain⟨r,hrm,h2⟩:=hzr z h;exact⟨n6.sub _ _ (hz z h),by rw[h2];exact hrok r hrm⟩
  ·obtain⟨ts,hts⟩:=hf.comp;have hjt:is.length<ts.length:=by rw[hts.len];exact hjl
   have et:=List.getElem?_eq_getElem hjt;obtain⟨t0,t1⟩:=hts.ok _ _ _ et en;have hm:preR ns (is++[ts[is.length]])∈zs.map (·.2):=by
    rw[hi];exact List.mem_map.mpr ⟨ts[is.length].toNat,List.mem_range.mpr (by lia),by rw[Int.toNat_of_nonneg t0]⟩
   obtain⟨z,h1,h2⟩:=List.mem_map.mp hm;refine⟨z,h1,?_⟩;rw[h2,←qfwz hjl];exact qsuz hts hop et
  ·have hzm:z∈zs:=by rw[hzs];simp
   -- z is the r-th of them,those ahead are left aside
   have hpl:pre.length<m:=by
    have:=congrArg List.length hi;rw[List.length_map,List.length_map,List.length_range,hzs,List.length_append,List.length_cons] at this;lia
   have hz2:z.2=preR ns (is++[((pre.length:Nat):Int)]):=by
    have h1:(zs.map (·.2))[pre.length]?=some z.2:=by rw[hzs,List.map_append,List.getElem?_append_right (by simp)];simp
    rw[hi,List.getElem?_map,List.getElem?_range hpl] at h1;exact (Option.some.inj h1).symm
   have hbefore:∀r:Nat,r<pre.length->¬Comp ns (preR ns (is++[(r:Int)])):=fun r hrp=>by
    have h1:(zs.map (·.2))[r]?=some (pre[r]'hrp).2:=by rw[hzs,List.map_append,List.getElem?_append_left (by simpa using hrp),List.getElem?_map,List.getElem?_eq_getElem hrp];rfl
    rw[hi,List.getElem?_map,List.getElem?_range (by lia)] at h1;have h1:=Option.some.inj h1;have h2:=hpre _ (List.getElem_mem hrp);rw[←h1] at h2;exact h2
   have e7:=s7 _ _ (n6.sub _ _ (hz z hzm));rw[hz2] at e7 hcz;refine hN _ _ ⟨is++[((pre.length:Nat):Int)],z.1,_,_,_,by rw[List.length_append,List.length_singleton];exact e,rfl,e7,by rw[List.length_append,List.length_singleton];lia,hrok _ hpl,hcz,fun k t hk r r0 rt=>?_⟩;rcases Nat.lt_trichotomy k is.length with w|w|w
   ·rw[List.getElem?_append_left w] at hk;rw[List.take_append_of_le_length (by lia)];exact hf.fst k t hk r r0 rt
   ·subst w;rw[List.getElem?_append_right (Nat.le_refl _),Nat.sub_self] at hk;have hk:((pre.length:Nat):Int)=t:=Option.some.inj hk;rw[List.take_append_of_le_length (Nat.le_refl _),List.take_length];have:=hbefore r.toNat (by lia);rw[Int.toNat_of_nonneg r0] at this;exact this
   ·rw[List.getElem?_eq_none (by rw[List.length_append,List.length_singleton];lia)] at hk;cases hk
theorem q1az:∀ds Q E,qvsz ds Q E->qvyz E (endsOf Q) (start3 ["steps","rests","place","step","tried"] ds) noG:=by
 rintro ds Q E ⟨ns,rfl,hs,q1,q2⟩;refine⟨ns,rfl,hs,fun h G1 j1=>?_,q2⟩;obtain⟨qn,qt⟩:=q1 h;refine none_list (τ:=[none,none,none,none]) hs fun p G2 n2=>⟨p,ns,_,rfl,n2.at_,hs.rs,fun hc G3 s3=>⟨nofun,fun _=>?_⟩,fun hc G3 s3=>⟨fun _=>qatz (qbwz _) (qn hc),nofun⟩⟩;refine⟨ns.map D.int,rfl,?_⟩;rw[qr1z D.int ns];refine qamz (ForI ns) (fun _ _ _ _=>rfl) ?_ ?_ _ _ _ ⟨[],p,none,none,none,rfl,rfl,s3 _ _ n2.at_,Nat.zero_le _,hs.rs,hc,fun k t h=>by simp at h⟩
 ·rintro d ds τ G4 N ⟨is,q,x2,x3,x4,e,rfl,hq,hf⟩ hN;cases hd:((List.range ns.length).zip ns).drop is.length with
  |nil=>rw[hd] at e;cases e
  |cons z zs=>
   rw[hd] at e;cases e;obtain⟨z1,z2,z3⟩:=qvqz hd.symm;refine⟨rfl,?_⟩;rw[z1];exact qvzz z2 hq hf (by rw[z3]) hN
 ·rintro τ G4 ⟨is,q,x2,x3,x4,e,rfl,hq,hf⟩;have hj:ns.length≤is.length:=by
   have:=congrArg List.length e;rw[List.length_map,List.length_drop,List.length_zip,List.length_range] at this;have:0=min ns.length ns.length-is.length:=this;lia
  have hle:=hf.le;refine⟨_,hq,?_⟩;rw[qvrz (by lia),List.map_map];exact qatz (qbwz _) (qt is hf (by lia))
def okR(n:Int):D->Bool
 |.int r=>decide (0≤r)&&decide (r<n)
 |_=>false
def formR(ns:List Int):D->Bool
 |.tup ds=>decide (ds.length=ns.length)&&(ns.zip ds).all fun z=>okR z.1 z.2
 |_=>false
def qdfz:Sp3:=fun ds G Q=>∃(ns:List Int) (d:D),ds=[stD ns,d]/\ns.length≤6/\KnD G d/\∀G',Sub G G'->Q (.bl (formR ns d)) G'
def qv0z:TS3:=sRet (eCB qbpz (aCons (eComp ["step","rest"] [] (iZip (aCons (eVar 0) (aCons (eVar 1) (aNil)))) (hTup 2 (hCons (hName 0) (hCons (hName 1) (hNil)))) (tNoTest3) (eAndV (eCall qa6z (aCons (eVar 1) (aNil))) (eChain rLe3 rLtT3 (eC (.int 0)) (eVar 1) (eVar 0)))) (aNil)))
def qfxz:TS3:=sSeq (sIf (eOr (eNot (eTest (eInst "tuple" (eVar 1)))) (eTest (eOp (rEq3 true) (eCB qyz (aCons (eVar 1) (aNil))) (eCB qyz (aCons (eVar 0) (aNil)))))) (sRet (eC (.bl false))) (sNext)) qv0z
theorem qv1z:∀ds G Q,qdfz ds G Q->qfxz (endsOf Q) (start3 ["steps","thing"] ds) G:=by
 rintro ds G Q ⟨ns,d,rfl,h6,hk,q⟩;have not_tup:(∀ds,d≠.tup ds)->qfxz (endsOf Q) (start3 ["steps","thing"] [stD ns,d]) G:=by
  intro hn;have e:formR ns d=false:=by
   cases d with
   |tup ds=>exact absurd rfl (hn ds)
   |_=>rfl
  rw[e] at q;show match instD "tuple" G d with
   |some b=>_
   |none=>False
  rw[qisz hk.known2 hn];exact⟨fun _=>⟨fun _=>qgz (q _ (Sub.refl _)),nofun⟩,nofun⟩
 cases d with
 |tup ds=>
  refine⟨nofun,fun _=>⟨_,_,rfl,rfl,Nat.zero_le _,fun h=>?_,fun h=>?_⟩⟩
  ·have h':(!(((ds.length:Nat):Int)==(((ns.map D.int).length:Nat):Int)))=true:=h;rw[List.length_map] at h';have hne:ds.length≠ns.length:=fun z=>by
    rw[z] at h';simp at h'
   have e:formR ns (.tup ds)=false:=by
    show (decide (ds.length=ns.length)&&_)=false;rw[decide_eq_false hne,Bool.false_and]
   rw[e] at q;exact qgz (q _ (Sub.refl _))
  ·have h':(!(((ds.length:Nat):Int)==(((ns.map D.int).length:Nat):Int)))=false:=h;rw[List.length_map] at h';have heq:ds.length=ns.length:=by
    simp at h';lia
   refine⟨ns.map D.int,ds,rfl,rfl,?_⟩;rw[qr0z D.int ns ds];refine⟨?_,?_⟩
   ·show ((ns.zip ds).map _).length≤sizeLine;rw[List.length_map,List.length_zip];exact line1000 (by lia)
   refine qaaz (fun τ=>∃x y,τ=[x,y]) (fun z:Int×D=>D.tup [.int z.1,z.2]) (fun _=>true) (fun z=>.bl (okR z.1 z.2)) (G:=G) ⟨rfl,rfl⟩ (ns.zip ds) [] _ ⟨none,none,rfl⟩ ?_ ?_
   ·rintro⟨n,d⟩ hm τ K1 K2 ⟨x,y,rfl⟩ g1 g2;have hd:Known G d:=(hk.el (List.of_mem_zip hm).2).known;have k:=g1 rfl [some (.int n),some d] ⟨_,_,rfl⟩;refine⟨rfl,fun _=>⟨hd,?_⟩,nofun⟩;cases d with
    |int r=>
     refine⟨fun _=>⟨fun a=>?_,fun a=>?_⟩,nofun⟩
     ·have e:okR n (.int r)=decide (r<n):=by
       show (decide (0≤r)&&decide (r<n))=_;rw[show decide (0≤r)=true from a,Bool.true_and]
      rw[e] at k;exact k
     ·have e:okR n (.int r)=false:=by
       show (decide (0≤r)&&decide (r<n))=_;rw[show decide (0≤r)=false from a,Bool.false_and]
      rw[e] at k;exact k
    |_=>exact⟨nofun,fun _=>k⟩
   ·intro p1 G1 n1;rw[filter_all,List.nil_append] at n1;refine⟨_,_,n1.at_,qc0z (fun z:Int×D=>okR z.1 z.2) (ns.zip ds),?_⟩;have e:formR ns (.tup ds)=((ns.zip ds).map fun z=>okR z.1 z.2).all id:=by
     show (decide (ds.length=ns.length)&&(ns.zip ds).all fun z=>okR z.1 z.2)=_;rw[decide_eq_true heq,Bool.true_and,List.all_map];rfl
    rw[e] at q;exact qgz (q _ n1.sub)
 |_=>exact not_tup nofun
theorem qfyz{ns:List Int}{d:D}(h:formR ns d=true):∃is:List Int,d=.tup (is.map D.int)/\is.length=ns.length/\∀c∈ns.zip is,0≤c.2/\c.2<c.1:=by
 cases d with
 |tup ds=>
  have h':(decide (ds.length=ns.length)&&(ns.zip ds).all fun z=>okR z.1 z.2)=true:=h;rw[Bool.and_eq_true,decide_eq_true_iff] at h';obtain⟨hl,ha⟩:=h';have key:∀(ms:List Int) (es:List D),es.length=ms.length->((ms.zip es).all fun z=>okR z.1 z.2)=true->∃is:List Int,es=is.map D.int/\is.length=ms.length/\∀c∈ms.zip is,0≤c.2/\c.2<c.1:=by
   intro ms
   induction ms with
   |nil=>
    intro es hl _;have:es=[]:=List.eq_nil_of_length_eq_zero hl;subst this;exact⟨[],rfl,rfl,nofun⟩
   |cons m ms ih=>
    intro es hl ha;cases es with
    |nil=>cases hl
    |cons e es=>
     rw[List.zip_cons_cons,List.all_cons,Bool.and_eq_true] at ha;obtain⟨is,rfl,h2,h3⟩:=ih es (by simpa using hl) ha.2;cases e with
     |int r=>
      have h0:(decide (0≤r)&&decide (r<m))=true:=ha.1;rw[Bool.and_eq_true,decide_eq_true_iff,decide_eq_true_iff] at h0;refine⟨r::is,rfl,by simp[h2],fun c hc=>?_⟩;rw[List.zip_cons_cons] at hc;rcases List.mem_cons.mp hc with rfl|hc
      ·exact h0
      ·exact h3 c hc
     |_=>cases ha.1
  obtain⟨is,rfl,h2,h3⟩:=key ns ds hl ha;exact⟨is,rfl,h2,h3⟩
 |_=>cases h
def optD:D->Option Int
 |.int i=>some i
 |_=>none
def optsD:D->List (Option Int)
 |.tup ds=>ds.map optD
 |_=>[]
def restsB(ns:List Int)(d:D):Bool:=formR ns d&&(nmO (setC ns (optsD d))).isNone
def qawz:SpX:=fun ds Q E=>∃(ns:List Int) (d:D),ds=[stD ns,d]/\St ns/\KnD noG d/\(rndS ns≤10000->Q (.bl (restsB ns d)) noG)/\(10000<rndS ns->E "TooGreat" [("many",((rndS ns:Nat):Int)),("most",10000)])
def qv2z(E:E3):TS3:=sRet (eAndV (eCall qdfz (aCons (eVar 0) (aCons (eVar 1) (aNil)))) (eCall qdez (aCons (eVar 0) (aCons (eVar 1) (aNil)))))
def qj1z(E:E3):TS3:=sSeq (sDrop (eCallX qccz E (aCons (eVar 0) (aNil)))) (qv2z E)
theorem qv3z:∀ds Q E,qawz ds Q E->qj1z E (endsOf Q) (start3 ["steps","thing"] ds) noG:=by
 rintro ds Q E ⟨ns,d,rfl,hs,hk,q1,q2⟩;refine⟨ns,rfl,hs,fun h G1 j1=>?_,q2⟩;have q:=q1 h;have hp:∀n∈ns,0<n:=fun n hn=>by have:=hs.st n hn;lia
 refine⟨ns,d,rfl,hs.l6,hk.sub (qbwz _),fun G2 s2=>⟨fun hf=>?_,fun hf=>?_⟩⟩
 ·have hf:formR ns d=true:=hf;unfold restsB at q;rw[hf,Bool.true_and] at q;obtain⟨is,rfl,h2,h3⟩:=qfyz hf;have e:optsD (.tup (is.map D.int))=is.map some:=by
   show (is.map D.int).map optD=_;rw[List.map_map];rfl
  rw[e] at q;exact⟨_,ns,is.map some,rfl,by show (is.map some).map rD=is.map D.int;rw[List.map_map];rfl,hp,hs.l6,qatz (qbwz _) q⟩
 ·have hf:formR ns d=false:=hf;unfold restsB at q;rw[hf,Bool.false_and] at q;exact qatz (qbwz _) q
end My
namespace My
open PySem L2 L3
def qdgz:Sp3:=fun ds G Q=>∃(p:Addr) (cs:List Clk) (n:Int),ds=[.obj p,.int n]/\G p=some (.lst (cs.map cD))/\(∀c∈cs,0<c.1)/\cs.length≤1000/\∀q G',New G q (.lst ((cs.filter (rg2 n)).map cD)) G'->Q (.obj q) G'
def qj2z:TS3:=sRet (eComp ["clock"] [1] (iSeq (eVar 0)) (hName 0) (eTest (eOp (rEq3 false) (eOp rMod3 (eOp rSub3 (eVar 1) (eOp rIx3 (eVar 0) (eC (.int 1)))) (eOp rIx3 (eVar 0) (eC (.int 0)))) (eC (.int 0)))) (eVar 0))
theorem qv4z:∀ds G Q,qdgz ds G Q->qj2z (endsOf Q) (start3 ["clocks","number"] ds) G:=by
 rintro ds G Q ⟨p,cs,n,rfl,hp,hc,hz,q⟩;refine⟨_,hp,by show (cs.map cD).length≤sizeLine;rw[List.length_map];exact line1000 hz,?_⟩;refine qaaz (fun τ=>∃x,τ=[x,some (.int n)]) cD (rg2 n) cD (G:=G) hp cs [] _ ⟨none,rfl⟩ ?_ ?_
 ·rintro⟨s,r⟩ hm τ K1 K2 ⟨x,rfl⟩ h1 h2;exact⟨_,rfl,_,rfl,hc _ hm,_,_,rfl,rfl,Nat.zero_le _,fun e=>h1 e _ ⟨_,rfl⟩,fun e=>h2 e _ ⟨_,rfl⟩⟩
 ·exact fun p G' hp=>qgz (q p G' hp)
structure Rs(ns is:List Int):Prop where
 len:is.length=ns.length
 n6:ns.length≤6
 st:∀n∈ns,2≤n/\n≤24
 ok:∀c∈ns.zip is,0≤c.2/\c.2<c.1
theorem Rs.valid{ns is:List Int}(h:Rs ns is):∀c∈ns.zip is,Valid c/\c.1≤24:=fun c hc=>by
 have h1:=h.ok c hc;have h2:=h.st c.1 (List.of_mem_zip hc).1;exact⟨⟨by lia,h1.1,h1.2⟩,h2.2⟩
theorem qj3z:∀ns is:List Int,setC ns (is.map some)=ns.zip is
 |[],_=>rfl
 |n::ns,[]=>rfl
 |n::ns,i::is=>by
  have:=qj3z ns is;unfold setC at this ⊢;rw[List.map_cons,List.zip_cons_cons,List.filterMap_cons,List.zip_cons_cons];show (n,i)::_=_;rw[this]
theorem qj4z:∀ns is:List Int,zipD (ns.map D.int) (is.map D.int)=(ns.zip is).map cD
 |[],_=>rfl
 |n::ns,[]=>rfl
 |n::ns,i::is=>by
  show D.tup [.int n,.int i]::zipD (ns.map D.int) (is.map D.int)=cD (n,i)::(ns.zip is).map cD;rw[qj4z ns is];rfl
theorem qv5z{cs:List Clk}{c:Clk}(hc:c∈cs):c.1.toNat∣rnd cs:=qsiz hc
def allB(cs:List Clk):Bool:=(List.range (rnd cs)).all fun y=>!((cs.filter (rg2 (y:Int))).isEmpty)
theorem qv6z{cs:List Clk}(hv:∀c∈cs,Valid c/\c.1≤24)(hr:0<rnd cs):allB cs=(nmO cs).isNone:=by
 have key:∀y:Nat,(!((cs.filter (rg2 (y:Int))).isEmpty))=true↔∃c∈cs,rg y c=true:=fun y=>by
  rw[qrez (fun c hc=>(hv c hc).1),Bool.not_eq_true',←cnt_pos];unfold cntN;cases cs.filter (rg (y:Int))<;>simp
 rw[Bool.eq_iff_iff];constructor
 ·intro h;have h:=List.all_eq_true.mp h;have hall:∀x:Nat,∃c∈cs,rg x c=true:=fun x=>by
   obtain⟨c,hc,hg⟩:=(key (x%rnd cs)).mp (h _ (List.mem_range.mpr (Nat.mod_lt _ hr)));refine⟨c,hc,?_⟩;obtain⟨⟨v1,v2,v3⟩,_⟩:=hv c hc;unfold rg at hg ⊢;rw[beq_iff_eq] at hg ⊢;rw[←hg];have e:c.1=((c.1.toNat:Nat):Int):=by lia
   rw[e,←Int.natCast_emod,←Int.natCast_emod,Nat.mod_mod_of_dvd _ (qv5z hc)]
  unfold nmO;rw[Option.isNone_iff_eq_none,List.find?_eq_none];intro x _;have:=cnt_pos.mpr (hall x);simpa using this
 ·intro h;refine List.all_eq_true.mpr fun y _=>(key y).mpr (qstz hv (Option.isNone_iff_eq_none.mp h) y)
end My
namespace My
open PySem L2 L3
end My
namespace My
open PySem L2 L3
theorem qv7z(cs:List Clk)(a:Nat):rndF cs a=lcmF (cs.map fun c=>c.1.toNat) a:=by
 induction cs generalizing a with
 |nil=>rfl
 |cons c cs ih=>exact ih _
end My
namespace L2
open PySem PySem.Spec PyProof.Rows
def CtxOk(A:Around)(h:Heap):Prop:=∃e oe vs,A.handled=some (.ref e)/\h.get? e=some oe/\oe.data=.fields vs/\vs[2]?=some .none
theorem qv8z:entryFor table "proto.unchain" = some Builtin.«proto.unchain»:=entryFor_of_fast (by kernel_rfl)
theorem qv9z:plainId "proto.unchain" = true:=by decide +kernel
section
variable {prog:Program} {w:World} {A:Around} {E:Value->Shared->Prop} {s:Shared}
theorem raiseNewH{α:Type}{x:Addr}{ox:Obj}{vx:Array Value}{Q:α->Shared->Prop}(c:CtxOk A s.heap)(hx:s.heap.get? x=some ox)(hd:ox.data=.fields vx)(h2:2<vx.size)
  (h:∀h',Heap.SameBut x s.heap h'->(∃o',h'.get? x=some o'/\o'.cls=ox.cls)->E (.ref x) { s with heap:=h' }):wpAny (model prog w) A (raiseNew (.ref x):Sem α) Q E s:=by
 obtain⟨e,oe,vs,hh,he,hde,h2e⟩:=c;unfold raiseNew;refine wpAny_bind (wpAny_handled ?_);rw[hh];by_cases z:e=x
 ·subst z;show wpAny _ _ (if (Value.ref e != Value.ref e)=true then _ else throw (Value.ref e)) _ _ _;rw[if_neg (by simp)];exact wpAny_throw (h _ (Heap.SameBut.refl ..) ⟨ox,hx,rfl⟩)
 ·show wpAny _ _ (if (Value.ref e != Value.ref x)=true then _ else throw (Value.ref x)) _ _ _;rw[if_pos (by simpa using z)];refine wpAny_bind (wpAny_holding (wpAny_runValue ?_));refine codeAny_builtin qv8z ?_;rw[Around.under_plainId qv9z _];show wpAny _ _ (field (.ref e) 2 >>= _) _ _ _;refine wpAny_bind (wpAny_field he hde h2e ?_);show wpAny _ _ (if (Value.none==Value.none)=true then _ else _) _ _ _;rw[if_pos (show (Value.none==Value.none)=true from rfl)];refine wpAny_pure ?_;show wpAny _ _ (updateField x 2 (.ref e) >>= _) _ _ _;refine wpAny_bind ?_;show wpAny _ _ (setField (.ref x) 2 (.ref e)) _ _ _;refine wpAny_setField hx hd h2 (wpAny_throw (h _ (Heap.SameBut.update ..) ⟨_,Heap.get?_update_self _ hx (Obj.isFreed_of_fields (Obj.data_mapFields hd _)),Obj.cls_mapFields ..⟩))
theorem CtxOk.keep{h h':Heap}(c:CtxOk A h)(k:∀b o vs,h.get? b=some o->o.data=.fields vs->vs[2]?=some .none->h'.get? b=some o):CtxOk A h':=by
 obtain⟨e,oe,vs,a,b,c,d⟩:=c;exact⟨e,oe,vs,a,k e oe vs b c d,c,d⟩
theorem qwaz{it t:Addr}{i:Nat}{items}{Q:Option Value->Shared->Prop}(hh:CtxOk A s.heap)
  (hit:IsTupIter s.heap it t i) (ht:IsTup s.heap t items) (hx:items[i]?=none)
  (hQ:∀h',Heap.ExtBut it s.heap h'->Q none { s with heap:=h' }):wpAny (model prog w) A (pyNext (.ref it)) Q E s:=by
 obtain⟨o,ho,hc,hd⟩:=id hit;obtain⟨ol,hol,_,nl,hdl⟩:=ht;unfold pyNext;refine wpAny_bind (wpAny_attempt (wpAny_callSpecial?_slot (name:=Str.ofString "__next__") hit.typeIs slot_tupleiter_next
  (wpAny_call_entry slot_tupleiter_next hit.typeIs entry_tupleiter_next ?_ (args_tupleiter_next _))))
 show wpAny _ _ (field (.ref it) 0 >>= _) _ _ s;refine wpAny_bind (wpAny_field ho hd (x:=.ref t) rfl ?_);show wpAny _ _ (if (Value.ref t==Value.none)=true then _ else _) _ _ s;rw[if_neg (show ¬((Value.ref t==Value.none)=true) from Bool.false_ne_true)];show wpAny _ _ (field (.ref it) 1 >>= _) _ _ s;refine wpAny_bind (wpAny_field ho hd (x:=.int i 0) rfl ?_);show wpAny _ _ (seqItems? (.ref t) >>= _) _ _ s;refine wpAny_bind (wpAny_seqItems hol hdl ?_);simp only[Int.toNat_natCast,hx];refine wpAny_bind (wpAny_rule (wpAny_bind (wpAny_setField ho hd (by simp) ?_)));show wpAny _ _ (newExc (.type "StopIteration") [] >>= _) _ _ _;refine wpAny_bind ?_;simp only[newExc,newTuple];refine wpAny_bind (wpAny_newObj_type ?_ (by size_fits));refine wpAny_bind (m:=firstArgMember _ _) (wpAny_of_eq (a:=Value.none) (by first|rfl|(simp only[firstArgMember];rfl)) ?_)
 refine wpAny_newObj_type ?_ (by size_fits);refine raiseNewH (A:=A.in1) ?_ (Heap.get?_push_size _ rfl) rfl (by exact (by decide:2<6)) fun h' sb ⟨o',e1,e2⟩=>?_
 ·refine (show CtxOk A.in1 s.heap from hh).keep fun b ob vs e hf h2=>Heap.get?_push_of_some _ (Heap.get?_push_of_some _ ((Heap.get?_update_other _ _ fun z=>?_).trans e));rw[←z,ho] at e;cases e;rw[hd] at hf;cases hf;simp at h2
 refine wpAny_bind (wpAny_isInstance (T:="StopIteration") (b:=true) ⟨_,e1,e2⟩ isSubtype_stop ?_);refine wpAny_pure (hQ _ fun b ob hb e=>?_);refine (sb.2 b (Nat.ne_of_lt (Heap.lt_size (((Heap.SameBut.update s.heap it _).extBut.push _) b ob hb e)))).trans ((((Heap.SameBut.update ..).extBut.push _).push _) b ob hb e)
theorem unpackItemsH{t:Addr}{items:Array Value}{Q:List Value->Shared->Prop}(hh:CtxOk A s.heap)(ht:IsTup s.heap t items)
  (hQ:∀h',Heap.ExtBut s.heap.objs.size s.heap h'->Q items.toList { s with heap:=h' }):wpAny (model prog w) A (unpackItems (.ref t) items.size none) Q E s:=by
 have hlt:t≠s.heap.objs.size:=by obtain⟨o,ho,_⟩:=ht;exact Nat.ne_of_lt (Heap.lt_size ho)
 unfold unpackItems;refine wpAny_bind ?_
 ·unfold notIterableAtAll;refine wpAny_bind (wpAny_specialOf ht.typeIs slot_tuple_iter.lookup ?_);refine wpAny_pure ?_;simp only[Bool.false_eq_true,if_false];refine wpAny_bind (wpAny_holding (iter_tuple ht ?_));refine wpAny_bind (wpAny_holding (draw_tuple hlt items.size 0 _ _ ⟨_,Heap.get?_push_size _ rfl,rfl,rfl⟩ (ht.push _) (by omega) fun h₁ hit₁ hs₁=>?_));have hall:List.take items.size (List.drop 0 items.toList)=items.toList:=by
   rw[List.drop_zero];exact List.take_of_length_le (by simp)
  rw[hall];rw[if_neg (by simp)];have ht₁:IsTup h₁ t items:=(ht.push _).extBut hs₁.extBut hlt;have hh₁:CtxOk A h₁:=hh.keep fun b o _ e _ _=>hs₁.extBut b o (Nat.ne_of_lt (Heap.lt_size e)) (Heap.get?_push_of_some _ e);refine wpAny_bind (wpAny_holding (qwaz hh₁ hit₁ ht₁ (by simp) fun h₂ he₂=>?_));simp only[Option.isSome_none,Bool.false_eq_true,if_false];refine wpAny_pure (hQ h₂ fun b o hb e=>he₂ b o hb (hs₁.extBut b o hb (Heap.get?_push_of_some _ e)))
theorem assignH{env:Env}{elts:List Expr}{x1}{pos:Pos}{t:Addr}{items:Array Value}{Q:Unit->Shared->Prop}(hh:CtxOk A s.heap)(ht:IsTup s.heap t items)
  (hn:(assignEach elts env).length=items.size) (hstar:(assignEach elts env).findIdx? (·.1)=none)
  (h:∀h',Heap.ExtBut s.heap.objs.size s.heap h'->wpAny (model prog w) A (assignInOrder ((assignEach elts env).map (·.2)) items.toList) Q E { s with heap:=h' }):
  wpAny (model prog w) A (assign (.Tuple elts x1 pos) env (.ref t)) Q E s:=by
 rw[assign_Tuple];refine wpAny_bind (wpAny_standAt ?_);unfold unpack;rw[hn,hstar];exact wpAny_bind (wpAny_holding (unpackItemsH hh ht h))
end
def HeldX(X:Cx):Prop:=∃e oe vs,X.A.handled=some (.ref e)/\(e,oe)∈X.pn/\oe.data=.fields vs/\vs[2]?=some .none
section
variable {X:Cx} {pins:List (Addr×Obj)} {σ:St} {H:Hp} {s:Shared}
theorem HeldX.ctx(h:HeldX X)(I:Inv X pins σ H s):CtxOk X.A s.heap:=by
 obtain⟨e,oe,vs,a,b,c,d⟩:=h;exact⟨e,oe,vs,a,(I.pin (e,oe) (List.mem_append_left _ b)).1,c,d⟩
theorem qwbz{es:List Expr}{k:Nat}{t:TGs}{n:Nat}{pos:Pos}(hc:HeldX X)(h:PGs X es t)
  (hn:(assignEach es X.env).length=n:=by rfl) (hst:(assignEach es X.env).findIdx? (·.1)=none:=by rfl):PG X (.Tuple es k pos) (gTup X.K n t):=by
 intro pins s σ H v u Q I r hw;obtain⟨a,xs,e1,hq,hl,hw⟩:=hw;subst e1;cases r;obtain⟨its,rv,ht,hz⟩:=I.tuple hq;refine assignH (hc.ctx I) ht (by simp[hn,←hl,rv.length]) hst fun h' hx=>?_;have I1:Inv X pins σ H { s with heap:=h' }:=I.kept (t':=s.toks) fun b o e=>hx b o (Nat.ne_of_lt (Heap.lt_size e)) e
 exact h pins _ σ H xs _ Q I1 (by simpa using rv) hw
theorem qwcz{i j:Nat}{x y:Str}{a b:Expr}{ta:TA}{px py pt pos:Pos}{kt k2 pt2}(hc:HeldX X)(hN:X.N.Nodup)(hi:X.N[i]?=some x)(hj:X.N[j]?=some y)(hij:i≠j)
  (hx:X.env.scope.names.lookup x=some .local) (hy:X.env.scope.names.lookup y=some .local) (ha:PA X [a,b] ta)
  (hw:swappedStores [.Tuple [.Name x px,.Name y py] kt pt] (.Tuple [a,b] k2 pt2) X.env=pure (some [x,y]))
  (hs:swapsWithSole [.Tuple [.Name x px,.Name y py] kt pt] (.Tuple [a,b] k2 pt2) pos.line X.env=pure false:=by rfl):
  PS X (.Assign [.Tuple [.Name x px,.Name y py] kt pt] (.Tuple [a,b] k2 pt2) pos) (tPar i j ta):=by
 intro pins s σ H D I h;rw[exec_Assign_arm];refine wpAny_bind (wpAny_standAt ?_);rw[hs];refine wpAny_bind (wpAny_pure ?_);rw[if_neg (by decide)];refine wpAny_bind (Tuple_ (thn (ha _ pins s σ H _ I h) fun us s1 ⟨vs,H1,I1,r1,q1⟩=>?_));obtain⟨v,w,e1,q1⟩:=q1;subst e1;obtain⟨u1,u2,rfl,rv,rw'⟩:∃u1 u2,us=[u1,u2]/\RelV v u1/\RelV w u2:=by
  cases r1 with
  |cons p q=>
   cases q with
   |cons p' q'=>
    cases q';exact⟨_,_,rfl,p,p'⟩
 refine wpAny_newObj_type ?_ (by show 2≤sizeLine;decide);have I2:Inv X pins σ H1 { s1 with heap:=s1.heap.push { cls:=.type "tuple",data:=.seq [u1,u2].toArray }}:=I1.kept (t':=s1.toks) fun b o e=>Heap.get?_push_of_some _ e;rw[hw];refine wpAny_bind (wpAny_pure ?_);show wpAny (model X.prog X.w) X.A (do rule "assign.swapped-stores";let items ←unpackItems (.ref s1.heap.objs.size) 2 none;assignInOrder [fun v=>bindName X.env y v,fun v=>bindName X.env x v] items.reverse;pure Flow.next) _ _ _
 refine wpAny_bind (wpAny_rule (wpAny_bind (unpackItemsH (items:=#[u1,u2]) (hc.ctx I2) (IsTup.new s1.heap _) fun h' hx'=>?_)));have I3:=I2.kept (h':=h') (t':=s1.toks) fun b o e=>hx' b o (Nat.ne_of_lt (Heap.lt_size e)) e;show wpAny _ _ (assignInOrder [fun v=>bindName X.env y v,fun v=>bindName X.env x v] [u2,u1] >>= fun _=>pure Flow.next) _ _ _
 refine wpAny_bind (assignInOrder_cons (wpAny_bindName (qbjz I3 hN hj (.inl hy) rw' (fun s2 I4=>?_) (.inr hy))));refine assignInOrder_cons (wpAny_bindName (qbjz I4 hN hi (.inl hx) rv (fun s3 I5=>assignInOrder_nil (wpAny_pure ?_)) (.inr hx)));rw[List.set_comm _ _ (Ne.symm hij)] at I5;exact⟨_,H1,I5,q1⟩
end
end L2
namespace L2
open PySem PySem.Spec PyProof.Rows
def HeldA(A:Around)(outer:List Env)(h:Heap)(H:Hp):Prop:=∃e oe vs,A.handled=some (.ref e)/\h.get? e=some oe/\oe.data=.fields vs/\vs[2]?=some .none/\H e=none/\e∉frs outer
structure FnOkP(P:Program)(w:World)(K:PySem.W.Frag)(mg:Str->Option Value)(base:Heap)(k:Nat)(f:Addr)(fd:FuncData)(ps:List Str)(sp:Sp):Prop where
 len:∀vs H Q E,sp vs H Q E->vs.length=ps.length
 run:∀(A:Around) (outer:List Env) (s:Shared) (H:Hp) (args:Args) (us:List Value) (vs:List V) (Q:VK) (E:XK),RoomH k A->HeldA A outer s.heap H->Env0 P w K mg base A outer s H->BindsTo s fd args (ps.zip us)->Vals vs us->sp vs H Q E ->
  codeAny (model P w) A (.call (.ref f) args) (CR CX0 outer P w H s Q E) s
def cxP(P:Program)(w:World)(K:PySem.W.Frag)(mg:Str->Option Value)(base:Heap)(N:List Str)(qual:Str)(scope:Scope)(f:Addr)(cd:Value)(A:Around)(outer:List Env)(s:Shared)(H:Hp)(E:XK)(e:Addr)(oe:Obj):Cx:=
 { cxH P w K mg base N qual scope f cd A outer s H E with pn:=[(e,oe)]}
section
variable {P:Program} {w:World} {K:PySem.W.Frag} {mg:Str->Option Value} {base:Heap} {j k:Nat} {f:Addr} {fd:FuncData} {ps:List Str} {sp:Sp}
theorem FnOkP.mono(F:FnOkP P w K mg base j f fd ps sp)(h:j≤k):FnOkP P w K mg base k f fd ps sp:=⟨F.len,fun A outer s H args us vs Q E hr=>F.run A outer s H args us vs Q E (hr.mono h)⟩
end
theorem qwdz{P:Program}{w:World}{K:PySem.W.Frag}{mg:Str->Option Value}{base:Heap}{k:Nat}{x qual:Str}{st:Stmt}{f:Addr}{fd:FuncData}{N ps:List Str}{sp:Sp}(F:Fun K x qual st f fd)(S:FnScope N ps (defScope st))(len:∀vs H Q E,sp vs H Q E->vs.length=ps.length)
  (hbody:∀(cdv:Value) (A:Around) (outer:List Env) (s:Shared) (H:Hp) (vs:List V) (Q:VK) (E:XK) (e:Addr) (oe:Obj),RoomH k (A.deeper (envOfC qual (defScope st) s.heap.objs.size f cdv))->HeldX (cxP P w K mg base N qual (defScope st) f cdv A outer s H E e oe)->sp vs H Q E ->
   ∃t,PSs (cxP P w K mg base N qual (defScope st) f cdv A outer s H E e oe) (defBody st) t/\t { nx:=fun _ H'=>Q .non H',rt:=Q } (start N vs) H):
  FnOkP P w K mg base (k+1) f fd ps sp:=by
 obtain⟨oc,od,kV,doc,pm,an,cdv,ct,osl,rfl,lk,hcd⟩:=F.ex;refine⟨len,fun A outer s H args us vs Q E hr hA e0 hb r hsp=>?_⟩;have hl:=len _ _ _ _ hsp;have KX:K.In s.heap:=e0.mod.kin.keeps fun b o e=>(e0.bs b o e).1;have lim:s.heap.NoLimit:=e0.mod.nolimit.keeps fun b o e=>(e0.bs b o e).1;have hkind:∀y∈ps.zip us,(defScope st).names.lookup y.1=some .local∨((defScope st).names.lookup y.1=some .cell/\((cellsFrom (s.heap.objs.size+1) (defScope st).names []).lookup y.1).isSome=true):=fun⟨n,v⟩ hy=>by
  rcases S.par n (List.of_mem_zip hy).1 with q|q
  ·exact .inl q
  ·exact .inr ⟨q,PySem.W.cellsFrom_some _ _ _ (.inl q)⟩
 refine codeAny_call_function hr.depth (KX _ _ lk) rfl S.co S.gen rfl (PySem.W.codeRec_of KX hcd) (hb _ _ _ _ ?_);refine wpAny_newFunctionEnv_cells S.kind hkind fun env he s1 x=>?_;subst he;refine⟨lim.keeps x.toInCall.keep,codeAny_func ?_⟩;obtain⟨e,oe,ws,h1,h2,h3,h4,h5,h6⟩:=hA;have HX:HeldX (cxP P w K mg base N qual (defScope st) f cdv A outer s H E e oe):=⟨e,oe,ws,h1,by simp[cxP],h3,h4⟩;obtain⟨t,ht,hq⟩:=hbody cdv A outer s H vs Q E e oe (hr.deeper _) HX hsp;have e1:Env0 P w K mg base { A with handled:=none } outer s H:=⟨e0.frames,e0.mod,e0.bs,e0.bsz,e0.funs,e0.frf,e0.hok,e0.bare⟩;have I0:Inv (cxOf CX0 P w K mg base N qual (defScope st) f cdv { A with handled:=none } outer s H E) [] (start N vs) H s1:=qevz S rfl e1 hl r x;have I1:=I0.loud (A:=A) e0.frames;have I:Inv (cxP P w K mg base N qual (defScope st) f cdv A outer s H E e oe) [] (start N vs) H s1:=by
  obtain⟨ok,a1,a2,a3,a4,a5,a6,a7,a8,a9,a10⟩:=I1;obtain⟨o1,o2,o3,o4,o5,o6,o7,o8,o9,o10,o11,o12,o13,o14,o15,o16,o17,o18⟩:=ok;refine⟨⟨o1,o2,o3,o4,o5,o6,o7,o8,o9,o10,o11,o12,o13,o14,o15,o16,o17,o18⟩,a1,a2,a3,a4,a5,a6,a7,fun p hp=>?_,a9,a10⟩;have ez:p=(e,oe):=by simpa [cxP] using hp
  subst ez;exact⟨x.toInCall.keep _ _ h2,h5,Nat.ne_of_lt (Heap.lt_size h2),h6,fun v z=>by rw[h3] at z;cases z⟩
 refine wpAny_mono (ht [] s1 (start N vs) H _ I hq) (fun fl s' hs=>?_) fun e s' hs=>hs.elim;have fin:∀{σ':St} {H':Hp} {v:V} {u:Value},Inv (cxP P w K mg base N qual (defScope st) f cdv A outer s H E e oe) [] σ' H' s'->RelV v u->Q v H'->CE outer P w H s Q u s':=
  fun {σ' H' v u} J rv q=>⟨v,H',J.os,J.bare,J.base,J.hok,rv,q⟩
 cases fl with
 |ret u=>
  obtain⟨v,σ',H',J,rv,q⟩:=hs;exact fin J rv q
 |next=>
  obtain⟨σ',H',J,q⟩:=hs;exact fin (v:=V.non) (u:=Value.none) J rfl q
 |brk=>
  obtain⟨_,_,_,q⟩:=hs;exact False.elim q
 |cont=>
  obtain⟨_,_,_,q⟩:=hs;exact False.elim q
section
variable {X:Cx} {k:Nat} {f:Addr} {fd:FuncData} {ps:List Str} {sp:Sp} {E:XK} {x:Str} {p pos:Pos} {e:Expr} {es:List Expr} {t:TA}
theorem HeldX.atA{pins:List (Addr×Obj)}{σ:St}{H:Hp}{s:Shared}(h:HeldX X)(I:Inv X pins σ H s):HeldA X.A X.stack s.heap H:=by
 obtain⟨e,oe,vs,a,b,c,d⟩:=h;obtain⟨p1,p2,p3,p4,_⟩:=I.pin (e,oe) (List.mem_append_left _ b);refine⟨e,oe,vs,a,p1,c,d,p2,fun z=>?_⟩;rcases I.ok.stk with q|⟨q,q2⟩
 ·rw[q] at z;exact p4 z
 ·rw[q] at z;unfold frs at z;rw[List.filterMap_cons,q2] at z;rcases List.mem_cons.mp z with z|z
  ·exact p3 z
  ·exact p4 z
theorem qwez{pins:List (Addr×Obj)}{σ:St}{H:Hp}{s:Shared}{Q:VK}{us:List Value}{vs:List V}(F:FnOkP X.prog X.w X.K X.mg X.base k f fd ps sp)(hr:RoomH k X.A)(hA:HeldX X)(hb:Binds X.K fd ps [])
  (I:Inv X pins σ H s) (r:Vals vs us) (h:sp vs H Q E):wpAny (model X.prog X.w) X.A (call (.ref f) us) (EP X pins σ Q) X.xe s:=by
 have hl:(us++[]).length=ps.length:=by rw[List.append_nil,←r.length];exact F.len _ _ _ _ h
 have hb':=hb s us I.kIn hl;rw[List.append_nil] at hb';refine wpAny_call (codeAny_mono (F.run X.A X.stack s H ⟨us,[]⟩ us vs Q E hr (hA.atA I) I.env0 hb' r h) fun r s' hq=>?_);cases r with
 |error e=>exact False.elim hq
 |ok fl=>
  cases fl with
  |ret u=>exact I.after hq
  |next=>exact False.elim hq
  |brk=>exact False.elim hq
  |cont=>exact False.elim hq
theorem qwfz(F:FnOkP X.prog X.w X.K X.mg X.base k f fd ps sp)(hr:RoomH k X.A)(hA:HeldX X)(hg:Gl X x)(hm:X.mg x=some (.ref f))(hk:PySem.W.keepIn X.K (.ref f)=true)(hb:Binds X.K fd ps [])
  (ha:PA X (e::es) t) (hdb:(x==("__debug__":Str))=false:=by decide) (he:starEach (e::es) X.env=(false,eval e X.env)::starEach es X.env:=by rfl) (hpl:(backTo pos (starEach es X.env)).any (·.1)=false:=by rfl):
  PE X (.Call (.Name x p) (e::es) [] pos) (tCall sp [] E t):=by
 intro pins s σ H Q I h;refine wpAny_Call_Name_kw (qakz I hg hm ?_ hdb);refine PySem.W.callWith_K (h₀:=X.base) I.ok.mod.kin hk (thn (ha pos pins s σ H _ I h) fun us s1 ⟨vs,H1,I1,r,q⟩=>⟨I1.kIn,?_⟩) he hpl;have q':sp (vs++[]) H1 Q E:=q;rw[List.append_nil] at q';exact qwez F hr hA hb I1 r q'
end
end L2
namespace L3
open PySem PySem.Spec PyProof.Rows L2
abbrev FnP3(P:Program)(w:World)(K:PySem.W.Frag)(mg:Str->Option Value)(base:Heap)(k:Nat)(f:Addr)(fd:FuncData)(ps:List Str)(sp:Sp3):Prop:=FnOkP P w K mg base k f fd ps (lowSp K sp)
section
variable {X:Cx} {k:Nat} {f:Addr} {fd:FuncData} {ps:List Str} {sp:Sp3} {x:Str} {p pos:Pos} {e iter tg:Expr} {es:List Expr} {t:TA3}
theorem qwgz(F:FnP3 X.prog X.w X.K X.mg X.base k f fd ps sp)(hr:RoomH k X.A)(hA:HeldX X)(hm:X.mg x=some (.ref f))(hk:PySem.W.keepIn X.K (.ref f)=true)(hb:Binds X.K fd ps [])(ha:PA3 X (e::es) t)(hg:Gl X x:=by rfl)
  (hdb:(x==("__debug__":Str))=false:=by decide) (he:notStar e=true:=by rfl) (hpl:es.all notStar=true:=by rfl):
  PE3 X (.Call (.Name x p) (e::es) [] pos) (eCall sp t):=qpz (qwfz (E:=E0) F hr hA hg hm hk hb ha hdb (qlz he) (qzz hpl)) fun σ H Q h=>qe0z h
theorem fnP3{P:Program}{w:World}{K:PySem.W.Frag}{mg:Str->Option Value}{base:Heap}{x qual:Str}{st:Stmt}{f:Addr}{fd:FuncData}{N ps:List Str}{k:Nat}{sp:Sp3}(F:Fun K x qual st f fd)(S:FnScope N ps (defScope st))(hN:ps.length≤N.length)(len:∀ds G Q,sp ds G Q->ds.length=ps.length)(tb:TS3)
  (hbody:∀(cdv:Value) (A:Around) (outer:List Env) (s:Shared) (H:Hp) (E:XK) (e:Addr) (oe:Obj),RoomH k (A.deeper (envOfC qual (defScope st) s.heap.objs.size f cdv))->HeldX (cxP P w K mg base N qual (defScope st) f cdv A outer s H E e oe) ->
   PSs3 (cxP P w K mg base N qual (defScope st) f cdv A outer s H E e oe) (defBody st) tb)
  (hrd:∀ds G Q,sp ds G Q->tb (endsOf Q) (start3 N ds) G):FnP3 P w K mg base (k+1) f fd ps sp:=by
 refine qwdz F S (fun vs H Q E h=>?_) (fun cdv A outer s H vs Q E e oe hr hA h=>?_)
 ·obtain⟨ds,G,Q3,h1,h2,h3,h4⟩:=h;rw[←h1.length];exact len _ _ _ h3
 ·obtain⟨ds,G,Q3,h1,h2,h3,h4⟩:=h;refine⟨_,hbody cdv A outer s H E e oe hr hA,start3 N ds,G,endsOf Q3,.start h1 ?_,h2,hrd _ _ _ h3,⟨?_,?_,?_,?_⟩⟩
  ·rw[←h1.length,len _ _ _ h3];exact hN
  ·exact fun τ σ G' H' a b c ⟨G0,s0,q⟩=>h4 _ H' .non G0 (by simp[Hv]) (b.trans (.sub s0)) (c.sub s0) q
  ·exact fun τ σ G' H' a b c q=>q.elim
  ·exact fun τ σ G' H' a b c q=>q.elim
  ·exact fun d v G' H' a b c ⟨G0,s0,q⟩=>h4 _ H' d G0 a (b.trans (.sub s0)) (c.sub s0) q
theorem qwhz{k:Nat}{t:TGs3}{n:Nat}(hc:HeldX X)(h:PGs3 X es t)(hn:(assignEach es X.env).length=n:=by rfl)(hst:(assignEach es X.env).findIdx? (·.1)=none:=by rfl):PG3 X (.Tuple es k pos) (hTup n t):=
 qdwz (qwbz hc h hn hst) fun v σ H Q ⟨d,τ,G,Q3,hd,RS,RG,h,k⟩=>by
  cases d with
  |tup ds=>
   unfold Hv at hd;obtain⟨a,vs,e1,e2,e3⟩:=hd;exact⟨a,vs,e1,e2,by rw[←e3.length];exact h.1,ds,τ,G,Q3,e3,RS,RG,h.2,k⟩
  |_=>exact h.elim
def eCallP(a:Addr)(sp:Sp3)(t:TA3):TE3:=fun τ G Q=>t τ G fun ds G1=>(∃x fs,G1 a=some (.gen (excR x fs)))/\sp ds noG fun d G'=>∀G2,Joins G1 G' G2->Q d G2
theorem qwiz{pins:List (Addr×Obj)}{σ:L2.St}{H:Hp}{s:Shared}{Q:VK}{G1:Gp}{Q3:V3}{ds:List D}{us:List Value}{vs:List V}{a:Addr}{z:Str}{fs:List (Str×Int)}(F:FnP3 X.prog X.w X.K X.mg X.base k f fd ps sp)(hr:RoomH k X.A)(hA:X.A.handled=some (.ref a))(hb:Binds X.K fd ps [])
  (I:Inv X pins σ H s) (r:Vals vs us) (hd:Hvs X.K H ds vs) (R1:RepG X.K G1 H) (hz:G1 a=some (.gen (excR z fs))) (h:sp ds noG fun d G'=>∀G2,Joins G1 G' G2->Q3 d G2) (kk:∀v H' d G',Hv X.K H' d v->Step H G1 H' G'->RepG X.K G' H'->Q3 d G'->Q v H'):
  wpAny (model X.prog X.w) X.A (call (.ref f) us) (EP X pins σ Q) X.xe s:=by
 have hq:lowSp X.K sp vs (hide H) (fun v H'=>∃d G',Hv X.K H' d v/\Step (hide H) noG H' G'/\RepG X.K G' H'/\∀G2,Joins G1 G' G2->Q3 d G2) (fun _ _ _=>False):=
  ⟨ds,noG,_,hd.hid,(fun _ _ e=>nomatch e),h,fun v H' d G' a b c q=>⟨d,G',a,b,c,q⟩⟩
 have hl:(us++[]).length=ps.length:=by rw[List.append_nil,←r.length];exact F.len _ _ _ _ hq
 have e0:Env0 X.prog X.w X.K X.mg X.base X.A X.stack s (hide H):=⟨I.ok.frames,I.ok.mod,fun b o e=>⟨(I.bs b o e).1,qbuz (I.bs b o e).2⟩,Nat.le_trans I.ok.bsz I.sz,I.stack,fun b hb=>qbuz (I.stkFree b hb),qi6z I.hok,I.bare⟩;have hb':=hb s us I.kIn hl;rw[List.append_nil] at hb';obtain⟨C,dx,c1,c2,c3⟩:=(R1 a _ hz).1;obtain⟨⟨oe,ws,q1,q2,q3,q4,q5⟩,_⟩:=(show ObjOk X.prog X.w H s.heap a (.ext (excφ a C dx)) from I.hok a _ c2);have HA:HeldA X.A X.stack s.heap (hide H):=⟨a,oe,ws,hA,q1,q4,q5,qfkz c2 rfl,fun z=>by rw[I.stkFree a z] at c2;cases c2⟩;refine wpAny_call (codeAny_mono (F.run X.A X.stack s (hide H) ⟨us,[]⟩ us vs _ (fun _ _ _=>False) hr HA e0 hb' r hq) fun r s' hq'=>?_);cases r with
 |error e=>exact False.elim hq'
 |ok fl=>
  cases fl with
  |ret u=>
   obtain⟨v,H',os,bare,un,hok,rv,d,G',a,b,c,q⟩:=hq';obtain⟨un2,ok2⟩:=qeez I.hok I.stkFree un hok;obtain⟨z1,z2,z3,z4⟩:=qfmz I.hok I.stkFree un hok R1 a b c;exact I.after ⟨v,joined H H',os,bare,un2,ok2,rv,kk v _ d _ z1 z2 z3 (q _ z4)⟩
  |next=>exact False.elim hq'
  |brk=>exact False.elim hq'
  |cont=>exact False.elim hq'
theorem qwjz{a:Addr}(F:FnP3 X.prog X.w X.K X.mg X.base k f fd ps sp)(hr:RoomH k X.A)(hA:X.A.handled=some (.ref a))(hm:X.mg x=some (.ref f))(hk:PySem.W.keepIn X.K (.ref f)=true)(hb:Binds X.K fd ps [])(ha:PA3 X (e::es) t)(hg:Gl X x:=by rfl)
  (hdb:(x==("__debug__":Str))=false:=by decide) (he:notStar e=true:=by rfl) (hpl:es.all notStar=true:=by rfl):
  PE3 X (.Call (.Name x p) (e::es) [] pos) (eCallP a sp t):=by
 intro pins s σ H Q I ⟨τ,G,Q3,RS,RG,h,kk⟩;refine wpAny_Call_Name_kw (qakz I hg hm ?_ hdb);refine PySem.W.callWith_K (h₀:=X.base) I.ok.mod.kin hk (thn (ha pos pins s σ H (fun vs H1=>∃ds G1,Hvs X.K H1 ds vs/\Step H G H1 G1/\RepG X.K G1 H1/\(∃x fs,G1 a=some (.gen (excR x fs)))/\sp ds noG fun d G'=>∀G2,Joins G1 G' G2->Q3 d G2) I
  ⟨τ,G,_,RS,RG,h,fun vs H1 ds G1 a b c q=>⟨ds,G1,a,b,c,q⟩⟩) fun us s1 ⟨vs,H1,I1,r,ds,G1,hd,S1,R1,⟨z,fs,hz⟩,q⟩=>⟨I1.kIn,?_⟩) (qlz he) (qzz hpl)
 exact qwiz F hr hA hb I1 r hd R1 hz q fun v H' d G' a b c q=>kk v H' d G' a (S1.trans b) c q
end
end L3
namespace L3
open PySem PySem.Spec PyProof.Rows L2
section
variable {X:Cx} {k:Nat} {f:Addr} {fd:FuncData} {ps:List Str} {sp3:Sp3} {x:Str} {p pos:Pos} {a b e c iter tg:Expr} {es:List Expr} {t:TA3} {te:TE3} {ta:TSX} {g:TG3}
theorem qwkz(F:FnP3 X.prog X.w X.K X.mg X.base k f fd ps sp3)(hr:RoomH k X.A)(hA:HeldX X)(hm:X.mg x=some (.ref f))(hk:PySem.W.keepIn X.K (.ref f)=true)(hb:Binds X.K fd ps [])(ha:QA X (e::es) t)(hg:Gl X x:=by rfl)
  (hdb:(x==("__debug__":Str))=false:=by decide) (he:notStar e=true:=by rfl) (hpl:es.all notStar=true:=by rfl):QE X (.Call (.Name x p) (e::es) [] pos) (eCall sp3 t):=⟨qwgz F hr hA hm hk hb ha.of hg hdb he hpl⟩
theorem qwlz{z:Addr}(F:FnP3 X.prog X.w X.K X.mg X.base k f fd ps sp3)(hr:RoomH k X.A)(hA:X.A.handled=some (.ref z))(hm:X.mg x=some (.ref f))(hk:PySem.W.keepIn X.K (.ref f)=true)(hb:Binds X.K fd ps [])(ha:QA X (e::es) t)(hg:Gl X x:=by rfl)
  (hdb:(x==("__debug__":Str))=false:=by decide) (he:notStar e=true:=by rfl) (hpl:es.all notStar=true:=by rfl):QE X (.Call (.Name x p) (e::es) [] pos) (eCallP z sp3 t):=⟨qwjz F hr hA hm hk hb ha.of hg hdb he hpl⟩
theorem qwmz{k:Nat}{t:TGs3}{n:Nat}(hc:HeldX X)(h:QGs X es t)(hn:(assignEach es X.env).length=n:=by rfl)(hst:(assignEach es X.env).findIdx? (·.1)=none:=by rfl):QG X (.Tuple es k pos) (hTup n t):=⟨qwhz hc h.of hn hst⟩
theorem qwnz{i j:Nat}{x y:Str}{px py pt:Pos}{kt k2 pt2}(hc:HeldX X)(hN:X.N.Nodup)(hi:X.N[i]?=some x)(hj:X.N[j]?=some y)(hij:i≠j)(hx:X.env.scope.names.lookup x=some .local)(hy:X.env.scope.names.lookup y=some .local)(ha:QA X [a,b] t)
  (hw:swappedStores [.Tuple [.Name x px,.Name y py] kt pt] (.Tuple [a,b] k2 pt2) X.env=pure (some [x,y]))
  (hs:swapsWithSole [.Tuple [.Name x px,.Name y py] kt pt] (.Tuple [a,b] k2 pt2) pos.line X.env=pure false:=by rfl):
  QS X (.Assign [.Tuple [.Name x px,.Name y py] kt pt] (.Tuple [a,b] k2 pt2) pos) (sPar i j t):=⟨qhqz (qwcz hc hN hi hj hij hx hy ha.of hw hs)⟩
theorem qwoz{i:Nat}{cx en:Str}{names:List Str}{body suite rs:List Stmt}{b₀:Stmt}{np hpos:Pos}{th:Addr->TS3}{tq:TS3}{B:Addr}(F:Frame X)(T7:Takes X.K names B)(hm:X.mg cx=some (.ref B))(hN:X.N.Nodup)(hb:QSX X body ta)(hh:∀e,QSs (X.caught e) (b₀::suite) (th e))(hr:QSs X rs tq)
  (hi:X.N[i]?=some en:=by rfl) (hl:X.env.scope.names.lookup en=some .local:=by rfl) (hg:Gl X cx:=by rfl) (hdb:(cx==("__debug__":Str))=false:=by decide):
  QSs X (.Try body [.ExceptHandler (some (.Name cx np)) (some en) (b₀::suite) hpos] [] [] pos::rs) (sTryP names i ta th tq):=⟨qthz F T7 hm hN hb.of (fun e=>(hh e).of) hr.of hi hl hg hdb⟩
end
theorem qfnP{P:Program}{w:World}{K:PySem.W.Frag}{mg:Str->Option Value}{base:Heap}{x qual:Str}{st:Stmt}{f:Addr}{fd:FuncData}{N ps:List Str}{k:Nat}{sp:Sp3}(F:Fun K x qual st f fd)(S:FnScope N ps (defScope st))(hN:ps.length≤N.length)(len:∀ds G Q,sp ds G Q->ds.length=ps.length)(tb:TS3)
  (hbody:∀(cdv:Value) (A:Around) (outer:List Env) (s:Shared) (H:Hp) (E:XK) (e:Addr) (oe:Obj),RoomH k (A.deeper (envOfC qual (defScope st) s.heap.objs.size f cdv))->HeldX (cxP P w K mg base N qual (defScope st) f cdv A outer s H E e oe) ->
   QSs (cxP P w K mg base N qual (defScope st) f cdv A outer s H E e oe) (defBody st) tb)
  (hrd:∀ds G Q,sp ds G Q->tb (endsOf Q) (start3 N ds) G):FnP3 P w K mg base (k+1) f fd ps sp:=fnP3 F S hN len tb (fun cdv A outer s H E e oe hr hA=>(hbody cdv A outer s H E e oe hr hA).of) hrd
end L3
namespace L2
open PySem PySem.Spec PyProof.Rows
section
variable {prog:Program} {w:World} {A:Around} {E:Value->Shared->Prop} {s:Shared}
theorem qwpz{it t:Addr}{i:Nat}{items}{Q:Option Value->Shared->Prop}(hh:CtxOk A s.heap)
  (hit:s.heap.IsListIter it t i) (ht:s.heap.IsList t items) (hx:items[i]?=none)
  (hQ:∀h',Heap.ExtBut it s.heap h'->Q none { s with heap:=h' }):wpAny (model prog w) A (pyNext (.ref it)) Q E s:=by
 obtain⟨o,ho,hc,hd⟩:=id hit;obtain⟨ol,hol,_,nl,hdl⟩:=ht;unfold pyNext;refine wpAny_bind (wpAny_attempt (wpAny_callSpecial?_slot (name:=Str.ofString "__next__") hit.typeIs slot_listiter_next
  (wpAny_call_entry slot_listiter_next hit.typeIs entry_listiter_next ?_ (args_listiter_next _))))
 show wpAny _ _ (field (.ref it) 0 >>= _) _ _ s;refine wpAny_bind (wpAny_field ho hd (x:=.ref t) rfl ?_);show wpAny _ _ (if (Value.ref t==Value.none)=true then _ else _) _ _ s;rw[if_neg (show ¬((Value.ref t==Value.none)=true) from Bool.false_ne_true)];show wpAny _ _ (field (.ref it) 1 >>= _) _ _ s;refine wpAny_bind (wpAny_field ho hd (x:=.int i 0) rfl ?_);show wpAny _ _ (seqItems? (.ref t) >>= _) _ _ s;refine wpAny_bind (wpAny_seqItems hol hdl ?_);simp only[Int.toNat_natCast,hx];refine wpAny_bind (wpAny_rule (wpAny_bind (wpAny_setField ho hd (by simp) ?_)));show wpAny _ _ (newExc (.type "StopIteration") [] >>= _) _ _ _;refine wpAny_bind ?_;simp only[newExc,newTuple];refine wpAny_bind (wpAny_newObj_type ?_ (by size_fits));refine wpAny_bind (m:=firstArgMember _ _) (wpAny_of_eq (a:=Value.none) (by first|rfl|(simp only[firstArgMember];rfl)) ?_)
 refine wpAny_newObj_type ?_ (by size_fits);refine raiseNewH (A:=A.in1) ?_ (Heap.get?_push_size _ rfl) rfl (by exact (by decide:2<6)) fun h' sb ⟨o',e1,e2⟩=>?_
 ·refine (show CtxOk A.in1 s.heap from hh).keep fun b ob vs e hf h2=>Heap.get?_push_of_some _ (Heap.get?_push_of_some _ ((Heap.get?_update_other _ _ fun z=>?_).trans e));rw[←z,ho] at e;cases e;rw[hd] at hf;cases hf;simp at h2
 refine wpAny_bind (wpAny_isInstance (T:="StopIteration") (b:=true) ⟨_,e1,e2⟩ isSubtype_stop ?_);refine wpAny_pure (hQ _ fun b ob hb e=>?_);refine (sb.2 b (Nat.ne_of_lt (Heap.lt_size (((Heap.SameBut.update s.heap it _).extBut.push _) b ob hb e)))).trans ((((Heap.SameBut.update ..).extBut.push _).push _) b ob hb e)
end
structure TurnH(P:Program)(w:World)(K:PySem.W.Frag)(tg:Expr)(J:It)(fp:List Addr)(it:Addr)(tn:Nat->Heap->Prop):Prop where
 mem:it∈fp
 obj:∀i h,tn i h->∀b∈fp,∃o,h.get? b=some o/\∀v,o.data≠.cell v
 keep:∀i h h',tn i h->(∀b∈fp,∀o,h.get? b=some o->h'.get? b=some o)->tn i h'
 item:∀(X:Cx),X.prog=P->X.w=w->X.K=K->∀(i:Nat) (pins:List (Addr×Obj)) (s:Shared) (σ:St) (H:Hp) (E:Value->Shared->Prop),Inv X pins σ H s->(∀b∈fp,FpOk X pins H b)->tn i s.heap->J.go i H ->
  wpAny (model P w) X.A (pyNext (.ref it)) (fun r s1=>∃u,r=some u ∧
   wpAny (model P w) X.A (letOwnedTupleGo tg (.ref it) u) (fun _ s2=>∃x H',Inv X pins σ H' s2/\RelV x u/\J.yld i H x H'/\tn (i+1) s2.heap/\∀b∈fp,H' b=none) E s1) E s
 done:∀(X:Cx),X.prog=P->X.w=w->X.K=K->∀(i:Nat) (pins:List (Addr×Obj)) (s:Shared) (σ:St) (H:Hp) (E:Value->Shared->Prop),CtxOk X.A s.heap->Inv X pins σ H s->(∀b∈fp,FpOk X pins H b)->tn i s.heap->J.stop i H ->
  wpAny (model P w) X.A (pyNext (.ref it)) (fun r s1=>r=none/\Inv X pins σ H s1) E s
 self:∀(A:Around) (i:Nat) (s:Shared) (Q:Value->Shared->Prop) (E:Value->Shared->Prop),tn i s.heap->Q (.ref it) s->wpAny (model P w) A (pyIter (.ref it)) Q E s
theorem qbxz{P:Program}{w:World}{K:PySem.W.Frag}{tg:Expr}(a it:Addr):TurnH P w K tg (Itl K a) [it] it (fun i h=>h.IsListIter it a i) where
 mem:=by simp
 obj:=fun i h st b hb=>by
  have e:b=it:=by simpa using hb
  subst e;obtain⟨o,e,c,d⟩:=st;exact⟨o,e,fun v z=>by rw[d] at z;cases z⟩
 keep:=fun i h h' st k=>st.at fun o e=>k it (by simp) o e
 item:=by
  intro X hP hw hK i pins s σ H E I hf st hg;subst hP hw hK;obtain⟨xs,x,hq,hx⟩:=hg;obtain⟨its,rv,p,hz⟩:=I.list hq;obtain⟨u,hu,ru⟩:=rv.get hx;obtain⟨f0,f1,f2,f3,f4,f5⟩:=hf it (by simp);refine wpAny_pyNext_list_item st p.isList (x:=u) (by simpa using hu) fun h' st' sb=>?_;have I1:Inv X pins σ H { s with heap:=h' }:=I.turned (t':=s.toks) (fun b o hb e=>(sb.2 b hb).trans e) f0 f1 f3 f4 f5;obtain⟨o,e,c,d⟩:=id st';exact⟨u,rfl,qdnz (s:={ s with heap:=h' }) e c d (by decide) ⟨x,H,I1,ru,⟨rfl,fun ys hy=>by rw[I.list_inj hy hq];exact hx⟩,st',fun b hb=>(hf b hb).1⟩⟩
 done:=by
  intro X hP hw hK i pins s σ H E hc I hf st hg;subst hP hw hK;obtain⟨xs,hq,hx⟩:=hg;obtain⟨its,rv,p,hz⟩:=I.list hq;obtain⟨f0,f1,f2,f3,f4,f5⟩:=hf it (by simp);have hl:=rv.length;exact qwpz hc st p.isList (by simp;omega) fun h' eb=>⟨rfl,I.turned (t':=s.toks) (fun b o hb e=>eb b o hb e) f0 f1 f3 f4 f5⟩
 self:=fun _ _ _ _ _ st h=>wpAny_pyIter_listiter st h
def PIEH(X:Cx)(pins:List (Addr×Obj))(σ:St)(tg:Expr)(R:It->Hp->Prop)(itv:Value)(s2:Shared):Prop:=
 ∃(it:Addr) (fp:List Addr) (tn:Nat->Heap->Prop) (J:It) (H':Hp),itv=.ref it/\Inv X pins σ H' s2/\TurnH X.prog X.w X.K tg J fp it tn/\tn 0 s2.heap/\(∀b∈fp,FpOk X pins H' b)/\R J H'
def PIH(X:Cx)(tg iter:Expr)(wi:TI):Prop:=
 ∀(pins:List (Addr×Obj)) (s:Shared) (σ:St) (H:Hp) (R:It->Hp->Prop),Inv X pins σ H s->wi σ H R ->
  wpAny (model X.prog X.w) X.A (eval iter X.env) (fun v s1=>wpAny (model X.prog X.w) X.A (pyIter v) (PIEH X pins σ tg R) X.xe s1) X.xe s
section
variable {X:Cx} {tg iter elt:Expr} {ifs:List Expr} {scope:Scope} {pos:Pos} {own:List Str} {js:List Nat} {g:TG} {tc:TT} {te:TE}
theorem qwqz{iter:Expr}{body:List Stmt}{wi:TI}{g:TG}{tb:TS}{pos:Pos}(hp:PassesOwn (model X.prog X.w) X.A X.env X.xe)(hc:HeldX X)(hi:PIH X tg iter wi)(hg:PG X tg g)(hb:PSs X body tb)
  (hs:∀x,foldedSetIterable iter X.env x=pure x:=by intro _;rfl):PS X (.For tg iter body [] pos) (tFor wi g tb):=by
 intro pins s σ H D I h;refine wpAny_For (thn (hi pins s σ H _ I h) fun v s1 h1=>thn h1 fun itv s2 h2=>?_) hs;obtain⟨it,fp,tn,J,H2,e,I2,T,st2,f2,W,⟨m0,w0⟩,turn⟩:=h2;subst e
 -- what stays true of the iterator's objects through the loop
 have stat:∀{H':Hp},(∀b∈fp,H' b=none)->∀b∈fp,FpOk X pins H' b:=fun hn b hb=>⟨hn b hb,(f2 b hb).2⟩;refine codeAny_forLoop_any (fun n s'=>∃i σ' H',Inv X pins σ' H' s'/\tn i s'.heap/\(∀b∈fp,H' b=none)/\W i n σ' H') ?_ m0 ⟨0,σ,H2,I2,st2,fun b hb=>(f2 b hb).1,w0⟩;rintro n s3 ⟨i,σ3,H3,I3,st3,fr3,w3⟩;rcases turn i n σ3 H3 w3 with⟨stop,qn⟩|⟨go,N,hN,step⟩
 ·refine wpAny_passesOwn hp (thn (T.done X rfl rfl rfl i pins s3 σ3 H3 X.xe (hc.ctx I3) I3 (stat fr3) st3 stop) fun r s4 ⟨hr,I4⟩=>?_);subst hr;exact wpAny_execs_nil ⟨σ3,H3,I4,qn⟩
 ·refine wpAny_passesOwn hp (thn (T.item X rfl rfl rfl i pins s3 σ3 H3 X.xe I3 (stat fr3) st3 go) fun r s4 ⟨u,hr,h4⟩=>?_);subst hr;refine wpAny_passesOwn hp (thn h4 fun _ s5 ⟨x,H5,I5,r5,y5,st5,fr5⟩=>?_);have I5':=I5.pinned (stat fr5) (T.obj _ _ st5);refine wpAny_passesOwn hp (thn (hg _ s5 σ3 H5 x u _ I5' r5 (step x H5 y5)) fun _ s6 ⟨σ6,H6,I6,q6⟩=>?_);refine wpAny_passesOwn hp (thn (hb _ s6 σ6 H6 _ I6 q6) fun f s7 q7=>?_);have again:∀{σ7:St} {H7:Hp},Inv X (pins++pinsAt fp s5.heap) σ7 H7 s7->N σ7 H7->∃m,m<n/\∃i σ' H',Inv X pins σ' H' s7/\tn i s7.heap/\(∀b∈fp,H' b=none)/\W i m σ' H':=fun {σ7 H7} I7 n7=>by
   obtain⟨m',hm,w7⟩:=hN σ7 H7 n7;refine⟨m',hm,i+1,σ7,H7,I7.unpinned,T.keep _ _ _ st5 fun b hb o e=>(I7.pin (b,o) (List.mem_append_right _ (List.mem_append_right _ (qbaz hb e)))).1,fun b hb=>?_,w7⟩;obtain⟨o,e,d⟩:=T.obj _ _ st5 b hb;exact (I7.pin (b,o) (List.mem_append_right _ (List.mem_append_right _ (qbaz hb e)))).2.1
  cases f with
  |next=>obtain⟨σ7,H7,I7,n7⟩:=q7;exact again I7 n7
  |cont=>obtain⟨σ7,H7,I7,n7⟩:=q7;exact again I7 n7
  |brk=>obtain⟨σ7,H7,I7,q7⟩:=q7;exact⟨σ7,H7,I7.unpinned,q7⟩
  |ret v=>obtain⟨x7,σ7,H7,I7,r7,q7⟩:=q7;exact⟨x7,σ7,H7,I7.unpinned,r7,q7⟩
end
end L2
namespace L3
open PySem PySem.Spec PyProof.Rows L2
abbrev PI3H(X:Cx)(tg iter:Expr)(ti:TI3):Prop:=PIH X tg iter (lowI X.K ti)
section
variable {X:Cx} {tg iter:Expr} {pos p:Pos}
theorem qwrz{body:List Stmt}{ti:TI3}{g:TG3}{tb:TS3}(hp:PassesOwn (model X.prog X.w) X.A X.env X.xe)(hc:HeldX X)(hi:PI3H X tg iter ti)(hg:PG3 X tg g)(hb:PSs3 X body tb)
  (hs:∀x,foldedSetIterable iter X.env x=pure x:=by intro _;rfl):PS3 X (.For tg iter body [] pos) (sFor ti g tb):=qahz (qwqz hp hc hi hg hb hs) fun D2 σ H ⟨τ,G,D3,RS,RG,h,k⟩=>by
 refine⟨τ,G,_,RS,RG,h,fun J H1 S G1 ok S1 R1 q1=>?_⟩;refine⟨fun i m σ' H'=>∃τ' G',RepS X.K τ' σ' H'/\RepG X.K G' H'/\Step H G H' G'/\Ext H1 H'/\forGo S.guard g tb D3 (S.items.drop i) τ' G'/\m+i=S.items.length,⟨S.items.length,τ,G1,RS.ext (S1.ext RG),R1,S1,.refl H1,by simpa using q1,by omega⟩,?_⟩;rintro i m σ' H' ⟨τ',G',RS',RG',S',E',q,hm⟩;by_cases hlt:i<S.items.length
 ·have hd:S.items.drop i=S.items[i]::S.items.drop (i+1):=List.drop_eq_getElem_cons hlt;have hget:S.items[i]?=some S.items[i]:=List.getElem?_eq_getElem hlt;rw[hd] at q;obtain⟨hgd,q⟩:=q;obtain⟨z1,z2⟩:=ok.go i _ H' G' E' RG' hgd hget;refine .inr ⟨z1,fun σ2 H2=>∃τ2 G2,RepS X.K τ2 σ2 H2/\RepG X.K G2 H2/\Step H G H2 G2/\Ext H1 H2/\forGo S.guard g tb D3 (S.items.drop (i+1)) τ2 G2,fun σ2 H2 ⟨τ2,G2,a1,a2,a3,a4,a5⟩=>⟨m-1,by omega,τ2,G2,a1,a2,a3,a4,a5,by omega⟩,fun x H2 hy=>?_⟩;obtain⟨y1,y2,y3⟩:=z2 x H2 hy;refine⟨S.items[i],τ',G',_,y1,RS'.ext (y2.ext RG'),y3,q,fun τ3 σ3 G3 H3 b1 b2 b3 b4=>?_⟩;refine⟨τ3,G3,_,b1,b3,b4,⟨?_,?_,?_,?_⟩⟩
  ·exact fun τ4 σ4 G4 H4 c1 c2 c3 c4=>⟨τ4,G4,c1,c3,((S'.trans y2).trans b2).trans c2,((E'.trans (y2.ext RG')).trans (b2.ext y3)).trans (c2.ext b3),c4⟩
  ·exact fun τ4 σ4 G4 H4 c1 c2 c3 c4=>k.nx τ4 σ4 G4 H4 c1 (((S'.trans y2).trans b2).trans c2) c3 c4
  ·exact fun τ4 σ4 G4 H4 c1 c2 c3 c4=>⟨τ4,G4,c1,c3,((S'.trans y2).trans b2).trans c2,((E'.trans (y2.ext RG')).trans (b2.ext y3)).trans (c2.ext b3),c4⟩
  ·exact fun d v G4 H4 c1 c2 c3 c4=>k.rt d v G4 H4 c1 (((S'.trans y2).trans b2).trans c2) c3 c4
 ·have hd:S.items.drop i=[]:=List.drop_eq_nil_of_le (by omega);rw[hd] at q;exact .inl ⟨ok.stop i H' G' E' RG' q.1 (by omega),k.nx τ' σ' G' H' RS' S' RG' q.2⟩
def iLst(te:TE3):TI3:=fun τ G R=>te τ G fun x G1=>match x with
 |.obj p=>∃ds,G1 p=some (.lst ds)/\R ⟨ds,fun G=>G p=some (.lst ds)⟩ G1
 |.scr ds=>R ⟨ds,fun _=>True⟩ G1
 |_=>False
theorem qwsz{l:Expr}{te:TE3}(hl:PE3 X l te):PI3H X tg l (iLst te):=by
 intro pins s σ H R I h;obtain⟨τ,G,R3,RS,RG,h,k⟩:=h
 -- the state carries what a list of the heap is
 refine thn (hl pins s σ H (fun v H'=>∃d G',Hv X.K H' d v/\Step H G H' G'/\RepG X.K G' H'/\(match d with
  |.obj p=>∃ds,G' p=some (.lst ds)/\R3 ⟨ds,fun G=>G p=some (.lst ds)⟩ G'
  |.scr ds=>R3 ⟨ds,fun _=>True⟩ G'
  | _=>False)) I ⟨τ,G,_,RS,RG,h,fun v H' d G' a b c q=>⟨d,G',a,b,c,q⟩⟩) fun v s1 ⟨x,H1,I1,r1,d,G1,hv,S1,R1,q⟩=>?_
 have hlist:∀(a:Addr) (its:List Value) (xs:List V),Vals xs its->PlainL s1.heap a its.toArray->R (Itl X.K a) H1->wpAny (model X.prog X.w) X.A (pyIter (.ref a)) (PIEH X pins σ tg R) X.xe s1:=by
  intro a its xs rv p q;refine wpAny_pyIter_list p.isList ?_;refine⟨s1.heap.objs.size,[s1.heap.objs.size],_,_,H1,rfl,I1.kept (t':=s1.toks) fun b o e=>Heap.get?_push_of_some _ e,qbxz a _,⟨_,Heap.get?_push_size _ rfl,rfl,rfl⟩,fun b hb=>?_,q⟩;have e:b=s1.heap.objs.size:=by simpa using hb
  subst e;exact I1.fpOk (Nat.le_refl _) (I1.hok.fresh (Nat.le_refl _))
 cases d with
 |obj a=>
  unfold Hv at hv;subst hv;cases r1;obtain⟨ds,e1,q⟩:=q;obtain⟨vs,e2,e3⟩:=R1 a _ e1;obtain⟨its,rv,p,hz⟩:=I1.list (SqL.of e2);refine hlist a its vs rv p (k _ _ _ _ ⟨?_,?_⟩ S1 R1 q)
  ·intro i d H' G' E' RG' hg hi;obtain⟨vs',z1,z2⟩:=RG' a _ hg;obtain⟨v',y1,y2⟩:=z2.get hi;refine⟨⟨vs',v',.of z1,y1⟩,fun x H'' hy=>?_⟩;obtain⟨rfl,hy⟩:=hy;have:=hy vs' (.of z1);rw[y1] at this;cases this;exact⟨y2,.refl _ _,RG'⟩
  ·intro i H' G' E' RG' hg hi;obtain⟨vs',z1,z2⟩:=RG' a _ hg;exact⟨vs',.of z1,by rw[←z2.length];exact hi⟩
 |tup ds=>exact q.elim
 |scr ds=>
  unfold Hv at hv;obtain⟨a,vs,rfl,e2,e3⟩:=hv;cases r1;obtain⟨its,rv,p,hz⟩:=I1.list e2.l;refine hlist a its vs rv p (k _ _ _ _ ⟨?_,?_⟩ S1 R1 q)
  ·intro i d H' G' E' RG' hg hi;obtain⟨v',y1,y2⟩:=e3.get hi;refine⟨⟨vs,v',(SqF.ext E' e2).l,y1⟩,fun x H'' hy=>?_⟩;obtain⟨rfl,hy⟩:=hy;have:=hy vs (SqF.ext E' e2).l;rw[y1] at this;cases this;exact⟨y2.ext E',.refl _ _,RG'⟩
  ·intro i H' G' E' RG' hg hi;exact⟨vs,(SqF.ext E' e2).l,by rw[←e3.length];exact hi⟩
 |non=>exact q.elim
 |bl _=>exact q.elim
 |int _=>exact q.elim
 |str _=>exact q.elim
 |dc _=>exact q.elim
theorem qwtz{body:List Stmt}{te:TE3}{g:TG3}{tb:TS3}(hp:PassesOwn (model X.prog X.w) X.A X.env X.xe)(hc:HeldX X)(hi:QE X iter te)(hg:QG X tg g)(hb:QSs X body tb)
  (hs:∀x,foldedSetIterable iter X.env x=pure x:=by intro _;rfl):QS X (.For tg iter body [] pos) (sFor (iLst te) g tb):=⟨qwrz hp hc (qwsz hi.of) hg.of hb.of hs⟩
end
end L3
namespace L3
open PySem PySem.Spec PyProof.Rows L2
def del3(G:Gp)(a:Addr):Gp:=fun b=>if b=a then none else G b
theorem qeiz{G:Gp}{a b:Addr}(h:b≠a):del3 G a b=G b:=by simp[del3,h]
theorem New.del{G G1:Gp}{p:Addr}{o:GO}(n:New G p o G1):Sub G (del3 G1 p):=fun a u e=>by
 rw[qeiz]
 ·exact n.sub a u e
 ·intro z;rw[z,n.non] at e;cases e
section
variable {X:Cx} {e:Expr} {ta:TE3} {pins:List (Addr×Obj)} {σ:L2.St} {H:Hp} {s:Shared} {a:Addr} {xs:List V}
theorem qwuz(I:Inv X pins σ H s)(h:H a=some (.lst xs)):∃o,Inv X pins σ (upd H a (.frz o (.lst xs))) s:=by
 obtain⟨z,its,n,r,p⟩:=I.hok a _ h;exact⟨_,I.write (e:=a) (h':=s.heap) (t':=s.toks) (by rw[h];trivial) (.inl rfl) (fun b u _ q=>q) ⟨_,p⟩ ⟨p,z,its,n,r,p⟩⟩
def eFrz(ta:TE3):TE3:=fun τ G Q=>ta τ G fun x G1=>match x with
 |.obj a=>∃ds,G1 a=some (.lst ds)/\Q (.scr ds) (del3 G1 a)
 |_=>False
theorem qwvz(ha:PE3 X e ta):PE3 X e (eFrz ta):=by
 intro pins s σ H Q I ⟨τ,G,Q3,RS,RG,h,kk⟩;refine thn (ha pins s σ H (fun v H1=>∃d G1,Hv X.K H1 d v/\Step H G H1 G1/\RepG X.K G1 H1/\(match d with
  |.obj a=>∃ds,G1 a=some (.lst ds)/\Q3 (.scr ds) (del3 G1 a)
  | _=>False)) I ⟨τ,G,_,RS,RG,h,fun v H1 d G1 a b c q=>⟨d,G1,a,b,c,q⟩⟩) fun u s1 ⟨v,H1,I1,r1,d,G1,hd,S1,R1,q⟩=>?_
 cases d with
 |obj a=>
  obtain⟨ds,e1,q⟩:=q;obtain⟨vs,e2,e3⟩:=R1 a _ e1;obtain⟨o,I2⟩:=qwuz I1 e2;refine⟨v,_,I2,r1,kk v _ (.scr ds) _ ?_ ⟨fun b u f n=>?_,fun b f=>?_,fun b n f=>?_⟩ (fun b u f=>?_) q⟩
  ·unfold Hv;exact⟨a,vs,qsz hd,.inl ⟨o,qoz⟩,e3.ext (.wrote e2)⟩
  ·by_cases z:b=a
   ·subst z;rw[S1.new b n (by rw[e1];exact nofun)] at f;cases f
   ·rw[qiz z];exact S1.fr b u f n
  ·by_cases z:b=a
   ·subst z;rw[qoz];exact nofun
   ·rw[qiz z];exact S1.trk b f
  ·by_cases z:b=a
   ·subst z;exact absurd (show del3 G1 b b=none by simp[del3]) f
   ·rw[qeiz z] at f;exact S1.new b n f
  ·by_cases z:b=a
   ·subst z;rw[show del3 G1 b b=none by simp[del3]] at f;cases f
   ·rw[qeiz z] at f;exact (R1 b u f).ext (.wrote e2) (by rw[qiz z])
 |_=>exact q.elim
theorem qwwz(ha:QE X e ta):QE X e (eFrz ta):=⟨qwvz ha.of⟩
end
end L3
namespace My
open PySem L2 L3
theorem qj5z(ns:List Int):rnd (shC ns)=rndS ns:=by
 unfold rnd rndS shC;rw[qv7z,List.map_map];rfl
theorem qwxz{ns:List Int}(h:∀n∈ns,2≤n/\n≤24):ClOk 1000 (shC ns):=fun c hc=>by
 obtain⟨n,hm,rfl⟩:=List.mem_map.mp hc;have:=h n hm;exact⟨⟨by show 0<n;omega,by show (0:Int)≤0;omega,by show 0<n;omega⟩,by show n≤1000;omega⟩
end My
namespace L2
open PySem PySem.Spec PyProof.Rows
def PIEC(X:Cx)(pins:List (Addr×Obj))(σ:St)(tg:Expr)(R:It->Hp->Prop)(itv:Value)(s2:Shared):Prop:=
 ∃(it:Addr) (fp:List Addr) (tn:Nat->Heap->Prop) (J:It) (H':Hp),itv=.ref it/\Inv X pins σ H' s2/\TurnH X.prog X.w X.K tg J fp it tn/\tn 0 s2.heap/\(∀b∈fp,FpOk X pins H' b)/\(∀(Y:Cx) (pins:List (Addr×Obj)) (σ:St) (H:Hp) (s:Shared) (i:Nat),Y.prog=X.prog->Y.w=X.w->Inv Y pins σ H s->J.stop i H->CtxOk X.A s.heap)/\R J H'
def PIC(X:Cx)(tg iter:Expr)(wi:TI):Prop:=
 ∀(pins:List (Addr×Obj)) (s:Shared) (σ:St) (H:Hp) (R:It->Hp->Prop),Inv X pins σ H s->wi σ H R ->
  wpAny (model X.prog X.w) X.A (eval iter X.env) (fun v s1=>wpAny (model X.prog X.w) X.A (pyIter v) (PIEC X pins σ tg R) X.xe s1) X.xe s
section
variable {X:Cx} {tg iter elt:Expr} {ifs:List Expr} {scope:Scope} {pos:Pos} {own:List Str} {js:List Nat} {g:TG} {tc:TT} {te:TE}
theorem qwyz{pins:List (Addr×Obj)}{σ:St}{H:Hp}{s:Shared}{Q:VK}{it:Addr}{fp:List Addr}{tn:Nat->Heap->Prop}{J:It}{E:Value->Shared->Prop}{RR:Value->Addr->Result->Shared->Prop}
  (hc:∀(Y:Cx) (pins:List (Addr×Obj)) (σ:St) (H:Hp) (s:Shared) (i:Nat),Y.prog=X.prog->Y.w=X.w->Inv Y pins σ H s->J.stop i H->CtxOk X.A s.heap) (C:CmpOk X.N X.env.scope scope own js)
  (hb:∀s H fp,PG (X.cmp scope own js s H fp) tg g/\PCt (X.cmp scope own js s H fp) ifs tc/\PE (X.cmp scope own js s H fp) elt te)
  (I:Inv X pins σ H s) (T:TurnH X.prog X.w X.K tg J fp it tn) (st:tn 0 s.heap) (hf:∀b∈fp,FpOk X pins H b) (rd:LcRd own js g tc te J σ H Q)
  (hRR:∀D N s' H',Inv X pins σ H' s'->Q (.ref D) H'->s.heap.objs.size≤N->H' N=none->(∃m,s'.heap.Ns N m)->RR (.ref D) N (.ok .next) s'):
  wpAny (model X.prog X.w) X.A (newList []) (fun acc s₃=>wpAny (model X.prog X.w) X.A (newFunctionEnv scope X.env.globals (clos X.env scope.names []) [] X.env.qual none .none (some X.env)) (fun cenv s₄=>
   codeAny (model X.prog X.w) X.A (.compStart (.ListComp elt [⟨tg,iter,ifs,0⟩] scope pos) 0 (.ref it) acc { cenv with scope:=relabel scope X.env }) (RR acc cenv.locals) s₄) E s₃) E s:=by
 have hD:H s.heap.objs.size=none:=I.fresh;obtain⟨W,⟨m0,w0⟩,turn⟩:=rd s.heap.objs.size hD;refine wpAny_newObj_type ?_;have hI3:Inv X pins σ (upd H s.heap.objs.size (.lst [])) { s with heap:=s.heap.push { cls:=.type "list",data:=.seq ([]:List Value).toArray }}:=
  I.lnew (t':=s.toks) (its:=[]) (ys:=[]) .nil (Nat.zero_le _)
 have hlt:∀b∈fp,b<s.heap.objs.size:=fun b hb=>by
  obtain⟨o,e,_⟩:=T.obj 0 _ st b hb;exact Heap.lt_size e
 have st3:tn 0 (s.heap.push { cls:=.type "list",data:=.seq ([]:List Value).toArray }):=T.keep 0 _ _ st fun b _ o e=>Heap.get?_push_of_some _ e;generalize hs3:({ s with heap:=s.heap.push { cls:=.type "list",data:=.seq ([]:List Value).toArray }}:Shared)=s3 at hI3 ⊢;have hsz3:s3.heap.objs.size=s.heap.objs.size+1:=by rw[←hs3];exact Heap.size_push ..
 have st3':tn 0 s3.heap:=by rw[←hs3];exact st3
 have hf3:∀b∈fp,FpOk X pins (upd H s.heap.objs.size (.lst [])) b/\b<s3.heap.objs.size:=fun b hb=>by
  obtain⟨f0,f1⟩:=hf b hb;refine⟨⟨?_,f1⟩,by rw[hsz3];exact Nat.lt_succ_of_lt (hlt b hb)⟩;rw[qiz (Nat.ne_of_lt (hlt b hb))];exact f0
 refine wpAny_newFunctionEnv C.nocell (by intro y hy;simp at hy) (fun h₁ hns₁ hsb₁=>?_) C.kind;have kept1:∀b o,s3.heap.get? b=some o->h₁.get? b=some o:=fun b o e=>(hsb₁.2 b (Nat.ne_of_lt (Heap.lt_size e))).trans (Heap.get?_push_of_some _ e);have I4:Inv (X.cmp scope own js s3 (upd H s.heap.objs.size (.lst [])) fp) [] (cmpSt own js σ) (upd H s.heap.objs.size (.lst [])) { s3 with heap:=h₁,toks:=s3.toks+([]:List (Str×Value)).length }:=
  hI3.cmp C hf3 hns₁ kept1
 have st4:tn 0 h₁:=T.keep 0 _ _ st3' fun b _ o e=>kept1 b o e;obtain⟨hg,ht,he⟩:=hb s3 (upd H s.heap.objs.size (.lst [])) fp
 -- the iterator's objects in the block's context
 have stat:∀{H':Hp},(∀b∈fp,H' b=none)->∀b∈fp,FpOk (X.cmp scope own js s3 (upd H s.heap.objs.size (.lst [])) fp) [] H' b:=fun {H'} hn b hb=>by
  have q:=I4.ok;exact⟨hn b hb,(q.exf b hb).1,q.exfs b hb,.inl hb,(q.exf b hb).2,fun p hp=>absurd (show p∈([]:List (Addr×Obj)) from hp) (by simp)⟩
 have loop:codeAny (model X.prog X.w) X.A (.compLoop (.ListComp elt [⟨tg,iter,ifs,0⟩] scope pos) 0 (.ref it) (.ref s.heap.objs.size) (compEnvC scope (clos X.env scope.names []) s3.heap.objs.size X.env))
   (RR (.ref s.heap.objs.size) s3.heap.objs.size) { s3 with heap:=h₁,toks:=s3.toks+([]:List (Str×Value)).length }:=by
  refine qhoz (fun n s'=>∃i ys σ' H',Inv (X.cmp scope own js s3 (upd H s.heap.objs.size (.lst [])) fp) [] σ' H' s'/\tn i s'.heap/\(∀b∈fp,H' b=none)/\W i n ys σ' H') ?_ m0
   ⟨0,[],_,_,I4,st4,fun b hb=>(hf3 b hb).1.1,w0⟩
  rintro n s5 ⟨i,ys,σ5,H5,I5,st5,fr5,w5⟩;obtain⟨hacc,hcase⟩:=turn i n ys σ5 H5 w5;rcases hcase with⟨stop,qn⟩|⟨go,hys,step⟩
  ·refine thn (T.done (X.cmp scope own js s3 (upd H s.heap.objs.size (.lst [])) fp) rfl rfl rfl i [] s5 σ5 H5 (fun _ _=>False) (hc (X.cmp scope own js s3 (upd H s.heap.objs.size (.lst [])) fp) [] σ5 H5 s5 i rfl rfl I5 stop) I5 (stat fr5) st5 stop) fun r s6 ⟨hr,I6⟩=>?_;subst hr;have I7:=hI3.uncmp hf3 I6;obtain⟨m,hm,_⟩:=I6.loc;exact hRR _ _ _ _ I7 qn (by rw[hsz3];exact Nat.le_succ _) I6.free ⟨m,hm⟩
  ·refine thn (T.item (X.cmp scope own js s3 (upd H s.heap.objs.size (.lst [])) fp) rfl rfl rfl i [] s5 σ5 H5 (fun _ _=>False) I5 (stat fr5) st5 go) fun r s6 ⟨u,hr,h6⟩=>?_;subst hr;refine thn h6 fun _ s7 ⟨x,H7,I7,r7,y7,st7,fr7⟩=>?_;have I7':=I7.pinned (stat fr7) (T.obj _ _ st7);refine thn (hg _ s7 σ5 H7 x u _ I7' r7 (step x H7 y7)) fun _ s8 ⟨σ8,H8,I8,q8⟩=>?_;refine thn (ht _ s8 σ8 H8 _ I8 q8) fun ok s9 ⟨H9,I9,q9⟩=>?_;have back:∀{σ':St} {H':Hp} {s':Shared} {ys':List V},Inv (X.cmp scope own js s3 (upd H s.heap.objs.size (.lst [])) fp) ([]++pinsAt fp s7.heap) σ' H' s'->(∃m',m' < n/\W (i+1) m' ys' σ' H') ->
     ∃m',m' < n/\∃i ys σ' H',Inv (X.cmp scope own js s3 (upd H s.heap.objs.size (.lst [])) fp) [] σ' H' s'/\tn i s'.heap/\(∀b∈fp,H' b=none)/\W i m' ys σ' H':=fun {σ' H' s' ys'} I' ⟨m',hm,w'⟩=>by
    refine⟨m',hm,i+1,ys',σ',H',I'.unpinned,T.keep _ _ _ st7 fun b hb o e=>(I'.pin (b,o) (List.mem_append_right _ (List.mem_append_right _ (qbaz hb e)))).1,fun b hb=>?_,w'⟩;obtain⟨o,e,d⟩:=T.obj _ _ st7 b hb;exact (I'.pin (b,o) (List.mem_append_right _ (List.mem_append_right _ (qbaz hb e)))).2.1
   cases ok with
   |false=>
    rw[if_neg Bool.false_ne_true] at q9 ⊢;exact back I9 q9
   |true=>
    rw[if_pos rfl] at q9 ⊢;refine thn (he _ s9 σ8 H9 _ I9 q9) fun xv s10 ⟨v,H10,I10,r10,hD10,q10⟩=>?_;refine thn (qhaz (X:=X.cmp scope own js s3 (upd H s.heap.objs.size (.lst [])) fp) _ s10 σ8 H10 (.ref s.heap.objs.size) [v] (.ref s.heap.objs.size) [xv] (fun _ H'=>H'=upd H10 s.heap.objs.size (.lst (ys++[v]))) I10 rfl (.cons r10 .nil)
     ⟨_,ys,v,rfl,rfl,hD10,hys,rfl⟩) fun _ s11 ⟨_,H11,I11,_,e11⟩=>?_
    subst e11;exact back I11 q10
 exact codeAny_compStart_list loop (T.self _ 0 _ _ _ st4 loop)
theorem qwzz{wi:TI}(C:CmpOk X.N X.env.scope scope own js)(hi:PIC X tg iter wi)
  (hb:∀s H fp,PG (X.cmp scope own js s H fp) tg g/\PCt (X.cmp scope own js s H fp) ifs tc/\PE (X.cmp scope own js s H fp) elt te)
  (hs:∀x,foldedSetIterable iter X.env x=pure x:=by intro _;rfl):PE X (.ListComp elt [⟨tg,iter,ifs,0⟩] scope pos) (tLc own js wi g tc te):=by
 intro pins s σ H Q I h;rw[eval_ListComp];refine wpAny_comprehension_free (use:=none) rfl hs (qhkz (C.cells I.ok)) C.kind C.names (thn (hi pins s σ H _ I h) fun xv s₁ h₁=>thn h₁ fun itv s₂ h₂=>?_);obtain⟨it,fp,tn,J,H2,e,I2,T,st2,f2,hc,rd⟩:=h₂;subst e;refine qwyz (RR:=fun acc C'=>compPost (model X.prog X.w) X.A X.xe none (EP X pins σ Q) acc C') hc C hb I2 T st2 f2 rd fun D N s' H' I' q hN hHN ⟨m,hm⟩=>?_;exact⟨m,hm,fun h' sb=>⟨.ref D,H',I2.other I' hN hHN sb,rfl,q⟩⟩
end
end L2
namespace L3
open PySem PySem.Spec PyProof.Rows L2
abbrev PI3C(X:Cx)(tg iter:Expr)(ti:TI3):Prop:=PIC X tg iter (lowI X.K ti)
def ItC(K:PySem.W.Frag)(a z:Addr):It:={ Itl K a with stop:=fun i H=>(Itl K a).stop i H/\∃C dx,H z=some (.ext (excφ z C dx))}
theorem qw0z{P:Program}{w:World}{K:PySem.W.Frag}{tg:Expr}(a z it:Addr):TurnH P w K tg (ItC K a z) [it] it (fun i h=>h.IsListIter it a i):=
 ⟨(qbxz (P:=P) (w:=w) (K:=K) (tg:=tg) a it).mem,(qbxz (P:=P) (w:=w) (K:=K) (tg:=tg) a it).obj,(qbxz (P:=P) (w:=w) (K:=K) (tg:=tg) a it).keep,(qbxz (P:=P) (w:=w) (K:=K) (tg:=tg) a it).item,
  fun X h1 h2 h3 i pins s σ H E hc I hf st hs=>(qbxz (P:=P) (w:=w) (K:=K) (tg:=tg) a it).done X h1 h2 h3 i pins s σ H E hc I hf st hs.1,(qbxz (P:=P) (w:=w) (K:=K) (tg:=tg) a it).self⟩
section
variable {X:Cx} {tg iter:Expr} {pos p:Pos}
theorem qw1z{elt:Expr}{ifs:List Expr}{scope:Scope}{own:List Str}{js:List Nat}{ti:TI3}{g:TG3}{tc:TT3}{te:TE3}(C:CmpOk X.N X.env.scope scope own js)(hi:PI3C X tg iter ti)
  (hb:∀s H fp,PG3 (X.cmp scope own js s H fp) tg g/\PCt (X.cmp scope own js s H fp) ifs (lowT X.K tc)/\PE3 (X.cmp scope own js s H fp) elt te)
  (hs:∀x,foldedSetIterable iter X.env x=pure x:=by intro _;rfl):PE3 X (.ListComp elt [⟨tg,iter,ifs,0⟩] scope pos) (eComp own js ti g tc te):=
 qpz (qwzz C hi hb hs) fun σ H Q h=>qhtz h
def iLstC(z:Addr)(te:TE3):TI3:=fun τ G R=>te τ G fun x G1=>match x with
 |.obj p=>∃ds,G1 p=some (.lst ds)/\R ⟨ds,fun G=>G p=some (.lst ds)/\∃x fs,G z=some (.gen (excR x fs))⟩ G1
 |_=>False
theorem qw2z{l:Expr}{te:TE3}{z:Addr}(hA:X.A.handled=some (.ref z))(hl:PE3 X l te):PI3C X tg l (iLstC z te):=by
 intro pins s σ H R I h;obtain⟨τ,G,R3,RS,RG,h,k⟩:=h;refine thn (hl pins s σ H (fun v H'=>∃d G',Hv X.K H' d v/\Step H G H' G'/\RepG X.K G' H'/\(match d with
  |.obj p=>∃ds,G' p=some (.lst ds)/\R3 ⟨ds,fun G=>G p=some (.lst ds)/\∃x fs,G z=some (.gen (excR x fs))⟩ G'
  | _=>False)) I ⟨τ,G,_,RS,RG,h,fun v H' d G' a b c q=>⟨d,G',a,b,c,q⟩⟩) fun v s1 ⟨x,H1,I1,r1,d,G1,hv,S1,R1,q⟩=>?_
 cases d with
 |obj a=>
  unfold Hv at hv;subst hv;cases r1;obtain⟨ds,e1,q⟩:=q;obtain⟨vs,e2,e3⟩:=R1 a _ e1;obtain⟨its,rv,p,hz⟩:=I1.list (SqL.of e2);refine wpAny_pyIter_list p.isList ?_;refine⟨s1.heap.objs.size,[s1.heap.objs.size],_,ItC X.K a z,H1,rfl,I1.kept (t':=s1.toks) fun b o e=>Heap.get?_push_of_some _ e,qw0z a z _,⟨_,Heap.get?_push_size _ rfl,rfl,rfl⟩,fun b hb=>?_,?_,k _ _ _ _ ⟨?_,?_⟩ S1 R1 q⟩
  ·have e:b=s1.heap.objs.size:=by simpa using hb
   subst e;exact I1.fpOk (Nat.le_refl _) (I1.hok.fresh (Nat.le_refl _))
  ·rintro Y pins' σ' H' s' i hP hw I' ⟨_,C,dx,c2⟩;obtain⟨⟨oe,ws,q1,q2,q3,q4,q5⟩,_⟩:=(show ObjOk Y.prog Y.w H' s'.heap z (.ext (excφ z C dx)) from I'.hok z _ c2);exact⟨z,oe,ws,hA,q1,q4,q5⟩
  ·rintro i d H' G' E' RG' ⟨hg,_⟩ hi;obtain⟨vs',z1,z2⟩:=RG' a _ hg;obtain⟨v',y1,y2⟩:=z2.get hi;refine⟨⟨vs',v',.of z1,y1⟩,fun x H'' hy=>?_⟩;obtain⟨rfl,hy⟩:=hy;have:=hy vs' (.of z1);rw[y1] at this;cases this;exact⟨y2,.refl _ _,RG'⟩
  ·rintro i H' G' E' RG' ⟨hg,x,fs,hx⟩ hi;obtain⟨vs',z1,z2⟩:=RG' a _ hg;obtain⟨C,dx,c1,c2,c3⟩:=(RG' z _ hx).1;exact⟨⟨vs',.of z1,by rw[←z2.length];exact hi⟩,C,dx,c2⟩
 |_=>exact q.elim
theorem qw3z{elt:Expr}{ifs:List Expr}{scope:Scope}{own:List Str}{js:List Nat}{tl:TE3}{g:TG3}{tc:TT3}{te:TE3}{z:Addr}(hA:X.A.handled=some (.ref z))(C:CmpOk X.N X.env.scope scope own js)(hi:QE X iter tl)
  (hb:∀s H fp,QG (X.cmp scope own js s H fp) tg g/\QC (X.cmp scope own js s H fp) ifs tc/\QE (X.cmp scope own js s H fp) elt te)
  (hs:∀x,foldedSetIterable iter X.env x=pure x:=by intro _;rfl):QE X (.ListComp elt [⟨tg,iter,ifs,0⟩] scope pos) (eComp own js (iLstC z tl) g tc te):=
 ⟨qw1z C (qw2z hA hi.of) (fun s H fp=>⟨(hb s H fp).1.of,(hb s H fp).2.1.of,(hb s H fp).2.2.of⟩) hs⟩
end
end L3
namespace L2
open PySem PySem.Spec PyProof.Rows
def rInsert:V->List V->Hp->VK->Prop:=fun x vs H Q=>∃l xs i y,x=.ref l/\vs=[.int i,y]/\H l=some (.lst xs)/\0≤i/\i.toNat≤xs.length/\xs.length<sizeLine/\xs.length<2^62/\Q .non (upd H l (.lst (xs.take i.toNat++y::xs.drop i.toNat)))
theorem qw4z(its:List Value)(u:Value)(k:Nat)(hk:k≤its.length):(its.toArray.extract 0 k).push u++its.toArray.extract k=(its.take k++u::its.drop k).toArray:=by
 apply Array.toList_inj.mp;simp;exact List.take_of_length_le (by rw[List.length_drop];exact Nat.le_refl _)
theorem qw5z{X:Cx}:MtM X "list.insert" rInsert:=by
 intro pins s σ H x vs v us Q I rx rv h;obtain⟨l,xs,i,y,rfl,rfl,hH,h0,hi,hz,h62,q⟩:=h;cases rx;obtain⟨u0,u,rfl,r0,ru⟩:=rv.two;obtain⟨t,rfl⟩:=r0;obtain⟨z,its,n,r,hl,e⟩:=I.lstM hH;refine call_meets F.slot_list_insert ⟨_,e,rfl⟩ F.entry_list_insert (F.args_list_insert_3 _ _ _)
  (AutoSeq1.list_insert_list_int_val_1 l its.toArray n i t u (by rw[fitsIndex_both (k:=i) (by omega) (by omega)];exact Bool.false_ne_true) (by rw[List.size_toArray];omega)) ⟨e,?_⟩
 refine⟨.non,_,I.lset (its':=its.take i.toNat++u::its.drop i.toNat) hH e ?_ ((r.take _).append (.cons ru (r.drop _))) ?_,rfl,q⟩
 ·show ((its.toArray.extract 0 (if i<0 then (i+(its.toArray.size:Int)).toNat else min i.toNat its.toArray.size)).push u++its.toArray.extract (if i<0 then (i+(its.toArray.size:Int)).toNat else min i.toNat its.toArray.size))=_;rw[if_neg (by omega),List.size_toArray,Nat.min_eq_left (by omega)];exact qw4z its u i.toNat (by omega)
 ·rw[List.length_append,List.length_cons,List.length_take,List.length_drop];omega
end L2
namespace L3
open PySem PySem.Spec PyProof.Rows L2
section
variable {K:PySem.W.Frag}
def qj6z:D->List D->Gp->V3->Prop:=fun x ds G Q=>match x,ds with
 |.obj a,[.int i,d]=>∃xs,G a=some (.lst xs)/\(0≤i/\i.toNat≤xs.length)/\xs.length<sizeLine/\xs.length<2^62/\Q .non (upd3 G a (.lst (xs.take i.toNat++d::xs.drop i.toNat)))
 |_,_=>False
theorem qw6z:LowM K qj6z rInsert:=fun x vx ds vs G H Q3 Q hx hs RG q k=>by
 rcases ds with _|⟨d,_|⟨d2,_|⟨d3,ds⟩⟩⟩
 ·cases x<;>exact q.elim
 ·cases x with
  |obj a=>cases d<;>exact q.elim
  |_=>exact q.elim
 ·cases x with
  |obj a=>
   cases d with
   |int i=>
    obtain⟨xs,e1,⟨h0,hi⟩,hz,h62,q⟩:=q;obtain⟨us,e2,e3⟩:=RG a _ e1;obtain⟨v,w,rfl,hv,hw⟩:=hvs2 hs;rw[qsz hx,qrz hv];have hlen:=e3.length;refine⟨a,us,i,w,rfl,rfl,e2,h0,by omega,by omega,by omega,?_⟩;exact k _ _ .non _ (by simp[Hv]) (.wrote e1) (RG.wroteL e2 ((e3.take _).append (.cons hw (e3.drop _)))) q
   |_=>exact q.elim
  |_=>exact q.elim
 ·cases x with
  |obj a=>cases d<;>exact q.elim
  |_=>exact q.elim
end
end L3
namespace My
open PySem L2 L3
def qa8z:Sp3:=fun ds G Q=>∃(d:D) (cs:List Clk),ds=[d]/\(∀es,d≠.tup es)/\seqD G d (cs.map cD)/\ClOk 1000 cs/\cs.length≤12/\Q (.int (rnd cs:Nat)) G
def qj7z:TS3:=sAsg (eOp rDiv3 (eOp rMul3 (eVar 1) (eVar 2)) (eCall qbtz (aCons (eVar 1) (aCons (eVar 2) (aNil))))) (hName 1)
def qj8z:TS3:=sRet (eVar 1)
def qw7z:TS3:=sSeq (sFor (iSeq (eVar 0)) (hTup 2 (hCons (hName 2) (hCons (hName 3) (hNil)))) (qj7z)) qj8z
def qj9z:TS3:=sSeq (sAsg (eC (.int 1)) (hName 1)) qw7z
def qw8z:TS3:=sAsg (eOp rDiv3 (eOp rMul3 (eVar 1) (eVar 2)) (eCall qbtz (aCons (eVar 1) (aCons (eVar 2) (aNil))))) (hName 1)
def qw9z:TS3:=sRet (eVar 1)
def qxaz:TS3:=sSeq (sFor (iLst (eVar 0)) (hTup 2 (hCons (hName 2) (hCons (hName 3) (hNil)))) (qw8z)) qw9z
def qkaz:TS3:=sSeq (sAsg (eC (.int 1)) (hName 1)) qxaz
theorem qejz{G:Gp}{Q:V3}{d0:D}{cs:List Clk}{guard:Gp->Prop}(hp:guard G)(ok:ClOk 1000 cs)(hl:cs.length≤12)(q:Q (.int (rnd cs:Nat)) G):
  forGo guard (hTup 2 (hCons (hName 2) (hCons (hName 3) (hNil)))) qj7z { endsOf Q with nx:=qj8z (endsOf Q)} (cs.map cD) [some d0,some (.int 1),none,none] G:=by
 refine qamz (fun ds τ G'=>G'=G/\∃(zs:List Clk) (a:Nat) (x2 x3:Option D),ds=zs.map cD/\τ=[some d0,some (.int a),x2,x3]/\ClOk 1000 zs/\0<a/\a*1000^zs.length≤1000^12/\rndF zs a=rnd cs) (fun _ _ _ h=>by rw[h.1];exact hp) ?_ ?_ _ _ _ ⟨rfl,cs,1,none,none,rfl,rfl,ok,by decide,?_,rfl⟩
 ·rintro d ds τ G' N ⟨rfl,zs,a,x2,x3,e,rfl,okz,ha,hb,hr⟩ hN;cases zs with
  |nil=>cases e
  |cons z zs=>
   cases e;obtain⟨s,r⟩:=z;obtain⟨v,hs⟩:=okz _ List.mem_cons_self;have hs1:0<s:=v.1;have hs2:s≤1000:=hs;obtain⟨n,rfl⟩:∃n:Nat,s=(n:Int):=⟨s.toNat,by omega⟩;have hg:0<Nat.gcd a n:=Nat.gcd_pos_of_pos_left _ ha;have hga:Nat.gcd a n≤a:=Nat.le_of_dvd ha (Nat.gcd_dvd_left _ _);have ha12:a≤1000^12:=Nat.le_trans (Nat.le_mul_of_pos_right _ (Nat.pow_pos (by decide))) hb;have hbig:∀k:Nat,k≤1000^13->Big (k:Int):=fun k hk=>qfgz (Nat.lt_of_le_of_lt hk (by decide));have h13:a*n≤1000^12*1000:=Nat.mul_le_mul ha12 (by omega);refine⟨rfl,⟨hbig _ (Nat.le_trans ha12 (by decide)),hbig _ (Nat.le_trans (show n≤1000 by omega) (by decide))⟩,a,n,rfl,⟨by omega,hbig _ (Nat.le_trans hga (Nat.le_trans ha12 (by decide)))⟩,?_⟩;refine hN _ _ ⟨rfl,zs,Nat.lcm a n,some (.int n),some (.int r),rfl,?_,fun c hc=>okz c (List.mem_cons_of_mem _ hc),Nat.lcm_pos ha (by omega),?_,hr⟩
   ·show [some d0,some (D.int ((a:Int)*(n:Int) / (Nat.gcd a n:Nat))),_,_]=_;rw[←Int.natCast_mul,←Int.natCast_ediv];rfl
   ·refine Nat.le_trans ?_ hb;rw[List.length_cons,Nat.pow_succ,Nat.mul_comm (1000^zs.length) 1000,←Nat.mul_assoc];refine Nat.mul_le_mul_right _ ?_;have:Nat.lcm a n≤a*n:=Nat.le_of_dvd (Nat.mul_pos ha (by omega)) (Nat.lcm_dvd (Nat.dvd_mul_right _ _) (Nat.dvd_mul_left _ _));exact Nat.le_trans this (Nat.mul_le_mul_left _ (by omega))
 ·rintro τ G' ⟨rfl,zs,a,x2,x3,e,rfl,okz,ha,hb,hr⟩;have:zs=[]:=by
   cases zs with
   |nil=>rfl
   |cons z zs=>cases e
  subst this;have hr':a=rnd cs:=hr;rw[←hr'] at q;exact qgz q
 ·rw[Nat.one_mul];exact Nat.pow_le_pow_right (by decide) hl
theorem qxbz:∀ds G Q,qa8z ds G Q->qj9z (endsOf Q) (start3 ["clocks","found","step","rest"] ds) G:=by
 rintro ds G Q ⟨d,cs,rfl,ht,hd,ok,hl,q⟩;cases d with
 |obj p=>exact⟨_,hd,qejz (guard:=fun G=>G p=some (.lst (cs.map cD))) hd ok hl q⟩
 |scr es=>
  have hd:cs.map cD=es:=hd;subst hd;exact qejz (guard:=fun _=>True) trivial ok hl q
 |tup es=>exact absurd rfl (ht es)
 |_=>exact hd.elim
theorem qxcz:∀ds G Q,qa8z ds G Q->qkaz (endsOf Q) (start3 ["clocks","found","step","rest"] ds) G:=by
 rintro ds G Q ⟨d,cs,rfl,ht,hd,ok,hl,q⟩;cases d with
 |obj p=>exact⟨_,hd,qejz (guard:=fun G=>G p=some (.lst (cs.map cD))) hd ok hl q⟩
 |scr es=>
  have hd:cs.map cD=es:=hd;subst hd;exact qejz (guard:=fun _=>True) trivial ok hl q
 |tup es=>exact absurd rfl (ht es)
 |_=>exact hd.elim
structure Bs(ns:List Int):Prop where
 s:St ns
 d:∀n∈ns,n∣5040
theorem qkbz{cs:List Clk}(h:∀c∈cs,0<c.1/\c.1∣5040):rnd cs≤5040:=by
 refine Nat.le_of_dvd (by decide) (qr7z (d:=5040) (Nat.one_dvd _) fun c hc=>?_);obtain⟨h0,h1⟩:=h c hc;have e:c.1=((c.1.toNat:Nat):Int):=by omega
 rw[e] at h1;exact Int.natCast_dvd_natCast.mp h1
theorem Bs.r{ns:List Int}(h:Bs ns):rndS ns≤10000:=by
 rw[←qj5z];refine Nat.le_trans (qkbz fun c hc=>?_) (by decide);obtain⟨n,hn,rfl⟩:=List.mem_map.mp hc;have:=h.s.st n hn;exact⟨by show 0<n;omega,h.d n hn⟩
theorem line5040{n:Nat}(h:n≤5040):n≤sizeLine:=Nat.le_trans h (by decide)
def qdhz:Sp3:=fun ds G Q=>∃(p:Addr) (ns is:List Int),ds=[.obj p,.tup (is.map D.int)]/\G p=some (.lst (ns.map D.int))/\Rs ns is/\Bs ns/\∀G',Sub G G'->Q (.bl (covB ns is)) G'
def qxdz:TS3:=sRet (eCB qbpz (aCons (eComp ["number"] [2] (iRng1 (aCons (eCall qa8z (aCons (eVar 2) (aNil))) (aNil))) (hName 0) (tNoTest3) (eOp (rEq3 true) (eCall qdgz (aCons (eVar 1) (aCons (eVar 0) (aNil)))) (eLst (aNil)))) (aNil)))
def qkcz:TS3:=sSeq (sAsg (eLZ (aCons (eVar 0) (aCons (eVar 1) (aNil)))) (hName 2)) qxdz
theorem qxez:∀ds G Q,qdhz ds G Q->qkcz (endsOf Q) (start3 ["steps","rests","clocks"] ds) G:=by
 rintro ds G Q ⟨p,ns,is,rfl,hp,hR,hB,q⟩;have h6:=hR.n6;have hl:=hR.len;refine⟨ns.map D.int,is.map D.int,hp,rfl,by rw[List.length_map];omega,fun p2 G2 n2=>?_⟩;rw[qj4z] at n2;have q:∀G',Sub G G'->Q (.bl (nmO (ns.zip is)).isNone) G':=fun G' s=>by
  have:=q G' s;unfold covB at this;rw[qj3z] at this;exact this
 have hz:(ns.zip is).length≤6:=by rw[List.length_zip];omega
 have hr300:rnd (ns.zip is)≤5040:=qkbz fun c hc=>⟨(hR.valid c hc).1.1,hB.d c.1 (List.of_mem_zip hc).1⟩;have hv:=hR.valid;have ok:ClOk 1000 (ns.zip is):=fun c hc=>⟨(hv c hc).1,by have:=(hv c hc).2;omega⟩;obtain⟨hr0,_⟩:=qrlz ok (by omega);rw[←qv6z hv hr0] at q;unfold allB at q;generalize ns.zip is=cs at n2 q hz hr300 hv ok hr0;refine⟨.obj p2,cs,rfl,nofun,n2.at_,ok,by omega,⟨by omega,by omega⟩,?_,?_⟩
 ·show (rngL 0 ((rnd cs:Nat):Int).toNat).length≤sizeLine;rw[qckz];exact line5040 (by omega)
 show compGo _ _ _ _ _ (rngL 0 ((rnd cs:Nat):Int).toNat) _ _ _;rw[Int.toNat_natCast,rng0];refine qcyz (fun ds acc τ G'=>Sub G2 G'/\(∃xs ys:List Nat,ys++xs=List.range (rnd cs)/\ds=xs.map nD/\acc=ys.map fun y:Nat=>D.bl (!((cs.filter (rg2 (y:Int))).isEmpty)))/\∃x,τ=[x,some (.obj p2)]) (fun _ _ _ _ _=>trivial) ?_ ?_ _ _ _ _ ⟨Sub.refl _,⟨_,[],rfl,rfl,rfl⟩,none,rfl⟩
 ·rintro d ds acc τ G3 K1 K2 ⟨s3,⟨xs,ys,hxy,e,rfl⟩,x,rfl⟩ g1 g2;cases xs with
  |nil=>cases e
  |cons y xs=>
   cases e;refine⟨fun _=>⟨p2,cs,(y:Int),rfl,s3 _ _ n2.at_,fun c hc=>(hv c hc).1.1,by omega,fun p4 G4 n4 p5 G5 n5=>⟨_,_,qbhz (n5.sub _ _ n4.at_) (qebz _),qbhz n5.at_ rfl,qfdz _,?_⟩⟩,nofun⟩;have e0:(Dat.D.lst ((cs.filter (rg2 (y:Int))).map cX)).eqb (.lst [])=(cs.filter (rg2 (y:Int))).isEmpty:=by
    rw[qb7z];cases cs.filter (rg2 (y:Int))<;>rfl
   refine g1 _ _ _ ⟨(s3.trans n4.sub).trans n5.sub,⟨xs,ys++[y],by rw[List.append_assoc];exact hxy,rfl,?_⟩,_,rfl⟩;rw[List.map_append];show _++[D.bl (!((Dat.D.lst ((cs.filter (rg2 (y:Int))).map cX)).eqb (.lst [])))]=_;rw[e0];rfl
 ·rintro acc τ G3 ⟨s3,⟨xs,ys,hxy,e,rfl⟩,x,rfl⟩ p4 G4 n4;have hx:xs=[]:=by
   cases xs with
   |nil=>rfl
   |cons _ _=>cases e
  subst hx;rw[List.append_nil] at hxy;refine⟨_,_,n4.at_,qc0z _ _,qgz ?_⟩;rw[all_map,hxy];exact q _ ((n2.sub.trans s3).trans n4.sub)
theorem qxfz(G:Gp)(es:List D):shw G (.tup es)=.tup es:=rfl
structure Th(G:Gp)(d:D):Prop where
 i:(∀es,d≠.tup es)->instD "tuple" G d=some false
 k:KnD noG (shw G d)
theorem qxgz{ns:List Int}{G:Gp}{d:D}(h:∀es,d≠.tup es):formR ns (shw G d)=false:=by
 cases d with
 |tup es=>exact absurd rfl (h es)
 |obj p=>
  cases hg:G p with
  |none=>simp[shw,hg,formR]
  |some o=>cases o<;>simp[shw,hg,formR]
 |_=>rfl
def qdiz:Sp3:=fun ds G Q=>∃(p:Addr) (ns:List Int) (d:D),ds=[.obj p,d]/\G p=some (.lst (ns.map D.int))/\Bs ns/\Th G d/\∀G',Sub G G'->Q (.bl (restsB ns (shw G d))) G'
def qxhz:TS3:=sRet (eCall qdhz (aCons (eVar 0) (aCons (eVar 1) (aNil))))
def qxiz:TS3:=sSeq (sIf (eTest (eOp (rEq3 true) (eComp ["k"] [1,0] (iRng1 (aCons (eCB qyz (aCons (eVar 0) (aNil))) (aNil))) (hName 0) (eTest (eInRng1 true (eOp rIx3 (eVar 1) (eVar 0)) (aCons (eOp rIx3 (eVar 2) (eVar 0)) (aNil)))) (eVar 0)) (eLst (aNil)))) (sRet (eC (.bl false))) (sNext)) qxhz
def qfzz:TS3:=sSeq (sIf (eOr (eNot (eTest (eInst "tuple" (eVar 1)))) (eOr (eTest (eOp (rEq3 true) (eCB qyz (aCons (eVar 1) (aNil))) (eCB qyz (aCons (eVar 0) (aNil))))) (eNot (eTest (eCB qbpz (aCons (eComp ["one"] [] (iSeq (eVar 1)) (hName 0) (tNoTest3) (eCall qbsz (aCons (eVar 0) (aNil)))) (aNil))))))) (sRet (eC (.bl false))) (sNext)) qxiz
theorem qkdz:∀{es:List D},es.all wholeD=true->∃is:List Int,es=is.map D.int
 |[],_=>⟨[],rfl⟩
 |e::es,h=>by
  rw[List.all_cons,Bool.and_eq_true] at h;obtain⟨is,rfl⟩:=qkdz h.2;cases e with
  |int i=>exact⟨i::is,rfl⟩
  |_=>cases h.1
theorem qxjz(is:List Int):(is.map D.int).all wholeD=true:=by
 rw[List.all_map,List.all_eq_true];exact fun _ _=>rfl
def badK(ns is:List Int)(k:Nat):Bool:=match ns[k]?,is[k]? with
 |some n,some i=>!(decide (0≤i)&&decide (i<n))
 |_,_=>true
theorem qkez:∀{ns is:List Int},is.length=ns.length->(ns.zip (is.map D.int)).all (fun z=>okR z.1 z.2)=(List.range ns.length).all fun k=>!badK ns is k
 |[],[],_=>rfl
 |n::ns,i::is,h=>by
  have ih:=qkez (ns:=ns) (is:=is) (by simpa using h);rw[List.map_cons,List.zip_cons_cons,List.all_cons,ih,List.length_cons,List.range_succ_eq_map,List.all_cons,List.all_map];have e:okR n (.int i) = !badK (n::ns) (i::is) 0:=by
   show (decide (0≤i)&&decide (i<n)) = !!(decide (0≤i)&&decide (i<n));rw[Bool.not_not]
  rw[show okR (n,D.int i).1 (n,D.int i).2=okR n (.int i) from rfl,e];rfl
 |[],_::_,h=>by cases h
 |_::_,[],h=>by cases h
theorem qxkz(ks:List Nat):toDats0 (ks.map nD)=some (ks.map fun k:Nat=>Dat.D.int (k:Int)):=by
 induction ks with
 |nil=>rfl
 |cons k ks ih=>
  show (match toDats0 (ks.map nD) with
   |some us=>some (Dat.D.int (k:Int)::us)
   | none=>none)=_
  rw[ih];rfl
theorem qxlz(ks:List Nat):Dat.deps (ks.map fun k:Nat=>Dat.D.int (k:Int))=0:=by
 induction ks with
 |nil=>rfl
 |cons k ks ih=>
  show max 0 (Dat.deps (ks.map fun k:Nat=>Dat.D.int (k:Int)))=0;rw[ih];rfl
theorem qxmz:∀ds G Q,qdiz ds G Q->qfzz (endsOf Q) (start3 ["steps","thing"] ds) G:=by
 rintro ds G Q ⟨p,ns,d,rfl,hp,hb,ht,q⟩;have h6:=hb.s.l6;have not_tup:(∀es,d≠.tup es)->qfzz (endsOf Q) (start3 ["steps","thing"] [.obj p,d]) G:=by
  intro hn;have e:restsB ns (shw G d)=false:=by
   unfold restsB;rw[qxgz hn];rfl
  rw[e] at q;show match instD "tuple" G d with
   |some b=>_
   |none=>False
  rw[ht.i hn];exact⟨fun _=>⟨fun _=>qgz (q _ (Sub.refl _)),nofun⟩,nofun⟩
 cases d with
 |tup es=>
  rw[qxfz] at q;have hk:KnD noG (.tup es):=ht.k;have bad:formR ns (.tup es)=false->∀G',Sub G G'->Q (.bl false) G':=fun h G' s=>by
   have:=q G' s;unfold restsB at this;rw[h] at this;exact this
  refine⟨nofun,fun _=>⟨_,hp,_,_,rfl,rfl,Nat.zero_le _,fun h=>?_,fun h=>?_⟩⟩
  ·have h':(!(((es.length:Nat):Int)==(((ns.map D.int).length:Nat):Int)))=true:=h;rw[List.length_map] at h';have hne:es.length≠ns.length:=fun z=>by
    rw[z] at h';simp at h'
   refine⟨fun _=>qgz (bad ?_ _ (Sub.refl _)),nofun⟩;show (decide (es.length=ns.length)&&_)=false;rw[decide_eq_false hne,Bool.false_and]
  have h':(!(((es.length:Nat):Int)==(((ns.map D.int).length:Nat):Int)))=false:=h;rw[List.length_map] at h';have heq:es.length=ns.length:=by
   simp at h';omega
  refine⟨line1000 (by show es.length≤1000;omega),qrzz (js:=[]) (τ:=[]) (f:=wholeD) (by show es.length≤1000;omega) (fun x hx y K k=>⟨(hk.el hx).sub (qbwz _) |>.known,k⟩) fun p1 G1 n1=>⟨_,_,n1.at_,qc0z wholeD es,?_⟩⟩;rw[all_map];refine⟨fun hw=>?_,fun hw=>?_⟩
  ·have hw':es.all wholeD=false:=by simpa using hw
   refine qgz (bad ?_ _ n1.sub);cases hf:formR ns (.tup es) with
   |false=>rfl
   |true=>
    obtain⟨is,e,_,_⟩:=qfyz hf;cases e;rw[qxjz] at hw';cases hw'
  have hw':es.all wholeD=true:=by simpa using hw
  obtain⟨is,rfl⟩:=qkdz hw';rw[List.length_map] at heq;have hp1:=n1.sub _ _ hp;have hf:formR ns (.tup (is.map D.int))=(List.range ns.length).all fun k=>!badK ns is k:=by
   show (decide ((is.map D.int).length=ns.length)&&(ns.zip (is.map D.int)).all fun z=>okR z.1 z.2)=_;rw[List.length_map,decide_eq_true heq,Bool.true_and,qkez heq]
  refine⟨_,hp1,⟨by rw[List.length_map];omega,by rw[List.length_map];omega⟩,?_,?_⟩
  ·show (rngL 0 (((ns.map D.int).length:Nat):Int).toNat).length≤sizeLine;rw[qckz,List.length_map];exact line1000 (by omega)
  show compGo _ _ _ _ _ (rngL 0 (((ns.map D.int).length:Nat):Int).toNat) _ _ _;rw[List.length_map,Int.toNat_natCast,rng0];refine qaaz (fun τ=>∃x,τ=[x,some (.tup (is.map D.int)),some (.obj p)]) nD (badK ns is) nD (G:=G1) trivial (List.range ns.length) [] _ ⟨none,rfl⟩ ?_ ?_
  ·rintro k hm τ K1 K2 ⟨x,rfl⟩ g1 g2;have hk1:k<ns.length:=by simpa using hm
   have ea:ns[k]?=some ns[k]:=List.getElem?_eq_getElem hk1;have eb:is[k]?=some (is[k]'(by omega)):=List.getElem?_eq_getElem (by omega);have ebk:badK ns is k=inB true 0 ns[k] (is[k]'(by omega)):=by
    unfold badK;rw[ea,eb];rfl
   refine⟨_,qdrz (by rw[List.getElem?_map,eb];rfl),_,_,hp1,qdrz (by rw[List.getElem?_map,ea];rfl),?_⟩;show (inB true 0 ns[k] (is[k]'(by omega))=true->_)/\(inB true 0 ns[k] (is[k]'(by omega))=false->_);rw[←ebk];exact⟨fun e=>g1 e _ ⟨_,rfl⟩,fun e=>g2 e _ ⟨_,rfl⟩⟩
  ·intro p2 G2 n2;rw[List.nil_append] at n2;intro p3 G3 n3;have s3:=n1.sub.trans (n2.sub.trans n3.sub);refine⟨_,_,qbhz (n3.sub _ _ n2.at_) (qxkz _),qbhz n3.at_ rfl,?_,fun hne=>?_,fun hne=>?_⟩
   ·show Dat.deps _+1≤50;rw[qxlz];decide
   ·have hne':(!((Dat.D.lst (((List.range ns.length).filter (badK ns is)).map fun k:Nat=>Dat.D.int (k:Int))).eqb (.lst [])))=true:=hne;rw[qb7z] at hne';refine qgz (bad ?_ _ s3);rw[hf,List.all_eq_false];cases hfl:(List.range ns.length).filter (badK ns is) with
    |nil=>
     rw[hfl] at hne';cases hne'
    |cons k ks=>
     have hk2:k∈(List.range ns.length).filter (badK ns is):=by rw[hfl];exact List.mem_cons_self
     rw[List.mem_filter] at hk2;exact⟨k,hk2.1,by rw[hk2.2];decide⟩
   ·have hne':(!((Dat.D.lst (((List.range ns.length).filter (badK ns is)).map fun k:Nat=>Dat.D.int (k:Int))).eqb (.lst [])))=false:=hne;rw[qb7z] at hne';have hft:formR ns (.tup (is.map D.int))=true:=by
     rw[hf,List.all_eq_true];intro k hk2;cases hbk:badK ns is k with
     |false=>rfl
     |true=>
      have:k∈(List.range ns.length).filter (badK ns is):=List.mem_filter.mpr ⟨hk2,hbk⟩;cases hfl:(List.range ns.length).filter (badK ns is) with
      |nil=>
       rw[hfl] at this;cases this
      |cons a as=>
       rw[hfl] at hne';cases hne'
    obtain⟨is',e,h2,h3⟩:=qfyz hft;have e':is'=is:=by
     have e0:is.map D.int=is'.map D.int:=by injection e
     exact ((List.map_inj_right fun a b h=>by cases h;rfl).mp e0).symm
    subst e';refine⟨p,ns,is',rfl,s3 _ _ hp,⟨h2,h6,hb.s.st,h3⟩,hb,fun G4 s4=>qgz ?_⟩;have:=q G4 (s3.trans s4);unfold restsB at this;rw[hft,Bool.true_and,show optsD (.tup (is'.map D.int))=is'.map some by show (is'.map D.int).map optD=_;rw[List.map_map];rfl] at this;exact this
 |_=>exact not_tup nofun
end My
namespace My
open PySem L2 L3
def Cb(cs:List Clk):Prop:=∀c∈cs,(2≤c.1/\c.1≤24)/\c.1∣5040
def qdjz:Sp3:=fun ds G Q=>∃pp:Addr,ds=[.obj pp]/\G pp=some .pen/\∀(ns is:List Int) (q:Addr) (G':Gp),Bs ns->is.length=ns.length->Sub G G'->G' q=some (.lst (ns.map D.int))->Q (.tup [.obj q,.tup (is.map D.int)]) G'
def qxnz:TS3:=sDrop (eM qj6z (eVar 1) (aCons (eCall q7z (aCons (eVar 0) (aCons (eOp rAdd3 (eCB qyz (aCons (eVar 1) (aNil))) (eC (.int 1))) (aNil)))) (aCons (eTup (aCons (eVar 3) (aCons (eCall q7z (aCons (eVar 0) (aCons (eVar 3) (aNil)))) (aNil)))) (aNil))))
def qxoz:TS3:=sIf (eTest (eOp rLtT3 (eCB qyz (aCons (eVar 1) (aNil))) (eC (.int 6)))) (sSeq (sAsg (eOp rAdd3 (eC (.int 2)) (eCall q7z (aCons (eVar 0) (aCons (eC (.int 7)) (aNil))))) (hName 3)) qxnz) (sNext)
def qkfz:TS3:=sRet (eTup (aCons (eComp ["clock"] [] (iSeq (eVar 1)) (hName 0) (tNoTest3) (eOp rIx3 (eVar 0) (eC (.int 0)))) (aCons (eCB qboz (aCons (eComp ["clock"] [] (iSeq (eVar 1)) (hName 0) (tNoTest3) (eOp rIx3 (eVar 0) (eC (.int 1)))) (aNil))) (aNil))))
def qkgz:TS3:=sSeq (sFor (iRng1 (aCons (eCall q7z (aCons (eVar 0) (aCons (eC (.int 3)) (aNil)))) (aNil))) (hName 2) (qxoz)) qkfz
def qxpz:TS3:=sSeq (sIf (eTest (eOp (rEq3 false) (eVar 1) (eLst (aNil)))) (sAsg (eLst (aCons (eTup (aCons (eC (.int 2)) (aCons (eC (.int 0)) (aNil)))) (aCons (eTup (aCons (eC (.int 2)) (aCons (eC (.int 1)) (aNil)))) (aNil)))) (hName 1)) (sNext)) qkgz
def qkhz:TS3:=sSeq (sAsg (eSl (eComp ["clock"] [] (iSeq (eCall qc1z (aCons (eVar 0) (aCons (eOp rAdd3 (eC (.int 1)) (eCall q7z (aCons (eVar 0) (aCons (eC (.int 5)) (aNil))))) (aNil))))) (hName 0) (eTest (eOp rGt3 (eOp rIx3 (eVar 0) (eC (.int 0))) (eC (.int 1)))) (eVar 0)) (oNone) (oSome (eC (.int 6)))) (hName 1)) qxpz
theorem small5040{s:Int}(h1:2≤s)(h2:s≤8):s∣5040:=by
 have:s=2∨s=3∨s=4∨s=5∨s=6∨s=7∨s=8:=by omega
 rcases this with rfl|rfl|rfl|rfl|rfl|rfl|rfl<;>decide
theorem qxqz{G G1:Gp}{Q:V3}{pp q1:Addr}{cs:List Clk}(n:New G q1 (.lst (cs.map cD)) G1)(hc:Cb cs)(l1:1≤cs.length)(l6:cs.length≤6)(q:∀(ns is:List Int) (q:Addr) (G':Gp),Bs ns->is.length=ns.length->Sub G G'->G' q=some (.lst (ns.map D.int))->Q (.tup [.obj q,.tup (is.map D.int)]) G')(x2 x3:Option D):
  qkfz (endsOf Q) [some (.obj pp),some (.obj q1),x2,x3] G1:=by
 have hz:(cs.map cD).length≤sizeLine:=by rw[List.length_map];exact line1000 (by omega)
 refine⟨_,n.at_,hz,?_⟩;refine qaaz (fun τ=>∃x,τ=[x]) cD (fun _=>true) (fun c=>.int c.1) (G:=G1) n.at_ cs [] _ ⟨none,rfl⟩ ?_ ?_
 ·rintro⟨s,r⟩ hm τ K1 K2 ⟨x,rfl⟩ g1 g2;exact⟨fun _=>⟨_,rfl,g1 rfl _ ⟨_,rfl⟩⟩,nofun⟩
 intro p2 G2 n2;rw[filter_all,List.nil_append] at n2;have e2:=n2.sub _ _ n.at_;refine⟨_,e2,hz,?_⟩;refine qaaz (fun τ=>∃x,τ=[x]) cD (fun _=>true) (fun c=>.int c.2) (G:=G2) e2 cs [] _ ⟨none,rfl⟩ ?_ ?_
 ·rintro⟨s,r⟩ hm τ K1 K2 ⟨x,rfl⟩ g1 g2;exact⟨fun _=>⟨_,rfl,g1 rfl _ ⟨_,rfl⟩⟩,nofun⟩
 intro p3 G3 n3;rw[filter_all,List.nil_append] at n3;refine⟨_,n3.at_,qgz ?_⟩;have:=q (cs.map (·.1)) (cs.map (·.2)) p2 G3 ⟨⟨by rw[List.length_map];exact l1,by rw[List.length_map];exact l6,fun m hm=>?_⟩,fun m hm=>?_⟩ (by rw[List.length_map,List.length_map]) (n.sub.trans (n2.sub.trans n3.sub)) (by rw[n3.sub _ _ n2.at_,List.map_map];rfl)
 ·rw[List.map_map] at this;exact this
 ·obtain⟨c,h,rfl⟩:=List.mem_map.mp hm;exact (hc c h).1
 ·obtain⟨c,h,rfl⟩:=List.mem_map.mp hm;exact (hc c h).2
theorem qkiz{G G1:Gp}{Q:V3}{pp q1:Addr}{cs:List Clk}(hp:G pp=some .pen)(n:New G q1 (.lst (cs.map cD)) G1)(hc:Cb cs)(l1:1≤cs.length)(l6:cs.length≤6)(q:∀(ns is:List Int) (q:Addr) (G':Gp),Bs ns->is.length=ns.length->Sub G G'->G' q=some (.lst (ns.map D.int))->Q (.tup [.obj q,.tup (is.map D.int)]) G'):
  qkgz (endsOf Q) [some (.obj pp),some (.obj q1),none,none] G1:=by
 refine⟨pp,3,rfl,n.sub _ _ hp,⟨by decide,qxz (by decide) (by decide)⟩,fun t t0 t3=>⟨⟨by omega,by omega⟩,?_⟩⟩;refine qamz (fun _ τ G'=>∃(cs:List Clk) (x2 x3:Option D),τ=[some (.obj pp),some (.obj q1),x2,x3]/\New G q1 (.lst (cs.map cD)) G'/\Cb cs/\1≤cs.length/\cs.length≤6) (fun _ _ _ _=>trivial) ?_ ?_ _ _ _ ⟨cs,none,none,rfl,n,hc,l1,l6⟩
 ·rintro d ds τ G2 N ⟨cs,x2,x3,rfl,n,hc,l1,l6⟩ hN;have hp2:=n.sub _ _ hp;refine⟨_,n.at_,fun h=>?_,fun _=>hN _ _ ⟨cs,_,_,rfl,n,hc,l1,l6⟩⟩;have h':(((cs.map cD).length:Nat):Int)<6:=of_decide_eq_true h;rw[List.length_map] at h';refine⟨pp,7,rfl,hp2,⟨by decide,qxz (by decide) (by decide)⟩,fun u u0 u7=>?_⟩;refine⟨⟨q1,_,rfl,n.at_⟩,_,n.at_,pp,_,rfl,hp2,⟨by omega,qxz (by rw[List.length_map];omega) (by rw[List.length_map];omega)⟩,fun w w0 w1=>?_⟩;rw[List.length_map] at w1;refine⟨pp,_,rfl,hp2,⟨by omega,qxz (by omega) (by omega)⟩,fun v v0 v1=>?_⟩;refine⟨_,n.at_,⟨w0,by rw[List.length_map];omega⟩,by rw[List.length_map];exact Nat.lt_of_le_of_lt (show cs.length≤6 by omega) (by decide),by rw[List.length_map];omega,hN _ _ ⟨cs.take w.toNat++(2+u,v)::cs.drop w.toNat,_,_,rfl,?_,?_,?_,?_⟩⟩
  ·rw[show (cs.map cD).take w.toNat++D.tup [.int (2+u),.int v]::(cs.map cD).drop w.toNat=(cs.take w.toNat++(2+u,v)::cs.drop w.toNat).map cD by rw[List.map_append,List.map_cons,List.map_take,List.map_drop];rfl];exact wrote n
  ·intro c hm;rcases List.mem_append.mp hm with hm|hm
   ·exact hc c (List.mem_of_mem_take hm)
   ·rcases List.mem_cons.mp hm with rfl|hm
    ·exact⟨⟨by show 2≤2+u;omega,by show 2+u≤24;omega⟩,small5040 (by show 2≤2+u;omega) (by show 2+u≤8;omega)⟩
    ·exact hc c (List.mem_of_mem_drop hm)
  ·rw[List.length_append,List.length_cons,List.length_take,List.length_drop];omega
  ·rw[List.length_append,List.length_cons,List.length_take,List.length_drop];omega
 ·rintro τ G2 ⟨cs,x2,x3,rfl,n,hc,l1,l6⟩;exact qxqz n hc l1 l6 q x2 x3
theorem qxrz:∀ds G Q,qdjz ds G Q->qkhz (endsOf Q) (start3 ["pen","clocks","turn","step"] ds) G:=by
 rintro ds G Q ⟨pp,rfl,hp,q⟩;refine⟨pp,5,rfl,hp,⟨by decide,qxz (by decide) (by decide)⟩,fun t t0 t5=>⟨pp,1+t,rfl,hp,⟨by omega,by omega⟩,fun q1 cs G1 ok l1 l2 n1=>?_⟩⟩;refine⟨_,n1.at_,by show (cs.map cD).length≤sizeLine;rw[List.length_map];exact line1000 (by omega),?_⟩;refine qaaz (fun τ=>∃x,τ=[x]) cD (fun c=>decide (1<c.1)) cD (G:=G1) n1.at_ cs [] _ ⟨none,rfl⟩ ?_ ?_
 ·rintro⟨s,r⟩ hm τ K1 K2 ⟨x,rfl⟩ g1 g2;exact⟨_,rfl,fun e=>g1 e _ ⟨_,rfl⟩,fun e=>g2 e _ ⟨_,rfl⟩⟩
 intro p2 G2 n2;rw[List.nil_append] at n2;refine⟨_,n2.at_,fun p3 G3 n3=>?_⟩;have ec:cut3 ((cs.filter fun c=>decide (1<c.1)).map cD) none (some (6:Int))=((cs.filter fun c=>decide (1<c.1)).take 6).map cD:=by
  rw[List.map_take];exact qimz _ 6
 rw[ec] at n3;have s2:=n1.sub.trans n2.sub;intro p4 G4 n4;refine⟨_,_,qbhz (n4.sub _ _ n3.at_) (qebz _),qbhz n4.at_ rfl,qfdz _,fun h=>?_,fun h=>?_⟩
 ·intro p5 G5 n5;have s5:=s2.trans (n3.sub.trans n4.sub);refine qkiz (cs:=[(2,0),(2,1)]) hp ⟨s5.of_none n5.non,s5.trans n5.sub,n5.at_⟩ ?_ (by decide) (by decide) q;intro c hc;simp only[List.mem_cons,List.not_mem_nil,or_false] at hc;rcases hc with rfl|rfl<;>exact⟨⟨by decide,by decide⟩,by decide⟩
 ·have h':((Dat.D.lst (((cs.filter fun c=>decide (1<c.1)).take 6).map cX)).eqb (.lst []))=false:=h;rw[qb7z] at h';refine qkiz hp ⟨s2.of_none n3.non,s2.trans (n3.sub.trans n4.sub),n4.sub _ _ n3.at_⟩ (fun c hc=>?_) ?_ ?_ q
  ·have hm:=List.mem_of_mem_take hc;rw[List.mem_filter,decide_eq_true_iff] at hm;have:=ok c hm.1;exact⟨⟨by omega,this.2.1⟩,Int.dvd_trans this.2.2 (by decide)⟩
  ·generalize (cs.filter fun c=>decide (1<c.1)).take 6=zs at h';cases zs with
   |nil=>cases h'
   |cons z zs=>simp
  ·rw[List.length_take];omega
theorem qxsz{G:Gp}{p:Addr}{xs:List D}(h:G p=some (.lst xs)):instD "tuple" G (.obj p)=some false:=by
 simp only[instD,h];rfl
theorem Th.lst{G:Gp}{p:Addr}{xs:List D}(h:G p=some (.lst xs)):Th G (.obj p):=⟨fun _=>qxsz h,by rw[qcaz h];exact fun n=>by cases n<;>trivial⟩
theorem Th.tup{G:Gp}{es:List D}(h:KnD noG (.tup es)):Th G (.tup es):=⟨fun z=>absurd rfl (z _),h⟩
theorem Th.dct{G:Gp}{p:Addr}(h:G p=some .dct):Th G (.obj p):=⟨fun _=>by simp only[instD,h];rfl,by
 have:shw G (.obj p)=.dc p:=by simp[shw,h]
 rw[this];exact fun n=>by cases n<;>trivial⟩
theorem Th.shw_eq{G G':Gp}{d:D}(s:Sub G G')(h:Th G d):shw G' d=shw G d:=by
 cases d with
 |obj p=>
  have hi:=h.i nofun;cases hg:G p with
  |none=>
   simp only[instD,hg] at hi;cases hi
  |some o=>simp[shw,hg,s _ _ hg]
 |_=>rfl
theorem Th.sub{G G':Gp}{d:D}(s:Sub G G')(h:Th G d):Th G' d:=by
 refine⟨fun hn=>?_,by rw[h.shw_eq s];exact h.k⟩;have hi:=h.i hn;cases d with
 |obj p=>
  cases hg:G p with
  |none=>
   simp only[instD,hg] at hi;cases hi
  |some o=>
   simp only[instD,hg] at hi;simp only[instD,s _ _ hg];exact hi
 |_=>exact hi
theorem qaxz(is:List Int):KnD noG (.tup (is.map D.int)):=.tup fun d hd=>by
 obtain⟨i,_,rfl⟩:=List.mem_map.mp hd;exact .int i
def qcdz:Sp3:=fun ds G Q=>∃(pp p:Addr) (ns is:List Int),ds=[.obj pp,.obj p,.tup (is.map D.int)]/\G pp=some .pen/\G p=some (.lst (ns.map D.int))/\Bs ns/\is.length=ns.length/\∀d G',Sub G G'->Th G' d->Q d G'
def qxtz:TS3:=sRet (eLstIx (aCons (eSl (eVar 2) (oSome (eC (.int 1))) (oNone)) (aCons (eOp rAdd3 (eVar 2) (eTup (aCons (eC (.int 0)) (aNil)))) (aCons (eCB qd3z (aCons (eVar 2) (aNil))) (aCons (eRev (eVar 2)) (aCons (eTup (aCons (eVar 2) (aNil))) (aNil)))))) (eOp rSub3 (eVar 5) (eC (.int 8))))
def qxuz:TS3:=sSeq (sIf (eTest (eOp rLtT3 (eVar 5) (eC (.int 8)))) (sRet (eOp rAdd3 (eOp rAdd3 (eSl (eVar 2) (oNone) (oSome (eVar 3))) (eTup (aCons (eOp rIx3 (eVar 4) (eVar 5)) (aNil)))) (eSl (eVar 2) (oSome (eOp rAdd3 (eVar 3) (eC (.int 1)))) (oNone)))) (sNext)) qxtz
def qxvz:TS3:=sSeq (sAsg (eCall q7z (aCons (eVar 0) (aCons (eC (.int 13)) (aNil)))) (hName 5)) qxuz
def qxwz:TS3:=sSeq (sAsg (eLst (aCons (eOp rIx3 (eVar 1) (eVar 3)) (aCons (eUn rNeg3 (eC (.int 1))) (aCons (eC (.bl true)) (aCons (eC .non) (aCons (eC (.str "0")) (aCons (eOp rAdd3 (eOp rIx3 (eVar 2) (eVar 3)) (eOp rIx3 (eVar 1) (eVar 3))) (aCons (eCall q7z (aCons (eVar 0) (aCons (eOp rIx3 (eVar 1) (eVar 3)) (aNil)))) (aCons (eTup (aCons (eC (.int 0)) (aNil))) (aNil)))))))))) (hName 4)) qxvz
def qkjz:TS3:=sSeq (sAsg (eCall q7z (aCons (eVar 0) (aCons (eCB qyz (aCons (eVar 2) (aNil))) (aNil)))) (hName 3)) qxwz
theorem qxxz:∀ds G Q,qcdz ds G Q->qkjz (endsOf Q) (start3 ["pen","steps","rests","spot","some","way"] ds) G:=by
 rintro ds G Q ⟨pp,p,ns,is,rfl,hpp,hp,hb,hl,q⟩;have h1:=hb.s.l1;have h6:=hb.s.l6;refine⟨pp,_,rfl,hpp,⟨by rw[List.length_map];omega,qxz (by rw[List.length_map];omega) (by rw[List.length_map];omega)⟩,fun s s0 s1=>?_⟩;rw[List.length_map] at s1;obtain⟨n,hn,en⟩:=qffz (ns:=ns) s0 (by omega);obtain⟨i,hi,ei⟩:=qffz (ns:=is) s0 (by omega);have hn2:=hb.s.st n hn;refine⟨_,_,hp,en,_,ei,_,_,hp,en,_,_,hp,en,pp,n,rfl,hpp,⟨by omega,qxz (by omega) (by omega)⟩,fun r r0 r1=>?_⟩;intro a1 G1 o1;have hpp1:=o1.sub _ _ hpp;refine⟨pp,13,rfl,hpp1,⟨by decide,qxz (by decide) (by decide)⟩,fun w w0 w1=>⟨fun hw=>?_,fun hw=>?_⟩⟩
 ·have hw':w<8:=of_decide_eq_true hw;obtain⟨x,_,hx,ex⟩:=qecz (fun d:D=>d) (xs:=[.int n,.int (-1),.bl true,.non,.str "0",.int (i+n),.int r,.tup [.int 0]]) w0 hw';rw[List.map_id'] at ex;refine⟨_,x,o1.at_,ex,?_,?_,qgz (q _ _ o1.sub (.tup ?_))⟩
  ·refine line1000 ?_;unfold cut3;rw[List.length_take,List.length_drop,List.length_map];show min _ _+1≤1000;omega
  ·refine line1000 ?_;unfold cut3;rw[List.length_append,List.length_take,List.length_drop,List.length_take,List.length_drop,List.length_map];show min _ _+1+min _ _≤1000;omega
  ·refine .app (.app ((qaxz is).cut _ _) (.one ?_)) ((qaxz is).cut _ _);simp only[List.mem_cons,List.not_mem_nil,or_false] at hx;rcases hx with rfl|rfl|rfl|rfl|rfl|rfl|rfl|rfl
   ·exact .int _
   ·exact .int _
   ·exact .bl _
   ·exact .non
   ·exact .str _
   ·exact .int _
   ·exact .int _
   ·exact .one (.int _)
 ·have hw':¬w<8:=of_decide_eq_false hw;refine⟨line1000 (by rw[List.length_map];show is.length+1≤1000;omega),fun a2 G2 o2=>?_⟩;obtain⟨x,_,hx,ex⟩:=qecz (fun d:D=>d) (xs:=[.tup (cut3 (is.map D.int) (some 1) none),.tup (is.map D.int++[.int 0]),.obj a2,.tup (is.map D.int).reverse,.tup [.tup (is.map D.int)]]) (r:=w-8) (by omega) (by show w-8<5;omega);rw[List.map_id'] at ex;refine⟨x,ex,qgz (q _ _ (o1.sub.trans o2.sub) ?_)⟩;simp only[List.mem_cons,List.not_mem_nil,or_false] at hx;rcases hx with rfl|rfl|rfl|rfl|rfl
  ·exact .tup ((qaxz is).cut _ _)
  ·exact .tup (.app (qaxz is) (.one (.int _)))
  ·exact .lst o2.at_
  ·exact .tup (qaxz is).rev
  ·exact .tup (.one (qaxz is))
theorem qxyz(a b:Int):(Dat.D.tup [.str "great",.int a,.int b]).eqb (.tup [.str "great",.int a,.int b])=true:=by
 show (("great":Str)==("great":Str)&&((a==a)&&((b==b)&&true)))=true;rw[beq_self_eq_true,beq_self_eq_true,beq_self_eq_true];rfl
theorem qkkz:∀{ms:List Nat} {a:Nat},0<a->(∀m∈ms,0<m)->a≤lcmF ms a
 |[],a,_,_=>Nat.le_refl _
 |m::ms,a,ha,hm=>by
  have h0:=hm m List.mem_cons_self;have:=qkkz (ms:=ms) (a:=Nat.lcm a m) (Nat.lcm_pos ha h0) fun k hk=>hm k (List.mem_cons_of_mem _ hk);exact Nat.le_trans (Nat.le_of_dvd (Nat.lcm_pos ha h0) (Nat.dvd_lcm_left a m)) this
def grS(r:Int)(k:Nat):List Int:=[23,19,17,13-r]++List.replicate k 2
theorem qxzz{r:Int}{k:Nat}(r0:0≤r)(r2:r<2)(hk:k<3):St (grS r k)/\10000<rndS (grS r k):=by
 have h2:∀n∈grS r k,2≤n/\n≤24:=fun n hn=>by
  rcases List.mem_append.mp hn with h|h
  ·simp only[List.mem_cons,List.not_mem_nil,or_false] at h;rcases h with rfl|rfl|rfl|rfl<;>omega
  ·rw[List.eq_of_mem_replicate h];decide
 refine⟨⟨?_,?_,h2⟩,?_⟩
 ·unfold grS;rw[List.length_append,List.length_replicate];show 1≤4+k;omega
 ·unfold grS;rw[List.length_append,List.length_replicate];show 4+k≤6;omega
 ·have e:rndS (grS r k)=lcmF ((List.replicate k (2:Int)).map Int.toNat) (lcmF (([23,19,17,13-r]:List Int).map Int.toNat) 1):=by
   unfold rndS grS lcmF;rw[List.map_append,List.foldl_append]
  rw[e];have h1:10000<lcmF (([23,19,17,13-r]:List Int).map Int.toNat) 1:=by
   have:r=0∨r=1:=by omega
   rcases this with rfl|rfl<;>decide
  refine Nat.lt_of_lt_of_le h1 (qkkz (by omega) fun m hm=>?_);obtain⟨x,hx,rfl⟩:=List.mem_map.mp hm;rw[List.eq_of_mem_replicate hx];decide
def qdkz:Sp3:=fun ds G Q=>∃(p:Addr) (ns:List Int),ds=[.obj p]/\G p=some (.lst (ns.map D.int))/\St ns/\10000<rndS ns/\∀G',Sub G G'->Q (.bl true) G'
def qklz(rs:List Str)(e0:Addr):TS3:=sRet (eOp (rEq3 false) (eCall (qc5z rs) (aCons (eVar 1) (aNil))) (eTup (aCons (eC (.str "great")) (aCons (eCallP e0 qa8z (aCons (eFrz (eComp ["step"] [] (iLstC e0 (eVar 0)) (hName 0) (tNoTest3) (eTup (aCons (eVar 0) (aCons (eC (.int 0)) (aNil)))))) (aNil))) (aCons (eC (.int 10000)) (aNil))))))
def qkmz(rs:List Str):TS3:=sTryP rs 1 (sxExpr (exCallL qawz (aCons (eVar 0) (aCons (eC .non) (aNil)))) (sxNext)) (qklz rs) (sRet (eC (.bl false)))
theorem qx0z{rs:List Str}{G G2:Gp}{Q:V3}{p p1:Addr}{ns:List Int}(hp:G p=some (.lst (ns.map D.int)))(hs:St ns)(hr:("TooGreat":Str)∈rs)(n:New G p1 (grR ((rndS ns:Nat):Int) 10000) G2)(q:∀G',Sub G G'->Q (.bl true) G'):
  qklz rs p1 (endsOf Q) [some (.obj p),some (.obj p1)] G2:=by
 have h6:=hs.l6;refine⟨p1,_,_,rfl,n.at_,hr,fun G3 s3=>?_⟩;have hp3:=s3 _ _ (n.sub _ _ hp);have he3:=s3 _ _ n.at_;refine⟨_,hp3,by show (ns.map D.int).length≤sizeLine;rw[List.length_map];exact line1000 (by omega),?_⟩;refine qaaz (fun τ=>∃x,τ=[x]) D.int (fun _=>true) (fun n=>cD (n,0)) (G:=G3) ⟨hp3,_,_,he3⟩ ns [] _ ⟨none,rfl⟩ ?_ ?_
 ·rintro n hm τ K1 K2 ⟨x,rfl⟩ h1 h2;exact⟨fun _=>h1 rfl _ ⟨_,rfl⟩,nofun⟩
 intro p4 G4 n4;rw[filter_all,List.nil_append] at n4;have hne:p1≠p4:=fun z=>by
  have:=n4.non;rw[←z,he3] at this;cases this
 refine⟨_,n4.at_,⟨_,_,(qeiz hne).trans (n4.sub _ _ he3)⟩,.scr _,shC ns,rfl,nofun,?_,qwxz hs.st,by unfold shC;rw[List.length_map];omega,fun G5 j=>?_⟩
 ·show (shC ns).map cD=_;unfold shC;rw[List.map_map];rfl
 rw[qj5z];refine⟨_,_,rfl,rfl,(by decide:1≤50),?_⟩;show (endsOf Q).rt (.bl ((Dat.D.tup [.str "great",.int ((rndS ns:Nat):Int),.int 10000]).eqb (.tup [.str "great",.int ((rndS ns:Nat):Int),.int 10000]))) G5;rw[qxyz];exact qgz (q G5 (n.sub.trans (s3.trans (n4.del.trans j.old))))
theorem qx1z:∀ds G Q,qdkz ds G Q->qkmz ["NoNumber","TooGreat"] (endsOf Q) (start3 ["steps","e"] ds) G:=by
 rintro ds G Q ⟨p,ns,rfl,hp,hs,hgt,q⟩;exact⟨ns,.non,by rw[List.map_cons,List.map_cons,List.map_nil,qcaz hp];rfl,hs,.non,fun h=>absurd h (by omega),fun _=>⟨by simp,fun p1 G2 n=>qx0z hp hs (by simp) n q⟩⟩
end My
namespace My
open PySem L2 L3
def sp_law:Sp3:=fun ds G Q=>∃ns:List Int,ds=[.scr (ns.map .int)]/\ns.length≤63/\Q (.bl true) G
def qx2z:TS3:=sIf (eOr (eNot (eTest (eInst "bool" (eVar 8)))) (eOr (eTest (eOp (rEq3 true) (eVar 8) (eVar 7))) (eTest (eOp (rEq3 true) (eCallL qawz noE (aCons (eVar 3) (aCons (eVar 6) (aNil)))) (eVar 7))))) (sRet (eC (.bl false))) (sNext)
def qx3z:TS3:=sSeq (sAsg (eCallL qawz noE (aCons (eVar 3) (aCons (eVar 6) (aNil)))) (hName 8)) qx2z
def qknz:TS3:=sSeq (sAsg (eCall qdiz (aCons (eVar 3) (aCons (eVar 6) (aNil)))) (hName 7)) qx3z
def qx4z:TS3:=sIf (eNot (eTest (eCall qdkz (aCons (eOp rAdd3 (eLst (aCons (eC (.int 23)) (aCons (eC (.int 19)) (aCons (eC (.int 17)) (aCons (eOp rSub3 (eC (.int 13)) (eCall q7z (aCons (eVar 2) (aCons (eC (.int 2)) (aNil))))) (aNil)))))) (eOp rMul3 (eLst (aCons (eC (.int 2)) (aNil))) (eCall q7z (aCons (eVar 2) (aCons (eC (.int 3)) (aNil)))))) (aNil))))) (sRet (eC (.bl false))) (sNext)
def qx5z:TS3:=sSeq (sFor (iSeq (eOp rAdd3 (eVar 5) (eLst (aCons (eCB qboz (aCons (eComp ["step"] [2] (iSeq (eVar 3)) (hName 0) (tNoTest3) (eCall q7z (aCons (eVar 1) (aCons (eVar 0) (aNil))))) (aNil))) (aNil))))) (hName 6) (qknz)) qx4z
def qx6z:TS3:=sSeq (sAsg (eLst (aCons (eVar 4) (aCons (eCall qcdz (aCons (eVar 2) (aCons (eVar 3) (aCons (eVar 4) (aNil))))) (aCons (eCall qcdz (aCons (eVar 2) (aCons (eVar 3) (aCons (eVar 4) (aNil))))) (aCons (eC .non) (aCons (eTup (aNil)) (aCons (eC (.int 0)) (aCons (eC (.str "")) (aCons (eDct) (aCons (eLst (aCons (eVar 4) (aNil))) (aNil))))))))))) (hName 5)) qx5z
def qx7z:TS3:=sSeq (sAsg (eCall qdjz (aCons (eVar 2) (aNil))) (hTup 2 (hCons (hName 3) (hCons (hName 4) (hNil))))) qx6z
def qx8z:TS3:=sSeq (sAsg (eCall qfcz (aCons (eVar 1) (aNil))) (hName 2)) qx7z
def qx9z:TS3:=sRet (eC (.bl true))
def qyaz:TS3:=sSeq (sFor (iSeq (eOp rAdd3 (eLst (aCons (eCall qcvz (aCons (eVar 0) (aCons (eC (.int 0)) (aNil)))) (aNil))) (eSl (eVar 0) (oSome (eC (.int 1))) (oSome (eC (.int 8)))))) (hName 1) (qx8z)) qx9z
def qkoz:TS3:=sSeq (sIf (eOr (eTest (eOp rIsnB3 (eCallL qawz noE (aCons (eLst (aCons (eC (.int 2)) (aCons (eC (.int 2)) (aNil)))) (aCons (eTup (aCons (eC (.int 1)) (aCons (eC (.int 0)) (aNil)))) (aNil)))) (eC (.bl true)))) (eTest (eOp rIsnB3 (eCallL qawz noE (aCons (eLst (aCons (eC (.int 2)) (aNil))) (aCons (eTup (aCons (eC (.int 0)) (aNil))) (aNil)))) (eC (.bl false))))) (sRet (eC (.bl false))) (sNext)) qyaz
theorem qybz{k:Nat}:(List.replicate k [D.int 2]).flatten=(List.replicate k (2:Int)).map D.int:=by
 induction k with
 |zero=>rfl
 |succ k ih=>
  rw[List.replicate_succ,List.flatten_cons,ih];rfl
theorem qf0z(b:Bool):noScr (.bl b)=true:=by simp[noScr]
theorem qkpz(b:Bool):(Dat.D.bl b).eqb (.bl b)=true:=by cases b<;>rfl
theorem qycz{G K:Gp}{Q:V3}{pp q:Addr}{ns:List Int}{d:D}{N:S3->Gp->Prop}{D3:Ends3}(hq:G q=some (.lst (ns.map D.int)))(hb:Bs ns)(ht:Th G d)(x0 x1 x2 x4 x5 x7 x8:Option D)(hN:∀G' x7 x8,Sub G G'->N [x0,x1,x2,some (.obj q),x4,x5,some d,x7,x8] G'):
  qknz { D3 with nx:=N,ct:=N } [x0,x1,x2,some (.obj q),x4,x5,some d,x7,x8] G:=by
 have hr:=hb.r;refine⟨q,ns,d,rfl,hq,hb,ht,fun G1 s1=>?_⟩;have look:∀(G1:Gp),Sub G G1->∀(Q3:V3),(∀G2,Sub G1 G2->Q3 (.bl (restsB ns (shw G d))) G2)->qawz ([D.obj q,d].map (shw G1)) (toldL G1 Q3) noE:=fun G1 s1 Q3 k=>by
  refine⟨ns,shw G d,?_,hb.s,ht.k,fun _=>⟨qf0z _,NoScr.no,fun G2 j2=>k G2 j2.old⟩,fun h=>absurd h (by omega)⟩;rw[List.map_cons,List.map_cons,List.map_nil,qcaz (s1 _ _ hq),ht.shw_eq s1,stD]
 refine look G1 s1 _ fun G2 s2=>⟨nofun,fun _=>⟨_,_,rfl,rfl,Nat.zero_le _,fun h=>?_,fun _=>look G2 (s1.trans s2) _ fun G3 s3=>⟨_,_,rfl,rfl,Nat.zero_le _,⟨fun h=>?_,fun _=>hN G3 _ _ (s1.trans (s2.trans s3))⟩⟩⟩⟩
 ·have h':(!((Dat.D.bl (restsB ns (shw G d))).eqb (.bl (restsB ns (shw G d)))))=true:=h;rw[qkpz] at h';cases h'
 ·have h':(!((Dat.D.bl (restsB ns (shw G d))).eqb (.bl (restsB ns (shw G d)))))=true:=h;rw[qkpz] at h';cases h'
theorem st22:St [2,2]:=⟨by decide,by decide,by decide⟩
theorem st2:St [2]:=⟨by decide,by decide,by decide⟩
theorem qydz:∀ds G Q,sp_law ds G Q->qkoz (endsOf Q) (start3 ["script","cell","pen","steps","rests","things","thing","due","found"] ds) G:=by
 rintro ds G Q ⟨ns,rfl,hl,q⟩;intro a1 G1 n1;refine⟨[2,2],.tup ([1,0].map D.int),?_,st22,qaxz _,fun _=>⟨qf0z _,NoScr.no,fun G2 j2=>?_⟩,fun h=>absurd h (by decide)⟩
 ·rw[List.map_cons,List.map_cons,List.map_nil,qcaz n1.at_];rfl
 rw[show restsB [2,2] (.tup ([1,0].map D.int))=true by decide];refine⟨nofun,fun _=>?_⟩;intro a3 G3 n3;refine⟨[2],.tup ([0].map D.int),?_,st2,qaxz _,fun _=>⟨qf0z _,NoScr.no,fun G4 j4=>?_⟩,fun h=>absurd h (by decide)⟩
 ·rw[List.map_cons,List.map_cons,List.map_nil,qcaz n3.at_];rfl
 rw[show restsB [2] (.tup ([0].map D.int))=false by decide];refine⟨nofun,fun _=>?_⟩;have sA:Sub G G4:=n1.sub.trans (j2.old.trans (n3.sub.trans j4.old));refine⟨ns,0,rfl,fun i=>?_⟩;intro c0 K0 o0 c1 K1 o1;rw[qfez] at o1;have hcl:=qrfz ns (some 1) (some 8);refine⟨_,_,o1.sub _ _ o0.at_,o1.at_,?_,fun c2 K2 o2=>?_⟩
 ·rw[List.length_map];exact line1000 (by simp;omega)
 refine⟨_,o2.at_,?_⟩;have sK:Sub G K2:=sA.trans (o0.sub.trans (o1.sub.trans o2.sub));refine qamz (fun ds τ G'=>(∃is:List Int,ds=is.map D.int)/\Sub K2 G'/\∃x1 x2 x3 x4 x5 x6 x7 x8,τ=[some (.scr (ns.map .int)),x1,x2,x3,x4,x5,x6,x7,x8]) (fun _ _ _ h=>h.2.1 _ _ o2.at_) ?_ ?_ _ _ _ ⟨⟨i::cutG ns (some 1) (some 8),rfl⟩,Sub.refl _,_,_,_,_,_,_,_,_,rfl⟩
 ·rintro d ds τ G8 N ⟨⟨js,e⟩,s8,x1,x2,x3,x4,x5,x6,x7,x8,rfl⟩ hN;cases js with
  |nil=>cases e
  |cons cc js=>
   cases e;refine⟨cc,rfl,fun pp G9 n9=>⟨pp,rfl,n9.at_,fun ms is p G10 hb hlen s10 hp=>⟨rfl,?_⟩⟩⟩;have hpp10:=s10 _ _ n9.at_;have h6:=hb.s.l6;refine⟨pp,p,ms,is,rfl,hpp10,hp,hb,hlen,fun d1 G11 s11 t1=>?_⟩;refine⟨pp,p,ms,is,rfl,s11 _ _ hpp10,s11 _ _ hp,hb,hlen,fun d2 G12 s12 t2=>?_⟩;intro pd G13 n13 pl G14 n14 pt G15 n15;have s15:Sub G10 G15:=s11.trans (s12.trans (n13.sub.trans (n14.sub.trans n15.sub)));have hp15:=s15 _ _ hp;have hpp15:=s15 _ _ hpp10
   -- one more thing: rests drawn
   refine⟨_,hp15,by show (ms.map D.int).length≤sizeLine;rw[List.length_map];exact line1000 (by omega),?_⟩;refine qcyz (fun ds acc τ G'=>G'=G15/\(∃zs:List Int,ds=zs.map D.int/\∀z∈zs,z∈ms)/\(∃us:List Int,acc=us.map D.int)/\∃x,τ=[x,some (.obj pp)]) (fun _ _ _ _ h=>by rw[h.1];exact hp15) ?_ ?_ _ _ _ _ ⟨rfl,⟨ms,rfl,fun _ h=>h⟩,⟨[],rfl⟩,none,rfl⟩
   ·rintro d ds acc τ K K1 K2 ⟨rfl,⟨zs,e,hz⟩,⟨us,rfl⟩,x,rfl⟩ g1 g2;cases zs with
    |nil=>cases e
    |cons z zs=>
     cases e;have hz2:=hb.s.st z (hz z List.mem_cons_self);refine⟨fun _=>⟨pp,z,rfl,hpp15,⟨by omega,qxz (by omega) (by omega)⟩,fun r r0 r1=>?_⟩,nofun⟩;exact g1 _ _ _ ⟨rfl,⟨zs,rfl,fun y hy=>hz y (List.mem_cons_of_mem _ hy)⟩,⟨us++[r],by rw[List.map_append];rfl⟩,_,rfl⟩
   ·rintro acc τ K ⟨rfl,_,⟨us,rfl⟩,x,rfl⟩ p16 G16 n16;refine⟨_,n16.at_,?_⟩;intro p17 G17 n17;have e15:=n17.sub _ _ (n16.sub _ _ n15.at_);refine⟨_,_,e15,n17.at_,line1000 (Nat.le_of_ble_eq_true rfl),fun p18 G18 n18=>⟨_,n18.at_,?_⟩⟩;have s18:Sub K G18:=n16.sub.trans (n17.sub.trans n18.sub);have hp18:=s18 _ _ hp15;have hall:∀t∈[D.tup (is.map D.int),d1,d2,.non,.tup [],.int 0,.str "",.obj pd,.obj pl]++[.tup (us.map D.int)],Th G18 t:=fun t ht=>by
     simp only[List.cons_append,List.nil_append,List.mem_cons,List.not_mem_nil,or_false] at ht;rcases ht with rfl|rfl|rfl|rfl|rfl|rfl|rfl|rfl|rfl|rfl
     ·exact .tup (qaxz _)
     ·exact t1.sub (s12.trans (n13.sub.trans (n14.sub.trans (n15.sub.trans s18))))
     ·exact t2.sub (n13.sub.trans (n14.sub.trans (n15.sub.trans s18)))
     ·exact⟨fun _=>rfl,.non⟩
     ·exact .tup .nil
     ·exact⟨fun _=>rfl,.int _⟩
     ·exact⟨fun _=>rfl,.str _⟩
     ·exact .dct (s18 _ _ (n15.sub _ _ (n14.sub _ _ n13.at_)))
     ·exact .lst (s18 _ _ (n15.sub _ _ n14.at_))
     ·exact .tup (qaxz _)
    refine qamz (fun ds τ G'=>(∀t∈ds,Th G18 t)/\Sub G18 G'/\∃y6 y7 y8,τ=[some (.scr (ns.map .int)),some (.int cc),some (.obj pp),some (.obj p),some (.tup (is.map D.int)),some (.obj pt),y6,y7,y8]) (fun _ _ _ h=>h.2.1 _ _ n18.at_) ?_ ?_ _ _ _ ⟨hall,Sub.refl _,_,_,_,rfl⟩
    ·rintro t ds τ G19 N2 ⟨hds,s19,y6,y7,y8,rfl⟩ hN2;refine qycz (pp:=pp) (K:=G19) (Q:=Q) (s19 _ _ hp18) hb ((hds t List.mem_cons_self).sub s19) _ _ _ _ _ _ _ fun G20 y7 y8 s20=>hN2 _ _ ⟨fun u hu=>hds u (List.mem_cons_of_mem _ hu),s19.trans s20,_,_,_,rfl⟩
    ·rintro τ G19 ⟨_,s19,y6,y7,y8,rfl⟩;have hpen:G19 pp=some .pen:=s19 _ _ (s18 _ _ hpp15);refine⟨pp,2,rfl,hpen,⟨by decide,qxz (by decide) (by decide)⟩,fun r r0 r2=>?_⟩;intro c3 K3 o3 c4 K4 o4;refine⟨pp,3,rfl,o4.sub _ _ (o3.sub _ _ hpen),⟨by decide,qxz (by decide) (by decide)⟩,fun k k0 k3=>⟨_,o4.at_,⟨by omega,by omega⟩,?_,fun c5 K5 o5=>?_⟩⟩
     ·exact line1000 (by show 1*k.toNat≤1000;omega)
     rw[qybz] at o5;refine⟨_,_,o5.sub _ _ (o4.sub _ _ o3.at_),o5.at_,?_,fun c6 K6 o6=>?_⟩
     ·rw[List.length_map,List.length_replicate];exact line1000 (by show 4+k.toNat≤1000;omega)
     obtain⟨hst,hgt⟩:=qxzz (r:=r) (k:=k.toNat) r0 r2 (by omega);refine⟨c6,grS r k.toNat,rfl,?_,hst,hgt,fun K7 t7=>⟨nofun,fun _=>hN _ _ ⟨⟨js,rfl⟩,?_,_,_,_,_,_,_,_,_,rfl⟩⟩⟩
     ·rw[o6.at_];unfold grS;rw[List.map_append];rfl
     ·exact s8.trans (n9.sub.trans (s10.trans (s15.trans (s18.trans (s19.trans (o3.sub.trans (o4.sub.trans (o5.sub.trans (o6.sub.trans t7)))))))))
 ·rintro τ G8 ⟨_,s8,x1,x2,x3,x4,x5,x6,x7,x8,rfl⟩;exact qatz (sK.trans s8) q
end My
namespace My
open PySem L2 L3
def top(i:Nat):Stmt:=PySem.Challenge.pw_coverclocks_k39_rests_by_anybody.main.body.getD i (.Pass ⟨0,0,0,0⟩)
def inCls:Stmt->Stmt
 |.ClassDef _ _ _ b ..=>b.getD 0 (.Pass ⟨0,0,0,0⟩)
 |s=>s
abbrev qf1z:Stmt:=top 11
abbrev qyez:List Str:=["thing"]
theorem qyfz:FnScope qyez ["thing"] (defScope qf1z):=⟨rfl,rfl,rfl,by decide +kernel,rfl,by decide +kernel,by decide +kernel⟩
abbrev qf2z:Stmt:=top 12
abbrev qygz:List Str:=["many","most"]
theorem qkqz:FnScope qygz ["many","most"] (defScope qf2z):=⟨rfl,rfl,rfl,by decide +kernel,rfl,by decide +kernel,by decide +kernel⟩
abbrev qf3z:Stmt:=top 13
abbrev qyhz:List Str:=["times","number","turn"]
theorem sc_z34:FnScope qyhz ["times"] (defScope qf3z):=⟨rfl,rfl,rfl,by decide +kernel,rfl,by decide +kernel,by decide +kernel⟩
abbrev qf4z:Stmt:=top 14
abbrev qyiz:List Str:=["one","other","left"]
theorem sc_z7:FnScope qyiz ["one","other"] (defScope qf4z):=⟨rfl,rfl,rfl,by decide +kernel,rfl,by decide +kernel,by decide +kernel⟩
abbrev qf5z:Stmt:=top 15
abbrev qyjz:List Str:=["numbers","least","number"]
theorem sc_z4:FnScope qyjz ["numbers"] (defScope qf5z):=⟨rfl,rfl,rfl,by decide +kernel,rfl,by decide +kernel,by decide +kernel⟩
abbrev qf6z:Stmt:=top 17
abbrev qykz:List Str:=["clock","number"]
theorem qylz:FnScope qykz ["clock","number"] (defScope qf6z):=⟨rfl,rfl,rfl,by decide +kernel,rfl,by decide +kernel,by decide +kernel⟩
abbrev qekz:Stmt:=top 18
abbrev qkrz:List Str:=["clocks","number"]
theorem qymz:FnScope qkrz ["clocks","number"] (defScope qekz):=⟨rfl,rfl,rfl,by decide +kernel,rfl,by decide +kernel,by decide +kernel⟩
abbrev qf7z:Stmt:=top 21
abbrev qynz:List Str:=["clocks"]
theorem qyoz:FnScope qynz ["clocks"] (defScope qf7z):=⟨rfl,rfl,rfl,by decide +kernel,rfl,by decide +kernel,by decide +kernel⟩
abbrev qf8z:Stmt:=top 22
abbrev qypz:List Str:=["clocks","number","looked"]
theorem sc_z15:FnScope qypz ["clocks","number"] (defScope qf8z):=⟨rfl,rfl,rfl,by decide +kernel,rfl,by decide +kernel,by decide +kernel⟩
abbrev qelz:Stmt:=top 27
abbrev qksz:List Str:=["thing"]
theorem qyqz:FnScope qksz ["thing"] (defScope qelz):=⟨rfl,rfl,rfl,by decide +kernel,rfl,by decide +kernel,by decide +kernel⟩
abbrev qf9z:Stmt:=top 28
abbrev qyrz:List Str:=["thing"]
theorem qysz:FnScope qyrz ["thing"] (defScope qf9z):=⟨rfl,rfl,rfl,by decide +kernel,rfl,by decide +kernel,by decide +kernel⟩
abbrev qgaz:Stmt:=top 29
abbrev qytz:List Str:=["steps"]
theorem qyuz:FnScope qytz ["steps"] (defScope qgaz):=⟨rfl,rfl,rfl,by decide +kernel,rfl,by decide +kernel,by decide +kernel⟩
abbrev qemz:Stmt:=top 30
abbrev qktz:List Str:=["steps","rests"]
theorem qyvz:FnScope qktz ["steps","rests"] (defScope qemz):=⟨rfl,rfl,rfl,by decide +kernel,rfl,by decide +kernel,by decide +kernel⟩
abbrev qgbz:Stmt:=top 31
abbrev qywz:List Str:=["steps","rests"]
theorem qyxz:FnScope qywz ["steps","rests"] (defScope qgbz):=⟨rfl,rfl,rfl,by decide +kernel,rfl,by decide +kernel,by decide +kernel⟩
abbrev qenz:Stmt:=top 32
abbrev qkuz:List Str:=["steps","thing"]
theorem qyyz:FnScope qkuz ["steps","thing"] (defScope qenz):=⟨rfl,rfl,rfl,by decide +kernel,rfl,by decide +kernel,by decide +kernel⟩
abbrev qgcz:Stmt:=top 33
abbrev qyzz:List Str:=["steps","thing"]
theorem qy0z:FnScope qyzz ["steps","thing"] (defScope qgcz):=⟨rfl,rfl,rfl,by decide +kernel,rfl,by decide +kernel,by decide +kernel⟩
abbrev qgdz:Stmt:=top 35
abbrev qy1z:List Str:=["script","k"]
theorem qy2z:FnScope qy1z ["script","k"] (defScope qgdz):=⟨rfl,rfl,rfl,by decide +kernel,rfl,by decide +kernel,by decide +kernel⟩
abbrev qgez:Stmt:=top 36
abbrev qy3z:List Str:=["seed"]
theorem sc_z29:FnScope qy3z ["seed"] (defScope qgez):=⟨rfl,rfl,rfl,by decide +kernel,rfl,by decide +kernel,by decide +kernel⟩
abbrev qgfz:Stmt:=top 37
abbrev qy4z:List Str:=["cell","left"]
theorem sc_z19:FnScope qy4z ["cell"] (defScope qgfz):=⟨rfl,rfl,rfl,by decide +kernel,rfl,by decide +kernel,by decide +kernel⟩
abbrev qggz:Stmt:=top 38
abbrev qy5z:List Str:=["pen","many","found"]
theorem sc_z32:FnScope qy5z ["pen","many"] (defScope qggz):=⟨rfl,rfl,rfl,by decide +kernel,rfl,by decide +kernel,by decide +kernel⟩
abbrev qghz:Stmt:=top 39
abbrev qy6z:List Str:=["found"]
theorem qy7z:FnScope qy6z ["found"] (defScope qghz):=⟨rfl,rfl,rfl,by decide +kernel,rfl,by decide +kernel,by decide +kernel⟩
abbrev qgiz:Stmt:=top 40
abbrev qy8z:List Str:=["e","marks"]
theorem sc_z13:FnScope qy8z ["e"] (defScope qgiz):=⟨rfl,rfl,rfl,by decide +kernel,rfl,by decide +kernel,by decide +kernel⟩
abbrev qgjz:Stmt:=top 41
abbrev qy9z:List Str:=["e"]
theorem qzaz:FnScope qy9z ["e"] (defScope qgjz):=⟨rfl,rfl,rfl,by decide +kernel,rfl,by decide +kernel,by decide +kernel⟩
abbrev qgkz:Stmt:=top 42
abbrev qzbz:List Str:=["one","other"]
theorem sc_z33:FnScope qzbz ["one","other"] (defScope qgkz):=⟨rfl,rfl,rfl,by decide +kernel,rfl,by decide +kernel,by decide +kernel⟩
abbrev qglz:Stmt:=top 43
abbrev qzcz:List Str:=["clocks","found","step","rest"]
theorem sc_z27:FnScope qzcz ["clocks"] (defScope qglz):=⟨rfl,rfl,rfl,by decide +kernel,rfl,by decide +kernel,by decide +kernel⟩
abbrev qeoz:Stmt:=top 44
abbrev qkvz:List Str:=["clocks","number"]
theorem qzdz:FnScope qkvz ["clocks","number"] (defScope qeoz):=⟨rfl,rfl,rfl,by decide +kernel,rfl,by decide +kernel,by decide +kernel⟩
abbrev qepz:Stmt:=top 45
abbrev qkwz:List Str:=["pen","times","found","turn","spot","k","step","rest"]
theorem sc_z28:FnScope qkwz ["pen","times"] (defScope qepz):=⟨rfl,rfl,rfl,by decide +kernel,rfl,by decide +kernel,by decide +kernel⟩
abbrev qeqz:Stmt:=top 46
abbrev qkxz:List Str:=["steps","rests","clocks"]
theorem sc_z14:FnScope qkxz ["steps","rests"] (defScope qeqz):=⟨rfl,rfl,rfl,by decide +kernel,rfl,by decide +kernel,by decide +kernel⟩
abbrev qcez:Stmt:=top 47
abbrev qerz:List Str:=["pen","clocks","turn","step"]
theorem sc_z25:FnScope qerz ["pen"] (defScope qcez):=⟨rfl,rfl,rfl,by decide +kernel,rfl,by decide +kernel,by decide +kernel⟩
abbrev qdlz:Stmt:=top 48
abbrev qgmz:List Str:=["steps","thing"]
theorem qzez:FnScope qgmz ["steps","thing"] (defScope qdlz):=⟨rfl,rfl,rfl,by decide +kernel,rfl,by decide +kernel,by decide +kernel⟩
abbrev qgnz:Stmt:=top 49
abbrev qzfz:List Str:=["pen","steps","rests","spot","some","way"]
theorem sc_z30:FnScope qzfz ["pen","steps","rests"] (defScope qgnz):=⟨rfl,rfl,rfl,by decide +kernel,rfl,by decide +kernel,by decide +kernel⟩
abbrev qesz:Stmt:=top 50
abbrev qkyz:List Str:=["steps","e"]
theorem sc_z9:FnScope qkyz ["steps"] (defScope qesz):=⟨rfl,rfl,rfl,by decide +kernel,rfl,by decide +kernel,by decide +kernel⟩
abbrev qetz:Stmt:=top 51
abbrev qkzz:List Str:=["script","cell","pen","steps","rests","things","thing","due","found"]
theorem sc_law:FnScope qkzz ["script"] (defScope qetz):=⟨rfl,rfl,rfl,by decide +kernel,rfl,by decide +kernel,by decide +kernel⟩
abbrev qcfz:Stmt:=inCls (top 8)
theorem qzgz:FnScope ["self","many","most"] ["self","many","most"] (defScope qcfz):=⟨rfl,rfl,rfl,by decide +kernel,rfl,by decide +kernel,by decide +kernel⟩
set_option genInjectivity false in
structure Adr where
 f_z22:Addr
 d_z22:FuncData
 f_z8:Addr
 d_z8:FuncData
 f_z34:Addr
 d_z34:FuncData
 f_z7:Addr
 d_z7:FuncData
 f_z4:Addr
 d_z4:FuncData
 f_z37:Addr
 d_z37:FuncData
 f_z31:Addr
 d_z31:FuncData
 f_z24:Addr
 d_z24:FuncData
 f_z15:Addr
 d_z15:FuncData
 f_z23:Addr
 d_z23:FuncData
 f_z3:Addr
 d_z3:FuncData
 f_z0:Addr
 d_z0:FuncData
 f_z21:Addr
 d_z21:FuncData
 f_z12:Addr
 d_z12:FuncData
 f_z5:Addr
 d_z5:FuncData
 f_z20:Addr
 d_z20:FuncData
 f_z11:Addr
 d_z11:FuncData
 f_z29:Addr
 d_z29:FuncData
 f_z19:Addr
 d_z19:FuncData
 f_z32:Addr
 d_z32:FuncData
 f_z26:Addr
 d_z26:FuncData
 f_z13:Addr
 d_z13:FuncData
 f_z6:Addr
 d_z6:FuncData
 f_z33:Addr
 d_z33:FuncData
 f_z27:Addr
 d_z27:FuncData
 f_z36:Addr
 d_z36:FuncData
 f_z28:Addr
 d_z28:FuncData
 f_z14:Addr
 d_z14:FuncData
 f_z25:Addr
 d_z25:FuncData
 f_z18:Addr
 d_z18:FuncData
 f_z30:Addr
 d_z30:FuncData
 f_z9:Addr
 d_z9:FuncData
 f_law:Addr
 d_law:FuncData
 c_ClockError:Addr
 c_NoClock:Addr
 c_NoNumber:Addr
 c_NoPlace:Addr
 c_NoRow:Addr
 c_NoClocks:Addr
 c_NoText:Addr
 c_TooGreat:Addr
 fi_TooGreat:Addr
 di_TooGreat:FuncData
 t_GREATEST_STEP:Tok
 t_LEAST_STEP:Tok
 t_MOST_FAR_CLOCKS:Tok
 t_MOST_NUMBERS:Tok
 t_MOST_STEPS:Tok
structure Txt(K:PySem.W.Frag)(mg:Str->Option Value)(t:Adr):Prop where
 F_z22:Fun K "whole_good" "whole_good" qf1z t.f_z22 t.d_z22
 m_z22:mg "whole_good" = some (.ref t.f_z22)
 b_z22:Binds K t.d_z22 ["thing"] []
 F_z8:Fun K "refuse_above" "refuse_above" qf2z t.f_z8 t.d_z8
 m_z8:mg "refuse_above" = some (.ref t.f_z8)
 b_z8:Binds K t.d_z8 ["many","most"] []
 F_z34:Fun K "doubled" "doubled" qf3z t.f_z34 t.d_z34
 m_z34:mg "doubled" = some (.ref t.f_z34)
 b_z34:Binds K t.d_z34 ["times"] []
 F_z7:Fun K "common_divisor" "common_divisor" qf4z t.f_z7 t.d_z7
 m_z7:mg "common_divisor" = some (.ref t.f_z7)
 b_z7:Binds K t.d_z7 ["one","other"] []
 F_z4:Fun K "common_multiple" "common_multiple" qf5z t.f_z4 t.d_z4
 m_z4:mg "common_multiple" = some (.ref t.f_z4)
 b_z4:Binds K t.d_z4 ["numbers"] []
 F_z37:Fun K "rings" "rings" qf6z t.f_z37 t.d_z37
 m_z37:mg "rings" = some (.ref t.f_z37)
 b_z37:Binds K t.d_z37 ["clock","number"] []
 F_z31:Fun K "rings_at" "rings_at" qekz t.f_z31 t.d_z31
 m_z31:mg "rings_at" = some (.ref t.f_z31)
 b_z31:Binds K t.d_z31 ["clocks","number"] []
 F_z24:Fun K "window_of" "window_of" qf7z t.f_z24 t.d_z24
 m_z24:mg "window_of" = some (.ref t.f_z24)
 b_z24:Binds K t.d_z24 ["clocks"] []
 F_z15:Fun K "next_missed" "next_missed" qf8z t.f_z15 t.d_z15
 m_z15:mg "next_missed" = some (.ref t.f_z15)
 b_z15:Binds K t.d_z15 ["clocks","number"] []
 F_z23:Fun K "steps_good" "steps_good" qelz t.f_z23 t.d_z23
 m_z23:mg "steps_good" = some (.ref t.f_z23)
 b_z23:Binds K t.d_z23 ["thing"] []
 F_z3:Fun K "refuse_no_steps" "refuse_no_steps" qf9z t.f_z3 t.d_z3
 m_z3:mg "refuse_no_steps" = some (.ref t.f_z3)
 b_z3:Binds K t.d_z3 ["thing"] []
 F_z0:Fun K "refuse_great_steps" "refuse_great_steps" qgaz t.f_z0 t.d_z0
 m_z0:mg "refuse_great_steps" = some (.ref t.f_z0)
 b_z0:Binds K t.d_z0 ["steps"] []
 F_z21:Fun K "set_clocks" "set_clocks" qemz t.f_z21 t.d_z21
 m_z21:mg "set_clocks" = some (.ref t.f_z21)
 b_z21:Binds K t.d_z21 ["steps","rests"] []
 F_z12:Fun K "rests_cover" "rests_cover" qgbz t.f_z12 t.d_z12
 m_z12:mg "rests_cover" = some (.ref t.f_z12)
 b_z12:Binds K t.d_z12 ["steps","rests"] []
 F_z5:Fun K "rests_form_good" "rests_form_good" qenz t.f_z5 t.d_z5
 m_z5:mg "rests_form_good" = some (.ref t.f_z5)
 b_z5:Binds K t.d_z5 ["steps","thing"] []
 F_z20:Fun K "rests_good" "rests_good" qgcz t.f_z20 t.d_z20
 m_z20:mg "rests_good" = some (.ref t.f_z20)
 b_z20:Binds K t.d_z20 ["steps","thing"] []
 F_z11:Fun K "_law_cell_at" "_law_cell_at" qgdz t.f_z11 t.d_z11
 m_z11:mg "_law_cell_at" = some (.ref t.f_z11)
 b_z11:Binds K t.d_z11 ["script","k"] []
 F_z29:Fun K "_law_next" "_law_next" qgez t.f_z29 t.d_z29
 m_z29:mg "_law_next" = some (.ref t.f_z29)
 b_z29:Binds K t.d_z29 ["seed"] []
 F_z19:Fun K "_law_pen_of" "_law_pen_of" qgfz t.f_z19 t.d_z19
 m_z19:mg "_law_pen_of" = some (.ref t.f_z19)
 b_z19:Binds K t.d_z19 ["cell"] []
 F_z32:Fun K "_law_draw" "_law_draw" qggz t.f_z32 t.d_z32
 m_z32:mg "_law_draw" = some (.ref t.f_z32)
 b_z32:Binds K t.d_z32 ["pen","many"] []
 F_z26:Fun K "_law_whole" "_law_whole" qghz t.f_z26 t.d_z26
 m_z26:mg "_law_whole" = some (.ref t.f_z26)
 b_z26:Binds K t.d_z26 ["found"] []
 F_z13:Fun K "_law_kind_of" "_law_kind_of" qgiz t.f_z13 t.d_z13
 m_z13:mg "_law_kind_of" = some (.ref t.f_z13)
 b_z13:Binds K t.d_z13 ["e"] []
 F_z6:Fun K "_law_great_told" "_law_great_told" qgjz t.f_z6 t.d_z6
 m_z6:mg "_law_great_told" = some (.ref t.f_z6)
 b_z6:Binds K t.d_z6 ["e"] []
 F_z33:Fun K "_law_gcd" "_law_gcd" qgkz t.f_z33 t.d_z33
 m_z33:mg "_law_gcd" = some (.ref t.f_z33)
 b_z33:Binds K t.d_z33 ["one","other"] []
 F_z27:Fun K "_law_round" "_law_round" qglz t.f_z27 t.d_z27
 m_z27:mg "_law_round" = some (.ref t.f_z27)
 b_z27:Binds K t.d_z27 ["clocks"] []
 F_z36:Fun K "_law_at" "_law_at" qeoz t.f_z36 t.d_z36
 m_z36:mg "_law_at" = some (.ref t.f_z36)
 b_z36:Binds K t.d_z36 ["clocks","number"] []
 F_z28:Fun K "_law_split" "_law_split" qepz t.f_z28 t.d_z28
 m_z28:mg "_law_split" = some (.ref t.f_z28)
 b_z28:Binds K t.d_z28 ["pen","times"] []
 F_z14:Fun K "_law_covered" "_law_covered" qeqz t.f_z14 t.d_z14
 m_z14:mg "_law_covered" = some (.ref t.f_z14)
 b_z14:Binds K t.d_z14 ["steps","rests"] []
 F_z25:Fun K "_law_built" "_law_built" qcez t.f_z25 t.d_z25
 m_z25:mg "_law_built" = some (.ref t.f_z25)
 b_z25:Binds K t.d_z25 ["pen"] []
 F_z18:Fun K "_law_due_of" "_law_due_of" qdlz t.f_z18 t.d_z18
 m_z18:mg "_law_due_of" = some (.ref t.f_z18)
 b_z18:Binds K t.d_z18 ["steps","thing"] []
 F_z30:Fun K "_law_bent" "_law_bent" qgnz t.f_z30 t.d_z30
 m_z30:mg "_law_bent" = some (.ref t.f_z30)
 b_z30:Binds K t.d_z30 ["pen","steps","rests"] []
 F_z9:Fun K "_law_refused" "_law_refused" qesz t.f_z9 t.d_z9
 m_z9:mg "_law_refused" = some (.ref t.f_z9)
 b_z9:Binds K t.d_z9 ["steps"] []
 F_law:Fun K "law" "law" qetz t.f_law t.d_law
 m_law:mg "law" = some (.ref t.f_law)
 b_law:Binds K t.d_law ["script"] []
 m_ClockError:mg "ClockError" = some (.ref t.c_ClockError)
 cn_ClockError:ClsN K "ClockError" t.c_ClockError
 m_NoClock:mg "NoClock" = some (.ref t.c_NoClock)
 cn_NoClock:ClsN K "NoClock" t.c_NoClock
 m_NoNumber:mg "NoNumber" = some (.ref t.c_NoNumber)
 cn_NoNumber:ClsN K "NoNumber" t.c_NoNumber
 m_NoPlace:mg "NoPlace" = some (.ref t.c_NoPlace)
 cn_NoPlace:ClsN K "NoPlace" t.c_NoPlace
 m_NoRow:mg "NoRow" = some (.ref t.c_NoRow)
 cn_NoRow:ClsN K "NoRow" t.c_NoRow
 m_NoClocks:mg "NoClocks" = some (.ref t.c_NoClocks)
 cn_NoClocks:ClsN K "NoClocks" t.c_NoClocks
 m_NoText:mg "NoText" = some (.ref t.c_NoText)
 cn_NoText:ClsN K "NoText" t.c_NoText
 m_TooGreat:mg "TooGreat" = some (.ref t.c_TooGreat)
 cn_TooGreat:ClsN K "TooGreat" t.c_TooGreat
 o_NoNumber:ExcCls K t.c_NoNumber t.c_ClockError none
 ask_NoNumber:ExcAsk K t.c_NoNumber
 ki_NoNumber_NoClock:PySem.W.kitOne K (.ref t.c_NoNumber) (.ref t.c_NoClock)=some false
 ki_NoNumber_NoClocks:PySem.W.kitOne K (.ref t.c_NoNumber) (.ref t.c_NoClocks)=some false
 ki_NoNumber_NoNumber:PySem.W.kitOne K (.ref t.c_NoNumber) (.ref t.c_NoNumber)=some true
 ki_NoNumber_NoPlace:PySem.W.kitOne K (.ref t.c_NoNumber) (.ref t.c_NoPlace)=some false
 ki_NoNumber_NoRow:PySem.W.kitOne K (.ref t.c_NoNumber) (.ref t.c_NoRow)=some false
 ki_NoNumber_NoText:PySem.W.kitOne K (.ref t.c_NoNumber) (.ref t.c_NoText)=some false
 ki_NoNumber_TooGreat:PySem.W.kitOne K (.ref t.c_NoNumber) (.ref t.c_TooGreat)=some false
 kv_NoNumber:PySem.W.kitOne K (.ref t.c_NoNumber) (.type "ValueError")=some true
 fl_NoNumber_many:FldAsk K t.c_NoNumber "many"
 fl_NoNumber_most:FldAsk K t.c_NoNumber "most"
 o_TooGreat:OwnInit K t.c_TooGreat t.c_ClockError t.fi_TooGreat t.di_TooGreat "TooGreat.__init__" qcfz ["many","most"]
 ask_TooGreat:ExcAsk K t.c_TooGreat
 ki_TooGreat_NoClock:PySem.W.kitOne K (.ref t.c_TooGreat) (.ref t.c_NoClock)=some false
 ki_TooGreat_NoClocks:PySem.W.kitOne K (.ref t.c_TooGreat) (.ref t.c_NoClocks)=some false
 ki_TooGreat_NoNumber:PySem.W.kitOne K (.ref t.c_TooGreat) (.ref t.c_NoNumber)=some false
 ki_TooGreat_NoPlace:PySem.W.kitOne K (.ref t.c_TooGreat) (.ref t.c_NoPlace)=some false
 ki_TooGreat_NoRow:PySem.W.kitOne K (.ref t.c_TooGreat) (.ref t.c_NoRow)=some false
 ki_TooGreat_NoText:PySem.W.kitOne K (.ref t.c_TooGreat) (.ref t.c_NoText)=some false
 ki_TooGreat_TooGreat:PySem.W.kitOne K (.ref t.c_TooGreat) (.ref t.c_TooGreat)=some true
 kv_TooGreat:PySem.W.kitOne K (.ref t.c_TooGreat) (.type "ValueError")=some true
 fl_TooGreat_many:FldAsk K t.c_TooGreat "many"
 fl_TooGreat_most:FldAsk K t.c_TooGreat "most"
 m_GREATEST_STEP:mg "GREATEST_STEP" = some (.int 24 t.t_GREATEST_STEP)
 m_LEAST_STEP:mg "LEAST_STEP" = some (.int 2 t.t_LEAST_STEP)
 m_MOST_FAR_CLOCKS:mg "MOST_FAR_CLOCKS" = some (.int 10 t.t_MOST_FAR_CLOCKS)
 m_MOST_NUMBERS:mg "MOST_NUMBERS" = some (.int 10000 t.t_MOST_NUMBERS)
 m_MOST_STEPS:mg "MOST_STEPS" = some (.int 6 t.t_MOST_STEPS)
 m_ValueError:mg "ValueError" = none
 m_all:mg "all" = none
 m_bool:mg "bool" = none
 m_int:mg "int" = none
 m_isinstance:mg "isinstance" = none
 m_len:mg "len" = none
 m_list:mg "list" = none
 m_max:mg "max" = none
 m_range:mg "range" = none
 m_tuple:mg "tuple" = none
 m_zip:mg "zip" = none
abbrev rs:List Str:=["NoNumber","TooGreat"]
section
variable {P:Program} {w:World} {K:PySem.W.Frag} {mg:Str->Option Value} {base:Heap} {t:Adr}
theorem qvz{x:Str}{C D:Addr}(h:ClsN K x C)(h2:ClsN K x D):C=D:=by
 unfold ClsN at h h2;rw[h] at h2;cases h2;rfl
theorem Txt.isx_NoClock(T:Txt K mg t):∀z∈rs,∀D,ClsN K z D->ExcAsk K D/\PySem.W.kitOne K (.ref D) (.ref t.c_NoClock)=some (z=="NoClock"):=by
 intro z hz D cn;simp only[List.mem_cons,List.not_mem_nil,or_false] at hz;rcases hz with rfl|rfl
 ·cases qvz cn T.cn_NoNumber;exact⟨T.ask_NoNumber,T.ki_NoNumber_NoClock⟩
 ·cases qvz cn T.cn_TooGreat;exact⟨T.ask_TooGreat,T.ki_TooGreat_NoClock⟩
theorem Txt.isx_NoClocks(T:Txt K mg t):∀z∈rs,∀D,ClsN K z D->ExcAsk K D/\PySem.W.kitOne K (.ref D) (.ref t.c_NoClocks)=some (z=="NoClocks"):=by
 intro z hz D cn;simp only[List.mem_cons,List.not_mem_nil,or_false] at hz;rcases hz with rfl|rfl
 ·cases qvz cn T.cn_NoNumber;exact⟨T.ask_NoNumber,T.ki_NoNumber_NoClocks⟩
 ·cases qvz cn T.cn_TooGreat;exact⟨T.ask_TooGreat,T.ki_TooGreat_NoClocks⟩
theorem Txt.isx_NoNumber(T:Txt K mg t):∀z∈rs,∀D,ClsN K z D->ExcAsk K D/\PySem.W.kitOne K (.ref D) (.ref t.c_NoNumber)=some (z=="NoNumber"):=by
 intro z hz D cn;simp only[List.mem_cons,List.not_mem_nil,or_false] at hz;rcases hz with rfl|rfl
 ·cases qvz cn T.cn_NoNumber;exact⟨T.ask_NoNumber,T.ki_NoNumber_NoNumber⟩
 ·cases qvz cn T.cn_TooGreat;exact⟨T.ask_TooGreat,T.ki_TooGreat_NoNumber⟩
theorem Txt.isx_NoPlace(T:Txt K mg t):∀z∈rs,∀D,ClsN K z D->ExcAsk K D/\PySem.W.kitOne K (.ref D) (.ref t.c_NoPlace)=some (z=="NoPlace"):=by
 intro z hz D cn;simp only[List.mem_cons,List.not_mem_nil,or_false] at hz;rcases hz with rfl|rfl
 ·cases qvz cn T.cn_NoNumber;exact⟨T.ask_NoNumber,T.ki_NoNumber_NoPlace⟩
 ·cases qvz cn T.cn_TooGreat;exact⟨T.ask_TooGreat,T.ki_TooGreat_NoPlace⟩
theorem Txt.isx_NoRow(T:Txt K mg t):∀z∈rs,∀D,ClsN K z D->ExcAsk K D/\PySem.W.kitOne K (.ref D) (.ref t.c_NoRow)=some (z=="NoRow"):=by
 intro z hz D cn;simp only[List.mem_cons,List.not_mem_nil,or_false] at hz;rcases hz with rfl|rfl
 ·cases qvz cn T.cn_NoNumber;exact⟨T.ask_NoNumber,T.ki_NoNumber_NoRow⟩
 ·cases qvz cn T.cn_TooGreat;exact⟨T.ask_TooGreat,T.ki_TooGreat_NoRow⟩
theorem Txt.isx_NoText(T:Txt K mg t):∀z∈rs,∀D,ClsN K z D->ExcAsk K D/\PySem.W.kitOne K (.ref D) (.ref t.c_NoText)=some (z=="NoText"):=by
 intro z hz D cn;simp only[List.mem_cons,List.not_mem_nil,or_false] at hz;rcases hz with rfl|rfl
 ·cases qvz cn T.cn_NoNumber;exact⟨T.ask_NoNumber,T.ki_NoNumber_NoText⟩
 ·cases qvz cn T.cn_TooGreat;exact⟨T.ask_TooGreat,T.ki_TooGreat_NoText⟩
theorem Txt.isx_TooGreat(T:Txt K mg t):∀z∈rs,∀D,ClsN K z D->ExcAsk K D/\PySem.W.kitOne K (.ref D) (.ref t.c_TooGreat)=some (z=="TooGreat"):=by
 intro z hz D cn;simp only[List.mem_cons,List.not_mem_nil,or_false] at hz;rcases hz with rfl|rfl
 ·cases qvz cn T.cn_NoNumber;exact⟨T.ask_NoNumber,T.ki_NoNumber_TooGreat⟩
 ·cases qvz cn T.cn_TooGreat;exact⟨T.ask_TooGreat,T.ki_TooGreat_TooGreat⟩
theorem Txt.isv(T:Txt K mg t):∀z∈rs,∀D,ClsN K z D->ExcAsk K D/\PySem.W.kitOne K (.ref D) (.type "ValueError")=some true:=by
 intro z hz D cn;simp only[List.mem_cons,List.not_mem_nil,or_false] at hz;rcases hz with rfl|rfl
 ·cases qvz cn T.cn_NoNumber;exact⟨T.ask_NoNumber,T.kv_NoNumber⟩
 ·cases qvz cn T.cn_TooGreat;exact⟨T.ask_TooGreat,T.kv_TooGreat⟩
theorem Txt.fld_many(T:Txt K mg t):∀z∈rs,∀D,ClsN K z D->FldAsk K D "many":=by
 intro z hz D cn;simp only[List.mem_cons,List.not_mem_nil,or_false] at hz;rcases hz with rfl|rfl
 ·cases qvz cn T.cn_NoNumber;exact T.fl_NoNumber_many
 ·cases qvz cn T.cn_TooGreat;exact T.fl_TooGreat_many
theorem Txt.fld_most(T:Txt K mg t):∀z∈rs,∀D,ClsN K z D->FldAsk K D "most":=by
 intro z hz D cn;simp only[List.mem_cons,List.not_mem_nil,or_false] at hz;rcases hz with rfl|rfl
 ·cases qvz cn T.cn_NoNumber;exact T.fl_NoNumber_most
 ·cases qvz cn T.cn_TooGreat;exact T.fl_TooGreat_most
theorem Txt.takes(T:Txt K mg t):Takes K rs t.c_ClockError:=by
 intro z hz D cn;simp only[List.mem_cons,List.not_mem_nil,or_false] at hz;rcases hz with rfl|rfl
 ·cases qvz cn T.cn_NoNumber;exact⟨_,T.o_NoNumber⟩
 ·cases qvz cn T.cn_TooGreat;exact⟨_,T.o_TooGreat.ex⟩
theorem qzhz:∀ds G Q,qa6z ds G Q->ds.length=1:=by
 intro ds G Q h
 first
  | (rcases ds with _|⟨_,_|⟨_,_|⟨_,_|⟨_,_⟩⟩⟩⟩<;>first|rfl|exact h.elim)
  | (obtain⟨rfl,_⟩:=h;rfl)
  | (obtain⟨_,rfl,_⟩:=h;rfl)
  | (obtain⟨_,_,rfl,_⟩:=h;rfl)
  | (obtain⟨_,_,_,rfl,_⟩:=h;rfl)
  | (obtain⟨_,_,_,_,rfl,_⟩:=h;rfl)
  | (obtain⟨_,_,_,_,_,rfl,_⟩:=h;rfl)
  | (obtain⟨_,_,_,_,_,_,rfl,_⟩:=h;rfl)
  | (obtain⟨_,_,_,_,_,_,_,rfl,_⟩:=h;rfl)
  | (obtain⟨_,_,_,_,_,_,_,_,rfl,_⟩:=h;rfl)
theorem qk0z(T:Txt K mg t):FnOk3 P w K mg base 1 t.f_z22 t.d_z22 ["thing"] qa6z:=by
 refine qfn3 (k:=0) (sp:=qa6z) T.F_z22 qyfz (by decide) qzhz (qfbz) (fun cdv A outer s H E hr=>?_) qq2z;refine qez (qjz ?_);refine qcrz (qbgz qh0z rfl (qaz (pv 0)) T.m_isinstance T.m_int rfl (by decide) (by decide)) ?_;refine qcqz (qiaz (qbgz qe5z rfl (qaz (pv 0)) T.m_isinstance T.m_bool rfl (by decide) (by decide)))
theorem qziz:∀ds Q E,qc4z ds Q E->ds.length=2:=by
 intro ds Q E h
 first
  | (rcases ds with _|⟨_,_|⟨_,_|⟨_,_|⟨_,_⟩⟩⟩⟩<;>first|rfl|exact h.elim)
  | (obtain⟨rfl,_⟩:=h;rfl)
  | (obtain⟨_,rfl,_⟩:=h;rfl)
  | (obtain⟨_,_,rfl,_⟩:=h;rfl)
  | (obtain⟨_,_,_,rfl,_⟩:=h;rfl)
  | (obtain⟨_,_,_,_,rfl,_⟩:=h;rfl)
  | (obtain⟨_,_,_,_,_,rfl,_⟩:=h;rfl)
  | (obtain⟨_,_,_,_,_,_,rfl,_⟩:=h;rfl)
  | (obtain⟨_,_,_,_,_,_,_,rfl,_⟩:=h;rfl)
  | (obtain⟨_,_,_,_,_,_,_,_,rfl,_⟩:=h;rfl)
theorem qzjz(T:Txt K mg t):FnX P w K mg base 1 t.f_z8 t.d_z8 ["many","most"] qc4z:=by
 refine qfnX (k:=0) (sp:=qc4z) T.F_z8 qkqz (by decide) qziz qjgz (fun cdv A outer s H E0 E hr hE=>?_) qucz;refine qez (q1z (qqz l_gt qchz (qaz (pv 0)) (qaz (pv 1)) (nomark _)) ?_ q0z);refine qez (qt5z qi4z hE T.o_TooGreat T.cn_TooGreat T.m_TooGreat hr rfl (qbz (qaz (pv 0)) (qbz (qaz (pv 1)) qcz)))
theorem qzkz:∀ds G Q,qc2z ds G Q->ds.length=2:=by
 intro ds G Q h;obtain⟨_,_,rfl,_⟩:=h;rfl
theorem qzlz(T:Txt K mg t):FnOk3 P w K mg base 1 t.f_z8 t.d_z8 ["many","most"] qc2z:=by
 refine qfn3 (k:=0) (sp:=qc2z) T.F_z8 qkqz (by decide) qzkz qiyz (fun cdv A outer s H E hr=>?_) qshz;refine qez (q1z (qqz l_gt qchz (qaz (pv 0)) (qaz (pv 1)) (nomark _)) (qez qqrz) q0z)
theorem qzmz:∀ds G Q,qdbz ds G Q->ds.length=1:=by
 intro ds G Q h;obtain⟨_,rfl,_⟩:=h;rfl
theorem qznz(T:Txt K mg t):FnOk3 P w K mg base 1 t.f_z34 t.d_z34 ["times"] qdbz:=by
 refine qfn3 (k:=0) (sp:=qdbz) T.F_z34 sc_z34 (by decide) qzmz (qjrz) (fun cdv A outer s H E hr=>?_) qu0z;refine qfz (qnz (i:=1) sc_z34.nd qdz) (qfz ?_ (qez (qjz (qaz (pv 1)))));refine qbez PassesOwn.never rfl (qb4z T.m_range (qbz (qaz (pv 0)) qcz)) (qmz (i:=2) sc_z34.nd) ?_;refine qez (qqsz (i:=1) qqnz sc_z34.nd (qaz (pv 1)) ql2z)
theorem qzoz:∀ds G Q,qczz ds G Q->ds.length=2:=by
 intro ds G Q h;obtain⟨_,_,rfl,_⟩:=h;rfl
theorem qzpz(T:Txt K mg t):FnOk3 P w K mg base 1 t.f_z7 t.d_z7 ["one","other"] qczz:=by
 refine qfn3 (k:=0) (sp:=qczz) T.F_z7 sc_z7 (by decide) qzoz (qiqz) (fun cdv A outer s H E hr=>?_) qrqz;refine qfz ?_ (qez (qjz (qaz (pv 0))));refine qe7z PassesOwn.never (qqz l_ne (qa4z hr.units) (qaz (pv 1)) qdz (nomark _)) ?_;refine qfz (qnz (i:=2) sc_z7.nd (qhz qarz qaqz (qaz (pv 0)) (qaz (pv 1)))) ?_;refine qfz (qnz (i:=0) sc_z7.nd (qaz (pv 1))) (qez (qnz (i:=1) sc_z7.nd (qaz (pv 2))))
theorem qzqz:∀ds G Q,qc9z ds G Q->ds.length=1:=by
 intro ds G Q h;obtain⟨_,_,rfl,_⟩:=h;rfl
theorem qzrz(T:Txt K mg t):FnOk3 P w K mg base 2 t.f_z4 t.d_z4 ["numbers"] qc9z:=by
 refine qfn3 (k:=1) (sp:=qc9z) T.F_z4 sc_z4 (by decide) qzqz (qjpz) (fun cdv A outer s H E hr=>?_) quuz;refine qfz (qnz (i:=1) sc_z4.nd qdz) (qfz ?_ (qez (qjz (qaz (pv 1)))));refine qbez PassesOwn.never rfl (qajz (qaz (pv 0))) (qmz (i:=2) sc_z4.nd) (qez ?_);refine qnz (i:=1) sc_z4.nd (qhz qa3z qa2z (qaz (pv 1)) (qhz qcmz qclz (qaz (pv 2)) ?_));refine qkz ((qzpz T).mono (by decide)) hr T.m_z7 T.F_z7.kp T.b_z7 ?_;refine qbz (qaz (pv 1)) (qbz (qaz (pv 2)) qcz)
theorem qzsz:∀ds G Q,qcwz ds G Q->ds.length=2:=by
 intro ds G Q h;obtain⟨_,_,rfl,_⟩:=h;rfl
theorem qztz(T:Txt K mg t):FnOk3 P w K mg base 1 t.f_z37 t.d_z37 ["clock","number"] qcwz:=by
 refine qfn3 (k:=0) (sp:=qcwz) T.F_z37 qylz (by decide) qzsz (qijz) (fun cdv A outer s H E hr=>?_) qrbz;refine qez (qjz (qcpz l_eq (qb1z hr.units) (qhz qarz qaqz (qaz (pv 1)) (qwz (qaz (pv 0)) qdz)) (qwz (qaz (pv 0)) qdz) (nomark _)))
theorem qzuz:∀ds G Q,qcxz ds G Q->ds.length=2:=by
 intro ds G Q h;obtain⟨_,_,rfl,_⟩:=h;rfl
theorem qzvz(T:Txt K mg t):FnOk3 P w K mg base 2 t.f_z31 t.d_z31 ["clocks","number"] qcxz:=by
 refine qfn3 (k:=1) (sp:=qcxz) T.F_z31 qymz (by decide) qzuz (qikz) (fun cdv A outer s H E hr=>?_) qrcz;refine qez (qjz ?_);refine qafz rfl (show CmpOk qkrz (defScope qekz) _ ["clock"] [1] from⟨rfl,by decide +kernel,by decide +kernel,by decide +kernel,by decide +kernel,by decide +kernel⟩) ?_ ?_;refine qajz (qaz (pv 0));intro s0 H0 fp0;refine⟨(qmz (i:=0) (show (["clock","number"]:List Str).Nodup by decide +kernel)),?_,(qaz (pv 0))⟩;refine qcuz (qanz (qkz ((qztz T).mono (by decide)) hr T.m_z37 T.F_z37.kp T.b_z37 (qbz (qaz (pv 0)) (qbz (qaz (pv 1)) qcz))))
theorem qzwz:∀ds G Q,qdcz ds G Q->ds.length=1:=by
 intro ds G Q h;obtain⟨_,rfl,_⟩:=h;rfl
theorem qzxz(T:Txt K mg t):FnOk3 P w K mg base 2 t.f_z24 t.d_z24 ["clocks"] qdcz:=by
 refine qfn3 (k:=1) (sp:=qdcz) T.F_z24 qyoz (by decide) qzwz (qjsz) (fun cdv A outer s H E hr=>?_) qu1z;refine qez (qjz ?_);refine qkz ((qznz T).mono (by decide)) hr T.m_z34 T.F_z34.kp T.b_z34 (qbz (q9z hr.units T.m_len (qbz (qaz (pv 0)) qcz)) qcz)
theorem qzyz:∀ds G Q,qddz ds G Q->ds.length=2:=by
 intro ds G Q h;obtain⟨_,rfl,_⟩:=h;rfl
theorem qzzz(T:Txt K mg t):FnOk3 P w K mg base 3 t.f_z15 t.d_z15 ["clocks","number"] qddz:=by
 refine qfn3 (k:=2) (sp:=qddz) T.F_z15 sc_z15 (by decide) qzyz (qjtz) (fun cdv A outer s H E hr=>?_) qu5z;refine qfz (qcsz ?_) (qfz ?_ (qez (qjz qb2z)));refine qkz ((qzlz T).mono (by decide)) hr T.m_z8 T.F_z8.kp T.b_z8 ?_;refine qbz (q9z hr.units T.m_len (qbz (qaz (pv 0)) qcz)) (qbz (qcoz T.m_MOST_FAR_CLOCKS) qcz);refine qbez PassesOwn.never rfl (qqtz T.m_range (qbz (qaz (pv 1)) (qbz ?_ qcz))) (qmz (i:=2) sc_z15.nd) (qez ?_);refine qhz quz qtz (qaz (pv 1)) (qkz ((qzxz T).mono (by decide)) hr T.m_z24 T.F_z24.kp T.b_z24 (qbz (qaz (pv 0)) qcz));refine q1z (qqz l_eq (qb1z hr.units) ?_ (q4z qcz) (nomark _)) (qez (qjz (qaz (pv 2)))) q0z;refine qkz ((qzvz T).mono (by decide)) hr T.m_z31 T.F_z31.kp T.b_z31 (qbz (qaz (pv 0)) (qbz (qaz (pv 2)) qcz))
theorem qz0z:∀ds G Q,qc7z ds G Q->ds.length=1:=by
 intro ds G Q h;obtain⟨_,rfl,_⟩:=h;rfl
theorem qz1z(T:Txt K mg t):FnOk3 P w K mg base 2 t.f_z23 t.d_z23 ["thing"] qc7z:=by
 refine qfn3 (k:=1) (sp:=qc7z) T.F_z23 qyqz (by decide) qz0z (qjnz) (fun cdv A outer s H E hr=>?_) qusz;refine qfz (q1z (qbdz ?_) (qez (qjz q8z)) q0z) (qez (qjz (qd8z hr.units T.m_all (qbz ?_ qcz))));refine qasz (qaoz (qanz (qbgz qpyz rfl (qaz (pv 0)) T.m_isinstance T.m_list rfl (by decide) (by decide)))) ?_;refine qbqz (qaoz (qq0z l_le l_le qcgz qcgz qdz (q9z hr.units T.m_len (qbz (qaz (pv 0)) qcz)) (qcoz T.m_MOST_STEPS)));refine qafz rfl (show CmpOk qksz (defScope qelz) _ ["step"] [] from⟨rfl,by decide +kernel,by decide +kernel,by decide +kernel,by decide +kernel,by decide +kernel⟩) ?_ ?_;refine qajz (qaz (pv 0));intro s0 H0 fp0;refine⟨(qmz (i:=0) (show (["step"]:List Str).Nodup by decide +kernel)),qa5z,?_⟩;refine qcrz (qkz ((qk0z T).mono (by decide)) hr T.m_z22 T.F_z22.kp T.b_z22 (qbz (qaz (pv 0)) qcz)) ?_;refine qcqz (qidz l_le l_le qcgz qcgz (qcoz T.m_LEAST_STEP) (qaz (pv 0)) (qcoz T.m_GREATEST_STEP))
theorem qz2z:∀ds Q E,qc8z ds Q E->ds.length=1:=by
 intro ds Q E h
 first
  | (rcases ds with _|⟨_,_|⟨_,_|⟨_,_|⟨_,_⟩⟩⟩⟩<;>first|rfl|exact h.elim)
  | (obtain⟨rfl,_⟩:=h;rfl)
  | (obtain⟨_,rfl,_⟩:=h;rfl)
  | (obtain⟨_,_,rfl,_⟩:=h;rfl)
  | (obtain⟨_,_,_,rfl,_⟩:=h;rfl)
  | (obtain⟨_,_,_,_,rfl,_⟩:=h;rfl)
  | (obtain⟨_,_,_,_,_,rfl,_⟩:=h;rfl)
  | (obtain⟨_,_,_,_,_,_,rfl,_⟩:=h;rfl)
  | (obtain⟨_,_,_,_,_,_,_,rfl,_⟩:=h;rfl)
  | (obtain⟨_,_,_,_,_,_,_,_,rfl,_⟩:=h;rfl)
theorem qz3z(T:Txt K mg t):FnX P w K mg base 3 t.f_z3 t.d_z3 ["thing"] qc8z:=by
 refine qfnX (k:=2) (sp:=qc8z) T.F_z3 qysz (by decide) qz2z qjoz (fun cdv A outer s H E0 E hr hE=>?_) qutz;refine qez ?_;refine q1z (qaoz (qanz (qkz ((qz1z T).mono (by decide)) hr T.m_z23 T.F_z23.kp T.b_z23 (qbz (qaz (pv 0)) qcz)))) ?_ ?_;refine qez (qt6z qi4z hE T.o_NoNumber T.cn_NoNumber T.m_NoNumber rfl);refine q0z
theorem qz4z:∀ds Q E,qccz ds Q E->ds.length=1:=by
 intro ds Q E h
 first
  | (rcases ds with _|⟨_,_|⟨_,_|⟨_,_|⟨_,_⟩⟩⟩⟩<;>first|rfl|exact h.elim)
  | (obtain⟨rfl,_⟩:=h;rfl)
  | (obtain⟨_,rfl,_⟩:=h;rfl)
  | (obtain⟨_,_,rfl,_⟩:=h;rfl)
  | (obtain⟨_,_,_,rfl,_⟩:=h;rfl)
  | (obtain⟨_,_,_,_,rfl,_⟩:=h;rfl)
  | (obtain⟨_,_,_,_,_,rfl,_⟩:=h;rfl)
  | (obtain⟨_,_,_,_,_,_,rfl,_⟩:=h;rfl)
  | (obtain⟨_,_,_,_,_,_,_,rfl,_⟩:=h;rfl)
  | (obtain⟨_,_,_,_,_,_,_,_,rfl,_⟩:=h;rfl)
theorem qz5z(T:Txt K mg t):FnX P w K mg base 4 t.f_z0 t.d_z0 ["steps"] qccz:=by
 refine qfnX (k:=3) (sp:=qccz) T.F_z0 qyuz (by decide) qz4z qjzz (fun cdv A outer s H E0 E hr hE=>?_) qvnz;refine qfz (qcsz ?_) (qez (qcsz ?_));refine qfrz ((qz3z T).mono (by decide)) hr (passX hE) T.m_z3 T.F_z3.kp T.b_z3 (qbz (qaz (pv 0)) qcz);refine qfrz ((qzjz T).mono (by decide)) hr (passX hE) T.m_z8 T.F_z8.kp T.b_z8 ?_;refine qbz (qkz ((qzrz T).mono (by decide)) hr T.m_z4 T.F_z4.kp T.b_z4 (qbz (qaz (pv 0)) qcz)) ?_;refine qbz (qcoz T.m_MOST_NUMBERS) qcz
theorem qz6z:∀ds G Q,qdaz ds G Q->ds.length=2:=by
 intro ds G Q h;obtain⟨_,_,_,rfl,_⟩:=h;rfl
theorem qz7z(T:Txt K mg t):FnOk3 P w K mg base 1 t.f_z21 t.d_z21 ["steps","rests"] qdaz:=by
 refine qfn3 (k:=0) (sp:=qdaz) T.F_z21 qyvz (by decide) qz6z (qjqz) (fun cdv A outer s H E hr=>?_) quwz;refine qez (qjz (qe9z hr.units T.m_tuple (qbz ?_ qcz)));refine qafz rfl (show CmpOk qktz (defScope qemz) _ ["step","rest"] [] from⟨rfl,by decide +kernel,by decide +kernel,by decide +kernel,by decide +kernel,by decide +kernel⟩) ?_ ?_;refine qicz T.m_zip (qbz (qaz (pv 0)) (qbz (qaz (pv 1)) qcz));intro s0 H0 fp0;refine⟨(qctz rfl ?_),(qcuz (qqz qpfz qmfz (qaz (pv 1)) qb2z (nomark _))),(q3z (qbz (qaz (pv 0)) (qbz (qaz (pv 1)) qcz)))⟩;refine qaiz (qmz (i:=0) (show (["step","rest"]:List Str).Nodup by decide +kernel)) ?_;refine qaiz (qmz (i:=1) (show (["step","rest"]:List Str).Nodup by decide +kernel)) qb3z
theorem qz8z:∀ds G Q,qdez ds G Q->ds.length=2:=by
 intro ds G Q h;obtain⟨_,_,_,rfl,_⟩:=h;rfl
theorem qz9z(T:Txt K mg t):FnOk3 P w K mg base 4 t.f_z12 t.d_z12 ["steps","rests"] qdez:=by
 refine qfn3 (k:=3) (sp:=qdez) T.F_z12 qyxz (by decide) qz8z (qjuz) (fun cdv A outer s H E hr=>?_) qu7z;refine qez (qjz (qcpz l_is qmez ?_ qb2z (nomark _)));refine qkz ((qzzz T).mono (by decide)) hr T.m_z15 T.F_z15.kp T.b_z15 (qbz ?_ (qbz qdz qcz));refine qkz ((qz7z T).mono (by decide)) hr T.m_z21 T.F_z21.kp T.b_z21 (qbz (qaz (pv 0)) (qbz (qaz (pv 1)) qcz))
theorem q0az:∀ds G Q,qdfz ds G Q->ds.length=2:=by
 intro ds G Q h;obtain⟨_,_,rfl,_⟩:=h;rfl
theorem q0bz(T:Txt K mg t):FnOk3 P w K mg base 2 t.f_z5 t.d_z5 ["steps","thing"] qdfz:=by
 refine qfn3 (k:=1) (sp:=qdfz) T.F_z5 qyyz (by decide) q0az (qfxz) (fun cdv A outer s H E hr=>?_) qv1z;refine qfz (q1z (qbdz ?_) (qez (qjz q8z)) q0z) (qez (qjz (qd8z hr.units T.m_all (qbz ?_ qcz))));refine qasz (qaoz (qanz (qbgz kit_tuple rfl (qaz (pv 1)) T.m_isinstance T.m_tuple rfl (by decide) (by decide)))) (qbqz ?_);refine qqz l_ne (qa4z hr.units) (q9z hr.units T.m_len (qbz (qaz (pv 1)) qcz)) (q9z hr.units T.m_len (qbz (qaz (pv 0)) qcz)) (nomark _);refine qafz rfl (show CmpOk qkuz (defScope qenz) _ ["step","rest"] [] from⟨rfl,by decide +kernel,by decide +kernel,by decide +kernel,by decide +kernel,by decide +kernel⟩) ?_ ?_;refine qicz T.m_zip (qbz (qaz (pv 0)) (qbz (qaz (pv 1)) qcz));intro s0 H0 fp0;refine⟨(qctz rfl ?_),qa5z,?_⟩;refine qaiz (qmz (i:=0) (show (["step","rest"]:List Str).Nodup by decide +kernel)) ?_;refine qaiz (qmz (i:=1) (show (["step","rest"]:List Str).Nodup by decide +kernel)) qb3z;refine qcrz (qkz ((qk0z T).mono (by decide)) hr T.m_z22 T.F_z22.kp T.b_z22 (qbz (qaz (pv 1)) qcz)) ?_;refine qcqz (qidz l_le qb0z qcgz (qbzz hr.units0) qdz (qaz (pv 1)) (qaz (pv 0)))
theorem q0cz:∀ds Q E,qawz ds Q E->ds.length=2:=by
 intro ds Q E h
 first
  | (rcases ds with _|⟨_,_|⟨_,_|⟨_,_|⟨_,_⟩⟩⟩⟩<;>first|rfl|exact h.elim)
  | (obtain⟨rfl,_⟩:=h;rfl)
  | (obtain⟨_,rfl,_⟩:=h;rfl)
  | (obtain⟨_,_,rfl,_⟩:=h;rfl)
  | (obtain⟨_,_,_,rfl,_⟩:=h;rfl)
  | (obtain⟨_,_,_,_,rfl,_⟩:=h;rfl)
  | (obtain⟨_,_,_,_,_,rfl,_⟩:=h;rfl)
  | (obtain⟨_,_,_,_,_,_,rfl,_⟩:=h;rfl)
  | (obtain⟨_,_,_,_,_,_,_,rfl,_⟩:=h;rfl)
  | (obtain⟨_,_,_,_,_,_,_,_,rfl,_⟩:=h;rfl)
theorem qdmz(T:Txt K mg t):FnX P w K mg base 5 t.f_z20 t.d_z20 ["steps","thing"] qawz:=by
 refine qfnX (k:=4) (sp:=qawz) T.F_z20 qy0z (by decide) q0cz qj1z (fun cdv A outer s H E0 E hr hE=>?_) qv3z;refine qfz (qcsz ?_) (qez (qjz ?_));refine qfrz ((qz5z T).mono (by decide)) hr (passX hE) T.m_z0 T.F_z0.kp T.b_z0 ?_;refine qbz (qaz (pv 0)) qcz;refine qcrz ?_ (qcqz ?_);refine qkz ((q0bz T).mono (by decide)) hr T.m_z5 T.F_z5.kp T.b_z5 ?_;refine qbz (qaz (pv 0)) (qbz (qaz (pv 1)) qcz);refine qkz ((qz9z T).mono (by decide)) hr T.m_z12 T.F_z12.kp T.b_z12 (qbz (qaz (pv 0)) (qbz (qaz (pv 1)) qcz))
theorem q0dz:∀ds G Q,qcvz ds G Q->ds.length=2:=by
 intro ds G Q h;obtain⟨_,_,rfl,_⟩:=h;rfl
theorem q0ez(T:Txt K mg t):FnOk3 P w K mg base 1 t.f_z11 t.d_z11 ["script","k"] qcvz:=by
 refine qfn3 (k:=0) (sp:=qcvz) T.F_z11 qy2z (by decide) q0dz (qifz) (fun cdv A outer s H E hr=>?_) qq5z;refine qfz ?_ (qez (qjz qdz));refine q1z (qqz qb0z (qbzz hr.units0) (qaz (pv 1)) (q9z hr.units T.m_len (qbz (qaz (pv 0)) qcz)) (nomark _)) ?_ q0z;refine qez (qjz (qwz (qaz (pv 0)) (qaz (pv 1))))
theorem q0fz:∀ds G Q,qb6z ds G Q->ds.length=1:=by
 intro ds G Q h;obtain⟨_,rfl,_⟩:=h;rfl
theorem qk1z(T:Txt K mg t):FnOk3 P w K mg base 1 t.f_z29 t.d_z29 ["seed"] qb6z:=by
 refine qfn3 (k:=0) (sp:=qb6z) T.F_z29 sc_z29 (by decide) q0fz (qigz) (fun cdv A outer s H E hr=>?_) qq6z;refine qfz (qnz (i:=0) sc_z29.nd (qhz qarz qaqz (qhz quz qtz (qaz (pv 0)) qdz) qdz)) ?_;refine qez (qjz (qhz qarz qaqz ?_ qdz));refine qhz quz qtz (qhz quz qtz (qhz qa3z qa2z (qaz (pv 0)) (qaz (pv 0))) (qhz qa3z qa2z qdz (qaz (pv 0)))) qdz
theorem q0gz:∀ds G Q,qeaz ds G Q->ds.length=1:=by
 intro ds G Q h;obtain⟨_,rfl,_⟩:=h;rfl
theorem q0hz(T:Txt K mg t):FnOk3 P w K mg base 1 t.f_z19 t.d_z19 ["cell"] qfcz:=by
 refine FnOk.imp ?_ qraz;refine qfn3 (k:=0) (sp:=qeaz) T.F_z19 sc_z19 (by decide) q0gz (qiiz) (fun cdv A outer s H E hr=>?_) qq9z;refine qfz (qnz (i:=1) sc_z19.nd (qqvz hr.units T.m_max (qbz (qaz (pv 0)) (qbz (qhz qdyz qdoz qdz (qaz (pv 0))) qcz)))) ?_;refine qez (qjz (q4z (qbz (qaz (pv 1)) ?_)));refine qbz (qquz hr.units T.m_int (qbz (qcpz l_ge qmdz (qaz (pv 1)) (qhz qpcz qmcz qdz qdz) (nomark _)) qcz)) ?_;refine qbz (qhz qarz qaqz (qaz (pv 1)) qdz) qcz
theorem q0iz:∀ds G Q,qd9z ds G Q->ds.length=2:=by
 intro ds G Q h;obtain⟨_,_,_,_,_,rfl,_⟩:=h;rfl
theorem qagz(T:Txt K mg t):FnOk3 P w K mg base 2 t.f_z32 t.d_z32 ["pen","many"] q7z:=by
 refine FnOk.imp ?_ qq8z;refine qfn3 (k:=1) (sp:=qd9z) T.F_z32 sc_z32 (by decide) q0iz (qihz) (fun cdv A outer s H E hr=>?_) qq7z;refine qfz ?_ ?_;refine q1z (qqz l_eq (qb1z hr.units) (qwz (qaz (pv 0)) qdz) qdz (nomark _)) ?_ q0z;refine qfz (qnz (i:=2) sc_z32.nd (qhz qarz qaqz (qwz (qaz (pv 0)) qdz) (qaz (pv 1)))) ?_;refine qfz (qd7z (qhz qcmz qclz (qwz (qaz (pv 0)) qdz) (qaz (pv 1))) (qibz (qaz (pv 0)) qdz)) (qez (qjz (qaz (pv 2))));refine qfz (qd7z ?_ (qibz (qaz (pv 0)) qdz)) ?_;refine qkz ((qk1z T).mono (by decide)) hr T.m_z29 T.F_z29.kp T.b_z29 (qbz ?_ qcz);refine qhz quz qtz (qkz ((qk1z T).mono (by decide)) hr T.m_z29 T.F_z29.kp T.b_z29 (qbz (qwz (qaz (pv 0)) qdz) qcz)) (qdz);refine qez (qjz (qhz qarz qaqz (qhz qcmz qclz (qwz (qaz (pv 0)) qdz) qdz) (qaz (pv 1))))
theorem q0jz:∀ds G Q,qbsz ds G Q->ds.length=1:=by
 intro ds G Q h
 first
  | (rcases ds with _|⟨_,_|⟨_,_|⟨_,_|⟨_,_⟩⟩⟩⟩<;>first|rfl|exact h.elim)
  | (obtain⟨rfl,_⟩:=h;rfl)
  | (obtain⟨_,rfl,_⟩:=h;rfl)
  | (obtain⟨_,_,rfl,_⟩:=h;rfl)
  | (obtain⟨_,_,_,rfl,_⟩:=h;rfl)
  | (obtain⟨_,_,_,_,rfl,_⟩:=h;rfl)
  | (obtain⟨_,_,_,_,_,rfl,_⟩:=h;rfl)
  | (obtain⟨_,_,_,_,_,_,rfl,_⟩:=h;rfl)
  | (obtain⟨_,_,_,_,_,_,_,rfl,_⟩:=h;rfl)
  | (obtain⟨_,_,_,_,_,_,_,_,rfl,_⟩:=h;rfl)
theorem qgoz(T:Txt K mg t):FnH3 P w K mg base 1 t.f_z26 t.d_z26 ["found"] qbsz:=by
 refine qfnH (k:=0) (sp:=qbsz) T.F_z26 qy7z (by decide) q0jz (qq3z) (fun cdv A outer s H E hr=>?_) qq4z;refine qez (qjz ?_);refine qcrz (qbgz qh0z rfl (qaz (pv 0)) T.m_isinstance T.m_int rfl (by decide) (by decide)) ?_;refine qcqz (qiaz (qbgz qe5z rfl (qaz (pv 0)) T.m_isinstance T.m_bool rfl (by decide) (by decide)))
theorem q0kz(T:Txt K mg t):FnOk3 P w K mg base 1 t.f_z26 t.d_z26 ["found"] qbsz:=(qgoz T).calm
theorem q0lz:∀ds G Q,(qb8z rs) ds G Q->ds.length=1:=by
 intro ds G Q h
 first
  | (rcases ds with _|⟨_,_|⟨_,_|⟨_,_|⟨_,_⟩⟩⟩⟩<;>first|rfl|exact h.elim)
  | (obtain⟨rfl,_⟩:=h;rfl)
  | (obtain⟨_,rfl,_⟩:=h;rfl)
  | (obtain⟨_,_,rfl,_⟩:=h;rfl)
  | (obtain⟨_,_,_,rfl,_⟩:=h;rfl)
  | (obtain⟨_,_,_,_,rfl,_⟩:=h;rfl)
  | (obtain⟨_,_,_,_,_,rfl,_⟩:=h;rfl)
  | (obtain⟨_,_,_,_,_,_,rfl,_⟩:=h;rfl)
  | (obtain⟨_,_,_,_,_,_,_,rfl,_⟩:=h;rfl)
  | (obtain⟨_,_,_,_,_,_,_,_,rfl,_⟩:=h;rfl)
theorem qk2z(T:Txt K mg t):FnH3 P w K mg base 1 t.f_z13 t.d_z13 ["e"] (qb8z rs):=by
 refine qfnH (k:=0) (sp:=(qb8z rs)) T.F_z13 sc_z13 (by decide) q0lz (qjhz rs) (fun cdv A outer s H E hr=>?_) (qugz rs);refine qfz (qnz (i:=1) sc_z13.nd ?_) ?_;refine q4z (qbz (qbvz (T.isx_NoClock) (qaz (pv 0)) T.m_isinstance T.m_NoClock) ?_);refine qbz (qbvz (T.isx_NoNumber) (qaz (pv 0)) T.m_isinstance T.m_NoNumber) ?_;refine qbz (qbvz (T.isx_NoPlace) (qaz (pv 0)) T.m_isinstance T.m_NoPlace) (qbz (qbvz (T.isx_NoRow) (qaz (pv 0)) T.m_isinstance T.m_NoRow) qcz);refine qfz ?_ ?_;refine qnz (i:=1) sc_z13.nd (qhz quz qtz (qaz (pv 1)) (q4z ?_));refine qbz (qbvz (T.isx_NoClocks) (qaz (pv 0)) T.m_isinstance T.m_NoClocks) ?_;refine qbz (qbvz (T.isx_NoText) (qaz (pv 0)) T.m_isinstance T.m_NoText) (qbz (qbvz (T.isx_TooGreat) (qaz (pv 0)) T.m_isinstance T.m_TooGreat) qcz);refine qfz (q1z (qbdz ?_) (qez (qjz qaez)) q0z) (qez (qjz ?_));refine qasz (qaoz (qanz (qt7z (T.isv) (qaz (pv 0)) T.m_isinstance T.m_ValueError))) (qbqz ?_);refine qqz l_ne (qa4z hr.units) (qfaz qtyz PySem.F.slot_list_count PySem.F.type_list_count qtwz (qaz (pv 1)) (qbz q8z qcz)) qdz (nomark _);refine qe8z (qbz qaez (qbz qaez (qbz qaez (qbz qaez (qbz qaez (qbz qaez (qbz qaez qcz))))))) ?_;refine qfaz qtzz PySem.F.slot_list_index PySem.F.type_list_index qtxz (qaz (pv 1)) (qbz q8z qcz)
theorem q0mz:∀ds G Q,(qc5z rs) ds G Q->ds.length=1:=by
 intro ds G Q h
 first
  | (rcases ds with _|⟨_,_|⟨_,_|⟨_,_|⟨_,_⟩⟩⟩⟩<;>first|rfl|exact h.elim)
  | (obtain⟨rfl,_⟩:=h;rfl)
  | (obtain⟨_,rfl,_⟩:=h;rfl)
  | (obtain⟨_,_,rfl,_⟩:=h;rfl)
  | (obtain⟨_,_,_,rfl,_⟩:=h;rfl)
  | (obtain⟨_,_,_,_,rfl,_⟩:=h;rfl)
  | (obtain⟨_,_,_,_,_,rfl,_⟩:=h;rfl)
  | (obtain⟨_,_,_,_,_,_,rfl,_⟩:=h;rfl)
  | (obtain⟨_,_,_,_,_,_,_,rfl,_⟩:=h;rfl)
  | (obtain⟨_,_,_,_,_,_,_,_,rfl,_⟩:=h;rfl)
theorem q0nz(T:Txt K mg t):FnH3 P w K mg base 2 t.f_z6 t.d_z6 ["e"] (qc5z rs):=by
 refine qfnH (k:=1) (sp:=(qc5z rs)) T.F_z6 qzaz (by decide) q0mz (qjiz rs) (fun cdv A outer s H E hr=>?_) (quiz rs);refine qfz ?_ (qez (qjz (q3z (qbz qaez (qbz (qegz T.fld_many (qaz (pv 0))) (qbz (qegz T.fld_most (qaz (pv 0))) qcz))))));refine q1z (qbdz ?_) (qez (qjz ?_)) q0z;refine qasz (qqz l_ne (qa4z hr.units) ?_ qaez (nomark _)) ?_;refine qc3z ((qk2z T).mono (by decide)) hr T.m_z13 T.F_z13.kp T.b_z13 (qbz (qaz (pv 0)) qcz);refine qasz (qaoz ?_) (qbqz (qaoz ?_));refine qanz (qc3z ((qgoz T).mono (by decide)) hr T.m_z26 T.F_z26.kp T.b_z26 (qbz (qegz T.fld_many (qaz (pv 0))) qcz));refine qanz (qc3z ((qgoz T).mono (by decide)) hr T.m_z26 T.F_z26.kp T.b_z26 (qbz (qegz T.fld_most (qaz (pv 0))) qcz));refine q3z (qbz (qc3z ((qk2z T).mono (by decide)) hr T.m_z13 T.F_z13.kp T.b_z13 (qbz (qaz (pv 0)) qcz)) qcz)
theorem qk3z:∀ds G Q,qbtz ds G Q->ds.length=2:=by
 intro ds G Q h
 first
  | (rcases ds with _|⟨_,_|⟨_,_|⟨_,_|⟨_,_⟩⟩⟩⟩<;>first|rfl|exact h.elim)
  | (obtain⟨rfl,_⟩:=h;rfl)
  | (obtain⟨_,rfl,_⟩:=h;rfl)
  | (obtain⟨_,_,rfl,_⟩:=h;rfl)
  | (obtain⟨_,_,_,rfl,_⟩:=h;rfl)
  | (obtain⟨_,_,_,_,rfl,_⟩:=h;rfl)
  | (obtain⟨_,_,_,_,_,rfl,_⟩:=h;rfl)
  | (obtain⟨_,_,_,_,_,_,rfl,_⟩:=h;rfl)
  | (obtain⟨_,_,_,_,_,_,_,rfl,_⟩:=h;rfl)
  | (obtain⟨_,_,_,_,_,_,_,_,rfl,_⟩:=h;rfl)
theorem q0oz(T:Txt K mg t):FnOk3 P w K mg base 1 t.f_z33 t.d_z33 ["one","other"] qbtz:=by
 refine qfn3 (k:=0) (sp:=qbtz) T.F_z33 sc_z33 (by decide) qk3z (qitz) (fun cdv A outer s H E hr=>?_) qiuz;refine qfz ?_ (qez (qjz (qaz (pv 0))));refine qe7z PassesOwn.never (qqz l_gt qchz (qaz (pv 1)) qdz (nomark _)) ?_;refine qez (qq1z (i:=0) (j:=1) rfl sc_z33.nd rfl rfl (by decide) rfl rfl ?_ rfl);refine qbz (qaz (pv 1)) (qbz (qhz qarz qaqz (qaz (pv 0)) (qaz (pv 1))) qcz)
theorem q0pz(T:Txt K mg t):FnP3 P w K mg base 1 t.f_z33 t.d_z33 ["one","other"] qbtz:=by
 refine qfnP (k:=0) (sp:=qbtz) T.F_z33 sc_z33 (by decide) qk3z (qitz) (fun cdv A outer s H E e oe hr hA=>?_) qiuz;refine qfz ?_ (qez (qjz (qaz (pv 0))));refine qe7z PassesOwn.never (qqz l_gt qchz (qaz (pv 1)) qdz (nomark _)) ?_;refine qez (qwnz (i:=0) (j:=1) hA sc_z33.nd rfl rfl (by decide) rfl rfl ?_ rfl);refine qbz (qaz (pv 1)) (qbz (qhz qarz qaqz (qaz (pv 0)) (qaz (pv 1))) qcz)
theorem qk4z:∀ds G Q,qa8z ds G Q->ds.length=1:=by
 intro ds G Q h;obtain⟨_,_,rfl,_⟩:=h;rfl
theorem q0qz(T:Txt K mg t):FnOk3 P w K mg base 2 t.f_z27 t.d_z27 ["clocks"] qa8z:=by
 refine qfn3 (k:=1) (sp:=qa8z) T.F_z27 sc_z27 (by decide) qk4z (qj9z) (fun cdv A outer s H E hr=>?_) qxbz;refine qfz (qnz (i:=1) sc_z27.nd qdz) (qfz ?_ (qez (qjz (qaz (pv 1)))));refine qbez PassesOwn.never rfl (qajz (qaz (pv 0))) ?_ (qez ?_);refine qctz rfl (qaiz (qmz (i:=2) sc_z27.nd) (qaiz (qmz (i:=3) sc_z27.nd) qb3z));refine qnz (i:=1) sc_z27.nd (qhz qcmz qclz (qhz qa3z qa2z (qaz (pv 1)) (qaz (pv 2))) ?_);refine qkz ((q0oz T).mono (by decide)) hr T.m_z33 T.F_z33.kp T.b_z33 (qbz (qaz (pv 1)) (qbz (qaz (pv 2)) qcz))
theorem q0rz(T:Txt K mg t):FnP3 P w K mg base 2 t.f_z27 t.d_z27 ["clocks"] qa8z:=by
 refine qfnP (k:=1) (sp:=qa8z) T.F_z27 sc_z27 (by decide) qk4z (qkaz) (fun cdv A outer s H E e oe hr hA=>?_) qxcz;refine qfz (qnz (i:=1) sc_z27.nd qdz) (qfz ?_ (qez (qjz (qaz (pv 1)))));refine qwtz PassesOwn.never hA (qaz (pv 0)) (qwmz hA (qaiz (qmz (i:=2) sc_z27.nd) (qaiz (qmz (i:=3) sc_z27.nd) qb3z))) ?_;refine qez ?_;refine qnz (i:=1) sc_z27.nd (qhz qcmz qclz (qhz qa3z qa2z (qaz (pv 1)) (qaz (pv 2))) ?_);refine qwkz ((q0pz T).mono (by decide)) hr hA T.m_z33 T.F_z33.kp T.b_z33 (qbz (qaz (pv 1)) (qbz (qaz (pv 2)) qcz))
theorem q0sz:∀ds G Q,qdgz ds G Q->ds.length=2:=by
 intro ds G Q h;obtain⟨_,_,_,rfl,_⟩:=h;rfl
theorem q0tz(T:Txt K mg t):FnOk3 P w K mg base 1 t.f_z36 t.d_z36 ["clocks","number"] qdgz:=by
 refine qfn3 (k:=0) (sp:=qdgz) T.F_z36 qzdz (by decide) q0sz (qj2z) (fun cdv A outer s H E hr=>?_) qv4z;refine qez (qjz ?_);refine qafz rfl (show CmpOk qkvz (defScope qeoz) _ ["clock"] [1] from⟨rfl,by decide +kernel,by decide +kernel,by decide +kernel,by decide +kernel,by decide +kernel⟩) ?_ ?_;refine qajz (qaz (pv 0));intro s0 H0 fp0;refine⟨(qmz (i:=0) (show (["clock","number"]:List Str).Nodup by decide +kernel)),(qcuz ?_),(qaz (pv 0))⟩;refine qqz l_eq (qb1z hr.units) (qhz qarz qaqz (qhz qdyz qdoz (qaz (pv 1)) (qwz (qaz (pv 0)) qdz)) (qwz (qaz (pv 0)) qdz)) qdz (nomark _)
theorem q0uz:∀ds G Q,qc1z ds G Q->ds.length=2:=by
 intro ds G Q h;obtain⟨_,_,rfl,_⟩:=h;rfl
theorem q0vz(T:Txt K mg t):FnOk3 P w K mg base 3 t.f_z28 t.d_z28 ["pen","times"] qc1z:=by
 refine qfn3 (k:=2) (sp:=qc1z) T.F_z28 sc_z28 (by decide) q0uz (qixz) (fun cdv A outer s H E hr=>?_) qsgz;refine qfz (qnz (i:=2) sc_z28.nd (q4z (qbz (q3z (qbz qdz (qbz qdz qcz))) qcz))) ?_;refine qfz ?_ (qez (qjz (qaz (pv 2))));refine qbez PassesOwn.never rfl (qb4z T.m_range (qbz (qaz (pv 1)) qcz)) (qmz (i:=3) sc_z28.nd) ?_;refine qfz (qnz (i:=4) sc_z28.nd ?_) ?_;refine qkz ((qagz T).mono (by decide)) hr T.m_z32 T.F_z32.kp T.b_z32 ?_;refine qbz (qaz (pv 0)) (qbz (q9z hr.units T.m_len (qbz (qaz (pv 2)) qcz)) qcz);refine qfz ?_ ?_;refine qnz (i:=5) sc_z28.nd (qe8z (qbz qdz (qbz qdz (qbz qdz qcz))) ?_);refine qkz ((qagz T).mono (by decide)) hr T.m_z32 T.F_z32.kp T.b_z32 (qbz (qaz (pv 0)) (qbz qdz qcz));refine qfz ?_ (qez ?_);refine qd7z (qwz (qaz (pv 2)) (qaz (pv 4))) (qctz rfl (qaiz (qmz (i:=6) sc_z28.nd) (qaiz (qmz (i:=7) sc_z28.nd) qb3z)));refine q1z (qbdz ?_) (qez (qnz (i:=2) sc_z28.nd ?_)) q0z;refine qqqz (qqz qb0z (qbzz hr.units0) (qhz quz qtz (q9z hr.units T.m_len (qbz (qaz (pv 2)) qcz)) (qaz (pv 5))) qdz (nomark _)) ?_;refine qqpz (qqz qb0z (qbzz hr.units0) (qhz qa3z qa2z (qaz (pv 6)) (qaz (pv 5))) qdz (nomark _));refine qhz quz qtz ?_ (qbrz (qaz (pv 2)) (qbfz (qhz quz qtz (qaz (pv 4)) qdz)) qb5z);refine qhz quz qtz (qbrz (qaz (pv 2)) qb5z (qbfz (qaz (pv 4)))) ?_;refine qafz rfl (show CmpOk qkwz (defScope qepz) _ ["part"] [6,5,7] from⟨rfl,by decide +kernel,by decide +kernel,by decide +kernel,by decide +kernel,by decide +kernel⟩) ?_ ?_;refine qb4z T.m_range (qbz (qaz (pv 5)) qcz);intro s0 H0 fp0;refine⟨(qmz (i:=0) (show (["part","step","k","rest"]:List Str).Nodup by decide +kernel)),qa5z,?_⟩;refine q3z (qbz (qhz qa3z qa2z (qaz (pv 1)) (qaz (pv 2))) ?_);refine qbz (qhz quz qtz (qaz (pv 3)) (qhz qa3z qa2z (qaz (pv 1)) (qaz (pv 0)))) qcz
theorem q0wz:∀ds G Q,qdhz ds G Q->ds.length=2:=by
 intro ds G Q h;obtain⟨_,_,_,rfl,_⟩:=h;rfl
theorem q0xz(T:Txt K mg t):FnOk3 P w K mg base 3 t.f_z14 t.d_z14 ["steps","rests"] qdhz:=by
 refine qfn3 (k:=2) (sp:=qdhz) T.F_z14 sc_z14 (by decide) q0wz (qkcz) (fun cdv A outer s H E hr=>?_) qxez;refine qfz (qnz (i:=2) sc_z14.nd (qvlz rfl T.m_zip T.m_list (qbz (qaz (pv 0)) (qbz (qaz (pv 1)) qcz)))) ?_;refine qez (qjz (qd8z hr.units T.m_all (qbz ?_ qcz)));refine qafz rfl (show CmpOk qkxz (defScope qeqz) _ ["number"] [2] from⟨rfl,by decide +kernel,by decide +kernel,by decide +kernel,by decide +kernel,by decide +kernel⟩) ?_ ?_;refine qb4z T.m_range (qbz (qkz ((q0qz T).mono (by decide)) hr T.m_z27 T.F_z27.kp T.b_z27 (qbz (qaz (pv 2)) qcz)) qcz);intro s0 H0 fp0;refine⟨(qmz (i:=0) (show (["number","clocks"]:List Str).Nodup by decide +kernel)),qa5z,(qcpz l_ne (qa4z hr.units) ?_ (q4z qcz) (nomark _))⟩;refine qkz ((q0tz T).mono (by decide)) hr T.m_z36 T.F_z36.kp T.b_z36 (qbz (qaz (pv 1)) (qbz (qaz (pv 0)) qcz))
theorem q0yz:∀ds G Q,qdjz ds G Q->ds.length=1:=by
 intro ds G Q h;obtain⟨_,rfl,_⟩:=h;rfl
theorem q0zz(T:Txt K mg t):FnOk3 P w K mg base 4 t.f_z25 t.d_z25 ["pen"] qdjz:=by
 refine qfn3 (k:=3) (sp:=qdjz) T.F_z25 sc_z25 (by decide) q0yz (qkhz) (fun cdv A outer s H E hr=>?_) qxrz;refine qfz (qnz (i:=1) sc_z25.nd (qbrz ?_ qb5z (qbfz qdz))) ?_;refine qafz rfl (show CmpOk qerz (defScope qcez) _ ["clock"] [] from⟨rfl,by decide +kernel,by decide +kernel,by decide +kernel,by decide +kernel,by decide +kernel⟩) ?_ ?_;refine qajz ?_;refine qkz ((q0vz T).mono (by decide)) hr T.m_z28 T.F_z28.kp T.b_z28 ?_;refine qbz (qaz (pv 0)) (qbz (qhz quz qtz qdz ?_) qcz);refine qkz ((qagz T).mono (by decide)) hr T.m_z32 T.F_z32.kp T.b_z32 (qbz (qaz (pv 0)) (qbz qdz qcz));intro s0 H0 fp0;refine⟨(qmz (i:=0) (show (["clock"]:List Str).Nodup by decide +kernel)),(qcuz (qqz l_gt qchz (qwz (qaz (pv 0)) qdz) qdz (nomark _))),?_⟩;refine qaz (pv 0);refine qfz ?_ ?_;refine q1z (qqz l_eq (qb1z hr.units) (qaz (pv 1)) (q4z qcz) (nomark _)) (qez (qnz (i:=1) sc_z25.nd ?_)) q0z;refine q4z (qbz (q3z (qbz qdz (qbz qdz qcz))) (qbz (q3z (qbz qdz (qbz qdz qcz))) qcz));refine qfz ?_ (qez (qjz (q3z ?_)));refine qbez PassesOwn.never rfl (qb4z T.m_range ?_) (qmz (i:=2) sc_z25.nd) (qez ?_);refine qbz (qkz ((qagz T).mono (by decide)) hr T.m_z32 T.F_z32.kp T.b_z32 (qbz (qaz (pv 0)) (qbz qdz qcz))) qcz;refine q1z (qqz qb0z (qbzz hr.units0) (q9z hr.units T.m_len (qbz (qaz (pv 1)) qcz)) qdz (nomark _)) ?_ q0z;refine qfz (qnz (i:=3) sc_z25.nd (qhz quz qtz qdz ?_)) (qez (qcsz ?_));refine qkz ((qagz T).mono (by decide)) hr T.m_z32 T.F_z32.kp T.b_z32 (qbz (qaz (pv 0)) (qbz qdz qcz));refine qfaz qw6z PySem.F.slot_list_insert PySem.F.type_list_insert qw5z (qaz (pv 1)) ?_;refine qbz ?_ (qbz (q3z (qbz (qaz (pv 3)) ?_)) qcz);refine qkz ((qagz T).mono (by decide)) hr T.m_z32 T.F_z32.kp T.b_z32 ?_;refine qbz (qaz (pv 0)) (qbz (qhz quz qtz (q9z hr.units T.m_len (qbz (qaz (pv 1)) qcz)) qdz) qcz);refine qbz (qkz ((qagz T).mono (by decide)) hr T.m_z32 T.F_z32.kp T.b_z32 (qbz (qaz (pv 0)) (qbz (qaz (pv 3)) qcz))) (qcz);refine qbz ?_ (qbz (qe9z hr.units T.m_tuple (qbz ?_ qcz)) qcz);refine qafz rfl (show CmpOk qerz (defScope qcez) _ ["clock"] [] from⟨rfl,by decide +kernel,by decide +kernel,by decide +kernel,by decide +kernel,by decide +kernel⟩) ?_ ?_;refine qajz (qaz (pv 1));intro s0 H0 fp0;refine⟨(qmz (i:=0) (show (["clock"]:List Str).Nodup by decide +kernel)),qa5z,(qwz (qaz (pv 0)) qdz)⟩;refine qafz rfl (show CmpOk qerz (defScope qcez) _ ["clock"] [] from⟨rfl,by decide +kernel,by decide +kernel,by decide +kernel,by decide +kernel,by decide +kernel⟩) ?_ ?_;refine qajz (qaz (pv 1));intro s0 H0 fp0;refine⟨(qmz (i:=0) (show (["clock"]:List Str).Nodup by decide +kernel)),qa5z,(qwz (qaz (pv 0)) qdz)⟩
theorem q00z:∀ds G Q,qdiz ds G Q->ds.length=2:=by
 intro ds G Q h
 first
  | (rcases ds with _|⟨_,_|⟨_,_|⟨_,_|⟨_,_⟩⟩⟩⟩<;>first|rfl|exact h.elim)
  | (obtain⟨rfl,_⟩:=h;rfl)
  | (obtain⟨_,rfl,_⟩:=h;rfl)
  | (obtain⟨_,_,rfl,_⟩:=h;rfl)
  | (obtain⟨_,_,_,rfl,_⟩:=h;rfl)
  | (obtain⟨_,_,_,_,rfl,_⟩:=h;rfl)
  | (obtain⟨_,_,_,_,_,rfl,_⟩:=h;rfl)
  | (obtain⟨_,_,_,_,_,_,rfl,_⟩:=h;rfl)
  | (obtain⟨_,_,_,_,_,_,_,rfl,_⟩:=h;rfl)
  | (obtain⟨_,_,_,_,_,_,_,_,rfl,_⟩:=h;rfl)
theorem q01z(T:Txt K mg t):FnOk3 P w K mg base 4 t.f_z18 t.d_z18 ["steps","thing"] qdiz:=by
 refine qfn3 (k:=3) (sp:=qdiz) T.F_z18 qzez (by decide) q00z (qfzz) (fun cdv A outer s H E hr=>?_) qxmz;refine qfz (q1z (qbdz ?_) (qez (qjz q8z)) q0z) ?_;refine qasz (qaoz (qanz (qbgz kit_tuple rfl (qaz (pv 1)) T.m_isinstance T.m_tuple rfl (by decide) (by decide)))) ?_;refine qasz ?_ (qbqz (qaoz (qanz (qd8z hr.units T.m_all (qbz ?_ qcz)))));refine qqz l_ne (qa4z hr.units) (q9z hr.units T.m_len (qbz (qaz (pv 1)) qcz)) (q9z hr.units T.m_len (qbz (qaz (pv 0)) qcz)) (nomark _);refine qafz rfl (show CmpOk qgmz (defScope qdlz) _ ["one"] [] from⟨rfl,by decide +kernel,by decide +kernel,by decide +kernel,by decide +kernel,by decide +kernel⟩) ?_ ?_;refine qajz (qaz (pv 1));intro s0 H0 fp0;refine⟨(qmz (i:=0) (show (["one"]:List Str).Nodup by decide +kernel)),qa5z,?_⟩;refine qkz ((q0kz T).mono (by decide)) hr T.m_z26 T.F_z26.kp T.b_z26 (qbz (qaz (pv 0)) qcz);refine qfz ?_ (qez (qjz ?_));refine q1z (qqz l_ne (qa4z hr.units) ?_ (q4z qcz) (nomark _)) (qez (qjz q8z)) q0z;refine qafz rfl (show CmpOk qgmz (defScope qdlz) _ ["k"] [1,0] from⟨rfl,by decide +kernel,by decide +kernel,by decide +kernel,by decide +kernel,by decide +kernel⟩) ?_ ?_;refine qb4z T.m_range (qbz (q9z hr.units T.m_len (qbz (qaz (pv 0)) qcz)) qcz);intro s0 H0 fp0;refine⟨(qmz (i:=0) (show (["k","thing","steps"]:List Str).Nodup by decide +kernel)),?_,(qaz (pv 0))⟩;refine qcuz (qqzz (qwz (qaz (pv 1)) (qaz (pv 0))) T.m_range (qbz (qwz (qaz (pv 2)) (qaz (pv 0))) qcz));refine qkz ((q0xz T).mono (by decide)) hr T.m_z14 T.F_z14.kp T.b_z14 (qbz (qaz (pv 0)) (qbz (qaz (pv 1)) qcz))
theorem q02z:∀ds G Q,qcdz ds G Q->ds.length=3:=by
 intro ds G Q h
 first
  | (rcases ds with _|⟨_,_|⟨_,_|⟨_,_|⟨_,_⟩⟩⟩⟩<;>first|rfl|exact h.elim)
  | (obtain⟨rfl,_⟩:=h;rfl)
  | (obtain⟨_,rfl,_⟩:=h;rfl)
  | (obtain⟨_,_,rfl,_⟩:=h;rfl)
  | (obtain⟨_,_,_,rfl,_⟩:=h;rfl)
  | (obtain⟨_,_,_,_,rfl,_⟩:=h;rfl)
  | (obtain⟨_,_,_,_,_,rfl,_⟩:=h;rfl)
  | (obtain⟨_,_,_,_,_,_,rfl,_⟩:=h;rfl)
  | (obtain⟨_,_,_,_,_,_,_,rfl,_⟩:=h;rfl)
  | (obtain⟨_,_,_,_,_,_,_,_,rfl,_⟩:=h;rfl)
theorem qk5z(T:Txt K mg t):FnOk3 P w K mg base 3 t.f_z30 t.d_z30 ["pen","steps","rests"] qcdz:=by
 refine qfn3 (k:=2) (sp:=qcdz) T.F_z30 sc_z30 (by decide) q02z (qkjz) (fun cdv A outer s H E hr=>?_) qxxz;refine qfz (qnz (i:=3) sc_z30.nd ?_) ?_;refine qkz ((qagz T).mono (by decide)) hr T.m_z32 T.F_z32.kp T.b_z32 ?_;refine qbz (qaz (pv 0)) (qbz (q9z hr.units T.m_len (qbz (qaz (pv 2)) qcz)) qcz);refine qfz (qnz (i:=4) sc_z30.nd (q4z ?_)) ?_;refine qbz (qwz (qaz (pv 1)) (qaz (pv 3))) (qbz (qqoz qdz) (qbz q8z (qbz qb2z (qbz qaez ?_))));refine qbz (qhz quz qtz (qwz (qaz (pv 2)) (qaz (pv 3))) (qwz (qaz (pv 1)) (qaz (pv 3)))) ?_;refine qbz ?_ (qbz (q3z (qbz qdz qcz)) qcz);refine qkz ((qagz T).mono (by decide)) hr T.m_z32 T.F_z32.kp T.b_z32 ?_;refine qbz (qaz (pv 0)) (qbz (qwz (qaz (pv 1)) (qaz (pv 3))) qcz);refine qfz (qnz (i:=5) sc_z30.nd ?_) ?_;refine qkz ((qagz T).mono (by decide)) hr T.m_z32 T.F_z32.kp T.b_z32 (qbz (qaz (pv 0)) (qbz qdz qcz));refine qfz ?_ (qez (qjz ?_));refine q1z (qqz qb0z (qbzz hr.units0) (qaz (pv 5)) qdz (nomark _)) (qez (qjz ?_)) q0z;refine qhz quz qtz ?_ (qbrz (qaz (pv 2)) (qbfz (qhz quz qtz (qaz (pv 3)) qdz)) qb5z);refine qhz quz qtz (qbrz (qaz (pv 2)) qb5z (qbfz (qaz (pv 3)))) (q3z (qbz (qwz (qaz (pv 4)) (qaz (pv 5))) qcz));refine qe8z (qbz (qbrz (qaz (pv 2)) (qbfz qdz) qb5z) ?_) (qhz qdyz qdoz (qaz (pv 5)) qdz);refine qbz (qhz quz qtz (qaz (pv 2)) (q3z (qbz qdz qcz))) (qbz (qqwz hr.units T.m_list (qbz (qaz (pv 2)) qcz)) ?_);refine qbz (qqyz (qaz (pv 2))) (qbz (q3z (qbz (qaz (pv 2)) qcz)) qcz)
theorem q03z:∀ds G Q,qdkz ds G Q->ds.length=1:=by
 intro ds G Q h
 first
  | (rcases ds with _|⟨_,_|⟨_,_|⟨_,_|⟨_,_⟩⟩⟩⟩<;>first|rfl|exact h.elim)
  | (obtain⟨rfl,_⟩:=h;rfl)
  | (obtain⟨_,rfl,_⟩:=h;rfl)
  | (obtain⟨_,_,rfl,_⟩:=h;rfl)
  | (obtain⟨_,_,_,rfl,_⟩:=h;rfl)
  | (obtain⟨_,_,_,_,rfl,_⟩:=h;rfl)
  | (obtain⟨_,_,_,_,_,rfl,_⟩:=h;rfl)
  | (obtain⟨_,_,_,_,_,_,rfl,_⟩:=h;rfl)
  | (obtain⟨_,_,_,_,_,_,_,rfl,_⟩:=h;rfl)
  | (obtain⟨_,_,_,_,_,_,_,_,rfl,_⟩:=h;rfl)
theorem q04z(T:Txt K mg t):FnOk3 P w K mg base 6 t.f_z9 t.d_z9 ["steps"] qdkz:=by
 refine qfn3 (k:=5) (sp:=qdkz) T.F_z9 sc_z9 (by decide) q03z (qkmz rs) (fun cdv A outer s H E hr=>?_) qx1z;refine qwoz (i:=1) (names:=rs) frame0 T.takes T.m_ClockError sc_z9.nd ?_ ?_ (qez (qjz q8z));refine qt3z (qurz ((qdmz T).mono (by decide)) hr T.m_z20 T.F_z20.kp T.b_z20 (qbz (qaz (pv 0)) (qbz qb2z qcz))) ?_;refine qt4z;intro e0;refine qez (qjz ?_);refine qcpz l_eq (qb1z hr.units) ?_ (q3z (qbz qaez (qbz ?_ (qbz qdz qcz)))) (nomark _);refine qc3z ((q0nz T).mono (by decide)) hr.h.mark T.m_z6 T.F_z6.kp T.b_z6 (qbz (qaz (pv 1)) qcz);refine qwlz ((q0rz T).mono (by decide)) hr.h.mark rfl T.m_z27 T.F_z27.kp T.b_z27 (qbz (qwwz ?_) qcz);refine qw3z rfl (show CmpOk qkyz (defScope qesz) _ ["step"] [] from⟨rfl,by decide +kernel,by decide +kernel,by decide +kernel,by decide +kernel,by decide +kernel⟩) (qaz (pv 0)) ?_;intro s0 H0 fp0;refine⟨(qmz (i:=0) (show (["step"]:List Str).Nodup by decide +kernel)),qa5z,(q3z (qbz (qaz (pv 0)) (qbz qdz qcz)))⟩
theorem q05z:∀ds G Q,sp_law ds G Q->ds.length=1:=by
 intro ds G Q h;obtain⟨_,rfl,_⟩:=h;rfl
theorem ok_law(T:Txt K mg t):FnOk3 P w K mg base 7 t.f_law t.d_law ["script"] sp_law:=by
 refine qfn3 (k:=6) (sp:=sp_law) T.F_law sc_law (by decide) q05z (qkoz) (fun cdv A outer s H E hr=>?_) qydz;refine qfz (q1z (qbdz ?_) (qez (qjz q8z)) q0z) (qfz ?_ (qez (qjz q8z)));refine qasz (qqz qh9z qh8z ?_ q8z (nomark _)) (qbqz (qqz qh9z qh8z ?_ q8z (nomark _)));refine qehz ((qdmz T).mono (by decide)) hr passN T.m_z20 T.F_z20.kp T.b_z20 ?_;refine qbz (q4z (qbz qdz (qbz qdz qcz))) (qbz (q3z (qbz qdz (qbz qdz qcz))) qcz);refine qehz ((qdmz T).mono (by decide)) hr passN T.m_z20 T.F_z20.kp T.b_z20 ?_;refine qbz (q4z (qbz qdz qcz)) (qbz (q3z (qbz qdz qcz)) qcz);refine qbez PassesOwn.never rfl (qajz ?_) (qmz (i:=1) sc_law.nd) ?_;refine qhz quz qtz (q4z ?_) (qbrz (qaz (pv 0)) (qbfz qdz) (qbfz qdz));refine qbz (qkz ((q0ez T).mono (by decide)) hr T.m_z11 T.F_z11.kp T.b_z11 (qbz (qaz (pv 0)) (qbz qdz qcz))) (qcz);refine qfz ?_ ?_;refine qnz (i:=2) sc_law.nd (qkz ((q0hz T).mono (by decide)) hr T.m_z19 T.F_z19.kp T.b_z19 (qbz (qaz (pv 1)) qcz));refine qfz ?_ ?_;refine qd7z (qkz ((q0zz T).mono (by decide)) hr T.m_z25 T.F_z25.kp T.b_z25 (qbz (qaz (pv 2)) qcz)) ?_;refine qctz rfl (qaiz (qmz (i:=3) sc_law.nd) (qaiz (qmz (i:=4) sc_law.nd) qb3z));refine qfz (qnz (i:=5) sc_law.nd (q4z (qbz (qaz (pv 4)) ?_))) ?_;refine qbz ?_ ?_;refine qkz ((qk5z T).mono (by decide)) hr T.m_z30 T.F_z30.kp T.b_z30 ?_;refine qbz (qaz (pv 2)) (qbz (qaz (pv 3)) (qbz (qaz (pv 4)) qcz));refine qbz ?_ ?_;refine qkz ((qk5z T).mono (by decide)) hr T.m_z30 T.F_z30.kp T.b_z30 ?_;refine qbz (qaz (pv 2)) (qbz (qaz (pv 3)) (qbz (qaz (pv 4)) qcz));refine qbz qb2z (qbz (q3z qcz) (qbz qdz (qbz qaez (qbz qqxz (qbz (q4z (qbz (qaz (pv 4)) qcz)) qcz)))));refine qfz ?_ (qez (q1z (qaoz (qanz ?_)) (qez (qjz q8z)) q0z));refine qbez PassesOwn.never rfl (qajz ?_) (qmz (i:=6) sc_law.nd) ?_;refine qhz quz qtz (qaz (pv 5)) (q4z (qbz (qe9z hr.units T.m_tuple (qbz ?_ qcz)) qcz));refine qafz rfl (show CmpOk qkzz (defScope qetz) _ ["step"] [2] from⟨rfl,by decide +kernel,by decide +kernel,by decide +kernel,by decide +kernel,by decide +kernel⟩) ?_ ?_;refine qajz (qaz (pv 3));intro s0 H0 fp0;refine⟨(qmz (i:=0) (show (["step","pen"]:List Str).Nodup by decide +kernel)),qa5z,?_⟩;refine qkz ((qagz T).mono (by decide)) hr T.m_z32 T.F_z32.kp T.b_z32 (qbz (qaz (pv 1)) (qbz (qaz (pv 0)) qcz));refine qfz (qnz (i:=7) sc_law.nd ?_) ?_;refine qkz ((q01z T).mono (by decide)) hr T.m_z18 T.F_z18.kp T.b_z18 (qbz (qaz (pv 3)) (qbz (qaz (pv 6)) qcz));refine qfz (qnz (i:=8) sc_law.nd ?_) (qez (q1z (qbdz ?_) (qez (qjz q8z)) q0z));refine qehz ((qdmz T).mono (by decide)) hr passN T.m_z20 T.F_z20.kp T.b_z20 (qbz (qaz (pv 3)) (qbz (qaz (pv 6)) qcz));refine qasz (qaoz (qanz (qbgz qe5z rfl (qaz (pv 8)) T.m_isinstance T.m_bool rfl (by decide) (by decide)))) ?_;refine qasz (qqz l_ne (qa4z hr.units) (qaz (pv 8)) (qaz (pv 7)) (nomark _)) (qbqz (qqz l_ne (qa4z hr.units) ?_ (qaz (pv 7)) (nomark _)));refine qehz ((qdmz T).mono (by decide)) hr passN T.m_z20 T.F_z20.kp T.b_z20 (qbz (qaz (pv 3)) (qbz (qaz (pv 6)) qcz));refine qkz ((q04z T).mono (by decide)) hr T.m_z9 T.F_z9.kp T.b_z9 (qbz ?_ qcz)
 refine qhz quz qtz (q4z ?_) (qhz qa3z qa2z (q4z (qbz qdz qcz)) ?_);refine qbz qdz (qbz qdz (qbz qdz (qbz (qhz qdyz qdoz qdz ?_) qcz)));refine qkz ((qagz T).mono (by decide)) hr T.m_z32 T.F_z32.kp T.b_z32 (qbz (qaz (pv 2)) (qbz qdz qcz));refine qkz ((qagz T).mono (by decide)) hr T.m_z32 T.F_z32.kp T.b_z32 (qbz (qaz (pv 2)) (qbz qdz qcz))
end
def Has(K:PySem.W.Frag)(nm:Str)(st:Stmt):Prop:=∃f d,Fun K nm nm st f d/\PySem.W.nsIn K mainGlobals nm=some (some (.ref f))
theorem has_mk{K:PySem.W.Frag}{nm:Str}{st:Stmt}{f:Addr}{od an:Option Addr}{sl:Array (Option Value)}{oc kV dc pm cd ct:Value}(a:PySem.W.nsIn K mainGlobals nm=some (some (.ref f)))(l:K.lookup f=some ⟨oc,od,.func (PySem.W.fnOf nm nm (defArgs st) (defBody st) (defScope st) .none kV dc pm an cd ct),sl⟩)(c:PySem.W.codeIn K cd nm=true)(k:PySem.W.keepIn K (.ref f)=true):Has K nm st:=⟨f,_,qhcz l c k,a⟩
theorem txt_mk{K:PySem.W.Frag}{h:Heap}{mg:Str->Option Value}(X:K.In h)(G:h.Ns mainGlobals mg)
  (h0:Has K "whole_good" qf1z)
  (h1:Has K "refuse_above" qf2z)
  (h2:Has K "doubled" qf3z)
  (h3:Has K "common_divisor" qf4z)
  (h4:Has K "common_multiple" qf5z)
  (h5:Has K "rings" qf6z)
  (h6:Has K "rings_at" qekz)
  (h7:Has K "window_of" qf7z)
  (h8:Has K "next_missed" qf8z)
  (h9:Has K "steps_good" qelz)
  (h10:Has K "refuse_no_steps" qf9z)
  (h11:Has K "refuse_great_steps" qgaz)
  (h12:Has K "set_clocks" qemz)
  (h13:Has K "rests_cover" qgbz)
  (h14:Has K "rests_form_good" qenz)
  (h15:Has K "rests_good" qgcz)
  (h16:Has K "_law_cell_at" qgdz)
  (h17:Has K "_law_next" qgez)
  (h18:Has K "_law_pen_of" qgfz)
  (h19:Has K "_law_draw" qggz)
  (h20:Has K "_law_whole" qghz)
  (h21:Has K "_law_kind_of" qgiz)
  (h22:Has K "_law_great_told" qgjz)
  (h23:Has K "_law_gcd" qgkz)
  (h24:Has K "_law_round" qglz)
  (h25:Has K "_law_at" qeoz)
  (h26:Has K "_law_split" qepz)
  (h27:Has K "_law_covered" qeqz)
  (h28:Has K "_law_built" qcez)
  (h29:Has K "_law_due_of" qdlz)
  (h30:Has K "_law_bent" qgnz)
  (h31:Has K "_law_refused" qesz)
  (h32:Has K "law" qetz)
  {C_ClockError:Addr} (n_ClockError:PySem.W.nsIn K mainGlobals "ClockError" = some (some (.ref C_ClockError)))
  {C_NoClock:Addr} (n_NoClock:PySem.W.nsIn K mainGlobals "NoClock" = some (some (.ref C_NoClock)))
  {C_NoNumber:Addr} (n_NoNumber:PySem.W.nsIn K mainGlobals "NoNumber" = some (some (.ref C_NoNumber)))
  {C_NoPlace:Addr} (n_NoPlace:PySem.W.nsIn K mainGlobals "NoPlace" = some (some (.ref C_NoPlace)))
  {C_NoRow:Addr} (n_NoRow:PySem.W.nsIn K mainGlobals "NoRow" = some (some (.ref C_NoRow)))
  {C_NoClocks:Addr} (n_NoClocks:PySem.W.nsIn K mainGlobals "NoClocks" = some (some (.ref C_NoClocks)))
  {C_NoText:Addr} (n_NoText:PySem.W.nsIn K mainGlobals "NoText" = some (some (.ref C_NoText)))
  {C_TooGreat:Addr} (n_TooGreat:PySem.W.nsIn K mainGlobals "TooGreat" = some (some (.ref C_TooGreat)))
  (e_NoNumber:excIn K C_NoNumber (.ref C_ClockError::veTail) none "ValueError.__new__" = true)
  (v1_NoNumber:PySem.W.findIn K (.ref C_NoNumber) "__setattr__" = some (some (.builtin "object.__setattr__"))) (v2_NoNumber:PySem.W.mroIn K C_NoNumber (.type "object")=some true) (v3_NoNumber:PySem.W.keepIn K (.ref C_NoNumber)=true) (v4_NoNumber:PySem.W.findIn K (.ref C_NoNumber) "__getattribute__" = some (some (.builtin "BaseException.__getattribute__"))) (v8_NoNumber:PySem.W.findIn K (.ref C_NoNumber) "__getattr__" = some none) (v9_NoNumber:PySem.W.mroIn K C_NoNumber (.type "BaseException")=some true) (v5_NoNumber:PySem.W.hasDictIn K C_NoNumber=true) (v6_NoNumber:PySem.W.findIn K (.ref C_NoNumber) "__class__" = some (some (.builtin "object.__class__")))
  (w_NoNumber_many:PySem.W.findIn K (.ref C_NoNumber) "many" = some none)
  (w_NoNumber_most:PySem.W.findIn K (.ref C_NoNumber) "most" = some none)
  (x_NoNumber_NoClock:PySem.W.kitOne K (.ref C_NoNumber) (.ref C_NoClock)=some false)
  (x_NoNumber_NoClocks:PySem.W.kitOne K (.ref C_NoNumber) (.ref C_NoClocks)=some false)
  (x_NoNumber_NoNumber:PySem.W.kitOne K (.ref C_NoNumber) (.ref C_NoNumber)=some true)
  (x_NoNumber_NoPlace:PySem.W.kitOne K (.ref C_NoNumber) (.ref C_NoPlace)=some false)
  (x_NoNumber_NoRow:PySem.W.kitOne K (.ref C_NoNumber) (.ref C_NoRow)=some false)
  (x_NoNumber_NoText:PySem.W.kitOne K (.ref C_NoNumber) (.ref C_NoText)=some false)
  (x_NoNumber_TooGreat:PySem.W.kitOne K (.ref C_NoNumber) (.ref C_TooGreat)=some false)
  (xv_NoNumber:PySem.W.kitOne K (.ref C_NoNumber) (.type "ValueError")=some true)
  {fi_TooGreat:Addr} (i_TooGreat:PySem.W.findIn K (.ref C_TooGreat) "__init__" = some (some (.ref fi_TooGreat)))
  {qd_TooGreat qn_TooGreat:Option Addr} {qs_TooGreat:Array (Option Value)} {qc_TooGreat qk_TooGreat qo_TooGreat qp_TooGreat qe_TooGreat qt_TooGreat:Value} (j_TooGreat:K.lookup fi_TooGreat=some ⟨qc_TooGreat,qd_TooGreat,.func (PySem.W.fnOf "__init__" "TooGreat.__init__" (defArgs qcfz) (defBody qcfz) (defScope qcfz) .none qk_TooGreat qo_TooGreat qp_TooGreat qn_TooGreat qe_TooGreat qt_TooGreat),qs_TooGreat⟩) (h_TooGreat:PySem.W.codeIn K qe_TooGreat "TooGreat.__init__" = true) (g_TooGreat:PySem.W.keepIn K (.ref fi_TooGreat)=true) (y_TooGreat:PySem.W.typeIn K (.ref fi_TooGreat)=some (.type "function"))
  (e_TooGreat:excIn K C_TooGreat (.ref C_ClockError::veTail) (some (.ref fi_TooGreat)) "ValueError.__new__" = true)
  (v1_TooGreat:PySem.W.findIn K (.ref C_TooGreat) "__setattr__" = some (some (.builtin "object.__setattr__"))) (v2_TooGreat:PySem.W.mroIn K C_TooGreat (.type "object")=some true) (v3_TooGreat:PySem.W.keepIn K (.ref C_TooGreat)=true) (v4_TooGreat:PySem.W.findIn K (.ref C_TooGreat) "__getattribute__" = some (some (.builtin "BaseException.__getattribute__"))) (v8_TooGreat:PySem.W.findIn K (.ref C_TooGreat) "__getattr__" = some none) (v9_TooGreat:PySem.W.mroIn K C_TooGreat (.type "BaseException")=some true) (v5_TooGreat:PySem.W.hasDictIn K C_TooGreat=true) (v6_TooGreat:PySem.W.findIn K (.ref C_TooGreat) "__class__" = some (some (.builtin "object.__class__")))
  (w_TooGreat_many:PySem.W.findIn K (.ref C_TooGreat) "many" = some none)
  (w_TooGreat_most:PySem.W.findIn K (.ref C_TooGreat) "most" = some none)
  (x_TooGreat_NoClock:PySem.W.kitOne K (.ref C_TooGreat) (.ref C_NoClock)=some false)
  (x_TooGreat_NoClocks:PySem.W.kitOne K (.ref C_TooGreat) (.ref C_NoClocks)=some false)
  (x_TooGreat_NoNumber:PySem.W.kitOne K (.ref C_TooGreat) (.ref C_NoNumber)=some false)
  (x_TooGreat_NoPlace:PySem.W.kitOne K (.ref C_TooGreat) (.ref C_NoPlace)=some false)
  (x_TooGreat_NoRow:PySem.W.kitOne K (.ref C_TooGreat) (.ref C_NoRow)=some false)
  (x_TooGreat_NoText:PySem.W.kitOne K (.ref C_TooGreat) (.ref C_NoText)=some false)
  (x_TooGreat_TooGreat:PySem.W.kitOne K (.ref C_TooGreat) (.ref C_TooGreat)=some true)
  (xv_TooGreat:PySem.W.kitOne K (.ref C_TooGreat) (.type "ValueError")=some true)
  (eb:excIn K C_ClockError veTail none "ValueError.__new__" = true) (u1:PySem.W.specialIn K (.builtin "object.__class__") "__get__" = some (some (.builtin "getset_descriptor.__get__"))) (u2:PySem.W.takesIn K (.builtin "object.__class__")=some true)
  {t0:Tok} (gint0:PySem.W.nsIn K mainGlobals "GREATEST_STEP" = some (some (.int 24 t0)))
  {t1:Tok} (gint1:PySem.W.nsIn K mainGlobals "LEAST_STEP" = some (some (.int 2 t1)))
  {t2:Tok} (gint2:PySem.W.nsIn K mainGlobals "MOST_FAR_CLOCKS" = some (some (.int 10 t2)))
  {t3:Tok} (gint3:PySem.W.nsIn K mainGlobals "MOST_NUMBERS" = some (some (.int 10000 t3)))
  {t4:Tok} (gint4:PySem.W.nsIn K mainGlobals "MOST_STEPS" = some (some (.int 6 t4)))
  (z0:PySem.W.nsIn K mainGlobals "ValueError" = some none)
  (z1:PySem.W.nsIn K mainGlobals "all" = some none)
  (z2:PySem.W.nsIn K mainGlobals "bool" = some none)
  (z3:PySem.W.nsIn K mainGlobals "int" = some none)
  (z4:PySem.W.nsIn K mainGlobals "isinstance" = some none)
  (z5:PySem.W.nsIn K mainGlobals "len" = some none)
  (z6:PySem.W.nsIn K mainGlobals "list" = some none)
  (z7:PySem.W.nsIn K mainGlobals "max" = some none)
  (z8:PySem.W.nsIn K mainGlobals "range" = some none)
  (z9:PySem.W.nsIn K mainGlobals "tuple" = some none)
  (z10:PySem.W.nsIn K mainGlobals "zip" = some none)
  : ∃t:Adr,Txt K mg t/\∀(s:Shared) (v:Value),BindsTo s t.d_law ⟨[v],[]⟩ [("script",v)]:=by
 obtain⟨f0,d0,F0,a0⟩:=h0;obtain⟨f1,d1,F1,a1⟩:=h1;obtain⟨f2,d2,F2,a2⟩:=h2;obtain⟨f3,d3,F3,a3⟩:=h3;obtain⟨f4,d4,F4,a4⟩:=h4;obtain⟨f5,d5,F5,a5⟩:=h5;obtain⟨f6,d6,F6,a6⟩:=h6;obtain⟨f7,d7,F7,a7⟩:=h7;obtain⟨f8,d8,F8,a8⟩:=h8;obtain⟨f9,d9,F9,a9⟩:=h9;obtain⟨f10,d10,F10,a10⟩:=h10;obtain⟨f11,d11,F11,a11⟩:=h11;obtain⟨f12,d12,F12,a12⟩:=h12;obtain⟨f13,d13,F13,a13⟩:=h13;obtain⟨f14,d14,F14,a14⟩:=h14;obtain⟨f15,d15,F15,a15⟩:=h15;obtain⟨f16,d16,F16,a16⟩:=h16;obtain⟨f17,d17,F17,a17⟩:=h17;obtain⟨f18,d18,F18,a18⟩:=h18;obtain⟨f19,d19,F19,a19⟩:=h19;obtain⟨f20,d20,F20,a20⟩:=h20;obtain⟨f21,d21,F21,a21⟩:=h21;obtain⟨f22,d22,F22,a22⟩:=h22;obtain⟨f23,d23,F23,a23⟩:=h23;obtain⟨f24,d24,F24,a24⟩:=h24;obtain⟨f25,d25,F25,a25⟩:=h25;obtain⟨f26,d26,F26,a26⟩:=h26;obtain⟨f27,d27,F27,a27⟩:=h27;obtain⟨f28,d28,F28,a28⟩:=h28;obtain⟨f29,d29,F29,a29⟩:=h29;obtain⟨f30,d30,F30,a30⟩:=h30;obtain⟨f31,d31,F31,a31⟩:=h31;obtain⟨f32,d32,F32,a32⟩:=h32;have I_TooGreat:=qhcz (st:=qcfz) j_TooGreat h_TooGreat g_TooGreat;exact⟨⟨f0,d0,f1,d1,f2,d2,f3,d3,f4,d4,f5,d5,f6,d6,f7,d7,f8,d8,f9,d9,f10,d10,f11,d11,f12,d12,f13,d13,f14,d14,f15,d15,f16,d16,f17,d17,f18,d18,f19,d19,f20,d20,f21,d21,f22,d22,f23,d23,f24,d24,f25,d25,f26,d26,f27,d27,f28,d28,f29,d29,f30,d30,f31,d31,f32,d32,C_ClockError,C_NoClock,C_NoNumber,C_NoPlace,C_NoRow,C_NoClocks,C_NoText,C_TooGreat,fi_TooGreat,_,t0,t1,t2,t3,t4⟩,⟨F0,
  PySem.W.mg_of X G a0,
  F0.binds (ps:=["thing"]) fun _ _ _ _ _ _ us hl=>by obtain⟨_,rfl⟩:=len1 hl;rfl,
  F1,
  PySem.W.mg_of X G a1,
  F1.binds (ps:=["many","most"]) fun _ _ _ _ _ _ us hl=>by obtain⟨_,_,rfl⟩:=len2 hl;rfl,
  F2,
  PySem.W.mg_of X G a2,
  F2.binds (ps:=["times"]) fun _ _ _ _ _ _ us hl=>by obtain⟨_,rfl⟩:=len1 hl;rfl,
  F3,
  PySem.W.mg_of X G a3,
  F3.binds (ps:=["one","other"]) fun _ _ _ _ _ _ us hl=>by obtain⟨_,_,rfl⟩:=len2 hl;rfl,
  F4,
  PySem.W.mg_of X G a4,
  F4.binds (ps:=["numbers"]) fun _ _ _ _ _ _ us hl=>by obtain⟨_,rfl⟩:=len1 hl;rfl,
  F5,
  PySem.W.mg_of X G a5,
  F5.binds (ps:=["clock","number"]) fun _ _ _ _ _ _ us hl=>by obtain⟨_,_,rfl⟩:=len2 hl;rfl,
  F6,
  PySem.W.mg_of X G a6,
  F6.binds (ps:=["clocks","number"]) fun _ _ _ _ _ _ us hl=>by obtain⟨_,_,rfl⟩:=len2 hl;rfl,
  F7,
  PySem.W.mg_of X G a7,
  F7.binds (ps:=["clocks"]) fun _ _ _ _ _ _ us hl=>by obtain⟨_,rfl⟩:=len1 hl;rfl,
  F8,
  PySem.W.mg_of X G a8,
  F8.binds (ps:=["clocks","number"]) fun _ _ _ _ _ _ us hl=>by obtain⟨_,_,rfl⟩:=len2 hl;rfl,
  F9,
  PySem.W.mg_of X G a9,
  F9.binds (ps:=["thing"]) fun _ _ _ _ _ _ us hl=>by obtain⟨_,rfl⟩:=len1 hl;rfl,
  F10,
  PySem.W.mg_of X G a10,
  F10.binds (ps:=["thing"]) fun _ _ _ _ _ _ us hl=>by obtain⟨_,rfl⟩:=len1 hl;rfl,
  F11,
  PySem.W.mg_of X G a11,
  F11.binds (ps:=["steps"]) fun _ _ _ _ _ _ us hl=>by obtain⟨_,rfl⟩:=len1 hl;rfl,
  F12,
  PySem.W.mg_of X G a12,
  F12.binds (ps:=["steps","rests"]) fun _ _ _ _ _ _ us hl=>by obtain⟨_,_,rfl⟩:=len2 hl;rfl,
  F13,
  PySem.W.mg_of X G a13,
  F13.binds (ps:=["steps","rests"]) fun _ _ _ _ _ _ us hl=>by obtain⟨_,_,rfl⟩:=len2 hl;rfl,
  F14,
  PySem.W.mg_of X G a14,
  F14.binds (ps:=["steps","thing"]) fun _ _ _ _ _ _ us hl=>by obtain⟨_,_,rfl⟩:=len2 hl;rfl,
  F15,
  PySem.W.mg_of X G a15,
  F15.binds (ps:=["steps","thing"]) fun _ _ _ _ _ _ us hl=>by obtain⟨_,_,rfl⟩:=len2 hl;rfl,
  F16,
  PySem.W.mg_of X G a16,
  F16.binds (ps:=["script","k"]) fun _ _ _ _ _ _ us hl=>by obtain⟨_,_,rfl⟩:=len2 hl;rfl,
  F17,
  PySem.W.mg_of X G a17,
  F17.binds (ps:=["seed"]) fun _ _ _ _ _ _ us hl=>by obtain⟨_,rfl⟩:=len1 hl;rfl,
  F18,
  PySem.W.mg_of X G a18,
  F18.binds (ps:=["cell"]) fun _ _ _ _ _ _ us hl=>by obtain⟨_,rfl⟩:=len1 hl;rfl,
  F19,
  PySem.W.mg_of X G a19,
  F19.binds (ps:=["pen","many"]) fun _ _ _ _ _ _ us hl=>by obtain⟨_,_,rfl⟩:=len2 hl;rfl,
  F20,
  PySem.W.mg_of X G a20,
  F20.binds (ps:=["found"]) fun _ _ _ _ _ _ us hl=>by obtain⟨_,rfl⟩:=len1 hl;rfl,
  F21,
  PySem.W.mg_of X G a21,
  F21.binds (ps:=["e"]) fun _ _ _ _ _ _ us hl=>by obtain⟨_,rfl⟩:=len1 hl;rfl,
  F22,
  PySem.W.mg_of X G a22,
  F22.binds (ps:=["e"]) fun _ _ _ _ _ _ us hl=>by obtain⟨_,rfl⟩:=len1 hl;rfl,
  F23,
  PySem.W.mg_of X G a23,
  F23.binds (ps:=["one","other"]) fun _ _ _ _ _ _ us hl=>by obtain⟨_,_,rfl⟩:=len2 hl;rfl,
  F24,
  PySem.W.mg_of X G a24,
  F24.binds (ps:=["clocks"]) fun _ _ _ _ _ _ us hl=>by obtain⟨_,rfl⟩:=len1 hl;rfl,
  F25,
  PySem.W.mg_of X G a25,
  F25.binds (ps:=["clocks","number"]) fun _ _ _ _ _ _ us hl=>by obtain⟨_,_,rfl⟩:=len2 hl;rfl,
  F26,
  PySem.W.mg_of X G a26,
  F26.binds (ps:=["pen","times"]) fun _ _ _ _ _ _ us hl=>by obtain⟨_,_,rfl⟩:=len2 hl;rfl,
  F27,
  PySem.W.mg_of X G a27,
  F27.binds (ps:=["steps","rests"]) fun _ _ _ _ _ _ us hl=>by obtain⟨_,_,rfl⟩:=len2 hl;rfl,
  F28,
  PySem.W.mg_of X G a28,
  F28.binds (ps:=["pen"]) fun _ _ _ _ _ _ us hl=>by obtain⟨_,rfl⟩:=len1 hl;rfl,
  F29,
  PySem.W.mg_of X G a29,
  F29.binds (ps:=["steps","thing"]) fun _ _ _ _ _ _ us hl=>by obtain⟨_,_,rfl⟩:=len2 hl;rfl,
  F30,
  PySem.W.mg_of X G a30,
  F30.binds (ps:=["pen","steps","rests"]) fun _ _ _ _ _ _ us hl=>by obtain⟨_,_,_,rfl⟩:=len3 hl;rfl,
  F31,
  PySem.W.mg_of X G a31,
  F31.binds (ps:=["steps"]) fun _ _ _ _ _ _ us hl=>by obtain⟨_,rfl⟩:=len1 hl;rfl,
  F32,
  PySem.W.mg_of X G a32,
  F32.binds (ps:=["script"]) fun _ _ _ _ _ _ us hl=>by obtain⟨_,rfl⟩:=len1 hl;rfl,
  PySem.W.mg_of X G n_ClockError,
  n_ClockError,
  PySem.W.mg_of X G n_NoClock,
  n_NoClock,
  PySem.W.mg_of X G n_NoNumber,
  n_NoNumber,
  PySem.W.mg_of X G n_NoPlace,
  n_NoPlace,
  PySem.W.mg_of X G n_NoRow,
  n_NoRow,
  PySem.W.mg_of X G n_NoClocks,
  n_NoClocks,
  PySem.W.mg_of X G n_NoText,
  n_NoText,
  PySem.W.mg_of X G n_TooGreat,
  n_TooGreat,
  ⟨e_NoNumber,eb⟩,
  ⟨⟨v4_NoNumber,v8_NoNumber,v9_NoNumber⟩,qjfz e_NoNumber,v6_NoNumber,u1,u2,v2_NoNumber⟩,
  x_NoNumber_NoClock,
  x_NoNumber_NoClocks,
  x_NoNumber_NoNumber,
  x_NoNumber_NoPlace,
  x_NoNumber_NoRow,
  x_NoNumber_NoText,
  x_NoNumber_TooGreat,
  xv_NoNumber,
  ⟨⟨v4_NoNumber,v8_NoNumber,v9_NoNumber⟩,v5_NoNumber,w_NoNumber_many⟩,
  ⟨⟨v4_NoNumber,v8_NoNumber,v9_NoNumber⟩,v5_NoNumber,w_NoNumber_most⟩,
  ⟨⟨e_TooGreat,eb⟩,⟨v1_TooGreat,v2_TooGreat,quaz e_TooGreat,fun n hn=>by
   simp only[List.mem_cons,List.not_mem_nil,or_false] at hn;rcases hn with rfl|rfl
   ·exact w_TooGreat_many
   ·exact w_TooGreat_most⟩,I_TooGreat,qzgz,.cons ⟨⟨_,_,_,_,rfl⟩,by decide⟩ (.cons ⟨⟨_,_,_,_,rfl⟩,by decide⟩ (.nil)),by decide +kernel,I_TooGreat.binds (ps:=["self","many","most"]) (fun _ _ _ _ _ _ us hl=>by obtain⟨_,_,_,rfl⟩:=len3 hl;rfl),v3_TooGreat,by decide,qubz y_TooGreat⟩,
  ⟨⟨v4_TooGreat,v8_TooGreat,v9_TooGreat⟩,qjfz e_TooGreat,v6_TooGreat,u1,u2,v2_TooGreat⟩,
  x_TooGreat_NoClock,
  x_TooGreat_NoClocks,
  x_TooGreat_NoNumber,
  x_TooGreat_NoPlace,
  x_TooGreat_NoRow,
  x_TooGreat_NoText,
  x_TooGreat_TooGreat,
  xv_TooGreat,
  ⟨⟨v4_TooGreat,v8_TooGreat,v9_TooGreat⟩,v5_TooGreat,w_TooGreat_many⟩,
  ⟨⟨v4_TooGreat,v8_TooGreat,v9_TooGreat⟩,v5_TooGreat,w_TooGreat_most⟩,
  PySem.W.mg_of X G gint0,
  PySem.W.mg_of X G gint1,
  PySem.W.mg_of X G gint2,
  PySem.W.mg_of X G gint3,
  PySem.W.mg_of X G gint4,
  PySem.W.mg_none_of X G z0,
  PySem.W.mg_none_of X G z1,
  PySem.W.mg_none_of X G z2,
  PySem.W.mg_none_of X G z3,
  PySem.W.mg_none_of X G z4,
  PySem.W.mg_none_of X G z5,
  PySem.W.mg_none_of X G z6,
  PySem.W.mg_none_of X G z7,
  PySem.W.mg_none_of X G z8,
  PySem.W.mg_none_of X G z9,
  PySem.W.mg_none_of X G z10⟩,fun s v=>by
  obtain⟨_,_,_,_,_,_,_,_,_,rfl,_⟩:=F32.ex;exact .of_eq rfl⟩
theorem q06z(K:PySem.W.Frag)(H:Hp)(a:Addr)(ns:List Int)(hl:ns.length≤63)(ho:Only H)(hS:SqL K H a (ns.map V.int)):lowSp K sp_law [.ref a] H (fun v _=>v=.bl true) fun _ _ _=>False:=by
 refine⟨[.scr (ns.map .int)],fun _=>none,fun d _=>d=.bl true,.cons ?_ .nil,(fun _ _ e=>nomatch e),⟨ns,rfl,hl,rfl⟩,fun v H' d G' hv _ _ q=>?_⟩
 ·unfold Hv;refine⟨a,ns.map V.int,rfl,?_,Hvs.ints ns⟩;rcases hS with (h|h)|h
  ·rcases ho a with z|⟨o,xs,z⟩
   ·rw[z] at h;cases h
   ·rw[z] at h;cases h
  ·exact .inl h
  ·exact .inr h
 ·subst q;exact qa0z hv
theorem walk{l:PySem.W.OpenLaw}{q:Program}{loose:List Str}{XP:(Str->Option Value)->Heap->Prop}{YP:World->Heap->Prop}{d:DefRec}{K:Params->PySem.W.Frag}(hn:l.most=some 63)(hdf:d.params.defaults=[])
  (hY:∀(w:World) (h:Heap),YP w h->(K w.params).In h)
  (F:∀(w:World) (mg:Str->Option Value) (fa:Addr) (h:Heap),(K w.params).In h->h.Ns mainGlobals mg->mg d.name=some (.ref fa) ->
   ∃fd:FuncData,(∀(s:Shared) (u:Value),BindsTo s fd ⟨[u],[]⟩ [("script",u)])/\∀base:Heap,(K w.params).In base->base.Ns mainGlobals mg->FnOk l.prog w (K w.params) mg base CX0 7 fa fd ["script"] (lowSp (K w.params) sp_law)):
  PySem.W.WalkO q loose XP YP l.row.toRowW d [] (fun f vs=>PySem.call f vs):=
 L2.walk_of (n:=63) (k:=7) (x:="script") (CX:=fun _=>CX0) (sp:=fun w=>lowSp (K w.params) sp_law) hn (by decide) hdf ⟨rfl,by decide,by decide⟩ hY F (fun w H a ns hl ho hS=>q06z (K w.params) H a ns hl ho hS) fun _ _ _ _ _ z=>z
end My
open PySem PySem.W PyProof.Rows
set_option maxRecDepth 100000 in
set_option maxHeartbeats 0 in
theorem PySem.Challenge.cw_coverclocks_k39_rests_by_anybody_holds : PySem.Challenge.rw_coverclocks_k39_rests_by_anybody.Holds := by
 w_on;o_law;k_head;(case hw=>w_witness2)
 k_fill
 refine My.walk (l:=PySem.Challenge.rw_coverclocks_k39_rests_by_anybody) rfl rfl (fun w h Y=>PySem.W.kIn_of Y) ?F
 case F=>
  intro w mg fa h KX G hmg
  refine' Exists.elim (My.txt_mk KX G (My.has_mk ?a0 ?l0 ?c0 ?k0) (My.has_mk ?a1 ?l1 ?c1 ?k1) (My.has_mk ?a2 ?l2 ?c2 ?k2) (My.has_mk ?a3 ?l3 ?c3 ?k3) (My.has_mk ?a4 ?l4 ?c4 ?k4) (My.has_mk ?a5 ?l5 ?c5 ?k5) (My.has_mk ?a6 ?l6 ?c6 ?k6) (My.has_mk ?a7 ?l7 ?c7 ?k7) (My.has_mk ?a8 ?l8 ?c8 ?k8) (My.has_mk ?a9 ?l9 ?c9 ?k9) (My.has_mk ?a10 ?l10 ?c10 ?k10) (My.has_mk ?a11 ?l11 ?c11 ?k11) (My.has_mk ?a12 ?l12 ?c12 ?k12) (My.has_mk ?a13 ?l13 ?c13 ?k13) (My.has_mk ?a14 ?l14 ?c14 ?k14) (My.has_mk ?a15 ?l15 ?c15 ?k15) (My.has_mk ?a16 ?l16 ?c16 ?k16) (My.has_mk ?a17 ?l17 ?c17 ?k17) (My.has_mk ?a18 ?l18 ?c18 ?k18) (My.has_mk ?a19 ?l19 ?c19 ?k19) (My.has_mk ?a20 ?l20 ?c20 ?k20) (My.has_mk ?a21 ?l21 ?c21 ?k21) (My.has_mk ?a22 ?l22 ?c22 ?k22) (My.has_mk ?a23 ?l23 ?c23 ?k23) (My.has_mk ?a24 ?l24 ?c24 ?k24) (My.has_mk ?a25 ?l25 ?c25 ?k25) (My.has_mk ?a26 ?l26 ?c26 ?k26) (My.has_mk ?a27 ?l27 ?c27 ?k27) (My.has_mk ?a28 ?l28 ?c28 ?k28) (My.has_mk ?a29 ?l29 ?c29 ?k29) (My.has_mk ?a30 ?l30 ?c30 ?k30) (My.has_mk ?a31 ?l31 ?c31 ?k31) (My.has_mk ?a32 ?l32 ?c32 ?k32) ?n_ClockError ?n_NoClock ?n_NoNumber ?n_NoPlace ?n_NoRow ?n_NoClocks ?n_NoText ?n_TooGreat ?e_NoNumber ?v1_NoNumber ?v2_NoNumber ?v3_NoNumber ?v4_NoNumber ?v8_NoNumber ?v9_NoNumber ?v5_NoNumber ?v6_NoNumber ?w_NoNumber_many ?w_NoNumber_most ?x_NoNumber_NoClock ?x_NoNumber_NoClocks ?x_NoNumber_NoNumber ?x_NoNumber_NoPlace ?x_NoNumber_NoRow ?x_NoNumber_NoText ?x_NoNumber_TooGreat ?xv_NoNumber ?i_TooGreat ?j_TooGreat ?h_TooGreat ?g_TooGreat ?y_TooGreat ?e_TooGreat ?v1_TooGreat ?v2_TooGreat ?v3_TooGreat ?v4_TooGreat ?v8_TooGreat ?v9_TooGreat ?v5_TooGreat ?v6_TooGreat ?w_TooGreat_many ?w_TooGreat_most ?x_TooGreat_NoClock ?x_TooGreat_NoClocks ?x_TooGreat_NoNumber ?x_TooGreat_NoPlace ?x_TooGreat_NoRow ?x_TooGreat_NoText ?x_TooGreat_TooGreat ?xv_TooGreat ?eb ?u1 ?u2 ?gint0 ?gint1 ?gint2 ?gint3 ?gint4 ?z0 ?z1 ?z2 ?z3 ?z4 ?z5 ?z6 ?z7 ?z8 ?z9 ?z10) ?fin
  case a0|l0|c0|k0|a1|l1|c1|k1|a2|l2|c2|k2|a3|l3|c3|k3|a4|l4|c4|k4|a5|l5|c5|k5|a6|l6|c6|k6|a7|l7|c7|k7|a8|l8|c8|k8|a9|l9|c9|k9=>k_is
  case a10|l10|c10|k10|a11|l11|c11|k11|a12|l12|c12|k12|a13|l13|c13|k13|a14|l14|c14|k14|a15|l15|c15|k15|a16|l16|c16|k16|a17|l17|c17|k17|a18|l18|c18|k18|a19|l19|c19|k19=>k_is
  case a20|l20|c20|k20|a21|l21|c21|k21|a22|l22|c22|k22|a23|l23|c23|k23|a24|l24|c24|k24|a25|l25|c25|k25|a26|l26|c26|k26|a27|l27|c27|k27|a28|l28|c28|k28|a29|l29|c29|k29=>k_is
  case a30|l30|c30|k30|a31|l31|c31|k31|a32|l32|c32|k32|n_ClockError|n_NoClock|n_NoNumber|n_NoPlace|n_NoRow|n_NoClocks|n_NoText|n_TooGreat=>k_is
  case e_NoNumber=>kernel_rfl
  case v1_NoNumber|v2_NoNumber|v3_NoNumber|v4_NoNumber|v8_NoNumber|v9_NoNumber|v5_NoNumber|v6_NoNumber|w_NoNumber_many|w_NoNumber_most=>k_is
  case x_NoNumber_NoClock|x_NoNumber_NoClocks|x_NoNumber_NoNumber|x_NoNumber_NoPlace|x_NoNumber_NoRow|x_NoNumber_NoText|x_NoNumber_TooGreat|xv_NoNumber=>kernel_rfl
  case i_TooGreat|j_TooGreat|h_TooGreat|g_TooGreat|y_TooGreat=>k_is
  case e_TooGreat=>kernel_rfl
  case v1_TooGreat|v2_TooGreat|v3_TooGreat|v4_TooGreat|v8_TooGreat|v9_TooGreat|v5_TooGreat|v6_TooGreat|w_TooGreat_many|w_TooGreat_most=>k_is
  case x_TooGreat_NoClock|x_TooGreat_NoClocks|x_TooGreat_NoNumber|x_TooGreat_NoPlace|x_TooGreat_NoRow|x_TooGreat_NoText|x_TooGreat_TooGreat|xv_TooGreat|eb=>kernel_rfl
  case u1|u2|gint0|gint1|gint2|gint3|gint4|z0|z1|z2|z3|z4|z5|z6|z7|z8|z9|z10=>k_is
  case fin=>
   rintro t ⟨T,b⟩
   have e2:=hmg.symm.trans T.m_law
   cases e2
   exact⟨t.d_law,b,fun base _ _=>My.ok_law T⟩
