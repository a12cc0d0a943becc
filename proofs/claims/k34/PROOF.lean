import PyProof.Rows.All
import Wide.All
import OpenK.AllK
import Wide.FinOn
import Lean
import PyProof.EqAt
import PyProof.EqKinds
import PyProof.TupleCall
import PyProof.NeKinds
import KE.KSortAsk
import PySem.SetTable
import PyProof.SetKind
import PyProof.TupleKey
import PyProof.IsRules
import PyProof.DictKinds
import PyProof.FactsAll.set
import PyProof.RangeIter
import PyProof.Seq
import PyProof.ForAny
import PyProof.WalksMore
import PyProof.CollectWalk
import PyProof.CollectIter
import PyProof.WalksS
import PyProof.Rows.SetFrom
import KE.KSortTup
import PyProof.Draws
import PyProof.Rows.Range3
import PyProof.ExcClass2
import PyProof.InstSpecial
import PyProof.RaisesMany
import PyProof.Rows.Own
import KE.KTryDeep
import PyProof.InstStoreFacts
import PyProof.ExcArgs
import PyProof.SetRoads
import PyProof.Rows.CallKwBuiltin
import KE.KMinKey
import PyProof.ListCopy
import PyProof.Rows.SortShell
import KE.BitLaws
import PySem.Challenge.RW_coverclocks_k34_clocks_joined
set_option Elab.async false
set_option linter.all false
set_option maxRecDepth 100000
set_option maxHeartbeats 6400000
namespace PySem.W.Fast
def tw10002955564005891448:=0
def tw10089725218022381072:=0
def tw10122236344976726302:=0
def tw1046741063225561193:=0
def tw10775608151269755114:=0
def tw10819482357959930337:=0
def tw11078396897237170580:=0
def tw11416332657746927449:=0
def tw11527566678940905004:=0
def tw11991294821791642180:=0
def tw12177532370992847542:=0
def tw12327852932400374243:=0
def tw12359747414819396226:=0
def tw12479233809235540435:=0
def tw12622548210574406648:=0
def tw1275478120985717299:=0
def tw12845519135024646182:=0
def tw12920970400287118362:=0
def tw13075065690774432107:=0
def tw13082982278105682137:=0
def tw13279348912098247152:=0
def tw13288866953635871957:=0
def tw13804736205520022521:=0
def tw1384395290678157473:=0
def tw14012151139649153845:=0
def tw14069056213865216518:=0
def tw14436499682427191452:=0
def tw14651353389486781923:=0
def tw14709092389092447600:=0
def tw14812247993670759456:=0
def tw15009064967215831742:=0
def tw15030909647522285081:=0
def tw15064467365168940513:=0
def tw15137432154933801972:=0
def tw16173026583499589418:=0
def tw16516833765679850501:=0
def tw16517009054520132990:=0
def tw16542398433307227165:=0
def tw16740449797852294466:=0
def tw16807444999120217485:=0
def tw18236617183906966956:=0
def tw18333746434981529812:=0
def tw222002021839760906:=0
def tw2313767861252571222:=0
def tw2490192691847193107:=0
def tw263285848609974664:=0
def tw2758917341131113154:=0
def tw2763091165054919723:=0
def tw2870798808758112262:=0
def tw300579211630450875:=0
def tw3168303112936402686:=0
def tw3374693086870957450:=0
def tw3486685365987508550:=0
def tw3582632134490014442:=0
def tw3660049571704488964:=0
def tw3773103005016868981:=0
def tw4240497782788699254:=0
def tw4804185984894236479:=0
def tw5006218342762179835:=0
def tw54705101010141060:=0
def tw5574109326037803959:=0
def tw5649551563302223934:=0
def tw6002334276555976499:=0
def tw6082868269452118646:=0
def tw6085763573361258821:=0
def tw6292567297081494999:=0
def tw6319421395621828755:=0
def tw6430656474017253621:=0
def tw6761399715136312856:=0
def tw6875368384472413028:=0
def tw6957309123341859887:=0
def tw6967222093676748408:=0
def tw714342775707779382:=0
def tw7239699417040640924:=0
def tw729470190965622847:=0
def tw7618405748562067439:=0
def tw7947007116484376763:=0
def tw844591699260098826:=0
def tw8553468728778898283:=0
def tw8582475678632732560:=0
def tw8657475657255443456:=0
def tw9318079538509073023:=0
def tw9361986822330698672:=0
def tw9491526359805768846:=0
def tw9638962215515527944:=0
def tw965184714911559143:=0
def tw9726355684066599585:=0
def tw9898949557722578334:=0
def tw9969700308410641434:=0
def tw10557952408597616209:=0
def tw10581628499616902078:=0
def tw10943798004611374485:=0
def tw11088405168228988428:=0
def tw11296985960953640679:=0
def tw11445012367035840811:=0
def tw11946695790489621617:=0
def tw11951918698973107087:=0
def tw12309145198115027404:=0
def tw12692058594368373689:=0
def tw13200153706443865127:=0
def tw13769286658514223882:=0
def tw14261688475758281757:=0
def tw14406933541994155468:=0
def tw15178186417447287183:=0
def tw17116094571235812561:=0
def tw17292593230812683261:=0
def tw17652989848073596359:=0
def tw18144039813611106394:=0
def tw185324080557277717:=0
def tw1970414826787035068:=0
def tw3109963476227597336:=0
def tw3395733948417628538:=0
def tw3712321846682023972:=0
def tw4750783265423318986:=0
def tw5070116776014296866:=0
def tw5996577077414147076:=0
def tw6714105870352832135:=0
def tw6865224462351674115:=0
def tw7452718354682004035:=0
def tw7528185641602176502:=0
def tw8155809140819323274:=0
def tw819300779488279104:=0
def tw8748935985411225239:=0
def tw8803697534910192941:=0
def tw9040190230041369569:=0
def tw9487946966363551722:=0
def tw11287913791815339835:=0
def tw1278364729025885840:=0
def tw12790771906748108062:=0
def tw12944238323486390550:=0
def tw13824968071186755347:=0
def tw14065108187742651593:=0
def tw14191224439959252425:=0
def tw14620636277265889726:=0
def tw15308694650682845299:=0
def tw15746942894992331166:=0
def tw16160467982359716400:=0
def tw16653196068846771013:=0
def tw17397826191128369052:=0
def tw17675930321552462780:=0
def tw17784982763577641117:=0
def tw2289972260885738177:=0
def tw2763564968862409389:=0
def tw281992252357142232:=0
def tw3447597845548774071:=0
def tw3565782380260826668:=0
def tw3859975540139580513:=0
def tw544655752721749047:=0
def tw5676390787261065479:=0
def tw60561576132319996:=0
def tw7104569081758560831:=0
def tw7642113700863050991:=0
def tw8809968400380596585:=0
def tw9495653842866716463:=0
def tw10295109249718962312:=0
def tw10495820672589095423:=0
def tw10669362687991876928:=0
def tw13379029336329667327:=0
def tw13405371248576612005:=0
def tw13533529040411065439:=0
def tw13710774165270883037:=0
def tw15789801865781174425:=0
def tw18147928219221512942:=0
def tw223774313179321278:=0
def tw4276415974155412963:=0
def tw4633304213655264209:=0
def tw4654233093725589888:=0
def tw4665505624306408702:=0
def tw5287476068086860083:=0
def tw8317445272648653405:=0
def tw1362090441978923633:=0
def tw14484651860354410467:=0
def tw14991697241983724725:=0
def tw15167784993428161203:=0
def tw15824664408555797403:=0
def tw2053140641585472862:=0
def tw4833101512355101910:=0
def tw7990987446466003352:=0
def tw8603990240194089181:=0
def tw14744242130294702390:=0
def tw14951259949883301205:=0
def tw17954250707170498103:=0
def tw4261871997638057358:=0
def tw4793649032812724876:=0
def tw6461654428545185383:=0
def tw6881483581033440465:=0
def tw8526514364924140453:=0
end PySem.W.Fast
namespace L2
open PySem PySem.Spec PyProof.Rows
abbrev Key:=Sum Int Str
def keyIs:Key->Value->Bool
 |.inl k,v=>Value.isInt k v
 |.inr x,v=>Value.isStrOf x v
def keyH(w:World):Key->Int
 |.inl k=>hashInt k
 |.inr x=>hashStr w x
theorem qawz:∀{k:Key} {v:Value},keyIs k v=true->(∃i t,k=Sum.inl i/\v=Value.int i t)∨(∃x t,k=Sum.inr x/\v=Value.str x t)
 |.inl i,v,h=>by
  obtain⟨t,e⟩:=Value.isInt_shape (k:=i) (v:=v) h;exact .inl ⟨i,t,rfl,e⟩
 |.inr x,v,h=>by
  obtain⟨t,e⟩:=Value.isStrOf_shape (x:=x) (v:=v) h;exact .inr ⟨x,t,rfl,e⟩
theorem qmtz(a b:Int):decide ((Sum.inl a:Key)=Sum.inl b)=(a==b):=by
 by_cases e:a=b
 ·subst e;simp
 ·have h:¬(Sum.inl a:Key)=Sum.inl b:=fun q=>e (Sum.inl.inj q);rw[decide_eq_false h];exact (beq_eq_false_iff_ne.mpr e).symm
theorem qmuz(a b:Str):decide ((Sum.inr a:Key)=Sum.inr b)=decide (a=b):=by
 by_cases e:a=b
 ·subst e;simp
 ·have h:¬(Sum.inr a:Key)=Sum.inr b:=fun q=>e (Sum.inr.inj q);rw[decide_eq_false h,decide_eq_false e]
theorem qmvz(a:Int)(b:Str):decide ((Sum.inl a:Key)=Sum.inr b)=false:=decide_eq_false (fun q=>nomatch q)
theorem qmwz(a:Str)(b:Int):decide ((Sum.inr a:Key)=Sum.inl b)=false:=decide_eq_false (fun q=>nomatch q)
def mixKind(prog:Program)(w:World):PySem.KeyKind prog w Key where
 is:=keyIs
 hash:=keyH w
 inj:=fun v a b ha hb=>by
  rcases qawz ha with⟨i,t,rfl,rfl⟩|⟨x,t,rfl,rfl⟩
  ·rcases qawz hb with⟨j,u,rfl,e⟩|⟨y,u,rfl,e⟩
   ·injection e with e1 _;rw[e1]
   ·exact nomatch e
  ·rcases qawz hb with⟨j,u,rfl,e⟩|⟨y,u,rfl,e⟩
   ·exact nomatch e
   ·injection e with e1 _;rw[e1]
 byValue:=fun k v h=>by
  rcases qawz h with⟨i,t,rfl,rfl⟩|⟨x,t,rfl,rfl⟩<;>rfl
 pyHash:=fun hv h=>by
  rcases qawz hv with⟨i,t,rfl,rfl⟩|⟨x,t,rfl,rfl⟩
  ·exact wpAny_pyHash_int h
  ·exact wpAny_pyHash_str h
 eqBool:=fun hu hv h=>by
  rcases qawz hu with⟨i,t,rfl,rfl⟩|⟨x,t,rfl,rfl⟩
  ·rcases qawz hv with⟨j,u,rfl,rfl⟩|⟨y,u,rfl,rfl⟩
   ·rw[qmtz] at h;exact wpAny_eqBool_int h
   ·rw[qmvz] at h;exact SeqAt.EqAt.int_str i t y u _ _ _ _ h
  ·rcases qawz hv with⟨j,u,rfl,rfl⟩|⟨y,u,rfl,rfl⟩
   ·rw[qmwz] at h;exact SeqAt.EqAt.str_int x t j u _ _ _ _ h
   ·rw[qmuz] at h;exact wpAny_eqBool_str h
 «strs»:=fun k x t v h=>by
  rcases qawz h with⟨i,u,rfl,e⟩|⟨y,u,rfl,e⟩
  ·exact nomatch e
  ·injection e with e1 _;subst e1;cases v<;>rfl
end L2
namespace L2
open PySem PySem.Spec PyProof.Rows
inductive V where
 |non|bl (b:Bool)|int (i:Int)|str (x:Str)|byt (b:Array UInt8)|flt (b:UInt64)|ref (a:Addr)|ty (n:String)
 deriving DecidableEq
def RelV:V->Value->Prop
 |.non,u=>u=Value.none
 |.bl b,u=>u=Value.bool b
 |.int i,u=>∃t,u=Value.int i t
 |.str x,u=>∃t,u=Value.str x t
 |.byt b,u=>∃t,u=Value.bytes b t
 |.flt b,u=>∃t,u=Value.float b t
 |.ref a,u=>u=Value.ref a
 |.ty n,u=>u=Value.type n
abbrev Vals:List V->List Value->Prop:=Paired RelV
theorem Vals.length{xs:List V}{us:List Value}(r:Vals xs us):xs.length=us.length:=Paired.length r
theorem Vals.get:∀{xs:List V} {us:List Value} {i:Nat} {x:V},Vals xs us->xs[i]?=some x->∃u,us[i]?=some u/\RelV x u
 |_,_,_,_,.nil,e=>by simp at e
 |_,_,0,_,.cons r _,e=>by simp at e;subst e;exact⟨_,rfl,r⟩
 |_,_,i+1,x,.cons _ t,e=>by
  obtain⟨u,h1,h2⟩:=Vals.get (i:=i) (x:=x) t (by simpa using e);exact⟨u,by simpa using h1,h2⟩
theorem Vals.set{x:V}{u:Value}(r:RelV x u):∀{xs:List V} {us:List Value} (i:Nat),Vals xs us->Vals (xs.set i x) (us.set i u)
 |_,_,_,.nil=>.nil
 |_,_,0,.cons _ t=>.cons r t
 |_,_,i+1,.cons q t=>.cons q (Vals.set r i t)
theorem Vals.append:∀{xs ys:List V} {us ws:List Value},Vals xs us->Vals ys ws->Vals (xs++ys) (us++ws)
 |_,_,_,_,.nil,s=>s
 |_,_,_,_,.cons r t,s=>.cons r (Vals.append t s)
theorem Vals.take:∀{xs:List V} {us:List Value} (n:Nat),Vals xs us->Vals (xs.take n) (us.take n)
 |_,_,0,_=>.nil
 |_,_,_+1,.nil=>.nil
 |_,_,n+1,.cons r t=>.cons r (Vals.take n t)
theorem Vals.drop:∀{xs:List V} {us:List Value} (n:Nat),Vals xs us->Vals (xs.drop n) (us.drop n)
 |_,_,0,r=>r
 |_,_,_+1,.nil=>.nil
 |_,_,n+1,.cons _ t=>Vals.drop n t
def RelO:Option V->Option Value->Prop
 |some v,some u=>RelV v u
 |none,none=>True
 |_,_=>False
def KV{κ:Type}:List (κ×V)->List (κ×Value)->Prop:=Paired fun (p:κ×V) (q:κ×Value)=>p.1=q.1/\RelV p.2 q.2
def kV:Key->V
 |.inl i=>.int i
 |.inr x=>.str x
inductive HO where
 |lst (xs:List V)
 |tup (xs:List V)
 |dK (kvs:List (Key×V))|dT (kvs:List (List Key×V))
 |set (S:Int->Bool) (n:Nat)
 |ins (C dx:Addr) (fs:List (Str×V))
 |own (x:Addr)
 |xd (fs:List (Str×V))
 |met (f x:Addr)
 |rng (lo hi:Int)
 |frz (o:Obj) (u:HO)
 |tbl (ps:Array Value)
 |ext (φ:Heap->Prop)
abbrev Hp:=Addr->Option HO
def upd(H:Hp)(a:Addr)(o:HO):Hp:=fun b=>if b=a then some o else H b
theorem qrz{H:Hp}{a:Addr}{o:HO}:upd H a o a=some o:=by unfold upd;rw[if_pos rfl]
theorem qiz{H:Hp}{a b:Addr}{o:HO}(h:b≠a):upd H a o b=H b:=by unfold upd;rw[if_neg h]
theorem qaez{H:Hp}{a b:Addr}{o:HO}(h:H a=some o)(h':H b=none):a≠b:=by
 intro e;subst e;rw[h] at h';cases h'
def IsTup2(h:Heap)(a:Addr)(items:Array Value):Prop:=∃o,h.get? a=some o/\o.cls=.type "tuple"/\(∃n,o.data=.seq items n)/\o.dict=none
theorem IsTup2.tup{h:Heap}{a:Addr}{items:Array Value}(x:IsTup2 h a items):IsTup h a items:=let ⟨o,h1,h2,h3,_⟩:=x;⟨o,h1,h2,h3⟩
theorem IsTup2.new(h:Heap)(items:Array Value):IsTup2 (h.push { cls:=.type "tuple",data:=.seq items }) h.objs.size items:=⟨_,Heap.get?_push_size _ rfl,rfl,⟨_,rfl⟩,rfl⟩
theorem IsTup2.lt{h:Heap}{a:Addr}{items:Array Value}(x:IsTup2 h a items):a<h.objs.size:=let ⟨_,ho,_⟩:=x;Heap.lt_size ho
theorem IsTup2.noDict{h:Heap}{a:Addr}{items:Array Value}(x:IsTup2 h a items):∀b,Value.ref a=.ref b->∃o,h.get? b=some o/\o.dict=none:=fun b e=>by
 cases e;obtain⟨o,h1,_,_,h4⟩:=x;exact⟨o,h1,h4⟩
section
variable (P:Program) (w:World)
def ObjOk(H:Hp)(h:Heap)(a:Addr):HO->Prop
 |.lst xs=>xs.length≤sizeLine/\∃(its:List Value) (n:Nat),Vals xs its/\h.get? a=some { cls:=.type "list",data:=.seq its.toArray n }
 |.tup xs=>xs.length≤sizeLine/\∃its:List Value,Vals xs its/\IsTup2 h a its.toArray
 |.dK kvs=>kvs.length≤sizeLine/\(a==sysModules)=false/\∃vs,KV kvs vs/\h.DictOf (mixKind P w) a vs
 |.dT kvs=>kvs.length≤sizeLine/\(a==sysModules)=false/\∃xs:List (List Key×Addr×Value),
   Paired (fun (p:List Key×V) (q:List Key×Addr×Value)=>p.1=q.1/\H q.2.1=some (.tup (p.1.map kV))/\RelV p.2 q.2.2) kvs xs ∧
   ∃o es ep,h.get? a=some o/\o.ExactDict/\o.data=.dict es ep/\es.toList=xs.map (entryOfKey (tupleKind (mixKind P w)))/\(xs.map (·.1)).Nodup
 |.set S n=>h.SetOf (intKind P w) a S n
 |.ins C dx fs=>H dx=some (.own a)/\fs.length≤1000/\dx≠a/\h.get? a=some (PySem.W.instObj C dx) ∧
   ∃mA,h.Ns1 dx mA/\(∀f,RelO (fs.lookup f) (mA f))/\PySem.Within mA (fs.map (·.1))
 |.own _=>∃o,h.get? a=some o
 |.xd fs=>∃mA,h.Ns1 a mA/\∀f,RelO (fs.lookup f) (mA f)
 |.rng lo hi=>∃t u v,h.get? a=some { cls:=.type "range",data:=.fields #[.int lo t,.int hi u,.int 1 v]}
 |.frz o u=>h.get? a=some o/\ObjOk H h a u
 |.tbl ps=>h.get? a=some { cls:=.none,data:=.fields ps }
 |.met f x=>h.get? a=some (PySem.W.methodObj (.ref f) (.ref x))
 |.ext φ=>φ h/\(∃o,h.get? a=some o)/\∀h1 h2:Heap,φ h1->(∀o,h1.get? a=some o->h2.get? a=some o)->φ h2
def HOk(H:Hp)(h:Heap):Prop:=∀a o,H a=some o->ObjOk P w H h a o
end
section
variable {P:Program} {w:World} {H H':Hp} {h h':Heap} {a:Addr} {o:HO}
theorem ObjOk.lt(x:ObjOk P w H h a o):a<h.objs.size:=by
 cases o with
 |lst xs=>obtain⟨_,_,_,_,e⟩:=x;exact Heap.lt_size e
 |tup xs=>obtain⟨_,_,_,p⟩:=x;exact p.lt
 |dK kvs=>obtain⟨_,_,_,_,o,_,_,e,_⟩:=x;exact Heap.lt_size e
 |dT kvs=>obtain⟨_,_,_,_,o,_,_,e,_⟩:=x;exact Heap.lt_size e
 |set S n=>obtain⟨o,_,_,_,e,_⟩:=x;exact Heap.lt_size e
 |ins C dx fs=>obtain⟨_,_,_,e,_⟩:=x;exact Heap.lt_size e
 |own y=>obtain⟨_,e⟩:=x;exact Heap.lt_size e
 |xd fs=>obtain⟨_,⟨_,_,_,e,_⟩,_⟩:=x;exact Heap.lt_size e
 |rng lo hi=>obtain⟨_,_,_,e⟩:=x;exact Heap.lt_size e
 |frz ob u=>obtain⟨e,_⟩:=x;exact Heap.lt_size e
 |tbl ps=>exact Heap.lt_size (show h.get? a=some _ from x)
 |met f y=>exact Heap.lt_size (show h.get? a=some _ from x)
 |ext φ=>obtain⟨_,⟨_,e⟩,_⟩:=x;exact Heap.lt_size e
theorem Paired.mapP{α β:Type}{F G:α->β->Prop}:∀{l₁:List α} {l₂:List β},Paired F l₁ l₂->(∀a b,F a b->G a b)->Paired G l₁ l₂
 |_,_,.nil,_=>.nil
 |_,_,.cons r t,f=>.cons (f _ _ r) (Paired.mapP t f)
theorem ObjOk.stay(x:ObjOk P w H h a o)(k:∀b u,(b=a∨H b=some (.own a))->h.get? b=some u->h'.get? b=some u)
  (ho:∀b,H b=some (.own a)->H' b=some (.own a)) (ht:∀b xs,H b=some (.tup xs)->H' b=some (.tup xs)):ObjOk P w H' h' a o:=by
 induction o with
 |lst xs=>obtain⟨z,its,n,r,e⟩:=x;exact⟨z,its,n,r,k _ _ (.inl rfl) e⟩
 |tup xs=>obtain⟨z,its,r,ob,e,c⟩:=x;exact⟨z,its,r,ob,k _ _ (.inl rfl) e,c⟩
 |dK kvs=>obtain⟨z,y,vs,r,ob,es,ep,e,c⟩:=x;exact⟨z,y,vs,r,ob,es,ep,k _ _ (.inl rfl) e,c⟩
 |dT kvs=>
  obtain⟨z,y,xs,r,ob,es,ep,e,c⟩:=x;exact⟨z,y,xs,Paired.mapP r fun p q z=>⟨z.1,ht _ _ z.2.1,z.2.2⟩,ob,es,ep,k _ _ (.inl rfl) e,c⟩
 |set S n=>obtain⟨ob,es,ep,t,e,c⟩:=x;exact⟨ob,es,ep,t,k _ _ (.inl rfl) e,c⟩
 |ins C dx fs=>
  obtain⟨d,z,ne,e,mA,⟨od,es,ep,e2,c⟩,r⟩:=x;exact⟨ho _ d,z,ne,k _ _ (.inl rfl) e,mA,⟨od,es,ep,k _ _ (.inr d) e2,c⟩,r⟩
 |own y=>obtain⟨ob,e⟩:=x;exact⟨ob,k _ _ (.inl rfl) e⟩
 |xd fs=>obtain⟨mA,⟨od,es,ep,e,c⟩,r⟩:=x;exact⟨mA,⟨od,es,ep,k _ _ (.inl rfl) e,c⟩,r⟩
 |rng lo hi=>obtain⟨t,u,v,e⟩:=x;exact⟨t,u,v,k _ _ (.inl rfl) e⟩
 |frz ob u ih=>obtain⟨e,q⟩:=x;exact⟨k _ _ (.inl rfl) e,ih q⟩
 |tbl ps=>
  have e:h.get? a=some { cls:=.none,data:=.fields ps }:=x;show h'.get? a=some { cls:=.none,data:=.fields ps };exact k a _ (.inl rfl) e
 |met f y=>
  have e:h.get? a=some (PySem.W.methodObj (.ref f) (.ref y)):=x;show h'.get? a=some (PySem.W.methodObj (.ref f) (.ref y));exact k a _ (.inl rfl) e
 |ext φ=>obtain⟨p,⟨o,e⟩,st⟩:=x;exact⟨st _ _ p fun o q=>k _ _ (.inl rfl) q,⟨o,k _ _ (.inl rfl) e⟩,st⟩
theorem HOk.lt(x:HOk P w H h)(e:H a=some o):a<h.objs.size:=(x a o e).lt
theorem HOk.fresh(x:HOk P w H h)(e:h.objs.size≤a):H a=none:=by
 cases q:H a with
 |none=>rfl
 |some u=>exact absurd (Nat.lt_of_lt_of_le (x.lt q) e) (Nat.lt_irrefl _)
theorem HOk.kept(x:HOk P w H h)(k:∀b u,h.get? b=some u->h'.get? b=some u):HOk P w H h':=fun a o e=>
 (x a o e).stay (fun b u _ q=>k b u q) (fun _ q=>q) fun _ _ q=>q
theorem HOk.laid(x:HOk P w H h)(k:∀b u,h.get? b=some u->h'.get? b=some u)(hp:h.objs.size≤a)(new:ObjOk P w (upd H a o) h' a o):HOk P w (upd H a o) h':=fun b u e=>by
 have hn:=x.fresh hp;by_cases hb:b=a
 ·subst hb;rw[qrz] at e;cases e;exact new
 ·rw[qiz hb] at e;exact (x b u e).stay (fun c v _ q=>k c v q) (fun c q=>by rw[qiz (qaez q hn)];exact q) fun c xs q=>by rw[qiz (qaez q hn)];exact q
end
def Rd(H:Hp)(a:Addr)(u:HO):Prop:=H a=some u∨∃o,H a=some (.frz o u)
theorem Rd.ok{P:Program}{w:World}{H:Hp}{h:Heap}{a:Addr}{u:HO}(r:Rd H a u)(x:HOk P w H h):ObjOk P w H h a u:=by
 rcases r with r|⟨o,r⟩
 ·exact x a u r
 ·obtain⟨_,q⟩:=x a _ r;exact q
def Mut:Option HO->Prop
 |some (.lst _)=>True
 |some (.dK _)=>True
 |some (.dT _)=>True
 |some (.set _ _)=>True
 |some (.ins _ _ _)=>True
 |some (.ext _)=>True
 |_=>False
section
variable {P:Program} {w:World} {H:Hp} {h h':Heap} {x e:Addr} {o':HO}
theorem HOk.write(ok:HOk P w H h)(mu:Mut (H x))(he:e=x∨H e=some (.own x))(k:∀b u,b≠e->h.get? b=some u->h'.get? b=some u)(heo:∃u,h'.get? e=some u)
  (new:ObjOk P w (upd H x o') h' x o'):HOk P w (upd H x o') h':=fun b u q=>by
 have nown:∀c y,H c=some (.own y)->c≠x:=fun c y r z=>by subst z;rw[r] at mu;exact mu
 have ntup:∀c xs,H c=some (.tup xs)->c≠x:=fun c xs r z=>by subst z;rw[r] at mu;exact mu
 by_cases hb:b=x
 ·subst hb;rw[qrz] at q;cases q;exact new
 ·rw[qiz hb] at q;by_cases hbe:b=e
  ·have q':H b=some (.own x):=by
    rcases he with z|z
    ·exact absurd (hbe.trans z) hb
    ·rw[hbe];exact z
   rw[q] at q';cases q';obtain⟨v,hv⟩:=heo;exact⟨v,by rw[hbe];exact hv⟩
  ·refine (ok b u q).stay (fun c v hc r=>k c v ?_ r) (fun c r=>by rw[qiz (nown c b r)];exact r) fun c xs r=>by rw[qiz (ntup c xs r)];exact r
   rcases hc with rfl|hc
   ·exact hbe
   ·rintro rfl;rcases he with z|z
    ·exact nown c b hc z
    ·rw[hc] at z;cases z;exact hb rfl
end
structure Un(fs ex:List Addr)(H H':Hp)(h h':Heap):Prop where
 keep:∀b o,h.get? b=some o->H b=none->b∉fs->b∉ex->h'.get? b=some o
 slot:∀b o,h.get? b=some o->H b=none->b∈fs->b∉ex->∃sl,h'.get? b=some { o with slots:=sl }
 free:∀b o,h.get? b=some o->H b=none->b∉ex->H' b=none
 there:∀b o,h.get? b=some o->b∉ex->∃o',h'.get? b=some o'
 tups:∀b xs,H b=some (.tup xs)->H' b=some (.tup xs)
 frzs:∀b o u,H b=some (.frz o u)->H' b=some (.frz o u)
 tbls:∀b ps,H b=some (.tbl ps)->∃more,H' b=some (.tbl (ps++more))
section
variable {fs fs' ex ex':List Addr} {H H1 H2:Hp} {h h1 h2 h':Heap} {a x e:Addr} {o:HO}
theorem Un.any(u:Un fs ex H H1 h h1){b:Addr}{ob:Obj}(q:h.get? b=some ob)(n:H b=none)(hx:b∉ex):∃sl,h1.get? b=some { ob with slots:=sl }:=by
 by_cases hb:b∈fs
 ·exact u.slot b ob q n hb hx
 ·exact⟨ob.slots,u.keep b ob q n hb hx⟩
theorem Un.kept(k:∀b u,h.get? b=some u->h'.get? b=some u):Un fs ex H H h h':=
 ⟨fun b ob q _ _ _=>k b ob q,fun b ob q _ _ _=>⟨ob.slots,k b ob q⟩,fun _ _ _ n _=>n,fun b ob q _=>⟨ob,k b ob q⟩,fun _ _ q=>q,fun _ _ _ q=>q,fun _ ps q=>⟨#[],by rw[q];simp⟩⟩
theorem Un.refl:Un fs ex H H h h:=Un.kept fun _ _ q=>q
theorem Un.laid(k:∀b u,h.get? b=some u->h'.get? b=some u)(hp:h.objs.size≤a)(hn:H a=none):Un fs ex H (upd H a o) h h' where
 keep:=fun b u q _ _ _=>k b u q
 slot:=fun b u q _ _ _=>⟨u.slots,k b u q⟩
 free:=fun b u q n _=>by rw[qiz (Nat.ne_of_lt (Nat.lt_of_lt_of_le (Heap.lt_size q) hp))];exact n
 there:=fun b u q _=>⟨u,k b u q⟩
 tups:=fun b xs q=>by rw[qiz (qaez q hn)];exact q
 frzs:=fun b u xs q=>by rw[qiz (qaez q hn)];exact q
 tbls:=fun b ps q=>⟨#[],by rw[qiz (qaez q hn),q];simp⟩
theorem Un.write(mu:Mut (H x))(he:e=x∨H e=some (.own x))(k:∀b u,b≠e->h.get? b=some u->h'.get? b=some u)(heo:∃u,h'.get? e=some u):Un fs ex H (upd H x o) h h':=by
 have hx:∀b,H b=none->b≠x:=fun b n z=>by subst z;rw[n] at mu;exact mu
 have hb:∀b,H b=none->b≠e:=fun b n z=>by
  subst z;rcases he with r|r
  ·exact hx b n r
  ·rw[n] at r;cases r
 have hm:∀b u,H b=some u->¬Mut (some u)->b≠x:=fun b u q nm z=>by subst z;rw[q] at mu;exact nm mu
 refine⟨fun b u q n _ _=>k b u (hb b n) q,fun b u q n _ _=>⟨u.slots,k b u (hb b n) q⟩,fun b u q n _=>by rw[qiz (hx b n)];exact n,fun b u q _=>?_,
  fun b xs q=>by rw[qiz (hm b _ q fun z=>z)];exact q,fun b u xs q=>by rw[qiz (hm b _ q fun z=>z)];exact q,fun b ps q=>⟨#[],by rw[qiz (hm b _ q fun z=>z),q];simp⟩⟩
 by_cases hbe:b=e
 ·subst hbe;exact heo
 ·exact⟨u,k b u hbe q⟩
end
def trk(h:Heap)(H:Hp):List Addr:=(List.range h.objs.size).filter fun a=>(H a).isSome
def hidT(h:Heap)(H:Hp):Heap:=PySem.W.hideAll h (trk h H)
theorem qmxz(h:Heap)(H:Hp):(hidT h H).objs.size=h.objs.size:=PySem.W.hideAll_size _ _
theorem qmyz{h:Heap}{H:Hp}{b:Addr}{o:Obj}(e:h.get? b=some o)(n:H b=none):(hidT h H).get? b=some o:=
 PySem.W.hideAll_get _ e fun hm=>by
  have q:(H b).isSome=true:=(List.mem_filter.mp hm).2;rw[n] at q;simp at q
theorem qmzz{h:Heap}{H:Hp}{b:Addr}{o:Obj}(e:(hidT h H).get? b=some o):h.get? b=some o/\H b=none:=by
 have e':h.get? b=some o:=PySem.W.of_hideAll (trk h H) e;refine⟨e',?_⟩;cases q:H b with
 |none=>rfl
 |some x=>
  have hm:b∈trk h H:=List.mem_filter.mpr ⟨List.mem_range.mpr (Heap.lt_size e'),by simp[q]⟩;have z:(hidT h H).get? b=none:=PySem.W.hideAll_none (trk h H) hm;rw[z] at e;cases e
end L2
namespace L2
open PySem PySem.Spec PyProof.Rows
structure Mod(K:PySem.W.Frag)(mg:Str->Option Value)(base:Heap):Prop where
 kin:K.In base
 glob:base.Ns mainGlobals mg
 blt:∃mb,base.Ns builtinsNs mb/\∀x:Str,x≠"__name__"->mb x=bootBuiltins x
 nolimit:base.NoLimit
structure Cx where
 prog:Program
 w:World
 K:PySem.W.Frag
 mg:Str->Option Value
 base:Heap
 A:Around
 N:List Str
 s₀:Shared
 H₀:Hp
 env:Env
 outer:List Env
 stack:List Env
 ex:List Addr
 fn:Str->Bool
 calm:Bool
 pn:List (Addr×Obj)
 xe:Value->Shared->Prop
def frs(l:List Env):List Addr:=l.filterMap (·.frame)
abbrev Cx.fs(X:Cx):List Addr:=frs X.outer
def Vis(sc:Scope)(x:Str):Prop:=sc.names.lookup x=some .local∨sc.names.lookup x=some .cell∨sc.names.lookup x=some .free
def Loc(sc:Scope)(x:Str):Prop:=sc.names.lookup x=some .local∨sc.names.lookup x=some .cell
def Look(env:Env)(h:Heap)(m:Str->Option Value)(x:Str)(u:Value):Prop:=
 (env.kindOf x=some .local/\m x=some u)∨((env.kindOf x=some .cell∨env.kindOf x=some .free)/\∃c,env.cells.lookup x=some c/\h.IsCell c (some u))
structure Cx.Ok(X:Cx):Prop where
 mod:Mod X.K X.mg X.base
 kind:X.env.scope.kind=.function
 glob:X.env.globals=mainGlobals
 blt:X.env.builtins=builtinsNs
 above:X.s₀.heap.objs.size≤X.env.locals
 inj:∀x y c,X.env.cells.lookup x=some c->X.env.cells.lookup y=some c->x=y
 has:∀x,(X.env.kindOf x=some .cell∨X.env.kindOf x=some .free)->∃c,X.env.cells.lookup x=some c
 cab:∀x c,X.fn x=true->X.env.cells.lookup x=some c->X.s₀.heap.objs.size≤c
 hd:X.calm=true->X.A.handled=none
 frames:X.A.frames=some X.stack
 stk:X.stack=X.outer∨(X.stack=X.env::X.outer/\X.env.frame=some X.env.locals)
 exf:∀b∈X.ex,b≠X.env.locals/\∀x c,X.env.cells.lookup x=some c->c≠b
 bs:∀b o,X.base.get? b=some o->X.s₀.heap.get? b=some o/\X.H₀ b=none
 bsz:X.base.objs.size≤X.s₀.heap.objs.size
 noex:∀b o,X.base.get? b=some o->b∉X.ex
 exfs:∀b∈X.ex,b∉X.fs
 funs:X.s₀.heap.FunFrames X.base X.outer
 frf:∀b∈X.fs,X.H₀ b=none
structure Inv(X:Cx)(pins:List (Addr×Obj))(σ:List (Option V))(H:Hp)(s:Shared):Prop where
 ok:X.Ok
 os:s.os=X.s₀.os
 bare:AllBare s.gens
 base:Un X.fs X.ex X.H₀ H X.s₀.heap s.heap
 loc:∃m,s.heap.Ns X.env.locals m/\∀(i:Nat) (x:Str) (v:V),X.N[i]?=some x->σ[i]?=some (some v)->Vis X.env.scope x->∃u,RelV v u/\Look X.env s.heap m x u
 cell:∀x c,X.env.cells.lookup x=some c->∃v,s.heap.IsCell c v
 free:H X.env.locals=none
 freeC:∀x c,X.env.cells.lookup x=some c->H c=none
 pin:∀p∈X.pn++pins,s.heap.get? p.1=some p.2/\H p.1=none/\p.1≠X.env.locals/\p.1∉X.fs/\∀v,p.2.data≠.cell v
 hok:HOk X.prog X.w H s.heap
 len:σ.length=X.N.length
section
variable {X:Cx} {pins:List (Addr×Obj)} {σ:List (Option V)} {H H':Hp} {s:Shared} {h':Heap}
theorem Cx.Ok.nofr(ok:X.Ok){b:Addr}{o:Obj}(e:X.base.get? b=some o):b∉X.fs:=fun hb=>by
 have:=(ok.funs.mem hb).1;rw[e] at this;cases this
theorem Inv.bs(I:Inv X pins σ H s):∀b o,X.base.get? b=some o->s.heap.get? b=some o/\H b=none:=fun b o e=>
 ⟨I.base.keep b o (I.ok.bs b o e).1 (I.ok.bs b o e).2 (I.ok.nofr e) (I.ok.noex b o e),I.base.free b o (I.ok.bs b o e).1 (I.ok.bs b o e).2 (I.ok.noex b o e)⟩
theorem Inv.bk(I:Inv X pins σ H s):∀b o,X.base.get? b=some o->s.heap.get? b=some o:=fun b o e=>(I.bs b o e).1
theorem Inv.mod(I:Inv X pins σ H s):Mod X.K X.mg X.base:=I.ok.mod
theorem Inv.kIn(I:Inv X pins σ H s):X.K.In s.heap:=I.ok.mod.kin.keeps I.bk
theorem Inv.lt(I:Inv X pins σ H s):X.env.locals<s.heap.objs.size:=let ⟨_,hn,_⟩:=I.loc;hn.lt
theorem Inv.sz(I:Inv X pins σ H s):X.s₀.heap.objs.size≤s.heap.objs.size:=Nat.le_trans I.ok.above (Nat.le_of_lt I.lt)
theorem Inv.nofs(I:Inv X pins σ H s){a:Addr}(h:s.heap.objs.size≤a):a∉X.fs:=fun hb=>by
 obtain⟨_,o,ho,_⟩:=I.ok.funs.mem hb;exact absurd (Nat.lt_of_lt_of_le (Heap.lt_size ho) (Nat.le_trans I.sz h)) (Nat.lt_irrefl _)
theorem Inv.cne(I:Inv X pins σ H s):∀x c,X.env.cells.lookup x=some c->c≠X.env.locals:=fun x c e z=>by
 obtain⟨v,o,ho,hd⟩:=I.cell x c e;obtain⟨m,⟨o',es,ep,ho',hd',_⟩,_⟩:=I.loc;rw[z,ho'] at ho;cases ho;rw[hd'] at hd;cases hd
theorem Inv.funs(I:Inv X pins σ H s):s.heap.FunFrames X.base X.outer:=by
 have all:∀(l:List Env),(∀b∈frs l,b∈X.fs)->X.s₀.heap.FunFrames X.base l->s.heap.FunFrames X.base l:=by
  intro l
  induction l with
  |nil=>intro _ _;trivial
  |cons env r ih=>
   intro hs hl;obtain⟨hk,⟨L,o,hf,hn,ho,hd⟩,hr⟩:=hl;have hL:L∈X.fs:=hs L (by unfold frs;rw[List.filterMap_cons,hf];exact List.mem_cons_self);obtain⟨sl,e⟩:=I.base.slot L o ho (I.ok.frf L hL) hL fun z=>I.ok.exfs L z hL;exact⟨hk,⟨L,_,hf,hn,e,hd⟩,ih (fun b hb=>hs b (by unfold frs;rw[List.filterMap_cons,hf];exact List.mem_cons_of_mem _ hb)) hr⟩
 exact all X.outer (fun _ hb=>hb) I.ok.funs
theorem Inv.stack(I:Inv X pins σ H s):s.heap.FunFrames X.base X.stack:=by
 rcases I.ok.stk with e|⟨e,hf⟩
 ·rw[e];exact I.funs
 ·rw[e];obtain⟨m,hn,_⟩:=I.loc;refine .cons (by rw[I.ok.kind];decide) hf hn ?_ I.funs;exact Heap.get?_none_of_le (Nat.le_trans I.ok.bsz I.ok.above)
theorem Inv.stkSub(I:Inv X pins σ H s):∀b∈frs X.stack,b∈X.env.locals::X.fs:=fun b hb=>by
 rcases I.ok.stk with e|⟨e,hf⟩
 ·rw[e] at hb;exact List.mem_cons_of_mem _ hb
 ·rw[e] at hb;unfold frs at hb;rw[List.filterMap_cons,hf] at hb;exact hb
theorem Inv.stkFree(I:Inv X pins σ H s):∀b∈frs X.stack,H b=none:=fun b hb=>by
 rcases List.mem_cons.mp (I.stkSub b hb) with e|hb
 ·rw[e];exact I.free
 ·obtain⟨_,o,ho,_⟩:=I.ok.funs.mem hb;exact I.base.free b o ho (I.ok.frf b hb) fun z=>I.ok.exfs b z hb
theorem Inv.step{g':Array GenState}{t':Nat}{d':Drawn}{ch:List Addr}(I:Inv X pins σ H s)
  (hch:∀b∈ch,(b∈X.ex∨X.s₀.heap.objs.size≤b)/\b≠X.env.locals/\(∀x c,X.env.cells.lookup x=some c->c≠b)/\∀p∈X.pn++pins,p.1≠b)
  (keep:∀b o,b≠X.env.locals->b∉X.fs->b∉ch->s.heap.get? b=some o->H b=none->h'.get? b=some o)
  (slot:∀b o,b≠X.env.locals->b∈X.fs->b∉ch->s.heap.get? b=some o->H b=none->∃sl,h'.get? b=some { o with slots:=sl }) (free:∀b o,b∉ch->s.heap.get? b=some o->H b=none->H' b=none)
  (there:∀b o,b∉ch->s.heap.get? b=some o->∃o',h'.get? b=some o')
  (tups:∀b xs,H b=some (.tup xs)->H' b=some (.tup xs)) (frzs:∀b o u,H b=some (.frz o u)->H' b=some (.frz o u)) (tbls:∀b ps,H b=some (.tbl ps)->∃more,H' b=some (.tbl (ps++more)))
  (ns:∀m,s.heap.Ns X.env.locals m->h'.Ns X.env.locals m) (hok:HOk X.prog X.w H' h') (hg:AllBare g'):
  Inv X pins σ H' { s with heap:=h',gens:=g',drawn:=d',toks:=t' }:=by
 have neL:∀b o,X.s₀.heap.get? b=some o->b≠X.env.locals:=fun b o e=>Nat.ne_of_lt (Nat.lt_of_lt_of_le (Heap.lt_size e) I.ok.above);have neC:∀b o,X.s₀.heap.get? b=some o->b∉X.ex->b∉ch:=fun b o e hx hb=>by
  rcases (hch b hb).1 with z|z
  ·exact hx z
  ·exact absurd (Nat.lt_of_lt_of_le (Heap.lt_size e) z) (Nat.lt_irrefl _)
 have cellK:∀x c,X.env.cells.lookup x=some c->∀v,s.heap.IsCell c v->h'.IsCell c v:=fun x c e v ⟨o,ho,hd⟩=>by
  have nch:c∉ch:=fun z=>(hch c z).2.2.1 x c e rfl;by_cases hc:c∈X.fs
  ·obtain⟨sl,q⟩:=slot c o (I.cne x c e) hc nch ho (I.freeC x c e);exact⟨_,q,hd⟩
  ·exact⟨o,keep c o (I.cne x c e) hc nch ho (I.freeC x c e),hd⟩
 refine⟨I.ok,I.os,hg,⟨fun b o e n hb hx=>?_,fun b o e n hb hx=>?_,fun b o e n hx=>?_,fun b o e hx=>?_,fun b xs e=>tups b xs (I.base.tups b xs e),fun b o xs e=>frzs b o xs (I.base.frzs b o xs e),fun b ps e=>?_⟩,?_,fun x c e=>?_,?_,fun x c e=>?_,fun p hp=>?_,hok,I.len⟩
 ·exact keep b o (neL b o e) hb (neC b o e hx) (I.base.keep b o e n hb hx) (I.base.free b o e n hx)
 ·obtain⟨sl,e1⟩:=I.base.slot b o e n hb hx;obtain⟨sl',e2⟩:=slot b _ (neL b o e) hb (neC b o e hx) e1 (I.base.free b o e n hx);exact⟨sl',e2⟩
 ·obtain⟨o',e1⟩:=I.base.there b o e hx;exact free b o' (neC b o e hx) e1 (I.base.free b o e n hx)
 ·obtain⟨o',e1⟩:=I.base.there b o e hx;exact there b o' (neC b o e hx) e1
 ·obtain⟨m1,e1⟩:=I.base.tbls b ps e;obtain⟨m2,e2⟩:=tbls b _ e1;exact⟨m1++m2,by rw[e2,Array.append_assoc]⟩
 ·obtain⟨m,hn,hl⟩:=I.loc;refine⟨m,ns m hn,fun i x v e1 e2 e3=>?_⟩;obtain⟨u,r,l⟩:=hl i x v e1 e2 e3;refine⟨u,r,?_⟩;rcases l with l|⟨k,c,e,z⟩
  ·exact .inl l
  ·exact .inr ⟨k,c,e,cellK x c e _ z⟩
 ·obtain⟨v,z⟩:=I.cell x c e;exact⟨v,cellK x c e v z⟩
 ·obtain⟨m,⟨o,_,_,ho,_⟩,_⟩:=I.loc;exact free _ o (fun z=>(hch _ z).2.1 rfl) ho I.free
 ·obtain⟨v,o,ho,hd⟩:=I.cell x c e;exact free c o (fun z=>(hch c z).2.2.1 x c e rfl) ho (I.freeC x c e)
 ·obtain⟨e,n,ne,nf,d⟩:=I.pin p hp;have nch:p.1∉ch:=fun z=>(hch p.1 z).2.2.2 p hp rfl;exact⟨keep p.1 p.2 ne nf nch e n,free p.1 p.2 nch e n,ne,nf,d⟩
theorem Inv.un{t':Nat}(I:Inv X pins σ H s)(u:Un X.fs [] H H' s.heap h')(hok:HOk X.prog X.w H' h'):Inv X pins σ H' { s with heap:=h',toks:=t' }:=by
 obtain⟨m,⟨o,es,ep,ho,r⟩,_⟩:=id I.loc;obtain⟨sl,hL⟩:=u.any ho I.free (by simp);exact I.step (g':=s.gens) (d':=s.drawn) (ch:=[]) (fun _ z=>nomatch z) (fun b o _ hb _ e n=>u.keep b o e n hb (by simp)) (fun b o _ hb _ e n=>u.slot b o e n hb (by simp)) (fun b o _ e n=>u.free b o e n (by simp)) (fun b o _ e=>u.there b o e (by simp)) u.tups u.frzs u.tbls (fun m' hm=>by
  obtain⟨o',es',ep',ho',r'⟩:=hm;rw[ho] at ho';cases ho';exact⟨_,es',ep',hL,r'⟩) hok I.bare
theorem Inv.call{g':Array GenState}{t':Nat}{d':Drawn}{ch:List Addr}(I:Inv X pins σ H s)(u:Un (frs X.stack) ch H H' s.heap h')(hok:HOk X.prog X.w H' h')(hg:AllBare g')
  (hch:∀b∈ch,(b∈X.ex∨X.s₀.heap.objs.size≤b)/\b≠X.env.locals/\(∀x c,X.env.cells.lookup x=some c->c≠b)/\∀p∈X.pn++pins,p.1≠b):
  Inv X pins σ H' { s with heap:=h',gens:=g',drawn:=d',toks:=t' }:=by
 obtain⟨m,⟨o,es,ep,ho,r⟩,_⟩:=id I.loc;obtain⟨sl,hL⟩:=u.any ho I.free fun z=>(hch _ z).2.1 rfl;exact I.step (ch:=ch) hch (fun b o hL hb hc e n=>u.keep b o e n (fun z=>(List.mem_cons.mp (I.stkSub b z)).elim hL hb) hc) (fun b o _ _ hc e n=>u.any e n hc) (fun b o hc e n=>u.free b o e n hc) (fun b o hc e=>u.there b o e hc) u.tups u.frzs u.tbls (fun m' hm=>by
  obtain⟨o',es',ep',ho',r'⟩:=hm;rw[ho] at ho';cases ho';exact⟨_,es',ep',hL,r'⟩) hok hg
theorem Inv.turned{t':Nat}{it:Addr}(I:Inv X pins σ H s)(k:∀b o,b≠it->s.heap.get? b=some o->h'.get? b=some o)(hn:H it=none)(hL:it≠X.env.locals)
  (h1:it∈X.ex∨X.s₀.heap.objs.size≤it) (h2:∀x c,X.env.cells.lookup x=some c->c≠it) (h3:∀p∈X.pn++pins,p.1≠it):Inv X pins σ H { s with heap:=h',toks:=t' }:=by
 have nit:∀b u,H b=some u->b≠it:=fun b u e z=>by rw[z,hn] at e;cases e
 refine I.step (g':=s.gens) (d':=s.drawn) (ch:=[it]) (fun b hb=>?_) (fun b o _ _ hc e _=>k b o (fun z=>hc (by simp[z])) e) (fun b o _ _ hc e _=>⟨o.slots,k b o (fun z=>hc (by simp[z])) e⟩) (fun _ _ _ _ n=>n)
  (fun b o hc e=>⟨o,k b o (fun z=>hc (by simp[z])) e⟩) (fun _ _ e=>e) (fun _ _ _ e=>e) (fun b ps e=>⟨#[],by rw[e];simp⟩) (fun m hm=>?_) (fun b u e=>?_) I.bare
 ·have e:b=it:=by simpa using hb
  subst e;exact⟨h1,hL,h2,h3⟩
 ·obtain⟨o,es,ep,ho,r⟩:=hm;exact⟨o,es,ep,k _ o (Ne.symm hL) ho,r⟩
 ·refine (I.hok b u e).stay (fun c v hc q=>k c v ?_ q) (fun _ q=>q) fun _ _ q=>q;rcases hc with z|z
  ·rw[z];exact nit b u e
  ·exact nit c _ z
theorem Inv.tok(I:Inv X pins σ H s)(t:Nat):Inv X pins σ H { s with toks:=t }:=I.un (h':=s.heap) (t':=t) Un.refl I.hok
theorem Inv.kept{t':Nat}(I:Inv X pins σ H s)(k:∀b u,s.heap.get? b=some u->h'.get? b=some u):Inv X pins σ H { s with heap:=h',toks:=t' }:=I.un (Un.kept k) (I.hok.kept k)
theorem Inv.laid{a:Addr}{o:HO}{t':Nat}(I:Inv X pins σ H s)(k:∀b u,s.heap.get? b=some u->h'.get? b=some u)(hp:s.heap.objs.size≤a)(new:ObjOk X.prog X.w (upd H a o) h' a o):
  Inv X pins σ (upd H a o) { s with heap:=h',toks:=t' }:=I.un (Un.laid k hp (I.hok.fresh hp)) (I.hok.laid k hp new)
theorem Inv.write{x e:Addr}{o:HO}{t':Nat}(I:Inv X pins σ H s)(mu:Mut (H x))(he:e=x∨H e=some (.own x))(k:∀b u,b≠e->s.heap.get? b=some u->h'.get? b=some u)(heo:∃u,h'.get? e=some u)
  (new:ObjOk X.prog X.w (upd H x o) h' x o):Inv X pins σ (upd H x o) { s with heap:=h',toks:=t' }:=I.un (Un.write mu he k heo) (I.hok.write mu he k heo new)
theorem Inv.pins_of{pins':List (Addr×Obj)}(I:Inv X pins σ H s)(h:∀p∈pins',s.heap.get? p.1=some p.2/\H p.1=none/\p.1≠X.env.locals/\p.1∉X.fs/\∀v,p.2.data≠.cell v):Inv X pins' σ H s:=
 ⟨I.ok,I.os,I.bare,I.base,I.loc,I.cell,I.free,I.freeC,fun p hp=>(List.mem_append.mp hp).elim (fun z=>I.pin p (List.mem_append_left _ z)) (h p),I.hok,I.len⟩
theorem qhfz{N:List Str}(hN:N.Nodup){i j:Nat}{x:Str}(a:N[i]?=some x)(b:N[j]?=some x):i=j:=by
 obtain⟨h1,e1⟩:=List.getElem?_eq_some_iff.mp a;obtain⟨h2,e2⟩:=List.getElem?_eq_some_iff.mp b;exact (List.getElem_inj hN).mp (e1.trans e2.symm)
theorem qe9z{M:Model}{A:Around}{E:Value->Shared->Prop}{i:Nat}{x:Str}{v:V}{u:Value}{Q:Unit->Shared->Prop}(I:Inv X pins σ H s)(hN:X.N.Nodup)(hi:X.N[i]?=some x)(hx:Loc X.env.scope x)(r:RelV v u)
  (h:∀s',Inv X pins (σ.set i (some v)) H s'->(∃a,Heap.SameBut a s.heap s'.heap/\(a=X.env.locals∨X.env.cells.lookup x=some a))->Q () s') (hf:X.fn x=true∨X.env.scope.names.lookup x=some .local:=by first|exact .inl rfl|exact .inr rfl|assumption):wpAny M A (storeName X.env x u) Q E s:=by
 obtain⟨m,hn,hl⟩:=id I.loc;have hcls:(X.env.scope.kind==.class||(X.env.scope.kind==.module&&X.env.locals != X.env.globals))=false:=by rw[I.ok.kind];rfl
 have hiσ:i<σ.length:=by rw[I.len];exact (List.getElem?_eq_some_iff.mp hi).1
 have cne:=I.cne;have tracked:∀{a:Addr} {h':Heap},(∃o,s.heap.get? a=some o/\H a=none)->Heap.SameBut a s.heap h'->HOk X.prog X.w H h':=fun {a h'} ha hs b ob e=>by
  obtain⟨_,_,hfree⟩:=ha;refine (I.hok b ob e).stay (fun c w' hc q=>(hs.2 c ?_).trans q) (fun _ q=>q) fun _ _ q=>q;rintro rfl;rcases hc with rfl|hc
  ·rw[hfree] at e;cases e
  ·rw[hfree] at hc;cases hc
 rcases hx with hk|hk
 ·refine wpAny_storeName_local hk hn (fun h' hn' hs=>?_) hcls;obtain⟨oL,_,_,hoL,_⟩:=id hn;refine h _ ⟨I.ok,I.os,I.bare,⟨fun b o e n hb hx=>?_,fun b o e n hb hx=>?_,I.base.free,fun b o e hx=>?_,I.base.tups,I.base.frzs,I.base.tbls⟩,⟨_,hn',fun j y v' e1 e2 e3=>?_⟩,fun y c e=>?_,I.free,I.freeC,fun p hp=>?_,tracked ⟨oL,hoL,I.free⟩ hs,by simpa using I.len⟩ ⟨_,hs,.inl rfl⟩
  ·exact (hs.2 b (Nat.ne_of_lt (Nat.lt_of_lt_of_le (Heap.lt_size e) I.ok.above))).trans (I.base.keep b o e n hb hx)
  ·obtain⟨sl,e1⟩:=I.base.slot b o e n hb hx;exact⟨sl,(hs.2 b (Nat.ne_of_lt (Nat.lt_of_lt_of_le (Heap.lt_size e) I.ok.above))).trans e1⟩
  ·obtain⟨o',e1⟩:=I.base.there b o e hx;exact⟨o',(hs.2 b (Nat.ne_of_lt (Nat.lt_of_lt_of_le (Heap.lt_size e) I.ok.above))).trans e1⟩
  ·by_cases hj:j=i
   ·subst hj;rw[hi] at e1;cases e1;rw[List.getElem?_set_self hiσ] at e2;cases e2;exact⟨u,r,.inl ⟨hk,by simp⟩⟩
   ·rw[List.getElem?_set_ne (Ne.symm hj)] at e2;obtain⟨u',r',q⟩:=hl j y v' e1 e2 e3;refine⟨u',r',?_⟩;rcases q with⟨k,e⟩|⟨k,c,e,z⟩
    ·refine .inl ⟨k,?_⟩;have:y≠x:=fun e=>hj (qhfz hN e1 (e▸hi));simp[this,e]
    ·exact .inr ⟨k,c,e,z.sameBut hs (cne y c e)⟩
  ·obtain⟨w',z⟩:=I.cell y c e;exact⟨w',z.sameBut hs (cne y c e)⟩
  ·obtain⟨e,n,ne,nf,d⟩:=I.pin p hp;exact⟨(hs.2 p.1 ne).trans e,n,ne,nf,d⟩
 ·have hfn:X.fn x=true:=by
   rcases hf with z|z
   ·exact z
   ·rw[z] at hk;cases hk
  obtain⟨c,hc⟩:=I.ok.has x (.inl hk);obtain⟨w',z⟩:=I.cell x c hc;refine wpAny_storeName_cell I.ok.kind hk hc z (fun h' hc' hs=>?_);obtain⟨oc,hoc,hocd⟩:=id z;refine h { s with heap:=h' } ⟨I.ok,I.os,I.bare,⟨fun b o e n hb hx=>?_,fun b o e n hb hx=>?_,I.base.free,fun b o e hx=>?_,I.base.tups,I.base.frzs,I.base.tbls⟩,⟨m,hn.sameBut hs (Ne.symm (cne x c hc)),fun j y v' e1 e2 e3=>?_⟩,fun y c' e=>?_,I.free,I.freeC,fun p hp=>?_,tracked ⟨oc,hoc,I.freeC x c hc⟩ hs,by simpa using I.len⟩ ⟨c,hs,.inr hc⟩
  ·exact (hs.2 b (Nat.ne_of_lt (Nat.lt_of_lt_of_le (Heap.lt_size e) (I.ok.cab x c hfn hc)))).trans (I.base.keep b o e n hb hx)
  ·obtain⟨sl,e1⟩:=I.base.slot b o e n hb hx;exact⟨sl,(hs.2 b (Nat.ne_of_lt (Nat.lt_of_lt_of_le (Heap.lt_size e) (I.ok.cab x c hfn hc)))).trans e1⟩
  ·obtain⟨o',e1⟩:=I.base.there b o e hx;exact⟨o',(hs.2 b (Nat.ne_of_lt (Nat.lt_of_lt_of_le (Heap.lt_size e) (I.ok.cab x c hfn hc)))).trans e1⟩
  ·by_cases hj:j=i
   ·subst hj;rw[hi] at e1;cases e1;rw[List.getElem?_set_self hiσ] at e2;cases e2;exact⟨u,r,.inr ⟨.inl hk,c,hc,hc'⟩⟩
   ·rw[List.getElem?_set_ne (Ne.symm hj)] at e2;obtain⟨u',r',q⟩:=hl j y v' e1 e2 e3;refine⟨u',r',?_⟩;rcases q with q|⟨k,c',e,z'⟩
    ·exact .inl q
    ·refine .inr ⟨k,c',e,z'.sameBut hs ?_⟩;rintro rfl;exact hj (qhfz hN e1 (I.ok.inj _ _ _ e hc▸hi))
  ·by_cases hcc:c'=c
   ·subst hcc;exact⟨_,hc'⟩
   ·obtain⟨w2,z2⟩:=I.cell y c' e;exact⟨w2,z2.sameBut hs hcc⟩
  ·obtain⟨e,n,ne,nf,d⟩:=I.pin p hp;refine⟨(hs.2 p.1 ?_).trans e,n,ne,nf,d⟩;intro q;rw[q,hoc] at e;have q':oc=p.2:=Option.some.inj e;exact d w' (by rw[←q'];exact hocd)
theorem qhgz{M:Model}{A:Around}{E:Value->Shared->Prop}{i:Nat}{x:Str}{v:V}{u:Value}{Q:Unit->Shared->Prop}(I:Inv X pins σ H s)(hN:X.N.Nodup)(hi:X.N[i]?=some x)(hx:Loc X.env.scope x)(r:RelV v u)
  (h:∀s',Inv X pins (σ.set i (some v)) H s'->Q () s') (hf:X.fn x=true∨X.env.scope.names.lookup x=some .local:=by first|exact .inl rfl|exact .inr rfl|assumption):wpAny M A (storeName X.env x u) Q E s:=
 qe9z I hN hi hx r (fun s' I' _=>h s' I') hf
theorem Inv.call'{s':Shared}{ch:List Addr}(I:Inv X pins σ H s)(ho:s'.os=s.os)(u:Un (frs X.stack) ch H H' s.heap s'.heap)(hok:HOk X.prog X.w H' s'.heap)(hg:AllBare s'.gens)
  (hch:∀b∈ch,(b∈X.ex∨X.s₀.heap.objs.size≤b)/\b≠X.env.locals/\(∀x c,X.env.cells.lookup x=some c->c≠b)/\∀p∈X.pn++pins,p.1≠b):Inv X pins σ H' s':=by
 obtain⟨h',g',d',t',o'⟩:=s';have e:o'=s.os:=ho;subst e;exact I.call (g':=g') (t':=t') (d':=d') u hok hg hch
end
abbrev XK:=Value->Option Addr->Hp->Prop
abbrev St:=List (Option V)
abbrev VK:=V->Hp->Prop
abbrev TE:=St->Hp->VK->Prop
abbrev TT:=St->Hp->(Bool->Hp->Prop)->Prop
abbrev TA:=St->Hp->(List V->Hp->Prop)->Prop
structure Ends where
 nx:St->Hp->Prop
 rt:VK
 bk:St->Hp->Prop:=fun _ _=>False
 ct:St->Hp->Prop:=fun _ _=>False
abbrev TS:=Ends->St->Hp->Prop
def EP(X:Cx)(pins:List (Addr×Obj))(σ:St)(Q:VK)(u:Value)(s':Shared):Prop:=∃v H',Inv X pins σ H' s'/\RelV v u/\Q v H'
def TP(X:Cx)(pins:List (Addr×Obj))(σ:St)(Q:Bool->Hp->Prop)(b:Bool)(s':Shared):Prop:=∃H',Inv X pins σ H' s'/\Q b H'
def AP(X:Cx)(pins:List (Addr×Obj))(σ:St)(Q:List V->Hp->Prop)(us:List Value)(s':Shared):Prop:=∃vs H',Inv X pins σ H' s'/\Vals vs us/\Q vs H'
def SP(X:Cx)(pins:List (Addr×Obj))(D:Ends)(f:Flow)(s':Shared):Prop:=
 match f with
 |.next=>∃σ' H',Inv X pins σ' H' s'/\D.nx σ' H'
 |.brk=>∃σ' H',Inv X pins σ' H' s'/\D.bk σ' H'
 |.cont=>∃σ' H',Inv X pins σ' H' s'/\D.ct σ' H'
 |.ret u=>∃v σ' H',Inv X pins σ' H' s'/\RelV v u/\D.rt v H'
def PE(X:Cx)(e:Expr)(t:TE):Prop:=
 ∀(pins:List (Addr×Obj)) (s:Shared) (σ:St) (H:Hp) (Q:VK),Inv X pins σ H s->t σ H Q->wpAny (model X.prog X.w) X.A (eval e X.env) (EP X pins σ Q) X.xe s
def PT(X:Cx)(e:Expr)(t:TT):Prop:=
 ∀(pins:List (Addr×Obj)) (s:Shared) (σ:St) (H:Hp) (Q:Bool->Hp->Prop),Inv X pins σ H s->t σ H Q->wpAny (model X.prog X.w) X.A (isTrue e X.env (eval e X.env)) (TP X pins σ Q) X.xe s
def PW(X:Cx)(e:Expr)(t:TT):Prop:=
 ∀(whole:Sem Value) (pins:List (Addr×Obj)) (s:Shared) (σ:St) (H:Hp) (Q:Bool->Hp->Prop),Inv X pins σ H s->t σ H Q->wpAny (model X.prog X.w) X.A (isTrue e X.env whole) (TP X pins σ Q) X.xe s
theorem PW.pt{X:Cx}{e:Expr}{t:TT}(h:PW X e t):PT X e t:=h _
def PA(X:Cx)(es:List Expr)(t:TA):Prop:=
 ∀(pos:Pos) (pins:List (Addr×Obj)) (s:Shared) (σ:St) (H:Hp) (Q:List V->Hp->Prop),Inv X pins σ H s->t σ H Q->wpAny (model X.prog X.w) X.A (spliced (backTo pos (starEach es X.env))) (AP X pins σ Q) X.xe s
def PS(X:Cx)(st:Stmt)(t:TS):Prop:=
 ∀(pins:List (Addr×Obj)) (s:Shared) (σ:St) (H:Hp) (D:Ends),Inv X pins σ H s->t D σ H->wpAny (model X.prog X.w) X.A (exec st X.env) (SP X pins D) X.xe s
def PSs(X:Cx)(st:List Stmt)(t:TS):Prop:=
 ∀(pins:List (Addr×Obj)) (s:Shared) (σ:St) (H:Hp) (D:Ends),Inv X pins σ H s->t D σ H->wpAny (model X.prog X.w) X.A (execs st X.env) (SP X pins D) X.xe s
theorem thn{α:Type}{t:Sem α}{Q Q':α->Shared->Prop}{M:Model}{A:Around}{E:Value->Shared->Prop}{s:Shared}(h:wpAny M A t Q E s)(hQ:∀a s,Q a s->Q' a s):wpAny M A t Q' E s:=wpAny_mono h hQ fun _ _ x=>x
end L2
namespace L2
open PySem PySem.Spec PyProof.Rows
section
variable {X:Cx}
theorem bin{a b:Expr}{ta tb:TE}(ha:PE X a ta)(hb:PE X b tb){pins:List (Addr×Obj)}{s:Shared}{σ:St}{H:Hp}{R:V->V->Hp->Prop}(I:Inv X pins σ H s)(h:ta σ H fun x H1=>tb σ H1 fun y H2=>R x y H2)
  {α:Type} {Q:α->Shared->Prop} {f:Value->Value->Sem α}
  (hf:∀v u s2 x y H2,Inv X pins σ H2 s2->RelV x v->RelV y u->R x y H2->wpAny (model X.prog X.w) X.A (f v u) Q X.xe s2):
  wpAny (model X.prog X.w) X.A (eval a X.env) (fun v s₁=>wpAny (model X.prog X.w) X.A (eval b X.env) (fun u s₂=>wpAny (model X.prog X.w) X.A (f v u) Q X.xe s₂) X.xe s₁) X.xe s:=by
 refine thn (ha pins s σ H _ I h) fun v s1 ⟨x,H1,I1,r1,q1⟩=>?_;refine thn (hb pins s1 σ H1 _ I1 q1) fun u s2 ⟨y,H2,I2,r2,q2⟩=>?_;exact hf v u s2 x y H2 I2 r1 r2 q2
def tVar(i:Nat):TE:=fun σ H Q=>∃v,σ[i]?=some (some v)/\Q v H
def tC(v:V):TE:=fun _ H Q=>Q v H
theorem qm0z{i:Nat}{x:Str}{pos:Pos}(hN:X.N[i]?=some x)(hv:Vis X.env.scope x)(hd:(x==("__debug__":Str))=false:=by decide)(hcd:(x==("__classdict__":Str))=false:=by decide):PE X (.Name x pos) (tVar i):=by
 intro pins s σ H Q I h;obtain⟨v,e,h⟩:=h;obtain⟨m,hn,hl⟩:=I.loc;obtain⟨u,r,l⟩:=hl i x v hN e hv;have fin:EP X pins σ Q u s:=⟨v,H,I,r,h⟩;rcases l with⟨hk,hm⟩|⟨hk,c,hc,hcell⟩
 ·exact wpAny_Name (wpAny_loadName_local I.ok.kind hk hn hm fin) hd
 ·rcases hk with hk|hk
  ·exact wpAny_Name (wpAny_loadName_cell I.ok.kind hk hc hcell fin) hd
  ·exact wpAny_Name (wpAny_loadName_free I.ok.kind hk hc hcell fin hcd) hd
theorem qm1z{i j pos}:PE X (.Constant (.int i) j pos) (tC (.int i)):=fun _ _ _ H _ I h=>wpAny_Constant_int ⟨.int i,H,I.tok _,⟨_,rfl⟩,h⟩
theorem qm2z{b j pos}:PE X (.Constant (.bool b) j pos) (tC (.bl b)):=fun _ _ _ H _ I h=>Constant_bool ⟨.bl b,H,I,rfl,h⟩
theorem qm3z{j pos}:PE X (.Constant .none j pos) (tC .non):=fun _ _ _ H _ I h=>Constant_none ⟨.non,H,I,rfl,h⟩
theorem qm4z{x j pos}:PE X (.Constant (.str x) j pos) (tC (.str x)):=fun _ _ _ H _ I h=>Calls.Constant_str ⟨.str x,H,I.tok _,⟨_,rfl⟩,h⟩
def Gl(X:Cx)(x:Str):Prop:=X.env.kindOf x=some .globalImplicit
theorem qb3z{E:Value->Shared->Prop}{pins:List (Addr×Obj)}{s:Shared}{σ:St}{H:Hp}{x:Str}{u:Value}{pos:Pos}{Q:Value->Shared->Prop}(I:Inv X pins σ H s)(hg:Gl X x)(hm:X.mg x=some u)(h:Q u s)
  (hd:(x==("__debug__":Str))=false:=by decide):wpAny (model X.prog X.w) X.A (eval (.Name x pos) X.env) Q E s:=
 Calls.Name_function_global I.ok.kind hg (Calls.loadGlobal_global (by rw[I.ok.glob];exact I.mod.glob.keeps I.bk) hm h) hd
theorem qaxz{E:Value->Shared->Prop}{pins:List (Addr×Obj)}{s:Shared}{σ:St}{H:Hp}{x:Str}{u:Value}{pos:Pos}{Q:Value->Shared->Prop}(I:Inv X pins σ H s)(hg:Gl X x)(hm:X.mg x=none)(hv:bootBuiltins x=some u)(h:Q u s)
  (hn:x≠"__name__":=by decide) (hd:(x==("__debug__":Str))=false:=by decide):wpAny (model X.prog X.w) X.A (eval (.Name x pos) X.env) Q E s:=by
 obtain⟨mb,h1,h2⟩:=I.mod.blt;exact Calls.Name_function_global I.ok.kind hg (Calls.loadGlobal_builtin (by rw[I.ok.glob];exact I.mod.glob.keeps I.bk) hm (by rw[I.ok.blt];exact h1.keeps I.bk) ((h2 x hn).trans hv) h) hd
theorem qm5z{x:Str}{v:V}{u:Value}{pos:Pos}(hg:Gl X x)(hm:X.mg x=some u)(r:RelV v u)(hd:(x==("__debug__":Str))=false:=by decide):PE X (.Name x pos) (tC v):=
 fun _ _ _ H _ I h=>qb3z I hg hm ⟨v,H,I,r,h⟩ hd
theorem qhhz{x:Str}{v:V}{u:Value}{pos:Pos}(hg:Gl X x)(hm:X.mg x=none)(hv:bootBuiltins x=some u)(r:RelV v u)(hn:x≠"__name__":=by decide)(hd:(x==("__debug__":Str))=false:=by decide):PE X (.Name x pos) (tC v):=
 fun _ _ _ H _ I h=>qaxz I hg hm hv ⟨v,H,I,r,h⟩ hn hd
variable {a b:Expr} {ta tb:TE} {pos:Pos}
def PC(X:Cx)(op:CmpOp)(a b:Expr)(t:TE):Prop:=
 ∀(pins:List (Addr×Obj)) (s:Shared) (σ:St) (H:Hp) (Q:VK),Inv X pins σ H s->t σ H Q ->
  wpAny (model X.prog X.w) X.A (eval a X.env) (fun v s₁=>wpAny (model X.prog X.w) X.A (eval b X.env) (fun u s₂=>wpAny (model X.prog X.w) X.A (compareOp op v u) (EP X pins σ Q) X.xe s₂) X.xe s₁) X.xe s
theorem qhiz{op:CmpOp}{t:TE}(h:PC X op a b t)(h1:behindInMarks op b=false:=by first|exact nobehind _ (by decide) (by decide)|rfl):PE X (.Compare a [op] [b] pos) t:=fun pins s σ H Q I hw=>wpAny_Compare1 (h pins s σ H Q I hw) h1
variable {tA tB':TT} {rest:List Expr}
def tAnd(t u:TT):TT:=fun σ H Q=>t σ H fun c H1=>if c=true then u σ H1 Q else Q false H1
def tOr(t u:TT):TT:=fun σ H Q=>t σ H fun c H1=>if c=true then Q true H1 else u σ H1 Q
def tNot(t:TT):TT:=fun σ H Q=>t σ H fun c H1=>Q (!c) H1
theorem pw_and1(ha:PT X a tA):PW X (.BoolOp .And [a] pos) tA:=by
 intro wh pins s σ H Q I h;refine isTrue_and (thn (ha pins s σ H Q I h) fun c s1 e=>?_);cases c with
 |true=>exact isTrue_and_nil e
 |false=>exact e
theorem pw_or1(ha:PT X a tA):PW X (.BoolOp .Or [a] pos) tA:=by
 intro wh pins s σ H Q I h;refine isTrue_or (thn (ha pins s σ H Q I h) fun c s1 e=>?_);cases c with
 |false=>exact isTrue_or_nil e
 |true=>exact e
theorem pw_and(ha:PT X a tA)(hb:PW X (.BoolOp .And (b::rest) pos) tB'):PW X (.BoolOp .And (a::b::rest) pos) (tAnd tA tB'):=by
 intro wh pins s σ H Q I h;refine isTrue_and (thn (ha pins s σ H _ I h) fun c s1 ⟨H1,I1,q1⟩=>?_);cases c with
 |true=>exact hb wh pins s1 σ H1 Q I1 q1
 |false=>exact⟨H1,I1,q1⟩
theorem pw_or(ha:PT X a tA)(hb:PW X (.BoolOp .Or (b::rest) pos) tB'):PW X (.BoolOp .Or (a::b::rest) pos) (tOr tA tB'):=by
 intro wh pins s σ H Q I h;refine isTrue_or (thn (ha pins s σ H _ I h) fun c s1 ⟨H1,I1,q1⟩=>?_);cases c with
 |true=>exact⟨H1,I1,q1⟩
 |false=>exact hb wh pins s1 σ H1 Q I1 q1
theorem qm6z(ha:PT X a tA):PT X (.UnaryOp .Not a pos) (tNot tA):=by
 intro pins s σ H Q I h;exact isTrue_not (ha pins s σ H (fun c H1=>Q (!c) H1) I h)
def tAndV(ta tb:TE):TE:=fun σ H Q=>ta σ H fun x H1=>∃c,x=.bl c/\if c=true then tb σ H1 Q else Q (.bl false) H1
def tNotV(ta:TE):TE:=fun σ H Q=>ta σ H fun x H1=>∃c,x=.bl c/\Q (.bl (!c)) H1
theorem qm7z{op}{t:TE}(h:PE X a t):PE X (.BoolOp op [a] pos) t:=fun pins s σ H Q I hw=>BoolOp_one (h pins s σ H Q I hw)
theorem qm8z(ha:PE X a ta)(hb:PE X (.BoolOp .And (b::rest) pos) tb):PE X (.BoolOp .And (a::b::rest) pos) (tAndV ta tb):=by
 intro pins s σ H Q I h;refine BoolOp_and (thn (ha pins s σ H _ I h) fun v s1 ⟨x,H1,I1,r1,q1⟩=>?_);obtain⟨c,rfl,q1⟩:=q1;cases r1;refine wpAny_truthy_bool ?_;cases c with
 |true=>exact hb pins s1 σ H1 Q I1 q1
 |false=>exact⟨.bl false,H1,I1,rfl,q1⟩
theorem qm9z(ha:PE X a ta):PE X (.UnaryOp .Not a pos) (tNotV ta):=by
 intro pins s σ H Q I h;refine UnaryOp_ (thn (ha pins s σ H _ I h) fun v s1 ⟨x,H1,I1,r1,q1⟩=>?_);obtain⟨c,rfl,q1⟩:=q1;cases r1;exact not_of (wpAny_truthy_bool ⟨.bl (!c),H1,I1,rfl,q1⟩)
end
end L2
namespace L2
open PySem PySem.Spec PyProof.Rows
def SqL(K:PySem.W.Frag)(H:Hp)(a:Addr)(xs:List V):Prop:=
 Rd H a (.lst xs) ∨
  ∃(o:Obj) (its:Array Value) (n:Nat),K.lookup a=some o/\o.cls=.type "list"/\o.dict=none/\o.data=.seq its n/\its.size≤sizeLine/\Vals xs its.toList
def SqT(K:PySem.W.Frag)(H:Hp)(a:Addr)(xs:List V):Prop:=
 Rd H a (.tup xs) ∨
  ∃(o:Obj) (its:Array Value) (n:Nat),K.lookup a=some o/\o.cls=.type "tuple"/\o.dict=none/\o.data=.seq its n/\its.size≤sizeLine/\Vals xs its.toList
def absV:Value->Option V
 |.none=>some .non
 |.bool b=>some (.bl b)
 |.int i _=>some (.int i)
 |.str x _=>some (.str x)
 |.bytes b _=>some (.byt b)
 |.float b _=>some (.flt b)
 |.ref a=>some (.ref a)
 |.type n=>some (.ty n)
 |_=>none
theorem RelV.abs{x:V}{u:Value}(r:RelV x u):absV u=some x:=by
 cases x with
 |non=>cases r;rfl
 |bl _=>cases r;rfl
 |int _=>obtain⟨t,rfl⟩:=r;rfl
 |str _=>obtain⟨t,rfl⟩:=r;rfl
 |byt _=>obtain⟨t,rfl⟩:=r;rfl
 |flt _=>obtain⟨t,rfl⟩:=r;rfl
 |ref _=>cases r;rfl
 |ty _=>cases r;rfl
theorem RelV.inj{x y:V}{u:Value}(r:RelV x u)(q:RelV y u):x=y:=Option.some.inj (r.abs.symm.trans q.abs)
theorem Vals.inj:∀{xs ys:List V} {us:List Value},Vals xs us->Vals ys us->xs=ys
 |_,_,_,.nil,.nil=>rfl
 |_,_,_,.cons r t,.cons r' t'=>by rw[r.inj r',Vals.inj t t']
section
variable {X:Cx} {pins:List (Addr×Obj)} {σ:St} {H:Hp} {s:Shared} {a:Addr} {xs ys:List V}
theorem SqL.of{K:PySem.W.Frag}(h:H a=some (.lst xs)):SqL K H a xs:=.inl (.inl h)
theorem SqT.of{K:PySem.W.Frag}(h:H a=some (.tup xs)):SqT K H a xs:=.inl (.inl h)
theorem Inv.list(I:Inv X pins σ H s)(h:SqL X.K H a xs):∃its:List Value,Vals xs its/\PlainL s.heap a its.toArray/\xs.length≤sizeLine:=by
 rcases h with h|⟨o,its,n,hk,hc,hd,hs,hz,r⟩
 ·obtain⟨z,its,n,r,e⟩:=h.ok I.hok;exact⟨its,r,⟨_,n,e,rfl,rfl,rfl⟩,z⟩
 ·refine⟨its.toList,r,⟨o,n,I.kIn a o hk,hc,hd,by simpa using hs⟩,?_⟩;have e:=r.length;simp only[Array.length_toList] at e;omega
theorem Inv.tuple(I:Inv X pins σ H s)(h:SqT X.K H a xs):∃its:List Value,Vals xs its/\IsTup s.heap a its.toArray/\xs.length≤sizeLine:=by
 rcases h with h|⟨o,its,n,hk,hc,_,hs,hz,r⟩
 ·obtain⟨z,its,r,p⟩:=h.ok I.hok;exact⟨its,r,p.tup,z⟩
 ·refine⟨its.toList,r,⟨o,I.kIn a o hk,hc,n,by simpa using hs⟩,?_⟩;have e:=r.length;simp only[Array.length_toList] at e;omega
theorem Inv.list_inj(I:Inv X pins σ H s)(h:SqL X.K H a xs)(h':SqL X.K H a ys):xs=ys:=by
 obtain⟨its,r,⟨o,n,e,_,_,d⟩,_⟩:=I.list h;obtain⟨its',r',⟨o',n',e',_,_,d'⟩,_⟩:=I.list h';rw[e] at e';cases e';rw[d] at d';injection d' with d1 _
 have:its=its':=by simpa using congrArg Array.toList d1
 subst this;exact r.inj r'
theorem Inv.tuple_inj(I:Inv X pins σ H s)(h:SqT X.K H a xs)(h':SqT X.K H a ys):xs=ys:=by
 obtain⟨its,r,⟨o,e,_,n,d⟩,_⟩:=I.tuple h;obtain⟨its',r',⟨o',e',_,n',d'⟩,_⟩:=I.tuple h';rw[e] at e';cases e';rw[d] at d';injection d' with d1 _
 have:its=its':=by simpa using congrArg Array.toList d1
 subst this;exact r.inj r'
end
abbrev Cx.wish(X:Cx)(E:Value->Shared->Prop):Cx:={ X with xe:=E }
abbrev Cx.nox(X:Cx):Cx:=X.wish fun _ _=>False
theorem Cx.Ok.wish{X:Cx}(ok:X.Ok)(E:Value->Shared->Prop):(X.wish E).Ok:=
 ⟨ok.mod,ok.kind,ok.glob,ok.blt,ok.above,ok.inj,ok.has,ok.cab,ok.hd,ok.frames,ok.stk,ok.exf,ok.bs,ok.bsz,ok.noex,ok.exfs,ok.funs,ok.frf⟩
theorem Cx.Ok.unwish{X:Cx}{E:Value->Shared->Prop}(ok:(X.wish E).Ok):X.Ok:=
 ⟨ok.mod,ok.kind,ok.glob,ok.blt,ok.above,ok.inj,ok.has,ok.cab,ok.hd,ok.frames,ok.stk,ok.exf,ok.bs,ok.bsz,ok.noex,ok.exfs,ok.funs,ok.frf⟩
section
variable {X:Cx} {pins:List (Addr×Obj)} {σ:St} {H:Hp} {s:Shared} {E:Value->Shared->Prop}
theorem Inv.wish(I:Inv X pins σ H s)(E:Value->Shared->Prop):Inv (X.wish E) pins σ H s:=⟨I.ok.wish E,I.os,I.bare,I.base,I.loc,I.cell,I.free,I.freeC,I.pin,I.hok,I.len⟩
theorem Inv.unwish(I:Inv (X.wish E) pins σ H s):Inv X pins σ H s:=⟨I.ok.unwish,I.os,I.bare,I.base,I.loc,I.cell,I.free,I.freeC,I.pin,I.hok,I.len⟩
theorem SP.unwish{D:Ends}{f:Flow}{s':Shared}(h:SP (X.wish E) pins D f s'):SP X pins D f s':=by
 cases f with
 |next=>obtain⟨σ',H',I,q⟩:=h;exact⟨σ',H',I.unwish,q⟩
 |brk=>obtain⟨σ',H',I,q⟩:=h;exact⟨σ',H',I.unwish,q⟩
 |cont=>obtain⟨σ',H',I,q⟩:=h;exact⟨σ',H',I.unwish,q⟩
 |ret u=>obtain⟨v,σ',H',I,r,q⟩:=h;exact⟨v,σ',H',I.unwish,r,q⟩
theorem PSs.nox{st:List Stmt}{t:TS}(h:PSs X.nox st t):PSs X st t:=fun pins s σ H D I hw=>
 wpAny_mono (h pins s σ H D (I.wish _) hw) (fun _ _ q=>q.unwish) fun _ _ z=>False.elim z
end
section
variable {X:Cx} {st:Stmt} {rest:List Stmt} {t u:TS} {e:Expr} {te:TE} {pos:Pos}
def tNext:TS:=fun D σ H=>D.nx σ H
def tSeq(t u:TS):TS:=fun D σ H=>t { D with nx:=u D } σ H
theorem qnaz:PSs X [] tNext:=fun _ _ σ H _ I h=>wpAny_execs_nil ⟨σ,H,I,h⟩
theorem qnbz(h1:PS X st t)(h2:PSs X rest u):PSs X (st::rest) (tSeq t u):=by
 intro pins s σ H D I h;refine wpAny_execs_cons (thn (h1 pins s σ H { D with nx:=u D } I h) fun f s1 q=>?_);cases f with
 |next=>
  obtain⟨σ',H',I',q⟩:=q;exact h2 pins s1 σ' H' D I' q
 |ret v=>exact q
 |brk=>exact q
 |cont=>exact q
theorem qncz(h1:PS X st t):PSs X [st] t:=by
 intro pins s σ H D I h;refine wpAny_execs_cons (thn (h1 pins s σ H D I h) fun f s1 q=>?_);cases f with
 |next=>exact wpAny_execs_nil q
 |ret v=>exact q
 |brk=>exact q
 |cont=>exact q
theorem Inv.quiet{pins:List (Addr×Obj)}{σ:St}{H:Hp}{s:Shared}(I:Inv X pins σ H s):interactive X.env=false:=by simp[interactive,I.ok.kind]
def tDrop(te:TE):TS:=fun D σ H=>te σ H fun _ H1=>D.nx σ H1
theorem qndz(he:PE X e te)(hs:swapsWith e none pos.line X.env=pure false:=by rfl):PS X (.Expr e pos) (tDrop te):=by
 intro pins s σ H D I h;exact wpAny_Expr_any (thn (he pins s σ H _ I h) fun v s1 ⟨x,H1,I1,r1,q1⟩=>⟨σ,H1,I1,q1⟩) I.quiet hs
def tRet(te:TE):TS:=fun D σ H=>te σ H D.rt
theorem qnez(he:PE X e te):PS X (.Return (some e) pos) (tRet te):=by
 intro pins s σ H D I h;exact wpAny_Return_some (thn (he pins s σ H _ I h) fun v s1 ⟨x,H1,I1,r1,q1⟩=>⟨x,σ,H1,I1,r1,q1⟩)
def tIfS(c:TT)(t u:TS):TS:=fun D σ H=>c σ H fun b H1=>if b=true then t D σ H1 else u D σ H1
theorem qnfz{c:Expr}{a b:List Stmt}{tc:TT}(hc:PT X c tc)(ha:PSs X a t)(hb:PSs X b u):PS X (.If c a b pos) (tIfS tc t u):=by
 intro pins s σ H D I h;refine wpAny_If (thn (hc pins s σ H _ I h) fun d s1 ⟨H1,I1,q1⟩=>?_);cases d with
 |true=>exact ha pins s1 σ H1 D I1 q1
 |false=>exact hb pins s1 σ H1 D I1 q1
end
abbrev TG:=V->St->Hp->(St->Hp->Prop)->Prop
abbrev TGs:=List V->St->Hp->(St->Hp->Prop)->Prop
def PG(X:Cx)(target:Expr)(t:TG):Prop:=
 ∀(pins:List (Addr×Obj)) (s:Shared) (σ:St) (H:Hp) (v:V) (u:Value) (Q:St->Hp->Prop),Inv X pins σ H s->RelV v u->t v σ H Q ->
  wpAny (model X.prog X.w) X.A (assign target X.env u) (fun _ s'=>∃σ' H',Inv X pins σ' H' s'/\Q σ' H') X.xe s
def PGs(X:Cx)(ts:List Expr)(t:TGs):Prop:=
 ∀(pins:List (Addr×Obj)) (s:Shared) (σ:St) (H:Hp) (vs:List V) (us:List Value) (Q:St->Hp->Prop),Inv X pins σ H s->Vals vs us->t vs σ H Q ->
  wpAny (model X.prog X.w) X.A (assignInOrder ((assignEach ts X.env).map (·.2)) us) (fun _ s'=>∃σ' H',Inv X pins σ' H' s'/\Q σ' H') X.xe s
abbrev TSet:=V->V->V->Hp->(Hp->Prop)->Prop
def PSet(X:Cx)(t:TSet):Prop:=
 ∀(pins:List (Addr×Obj)) (s:Shared) (σ:St) (H:Hp) (o i v:V) (ov iv u:Value) (Q:Hp->Prop),Inv X pins σ H s->RelV o ov->RelV i iv->RelV v u->t o i v H Q ->
  wpAny (model X.prog X.w) X.A (setItem ov iv u) (fun _ s'=>∃H',Inv X pins σ H' s'/\Q H') X.xe s
section
variable {X:Cx} {pos:Pos}
def gName(i:Nat):TG:=fun v σ H Q=>Q (σ.set i (some v)) H
theorem qngz{i:Nat}{x:Str}(hN:X.N.Nodup)(hi:X.N[i]?=some x)(hx:Loc X.env.scope x)(hf:X.fn x=true∨X.env.scope.names.lookup x=some .local:=by first|exact .inl rfl|exact .inr rfl|assumption):PG X (.Name x pos) (gName i):=by
 intro pins s σ H v u Q I r h;exact wpAny_assign_Name (qhgz I hN hi hx r (fun s' I'=>⟨_,H,I',h⟩) hf)
def gNil:TGs:=fun vs σ H Q=>vs=[]/\Q σ H
def gCons(t:TG)(u:TGs):TGs:=fun vs σ H Q=>∃v r,vs=v::r/\t v σ H fun σ' H'=>u r σ' H' Q
theorem qnhz:PGs X [] gNil:=by
 intro pins s σ H vs us Q I r h;obtain⟨e,h⟩:=h;subst e;cases r;exact assignInOrder_nil ⟨σ,H,I,h⟩
theorem qniz{e:Expr}{es:List Expr}{t:TG}{u:TGs}(h1:PG X e t)(h2:PGs X es u)
  (hs:(assignEach (e::es) X.env).map (·.2)=assign e X.env::(assignEach es X.env).map (·.2):=by rfl):PGs X (e::es) (gCons t u):=by
 intro pins s σ H vs us Q I r h;obtain⟨v,vr,e1,h⟩:=h;subst e1;cases r with
 |cons r rr=>
  rw[hs];refine assignInOrder_cons (thn (h1 pins s σ H _ _ _ I r h) fun _ s1 ⟨σ1,H1,I1,q1⟩=>?_);exact h2 pins s1 σ1 H1 _ _ Q I1 rr q1
def gTup(K:PySem.W.Frag)(n:Nat)(t:TGs):TG:=fun v σ H Q=>∃a xs,v=.ref a/\SqT K H a xs/\xs.length=n/\t xs σ H Q
theorem qnjz{es:List Expr}{k:Nat}{t:TGs}{n:Nat}(hc:X.calm=true)(h:PGs X es t)
  (hn:(assignEach es X.env).length=n:=by rfl) (hst:(assignEach es X.env).findIdx? (·.1)=none:=by rfl):PG X (.Tuple es k pos) (gTup X.K n t):=by
 intro pins s σ H v u Q I r hw;obtain⟨a,xs,e1,hq,hl,hw⟩:=hw;subst e1;cases r;obtain⟨its,rv,ht,hz⟩:=I.tuple hq;refine assign_Tuple_tuple (I.ok.hd hc) ht (by simp[hn,←hl,rv.length]) hst fun h' hx=>?_;have I1:Inv X pins σ H { s with heap:=h' }:=I.kept (t':=s.toks) fun b o e=>hx b o (Nat.ne_of_lt (Heap.lt_size e)) e
 exact h pins _ σ H xs _ Q I1 (by simpa using rv) hw
def gSub(to ti:TE)(t:TSet):TG:=fun v σ H Q=>to σ H fun o H1=>ti σ H1 fun i H2=>t o i v H2 fun H3=>Q σ H3
theorem qnkz{o i:Expr}{to ti:TE}{t:TSet}(ho:PE X o to)(hi:PE X i ti)(hs:PSet X t)
  (ha:∀v,assign (.Subscript o i pos) X.env v=(do
   let ov ←holding [v] (eval o X.env)
   let iv ←holding [v,ov] (eval i X.env)
   standAt pos
   holding [v,ov,iv] (setItem ov iv v)
   release [v,ov,iv] []):=by intro _;rfl):PG X (.Subscript o i pos) (gSub to ti t):=by
 intro pins s σ H v u Q I r h
 rw[ha]
 refine wpAny_bind (wpAny_holding (thn (ho pins s σ H _ I h) fun ov s1 ⟨x,H1,I1,r1,q1⟩=>?_))
 refine wpAny_bind (wpAny_holding (thn (hi pins s1 σ H1 _ I1 q1) fun iv s2 ⟨y,H2,I2,r2,q2⟩=>?_))
 refine wpAny_bind (wpAny_standAt (wpAny_bind (wpAny_holding (thn (hs pins s2 σ H2 x y v ov iv u _ I2 r1 r2 r q2) fun _ s3 ⟨H3,I3,q3⟩=>?_))))
 exact wpAny_release ⟨σ,H3,I3,q3⟩
def tAsg(te:TE)(g:TG):TS:=fun D σ H=>te σ H fun x H1=>g x σ H1 D.nx
theorem qnlz{tg e:Expr}{te:TE}{g:TG}(he:PE X e te)(hg:PG X tg g)(hs:swapsWithSole [tg] e pos.line X.env=pure false:=by rfl)(hw:swappedStores [tg] e X.env=pure none:=by rfl)
  (h1:(assignEach [tg] X.env).map (·.2)=[assign tg X.env]:=by rfl):PS X (.Assign [tg] e pos) (tAsg te g):=by
 intro pins s σ H D I h;refine wpAny_Assign_stores (thn (he pins s σ H _ I h) fun v s1 ⟨x,H1,I1,r1,q1⟩=>?_) hs hw;rw[h1];exact thn (hg pins s1 σ H1 x v _ I1 r1 q1) fun _ s2 q=>q
theorem qnmz{i:Nat}{x:Str}{e:Expr}{te:TE}{pos':Pos}(hN:X.N.Nodup)(hi:X.N[i]?=some x)(hx:Loc X.env.scope x)(he:PE X e te)(hs:swapsWith e (some (.Name x pos')) pos.line X.env=pure false:=by rfl)(hf:X.fn x=true∨X.env.scope.names.lookup x=some .local:=by first|exact .inl rfl|exact .inr rfl|assumption):
  PS X (.Assign [.Name x pos'] e pos) (tAsg te (gName i)):=by
 intro pins s σ H D I h;refine wpAny_Assign_Name (thn (he pins s σ H _ I h) fun v s1 ⟨y,H1,I1,r1,q1⟩=>?_) hs;exact qhgz I1 hN hi hx r1 (fun s2 I2=>⟨_,H1,I2,q1⟩) hf
end
section
variable {X:Cx} {pos:Pos}
def tWhile(c:TT)(tb:TS):TS:=fun D σ H=>∃W:Nat->St->Hp->Prop,(∃m,W m σ H)/\∀m σ H,W m σ H ->
 c σ H fun b H1=>if b=true then ∃N:St->Hp->Prop,(∀σ' H',N σ' H'->∃m',m' < m/\W m' σ' H')/\tb { D with nx:=N,ct:=N,bk:=D.nx } σ H1 else D.nx σ H1
theorem qnnz{c:Expr}{body:List Stmt}{tc:TT}{tb:TS}(hp:PassesOwn (model X.prog X.w) X.A X.env X.xe)(hc:PT X c tc)(hb:PSs X body tb):PS X (.While c body [] pos) (tWhile tc tb):=by
 intro pins s σ H D I h;obtain⟨W,⟨m0,w0⟩,turn⟩:=h;refine wpAny_While (codeAny_whileLoop (fun n s'=>∃σ' H',Inv X pins σ' H' s'/\W n σ' H') ?_ m0 ⟨σ,H,I,w0⟩);rintro n s1 ⟨σ1,H1,I1,w1⟩;refine wpAny_passesOwn hp (thn (hc pins s1 σ1 H1 _ I1 (turn n σ1 H1 w1)) fun b s2 ⟨H2,I2,q2⟩=>?_);cases b with
 |true=>
  obtain⟨N,hN,q2⟩:=q2;rw[if_pos rfl];refine wpAny_passesOwn hp (thn (hb pins s2 σ1 H2 _ I2 q2) fun f s3 q3=>?_);cases f with
  |next=>
   obtain⟨σ3,H3,I3,n3⟩:=q3;obtain⟨m',hm,w3⟩:=hN σ3 H3 n3;exact⟨m',hm,σ3,H3,I3,w3⟩
  |cont=>
   obtain⟨σ3,H3,I3,n3⟩:=q3;obtain⟨m',hm,w3⟩:=hN σ3 H3 n3;exact⟨m',hm,σ3,H3,I3,w3⟩
  |brk=>exact q3
  |ret v=>exact q3
 |false=>
  rw[if_neg Bool.false_ne_true];exact wpAny_execs_nil ⟨σ1,H2,I2,q2⟩
end
structure It where
 go:Nat->Hp->Prop
 yld:Nat->Hp->V->Hp->Prop
 stop:Nat->Hp->Prop
def FpOk(X:Cx)(pins:List (Addr×Obj))(H:Hp)(b:Addr):Prop:=
 H b=none/\b≠X.env.locals/\b∉X.fs/\(b∈X.ex∨X.s₀.heap.objs.size≤b)/\(∀x c,X.env.cells.lookup x=some c->c≠b)/\∀p∈X.pn++pins,p.1≠b
theorem Inv.fpOk{X:Cx}{pins:List (Addr×Obj)}{σ:St}{H H':Hp}{s:Shared}{b:Addr}(I:Inv X pins σ H s)(hb:s.heap.objs.size≤b)(hn:H' b=none):FpOk X pins H' b:=by
 refine⟨hn,Nat.ne_of_gt (Nat.lt_of_lt_of_le I.lt hb),I.nofs hb,.inr (Nat.le_trans I.sz hb),fun x c e z=>?_,fun p hp z=>?_⟩
 ·obtain⟨v,q⟩:=I.cell x c e;exact absurd (Nat.lt_of_lt_of_le q.lt (by rw[z];exact hb)) (Nat.lt_irrefl _)
 ·exact absurd (Nat.lt_of_lt_of_le (Heap.lt_size (I.pin p hp).1) (by rw[z];exact hb)) (Nat.lt_irrefl _)
structure Turn(P:Program)(w:World)(K:PySem.W.Frag)(tg:Expr)(J:It)(fp:List Addr)(it:Addr)(tn:Nat->Heap->Prop):Prop where
 mem:it∈fp
 obj:∀i h,tn i h->∀b∈fp,∃o,h.get? b=some o/\∀v,o.data≠.cell v
 keep:∀i h h',tn i h->(∀b∈fp,∀o,h.get? b=some o->h'.get? b=some o)->tn i h'
 item:∀(X:Cx),X.prog=P->X.w=w->X.K=K->X.calm=true->∀(i:Nat) (pins:List (Addr×Obj)) (s:Shared) (σ:St) (H:Hp) (E:Value->Shared->Prop),Inv X pins σ H s->(∀b∈fp,FpOk X pins H b)->tn i s.heap->J.go i H ->
  wpAny (model P w) X.A (pyNext (.ref it)) (fun r s1=>∃u,r=some u ∧
   wpAny (model P w) X.A (letOwnedTupleGo tg (.ref it) u) (fun _ s2=>∃x H',Inv X pins σ H' s2/\RelV x u/\J.yld i H x H'/\tn (i+1) s2.heap/\∀b∈fp,H' b=none) E s1) E s
 done:∀(X:Cx),X.prog=P->X.w=w->X.K=K->X.calm=true->∀(i:Nat) (pins:List (Addr×Obj)) (s:Shared) (σ:St) (H:Hp) (E:Value->Shared->Prop),Inv X pins σ H s->(∀b∈fp,FpOk X pins H b)->tn i s.heap->J.stop i H ->
  wpAny (model P w) X.A (pyNext (.ref it)) (fun r s1=>r=none/\Inv X pins σ H s1) E s
 self:∀(A:Around) (i:Nat) (s:Shared) (Q:Value->Shared->Prop) (E:Value->Shared->Prop),tn i s.heap->Q (.ref it) s->wpAny (model P w) A (pyIter (.ref it)) Q E s
abbrev TI:=St->Hp->(It->Hp->Prop)->Prop
def PIE(X:Cx)(pins:List (Addr×Obj))(σ:St)(tg:Expr)(R:It->Hp->Prop)(itv:Value)(s2:Shared):Prop:=
 ∃(it:Addr) (fp:List Addr) (tn:Nat->Heap->Prop) (J:It) (H':Hp),itv=.ref it/\Inv X pins σ H' s2/\Turn X.prog X.w X.K tg J fp it tn/\tn 0 s2.heap/\(∀b∈fp,FpOk X pins H' b)/\R J H'
def PI(X:Cx)(tg iter:Expr)(wi:TI):Prop:=
 ∀(pins:List (Addr×Obj)) (s:Shared) (σ:St) (H:Hp) (R:It->Hp->Prop),Inv X pins σ H s->wi σ H R ->
  wpAny (model X.prog X.w) X.A (eval iter X.env) (fun v s1=>wpAny (model X.prog X.w) X.A (pyIter v) (PIE X pins σ tg R) X.xe s1) X.xe s
theorem qfaz{M:Model}{A:Around}{E:Value->Shared->Prop}{s:Shared}{tg:Expr}{it:Addr}{u:Value}{o:Obj}{n:String}{vs:Array Value}{Q:Unit->Shared->Prop}(ho:s.heap.get? it=some o)(hc:o.cls=.type n)(hd:o.data=.fields vs)
    (hn:["enumerate","zip","dict_itemiterator","dict_reverseitemiterator","odict_iterator","itertools.zip_longest","itertools.pairwise"].contains n=false) (hQ:Q () s):wpAny M A (letOwnedTupleGo tg (.ref it) u) Q E s:=by
  unfold letOwnedTupleGo;cases tg<;>first
    |exact wpAny_pure hQ
    | (cases u<;>first
        |exact wpAny_pure hQ
        | (refine wpAny_bind (wpAny_load ho ?_)
           rw[hc,hd];show wpAny M A (if (["enumerate","zip","dict_itemiterator","dict_reverseitemiterator","odict_iterator","itertools.zip_longest","itertools.pairwise"].contains n&&vs[0]?==some (rawInt _))=true then _ else _) Q E s;rw[if_neg (by intro h;rw[hn,Bool.false_and] at h;cases h)];exact wpAny_pure hQ))
def Itl(K:PySem.W.Frag)(a:Addr):It:=
 ⟨fun i H=>∃xs x,SqL K H a xs/\xs[i]?=some x,fun i H x H'=>H'=H/\∀xs,SqL K H a xs->xs[i]?=some x,fun i H=>∃xs,SqL K H a xs/\xs.length≤i⟩
def Itt(K:PySem.W.Frag)(a:Addr):It:=
 ⟨fun i H=>∃xs x,SqT K H a xs/\xs[i]?=some x,fun i H x H'=>H'=H/\∀xs,SqT K H a xs->xs[i]?=some x,fun i H=>∃xs,SqT K H a xs/\xs.length≤i⟩
def Itr(lo:Int)(n:Nat):It:=⟨fun i _=>i<n,fun i H x H'=>H'=H/\x=.int (lo+i),fun i _=>n≤i⟩
theorem qnoz{P:Program}{w:World}{K:PySem.W.Frag}{tg:Expr}(a it:Addr):Turn P w K tg (Itl K a) [it] it (fun i h=>h.IsListIter it a i) where
 mem:=by simp
 obj:=fun i h st b hb=>by
  have e:b=it:=by simpa using hb
  subst e;obtain⟨o,e,c,d⟩:=st;exact⟨o,e,fun v z=>by rw[d] at z;cases z⟩
 keep:=fun i h h' st k=>st.at fun o e=>k it (by simp) o e
 item:=by
  intro X hP hw hK hc i pins s σ H E I hf st hg;subst hP hw hK;obtain⟨xs,x,hq,hx⟩:=hg;obtain⟨its,rv,p,hz⟩:=I.list hq;obtain⟨u,hu,ru⟩:=rv.get hx;obtain⟨f0,f1,f2,f3,f4,f5⟩:=hf it (by simp);refine wpAny_pyNext_list_item st p.isList (x:=u) (by simpa using hu) fun h' st' sb=>?_;have I1:Inv X pins σ H { s with heap:=h' }:=I.turned (t':=s.toks) (fun b o hb e=>(sb.2 b hb).trans e) f0 f1 f3 f4 f5;obtain⟨o,e,c,d⟩:=id st';exact⟨u,rfl,qfaz (s:={ s with heap:=h' }) e c d (by decide) ⟨x,H,I1,ru,⟨rfl,fun ys hy=>by rw[I.list_inj hy hq];exact hx⟩,st',fun b hb=>(hf b hb).1⟩⟩
 done:=by
  intro X hP hw hK hc i pins s σ H E I hf st hg;subst hP hw hK;obtain⟨xs,hq,hx⟩:=hg;obtain⟨its,rv,p,hz⟩:=I.list hq;obtain⟨f0,f1,f2,f3,f4,f5⟩:=hf it (by simp);have hl:=rv.length;exact wpAny_pyNext_list_end (I.ok.hd hc) st p.isList (by simp;omega) fun h' eb=>⟨rfl,I.turned (t':=s.toks) (fun b o hb e=>eb b o hb e) f0 f1 f3 f4 f5⟩
 self:=fun _ _ _ _ _ st h=>wpAny_pyIter_listiter st h
theorem qnpz{P:Program}{w:World}{K:PySem.W.Frag}{tg:Expr}(a it:Addr):Turn P w K tg (Itt K a) [it] it (fun i h=>h.IsTupleIter it a i) where
 mem:=by simp
 obj:=fun i h st b hb=>by
  have e:b=it:=by simpa using hb
  subst e;obtain⟨o,e,c,d⟩:=st;exact⟨o,e,fun v z=>by rw[d] at z;cases z⟩
 keep:=fun i h h' st k=>st.at fun o e=>k it (by simp) o e
 item:=by
  intro X hP hw hK hc i pins s σ H E I hf st hg;subst hP hw hK;obtain⟨xs,x,hq,hx⟩:=hg;obtain⟨its,rv,p,hz⟩:=I.tuple hq;obtain⟨u,hu,ru⟩:=rv.get hx;obtain⟨f0,f1,f2,f3,f4,f5⟩:=hf it (by simp);refine wpAny_pyNext_tuple_item st (show s.heap.IsTuple a its.toArray from p) (x:=u) (by simpa using hu) fun h' st' sb=>?_;have I1:Inv X pins σ H { s with heap:=h' }:=I.turned (t':=s.toks) (fun b o hb e=>(sb.2 b hb).trans e) f0 f1 f3 f4 f5;obtain⟨o,e,c,d⟩:=id st';exact⟨u,rfl,qfaz (s:={ s with heap:=h' }) e c d (by decide) ⟨x,H,I1,ru,⟨rfl,fun ys hy=>by rw[I.tuple_inj hy hq];exact hx⟩,st',fun b hb=>(hf b hb).1⟩⟩
 done:=by
  intro X hP hw hK hc i pins s σ H E I hf st hg;subst hP hw hK;obtain⟨xs,hq,hx⟩:=hg;obtain⟨its,rv,p,hz⟩:=I.tuple hq;obtain⟨f0,f1,f2,f3,f4,f5⟩:=hf it (by simp);have hl:=rv.length;exact wpAny_pyNext_tuple_end (I.ok.hd hc) st (show s.heap.IsTuple a its.toArray from p) (by simp;omega) fun h' eb=>⟨rfl,I.turned (t':=s.toks) (fun b o hb e=>eb b o hb e) f0 f1 f3 f4 f5⟩
 self:=fun _ _ _ _ _ st h=>wpAny_pyIter_tupleiter st h
theorem qnqz{P:Program}{w:World}{K:PySem.W.Frag}{tg:Expr}(it:Addr)(lo:Int)(n:Nat):Turn P w K tg (Itr lo n) [it] it (fun i h=>IsRangeIter h it (lo+(i:Nat)*1) ((n:Int)-(i:Nat)) 1) where
 mem:=by simp
 obj:=fun i h st b hb=>by
  have e:b=it:=by simpa using hb
  subst e;exact⟨_,st,fun v z=>by
   have z':Data.fields _=Data.cell v:=z;cases z'⟩
 keep:=fun i h h' st k=>k it (by simp) _ st
 item:=by
  intro X hP hw hK hc i pins s σ H E I hf st hg;subst hP hw hK;obtain⟨f0,f1,f2,f3,f4,f5⟩:=hf it (by simp);have W:=Walks.range (prog:=X.prog) (w:=X.w) (I.ok.hd hc) it lo 1 n;refine W.item i s _ _ hg st fun v h' tk hv st' kk=>?_;obtain⟨t,rfl⟩:=hv;have I1:Inv X pins σ H { s with heap:=h',toks:=tk }:=I.turned (fun b o hb e=>kk b o (by simpa using hb) e) f0 f1 f3 f4 f5;refine⟨_,rfl,qfaz (s:={ s with heap:=h',toks:=tk }) (n:="range_iterator") st' rfl rfl (by decide) ⟨.int (lo+i),H,I1,⟨t,?_⟩,⟨rfl,rfl⟩,st',fun b hb=>(hf b hb).1⟩⟩;rw[Int.mul_one]
 done:=by
  intro X hP hw hK hc i pins s σ H E I hf st hg;subst hP hw hK;obtain⟨f0,f1,f2,f3,f4,f5⟩:=hf it (by simp);exact wpAny_pyNext_range_end (I.ok.hd hc) st (by have:n≤i:=hg;omega) fun h' eb=>⟨rfl,I.turned (t':=s.toks) (fun b o hb e=>eb b o hb e) f0 f1 f3 f4 f5⟩
 self:=fun _ _ _ _ _ st h=>wpAny_pyIter_rangeiter st h
end L2
namespace L2
open PySem PySem.Spec PyProof.Rows
section
variable {X:Cx} {tg:Expr}
theorem qhjz{pins:List (Addr×Obj)}{σ:St}{H:Hp}{s:Shared}{R:It->Hp->Prop}{E:Value->Shared->Prop}{lo hi:Int}{t u v:Tok}{tk:Nat}(I:Inv X pins σ H s)(h1:-(2^62)≤lo)(h2:lo<2^62)(h3:-(2^62)≤hi)(h4:hi<2^62)
  (q:R (Itr lo (hi-lo).toNat) H):wpAny (model X.prog X.w) X.A (pyIter (.ref s.heap.objs.size)) (PIE X pins σ tg R) E { s with heap:=s.heap.push { cls:=.type "range",data:=.fields #[.int lo t,.int hi u,.int 1 v]},toks:=tk }:=by
 refine wpAny_pyIter_range (IsRange.new ..) (small_one h1 h2 h3 h4) ?_;have I1:Inv X pins σ H { s with heap:=s.heap.push { cls:=.type "range",data:=.fields #[.int lo t,.int hi u,.int 1 v]},toks:=tk }:=I.kept fun b o e=>Heap.get?_push_of_some _ e;refine⟨(s.heap.push { cls:=.type "range",data:=.fields #[.int lo t,.int hi u,.int 1 v]}).objs.size,[(s.heap.push { cls:=.type "range",data:=.fields #[.int lo t,.int hi u,.int 1 v]}).objs.size],_,_,H,rfl,
  I1.kept (t':=tk) fun b o e=>Heap.get?_push_of_some _ e,qnqz _ lo (hi-lo).toNat,?_,fun b hb=>?_,q⟩
 ·have e1:lo+((0:Nat):Int)*1=lo:=by simp
  have e2:(((hi-lo).toNat:Nat):Int)-((0:Nat):Int)=Builtin.Range.rangeSize lo hi 1:=by rw[rangeSize_one];split<;>omega
  show IsRangeIter _ _ (lo+((0:Nat):Int)*1) ((((hi-lo).toNat:Nat):Int)-((0:Nat):Int)) 1;rw[e1,e2];exact Heap.get?_push_size _ rfl
 ·have e:b=(s.heap.push { cls:=.type "range",data:=.fields #[.int lo t,.int hi u,.int 1 v]}).objs.size:=by simpa using hb
  subst e;exact I1.fpOk (Nat.le_refl _) (I1.hok.fresh (Nat.le_refl _))
def iRng1(ta:TA):TI:=fun σ H R=>ta σ H fun vs H1=>∃j:Int,vs=[.int j]/\-(2^62)≤j/\j<2^62/\R (Itr 0 j.toNat) H1
def iRng2(ta:TA):TI:=fun σ H R=>ta σ H fun vs H1=>∃i j:Int,vs=[.int i,.int j]/\(-(2^62)≤i/\i<2^62/\-(2^62)≤j/\j<2^62)/\R (Itr i (j-i).toNat) H1
theorem qnrz{a:Expr}{ta:TA}{p pos:Pos}(hg:Gl X "range")(hm:X.mg "range" = none)(ha:PA X [a] ta)(hs:starEach [a] X.env=[(false,eval a X.env)]:=by rfl):PI X tg (.Call (.Name "range" p) [a] [] pos) (iRng1 ta):=by
 intro pins s σ H R I h;refine Call_ (qaxz I hg hm boot_range (PyProof.Rows.callWith_type1 (thn (ha pos pins s σ H _ I h) fun us s1 ⟨vs,H1,I1,r1,q1⟩=>?_) hs rfl));obtain⟨j,e,q1,q2,q⟩:=q1;subst e;cases r1 with
 |cons r rr=>
  cases rr;obtain⟨t,rfl⟩:=r;exact call_range_1 (qhjz I1 (by omega) (by omega) q1 q2 (by simpa using q))
theorem qnsz{a b:Expr}{ta:TA}{p pos:Pos}(hg:Gl X "range")(hm:X.mg "range" = none)(ha:PA X [a,b] ta)(hs:starEach [a,b] X.env=[(false,eval a X.env),(false,eval b X.env)]:=by rfl)(hs2:starEach [b] X.env=[(false,eval b X.env)]:=by rfl):
  PI X tg (.Call (.Name "range" p) [a,b] [] pos) (iRng2 ta):=by
 intro pins s σ H R I h;refine Call_ (qaxz I hg hm boot_range (PyProof.Rows.callWith_type1 (thn (ha pos pins s σ H _ I h) fun us s1 ⟨vs,H1,I1,r1,q1⟩=>?_) (by rw[hs,hs2]) (by rw[hs2];rfl)));obtain⟨i,j,e,⟨q1,q2,q3,q4⟩,q⟩:=q1;subst e;cases r1 with
 |cons r rr=>
  cases rr with
  |cons r' rr=>
   cases rr;obtain⟨t,rfl⟩:=r;obtain⟨t',rfl⟩:=r';exact call_range_2 (qhjz I1 q1 q2 q3 q4 q)
def tFor(wi:TI)(g:TG)(tb:TS):TS:=fun D σ H=>wi σ H fun J H1=>∃W:Nat->Nat->St->Hp->Prop,(∃m,W 0 m σ H1)/\∀i m σ H,W i m σ H ->
 (J.stop i H/\D.nx σ H)∨(J.go i H/\∃N:St->Hp->Prop,(∀σ' H',N σ' H'->∃m',m' < m/\W (i+1) m' σ' H')/\∀x H',J.yld i H x H'->g x σ H' fun σ2 H2=>tb { D with nx:=N,ct:=N,bk:=D.nx } σ2 H2)
def pinsAt(fp:List Addr)(h:Heap):List (Addr×Obj):=fp.filterMap fun b=>(h.get? b).map fun o=>(b,o)
theorem qdpz{fp:List Addr}{h:Heap}{b:Addr}{o:Obj}(hb:b∈fp)(e:h.get? b=some o):(b,o)∈pinsAt fp h:=List.mem_filterMap.mpr ⟨b,hb,by rw[e];rfl⟩
theorem qntz{fp:List Addr}{h:Heap}{p:Addr×Obj}(hp:p∈pinsAt fp h):p.1∈fp/\h.get? p.1=some p.2:=by
 obtain⟨b,hb,e⟩:=List.mem_filterMap.mp hp;cases q:h.get? b with
 |none=>rw[q] at e;cases e
 |some o=>
  rw[q] at e;have e':(b,o)=p:=Option.some.inj e;subst e';exact⟨hb,q⟩
theorem Inv.pinned{pins:List (Addr×Obj)}{σ:St}{H:Hp}{s:Shared}{fp:List Addr}(I:Inv X pins σ H s)(hf:∀b∈fp,FpOk X pins H b)(ho:∀b∈fp,∃o,s.heap.get? b=some o/\∀v,o.data≠.cell v):Inv X (pins++pinsAt fp s.heap) σ H s:=
 I.pins_of fun p hp=>(List.mem_append.mp hp).elim (fun z=>I.pin p (List.mem_append_right _ z)) fun z=>by
  obtain⟨hb,e⟩:=qntz z;obtain⟨f0,f1,f2,_⟩:=hf p.1 hb;obtain⟨o,e',d⟩:=ho p.1 hb;rw[e] at e';cases e';exact⟨e,f0,f1,f2,d⟩
theorem Inv.unpinned{pins pl:List (Addr×Obj)}{σ:St}{H:Hp}{s:Shared}(I:Inv X (pins++pl) σ H s):Inv X pins σ H s:=I.pins_of fun p hp=>I.pin p (List.mem_append_right _ (List.mem_append_left _ hp))
theorem qnuz{iter:Expr}{body:List Stmt}{wi:TI}{g:TG}{tb:TS}{pos:Pos}(hp:PassesOwn (model X.prog X.w) X.A X.env X.xe)(hc:X.calm=true)(hi:PI X tg iter wi)(hg:PG X tg g)(hb:PSs X body tb)
  (hs:∀x,foldedSetIterable iter X.env x=pure x:=by intro _;rfl):PS X (.For tg iter body [] pos) (tFor wi g tb):=by
 intro pins s σ H D I h;refine wpAny_For (thn (hi pins s σ H _ I h) fun v s1 h1=>thn h1 fun itv s2 h2=>?_) hs;obtain⟨it,fp,tn,J,H2,e,I2,T,st2,f2,W,⟨m0,w0⟩,turn⟩:=h2;subst e
 -- what stays true of the iterator's objects through the loop
 have stat:∀{H':Hp},(∀b∈fp,H' b=none)->∀b∈fp,FpOk X pins H' b:=fun hn b hb=>⟨hn b hb,(f2 b hb).2⟩;refine codeAny_forLoop_any (fun n s'=>∃i σ' H',Inv X pins σ' H' s'/\tn i s'.heap/\(∀b∈fp,H' b=none)/\W i n σ' H') ?_ m0 ⟨0,σ,H2,I2,st2,fun b hb=>(f2 b hb).1,w0⟩;rintro n s3 ⟨i,σ3,H3,I3,st3,fr3,w3⟩;rcases turn i n σ3 H3 w3 with⟨stop,qn⟩|⟨go,N,hN,step⟩
 ·refine wpAny_passesOwn hp (thn (T.done X rfl rfl rfl hc i pins s3 σ3 H3 X.xe I3 (stat fr3) st3 stop) fun r s4 ⟨hr,I4⟩=>?_);subst hr;exact wpAny_execs_nil ⟨σ3,H3,I4,qn⟩
 ·refine wpAny_passesOwn hp (thn (T.item X rfl rfl rfl hc i pins s3 σ3 H3 X.xe I3 (stat fr3) st3 go) fun r s4 ⟨u,hr,h4⟩=>?_);subst hr;refine wpAny_passesOwn hp (thn h4 fun _ s5 ⟨x,H5,I5,r5,y5,st5,fr5⟩=>?_);have I5':=I5.pinned (stat fr5) (T.obj _ _ st5);refine wpAny_passesOwn hp (thn (hg _ s5 σ3 H5 x u _ I5' r5 (step x H5 y5)) fun _ s6 ⟨σ6,H6,I6,q6⟩=>?_);refine wpAny_passesOwn hp (thn (hb _ s6 σ6 H6 _ I6 q6) fun f s7 q7=>?_);have again:∀{σ7:St} {H7:Hp},Inv X (pins++pinsAt fp s5.heap) σ7 H7 s7->N σ7 H7->∃m,m<n/\∃i σ' H',Inv X pins σ' H' s7/\tn i s7.heap/\(∀b∈fp,H' b=none)/\W i m σ' H':=fun {σ7 H7} I7 n7=>by
   obtain⟨m',hm,w7⟩:=hN σ7 H7 n7;refine⟨m',hm,i+1,σ7,H7,I7.unpinned,T.keep _ _ _ st5 fun b hb o e=>(I7.pin (b,o) (List.mem_append_right _ (List.mem_append_right _ (qdpz hb e)))).1,fun b hb=>?_,w7⟩;obtain⟨o,e,d⟩:=T.obj _ _ st5 b hb;exact (I7.pin (b,o) (List.mem_append_right _ (List.mem_append_right _ (qdpz hb e)))).2.1
  cases f with
  |next=>obtain⟨σ7,H7,I7,n7⟩:=q7;exact again I7 n7
  |cont=>obtain⟨σ7,H7,I7,n7⟩:=q7;exact again I7 n7
  |brk=>obtain⟨σ7,H7,I7,q7⟩:=q7;exact⟨σ7,H7,I7.unpinned,q7⟩
  |ret v=>obtain⟨x7,σ7,H7,I7,r7,q7⟩:=q7;exact⟨x7,σ7,H7,I7.unpinned,r7,q7⟩
end
end L2
namespace L2
open PySem PySem.Spec PyProof.Rows
abbrev R2:=V->V->Hp->VK->Prop
def OpR(X:Cx)(f:Value->Value->Sem Value)(r:R2):Prop:=
 ∀(pins:List (Addr×Obj)) (s:Shared) (σ:St) (H:Hp) (x y:V) (v u:Value) (Q:VK),Inv X pins σ H s->RelV x v->RelV y u->r x y H Q ->
  wpAny (model X.prog X.w) X.A (f v u) (EP X pins σ Q) X.xe s
def UnR(X:Cx)(f:Value->Sem Value)(r:V->Hp->VK->Prop):Prop:=
 ∀(pins:List (Addr×Obj)) (s:Shared) (σ:St) (H:Hp) (x:V) (v:Value) (Q:VK),Inv X pins σ H s->RelV x v->r x H Q ->
  wpAny (model X.prog X.w) X.A (f v) (EP X pins σ Q) X.xe s
def CallR(X:Cx)(f:Value)(r:List V->Hp->VK->Prop):Prop:=
 ∀(pins:List (Addr×Obj)) (s:Shared) (σ:St) (H:Hp) (xs:List V) (us:List Value) (Q:VK),Inv X pins σ H s->Vals xs us->r xs H Q ->
  wpAny (model X.prog X.w) X.A (call f us) (EP X pins σ Q) X.xe s
def TruR(X:Cx)(r:V->Hp->(Bool->Hp->Prop)->Prop):Prop:=
 ∀(pins:List (Addr×Obj)) (s:Shared) (σ:St) (H:Hp) (x:V) (v:Value) (Q:Bool->Hp->Prop),Inv X pins σ H s->RelV x v->r x H Q ->
  wpAny (model X.prog X.w) X.A (truthy v) (TP X pins σ Q) X.xe s
def tOp(r:R2)(ta tb:TE):TE:=fun σ H Q=>ta σ H fun x H1=>tb σ H1 fun y H2=>r x y H2 Q
def tUn(r:V->Hp->VK->Prop)(ta:TE):TE:=fun σ H Q=>ta σ H fun x H1=>r x H1 Q
def rI(C:Int->Int->Prop)(g:Int->Int->V):R2:=fun x y H Q=>∃i j,x=.int i/\y=.int j/\C i j/\Q (g i j) H
def rI0(g:Int->Int->V):R2:=fun x y H Q=>∃i j,x=.int i/\y=.int j/\Q (g i j) H
def rU(g:Int->V):V->Hp->VK->Prop:=fun x H Q=>∃i,x=.int i/\Q (g i) H
section
variable {X:Cx} {a b c:Expr} {ta tb tc:TE} {pos:Pos}
theorem binT(ha:PE X a ta)(hb:PE X b tb){pins:List (Addr×Obj)}{s:Shared}{σ:St}{H:Hp}{R:V->V->Hp->Prop}(I:Inv X pins σ H s)
  (h:ta σ H fun x H1=>tb σ H1 fun y H2=>R x y H2) {Q:Value->Shared->Prop} {f:Value->Value->Sem Value}
  (hf:∀v u s2 x y H2,Inv X pins σ H2 s2->RelV x v->RelV y u->R x y H2->wpAny (model X.prog X.w) X.A (f v u) Q X.xe s2):
  wpAny (model X.prog X.w) X.A (eval a X.env) (fun v s₁=>wpAny (model X.prog X.w) X.A (eval b X.env) (fun u s₂=>wpAny (model X.prog X.w) X.A (f v u) Q X.xe s₂) X.xe s₁) X.xe s:=by
 refine thn (ha pins s σ H _ I h) fun v s1 ⟨x,H1,I1,r1,q1⟩=>?_;refine thn (hb pins s1 σ H1 _ I1 q1) fun u s2 ⟨y,H2,I2,r2,q2⟩=>?_;exact hf v u s2 x y H2 I2 r1 r2 q2
theorem qnvz{op:Operator}{r:R2}(ho:OpR X (binaryOp op) r)(ha:PE X a ta)(hb:PE X b tb):PE X (.BinOp a op b pos) (tOp r ta tb):=by
 intro pins s σ H Q I h;exact wpAny_BinOp (binT ha hb I h fun v u s2 x y H2 I2 rx ry q=>ho pins s2 σ H2 x y v u Q I2 rx ry q)
theorem qnwz{op:UnaryOp}{r:V->Hp->VK->Prop}(ho:UnR X (unaryOp op) r)(ha:PE X a ta):PE X (.UnaryOp op a pos) (tUn r ta):=by
 intro pins s σ H Q I h;exact UnaryOp_ (thn (ha pins s σ H _ I h) fun v s1 ⟨x,H1,I1,r1,q1⟩=>ho pins s1 σ H1 x v Q I1 r1 q1)
theorem opI{f:Value->Value->Sem Value}{C:Int->Int->Prop}{g:Int->Int->Int}
  (rule:∀(i j:Int) (t u:Tok) (s:Shared) (Q:Value->Shared->Prop) (E:Value->Shared->Prop),C i j->Q (.int (g i j) s.toks) { s with toks:=s.toks+1 }->wpAny (model X.prog X.w) X.A (f (.int i t) (.int j u)) Q E s):
  OpR X f (rI C fun i j=>.int (g i j)):=by
 intro pins s σ H x y v u Q I rx ry h;obtain⟨i,j,rfl,rfl,hc,q⟩:=h;obtain⟨t,rfl⟩:=rx;obtain⟨t',rfl⟩:=ry;exact rule i j t t' s _ _ hc ⟨.int (g i j),H,I.tok _,⟨_,rfl⟩,q⟩
theorem opI0{f:Value->Value->Sem Value}{g:Int->Int->Int}
  (rule:∀(i j:Int) (t u:Tok) (s:Shared) (Q:Value->Shared->Prop) (E:Value->Shared->Prop),Q (.int (g i j) s.toks) { s with toks:=s.toks+1 }->wpAny (model X.prog X.w) X.A (f (.int i t) (.int j u)) Q E s):
  OpR X f (rI0 fun i j=>.int (g i j)):=by
 intro pins s σ H x y v u Q I rx ry h;obtain⟨i,j,rfl,rfl,q⟩:=h;obtain⟨t,rfl⟩:=rx;obtain⟨t',rfl⟩:=ry;exact rule i j t t' s _ _ ⟨.int (g i j),H,I.tok _,⟨_,rfl⟩,q⟩
theorem opB0{f:Value->Value->Sem Value}{g:Int->Int->Bool}
  (rule:∀(i j:Int) (t u:Tok) (s:Shared) (Q:Value->Shared->Prop) (E:Value->Shared->Prop),Q (.bool (g i j)) s->wpAny (model X.prog X.w) X.A (f (.int i t) (.int j u)) Q E s):
  OpR X f (rI0 fun i j=>.bl (g i j)):=by
 intro pins s σ H x y v u Q I rx ry h;obtain⟨i,j,rfl,rfl,q⟩:=h;obtain⟨t,rfl⟩:=rx;obtain⟨t',rfl⟩:=ry;exact rule i j t t' s _ _ ⟨.bl (g i j),H,I,rfl,q⟩
def CPow(i j:Int):Prop:=0≤j/\j≤1000000/\i.natAbs<2^64
theorem qnxz(k:Nat):(0:Int)≤2^k:=by
 rw[two_pow_cast];exact Int.natCast_nonneg _
theorem op_add:OpR X (binaryOp .Add) (rI0 fun i j=>.int (i+j)):=opI0 fun _ _ _ _ _ _ _ q=>add_int q
theorem qdqz:OpR X (binaryOp .Sub) (rI0 fun i j=>.int (i-j)):=opI0 fun _ _ _ _ _ _ _ q=>sub_int q
theorem qboz:OpR X (binaryOp .Mod) (rI (fun _ j=>0<j) fun i j=>.int (i%j)):=opI fun i j _ _ _ _ _ hc q=>by
 have h1:(0:Int)<j:=hc;exact mod_int' (by omega) (by rw[Int.fmod_eq_emod_of_nonneg i (by omega)];exact q)
theorem qnyz:OpR X (binaryOp .Pow) (rI CPow fun i j=>.int (i^j.toNat)):=opI fun _ _ _ _ _ _ _ hc q=>pow_int_small hc.1 hc.2.1 hc.2.2 q
theorem qnzz:OpR X (binaryOp .LShift) (rI CPow fun i j=>.int (i*2^j.toNat)):=opI fun _ _ _ _ _ _ _ hc q=>lshift_int_small hc.1 hc.2.1 hc.2.2 q
theorem qn0z:OpR X (binaryOp .RShift) (rI (fun _ j=>0≤j) fun i j=>.int (i / 2^j.toNat)):=opI fun i j _ _ _ _ _ hc q=>
 rshift_int hc (by rw[Int.fdiv_eq_ediv_of_nonneg i (qnxz _)];exact q)
theorem unI{f:Value->Sem Value}{g:Int->Int}
  (rule:∀(i:Int) (t:Tok) (s:Shared) (Q:Value->Shared->Prop) (E:Value->Shared->Prop),Q (.int (g i) s.toks) { s with toks:=s.toks+1 }->wpAny (model X.prog X.w) X.A (f (.int i t)) Q E s):
  UnR X f (rU fun i=>.int (g i)):=by
 intro pins s σ H x v Q I rx h;obtain⟨i,rfl,q⟩:=h;obtain⟨t,rfl⟩:=rx;exact rule i t s _ _ ⟨.int (g i),H,I.tok _,⟨_,rfl⟩,q⟩
theorem qn1z:UnR X (unaryOp .USub) (rU fun i=>.int (-i)):=unI fun _ _ _ _ _ q=>neg_int q
end
section
variable {X:Cx} {a b c:Expr} {ta tb tc:TE} {pos:Pos}
theorem qn2z{pins:List (Addr×Obj)}{σ:St}{H:Hp}{s:Shared}{Q:VK}{k k':Bool}(I:Inv X pins σ H s)(q:Q (.bl k) H)(e:k=k'):EP X pins σ Q (.bool k') s:=by
 subst e;exact⟨.bl k,H,I,rfl,q⟩
theorem op_lt:OpR X (compareOp .Lt) (rI0 fun i j=>.bl (decide (i<j))):=opB0 fun _ _ _ _ _ _ _ q=>lt_int q
theorem qn3z:OpR X (compareOp .LtE) (rI0 fun i j=>.bl (decide (i≤j))):=opB0 fun _ _ _ _ _ _ _ q=>le_int q
theorem qdrz:OpR X (compareOp .Gt) (rI0 fun i j=>.bl (decide (j<i))):=opB0 fun _ _ _ _ _ _ _ q=>gt_int q
theorem qhkz:OpR X (compareOp .GtE) (rI0 fun i j=>.bl (decide (j≤i))):=opB0 fun _ _ _ _ _ _ _ q=>ge_int q
theorem qn4z:OpR X (compareOp .IsNot) (fun x y H Q=>y=.non/\Q (.bl (!decide (x=.non))) H):=by
 intro pins s σ H x y v u Q I rx ry h;obtain⟨rfl,q⟩:=h;cases ry;refine isnot_none_gen (qn2z I q ?_);cases x<;>first
  | (cases rx;rfl)
  | (obtain⟨t,rfl⟩:=rx;rfl)
theorem OpR.or{f:Value->Value->Sem Value}{r r':R2}(h:OpR X f r)(h':OpR X f r'):OpR X f (fun x y H Q=>r x y H Q∨r' x y H Q):=by
 intro pins s σ H x y v u Q I rx ry q;rcases q with q|q
 ·exact h pins s σ H x y v u Q I rx ry q
 ·exact h' pins s σ H x y v u Q I rx ry q
theorem nomark(b:Expr){op:CmpOp}(h:op≠.In:=by decide)(h2:op≠.NotIn:=by decide):behindInMarks op b=false:=by
 have e1:(op==CmpOp.In)=false:=by cases op<;>first|rfl|exact absurd rfl h
 have e2:(op==CmpOp.NotIn)=false:=by cases op<;>first|rfl|exact absurd rfl h2
 cases b<;>simp[behindInMarks,e1,e2]
theorem qn5z{op:CmpOp}{r:R2}(ho:OpR X (compareOp op) r)(ha:PE X a ta)(hb:PE X b tb)(hm:behindInMarks op b=false):PE X (.Compare a [op] [b] pos) (tOp r ta tb):=by
 intro pins s σ H Q I h;exact wpAny_Compare1 (binT ha hb I h fun v u s2 x y H2 I2 rx ry q=>ho pins s2 σ H2 x y v u Q I2 rx ry q) hm
def tTest(t:TE):TT:=fun σ H Q=>t σ H fun x H'=>∃k,x=.bl k/\Q k H'
theorem qn6z{op:CmpOp}{r:R2}(ho:OpR X (compareOp op) r)(ha:PE X a ta)(hb:PE X b tb)(hm:behindInMarks op b=false):PT X (.Compare a [op] [b] pos) (tTest (tOp r ta tb)):=by
 intro pins s σ H Q I h;refine wpAny_isTrue_Compare1 (thn (ha pins s σ H _ I h) fun v s1 ⟨x,H1,I1,r1,q1⟩=>thn (hb pins s1 σ H1 _ I1 q1) fun u s2 ⟨y,H2,I2,r2,q2⟩=>
  thn (ho pins s2 σ H2 x y v u _ I2 r1 r2 q2) fun c s3 ⟨z,H3,I3,r3,k,e,q3⟩=>?_) hm
 subst e;cases r3;exact wpAny_truthy_bool ⟨H3,I3,q3⟩
def tChain(r r':R2)(ta tb tc:TE):TE:=fun σ H Q=>ta σ H fun x H1=>tb σ H1 fun y H2=>r x y H2 fun z H3=>∃k,z=.bl k ∧
 (if k=true then tc σ H3 fun w' H4=>r' y w' H4 Q else Q (.bl false) H3)
theorem qn7z{op op':CmpOp}{r r':R2}(ho:OpR X (compareOp op) r)(ho':OpR X (compareOp op') r')(ha:PE X a ta)(hb:PE X b tb)(hc:PE X c tc)
  (hm:lastMarks [op,op'] [b,c]=false:=by with_unfolding_all rfl):PE X (.Compare a [op,op'] [b,c] pos) (tChain r r' ta tb tc):=by
 intro pins s σ H Q I h;refine Compare_chain (thn (ha pins s σ H _ I h) fun v s1 ⟨x,H1,I1,r1,q1⟩=>chain_link (thn (hb pins s1 σ H1 _ I1 q1) fun u s2 ⟨y,H2,I2,r2,q2⟩=>
  thn (ho pins s2 σ H2 x y v u _ I2 r1 r2 q2) fun d s3 ⟨z,H3,I3,r3,k,e,q3⟩=>?_)) hm
 subst e;cases r3;refine wpAny_truthy_bool ?_;cases k with
 |false=>exact ite_ff ⟨.bl false,H3,I3,rfl,q3⟩
 |true=>exact ite_tt (chain_last (thn (hc pins s3 σ H3 _ I3 q3) fun w' s4 ⟨z',H4,I4,r4,q4⟩=>ho' pins s4 σ H4 y z' u w' Q I4 r2 r4 q4))
def TruV(K:PySem.W.Frag)(x:V)(H:Hp)(k:Bool):Prop:=
 match x with
 |.non=>k=false
 |.bl b=>k=b
 |.int i=>k=(i != 0)
 |.str y=>y.length≤sizeLine/\k=((y.length:Int) != 0)
 |.byt y=>y.size≤sizeLine/\k=((y.size:Int) != 0)
 |.ref p=>(∃xs,SqL K H p xs/\k = !xs.isEmpty)∨(∃xs,SqT K H p xs/\k = !xs.isEmpty)∨∃kvs,H p=some (.dK kvs)/\k = !kvs.isEmpty
 |_=>False
theorem qn8z{κ:Type}{kvs:List (κ×V)}{vs:List (κ×Value)}(r:KV kvs vs):(!vs.isEmpty) = !kvs.isEmpty:=by
 cases r<;>rfl
theorem qhlz{xs:List V}{its:List Value}(r:Vals xs its):(!its.toArray.isEmpty) = !xs.isEmpty:=by
 cases r<;>simp
theorem line63:(sizeLine:Nat)<2^63:=by rw[sizeLine_eq];decide
theorem qn9z:TruR X (fun x H Q=>∃k,TruV X.K x H k/\Q k H):=by
 intro pins s σ H x v Q I rx h;obtain⟨k,e,q⟩:=h;have hl:=line63;have hs:sizeLine=16777216:=sizeLine_eq;cases x with
 |non=>
  cases rx;have e':k=false:=e;subst e';exact truthy_none ⟨H,I,q⟩
 |bl b=>
  cases rx;have e':k=b:=e;subst e';exact wpAny_truthy_bool ⟨H,I,q⟩
 |int i=>
  obtain⟨t,rfl⟩:=rx;have e':k=(i != 0):=e;subst e';exact PySem.P.truthy_int ⟨H,I,q⟩
 |str y=>
  obtain⟨t,rfl⟩:=rx;obtain⟨hy,e'⟩:y.length≤sizeLine/\k=((y.length:Int) != 0):=e;subst e';exact PySem.P.truthy_str (by omega) ⟨H,I.tok _,q⟩
 |byt y=>
  obtain⟨t,rfl⟩:=rx;obtain⟨hy,e'⟩:y.size≤sizeLine/\k=((y.size:Int) != 0):=e;subst e';exact PySem.W.truthy_bytes (by omega) ⟨H,I.tok _,q⟩
 |ref p=>
  cases rx;have e':(∃xs,SqL X.K H p xs/\k = !xs.isEmpty)∨(∃xs,SqT X.K H p xs/\k = !xs.isEmpty)∨∃kvs,H p=some (.dK kvs)/\k = !kvs.isEmpty:=e;rcases e' with⟨xs,hx,e'⟩|⟨xs,hx,e'⟩|⟨kvs,hx,e'⟩
  ·subst e';obtain⟨its,r,pl,hz⟩:=I.list hx;have hlen:=r.length;exact wpAny_truthy_list pl.isList (by simp only[List.size_toArray];omega) ⟨H,I.tok _,by rw[qhlz r];exact q⟩
  ·subst e';obtain⟨its,r,pl,hz⟩:=I.tuple hx;have hlen:=r.length;exact truthy_tuple pl (by simp only[List.size_toArray];omega) ⟨H,I.tok _,by rw[qhlz r];exact q⟩
  ·subst e';obtain⟨hz,hS,vs,r,m⟩:kvs.length≤sizeLine/\(p==sysModules)=false/\∃vs,KV kvs vs/\s.heap.DictOf (mixKind X.prog X.w) p vs:=I.hok p _ hx;have hlen:kvs.length=vs.length:=Paired.length r;exact wpAny_truthy_dict hS m (by omega) ⟨H,I.tok _,by rw[qn8z r];exact q⟩
 |_=>exact (show False from e).elim
theorem qoaz(ha:PE X a ta)(he:∀whole,isTrue a X.env whole=(do let v ←whole;standAt a.pos;holding [v] (truthy v))):
  PT X a (fun σ H Q=>ta σ H fun x H'=>∃k,TruV X.K x H' k/\Q k H'):=by
 intro pins s σ H Q I h;exact isTrue_plain (thn (ha pins s σ H _ I h) fun v s1 ⟨x,H1,I1,r1,q1⟩=>qn9z pins s1 σ H1 x v Q I1 r1 q1) (he _)
theorem vals1{x:V}{us:List Value}(r:Vals [x] us):∃u,us=[u]/\RelV x u:=by
 cases r with
 |cons r1 r2=>cases r2;exact⟨_,rfl,r1⟩
theorem vals2{x y:V}{us:List Value}(r:Vals [x,y] us):∃u w',us=[u,w']/\RelV x u/\RelV y w':=by
 cases r with
 |cons r1 r2=>
  cases r2 with
  |cons r3 r4=>cases r4;exact⟨_,_,rfl,r1,r3⟩
theorem qobz(hc:X.calm=true):CallR X (.builtin "max") (fun xs H Q=>∃i j,xs=[.int i,.int j]/\Q (.int (if j > i then j else i)) H):=by
 intro pins s σ H xs us Q I r h;obtain⟨i,j,rfl,q⟩:=h;obtain⟨u,w',rfl,⟨t,rfl⟩,⟨t',rfl⟩⟩:=vals2 r;refine max_two_ints (I.ok.hd hc) fun h' tk k=>⟨_,H,I.kept k,?_,q⟩;by_cases hj:j > i
 ·rw[if_pos hj,if_pos hj];exact⟨_,rfl⟩
 ·rw[if_neg hj,if_neg hj];exact⟨_,rfl⟩
theorem qocz(hc:X.calm=true):CallR X (.builtin "min") (fun xs H Q=>∃i j,xs=[.int i,.int j]/\Q (.int (if j<i then j else i)) H):=by
 intro pins s σ H xs us Q I r h;obtain⟨i,j,rfl,q⟩:=h;obtain⟨u,w',rfl,⟨t,rfl⟩,⟨t',rfl⟩⟩:=vals2 r;refine min_two_ints (I.ok.hd hc) fun h' tk k=>⟨_,H,I.kept k,?_,q⟩;by_cases hj:j<i
 ·rw[if_pos hj,if_pos hj];exact⟨_,rfl⟩
 ·rw[if_neg hj,if_neg hj];exact⟨_,rfl⟩
theorem qodz:CallR X (.type "int") (fun xs H Q=>(∃i,xs=[.int i]/\Q (.int i) H)∨∃k,xs=[.bl k]/\Q (.int (if k then 1 else 0)) H):=by
 intro pins s σ H xs us Q I r h;rcases h with⟨i,rfl,q⟩|⟨k,rfl,q⟩
 ·obtain⟨u,rfl,t,rfl⟩:=vals1 r;exact call_int_int ⟨.int i,H,I,⟨_,rfl⟩,q⟩
 ·obtain⟨u,rfl,r1⟩:=vals1 r;cases r1;exact call_int_bool ⟨.int (if k then 1 else 0),H,I.tok _,⟨_,rfl⟩,q⟩
end
end L2
namespace L2
open PySem PySem.Spec PyProof.Rows
structure Room(k:Nat)(A:Around):Prop where
 hd:A.handled=none
 dp:A.depth+3*k+5<recursionLimit
 un:A.units+16*k+200<cLine
theorem Room.mono{j k:Nat}{A:Around}(r:Room k A)(h:j≤k):Room j A:=⟨r.hd,by have:=r.dp;omega,by have:=r.un;omega⟩
theorem Room.deeper{k:Nat}{A:Around}(r:Room (k+1) A)(env:Env):Room k (A.deeper env):=
 ⟨r.hd,by have:=r.dp;show A.depth+1+3*k+5<_;omega,by have:=r.un;show A.units+3+16*k+200<_;omega⟩
theorem Room.depth{k:Nat}{A:Around}(r:Room k A):A.depth<recursionLimit:=by have:=r.dp;omega
theorem Room.units{k:Nat}{A:Around}(r:Room k A):A.units+64<cLine:=by have:=r.un;omega
theorem Room.units0{k:Nat}{A:Around}(r:Room k A):A.units<cLine:=by have:=r.un;omega
def tNil:TA:=fun _ H Q=>Q [] H
def tCons(ta:TE)(tr:TA):TA:=fun σ H Q=>ta σ H fun x H1=>tr σ H1 fun xs H2=>Q (x::xs) H2
section
variable {X:Cx} {e:Expr} {es:List Expr} {te:TE} {t:TA} {pos:Pos}
theorem qbez:PA X [] tNil:=fun _ _ _ _ H Q I h=>Calls.spliced_nil ⟨[],H,I,.nil,h⟩
theorem qaoz(ha:PE X e te)(hr:PA X es t)(hs:starEach (e::es) X.env=(false,eval e X.env)::starEach es X.env:=by rfl):PA X (e::es) (tCons te t):=by
 intro pos pins s σ H Q I h;rw[hs];show wpAny _ _ (spliced ((false,eval e X.env)::backTo pos (starEach es X.env))) _ _ s;refine Calls.spliced_cons (thn (ha pins s σ H _ I h) fun u s1 ⟨x,H1,I1,r1,q1⟩=>?_);exact thn (hr pos pins s1 σ H1 _ I1 q1) fun us s2 ⟨xs,H2,I2,r2,q2⟩=>⟨x::xs,H2,I2,.cons r1 r2,q2⟩
def tTup(t:TA):TE:=fun σ H Q=>t σ H fun xs H1=>xs.length≤sizeLine/\∀p,H1 p=none->Q (.ref p) (upd H1 p (.tup xs))
def tLst(t:TA):TE:=fun σ H Q=>t σ H fun xs H1=>xs.length≤sizeLine/\∀p,H1 p=none->Q (.ref p) (upd H1 p (.lst xs))
theorem qoez{x1}(h:PA X es t):PE X (.Tuple es x1 pos) (tTup t):=by
 intro pins s σ H Q I hq;refine wpAny_Tuple_spliced (thn (h pos pins s σ H _ I hq) fun us s1 ⟨xs,H1,I1,r,z,q⟩=>⟨by rw[←r.length];exact z,?_⟩);have hf:H1 s1.heap.objs.size=none:=I1.hok.fresh (Nat.le_refl _);refine⟨.ref s1.heap.objs.size,upd H1 s1.heap.objs.size (.tup xs),I1.laid (t':=s1.toks) (fun b u e=>Heap.get?_push_of_some _ e) (Nat.le_refl _) ?_,rfl,q _ hf⟩;exact⟨z,us,r,⟨_,Heap.get?_push_size _ rfl,rfl,⟨_,rfl⟩,rfl⟩⟩
theorem qhmz(h:PA X es t):PE X (.List es pos) (tLst t):=by
 intro pins s σ H Q I hq;refine wpAny_List_spliced (thn (h pos pins s σ H _ I hq) fun us s1 ⟨xs,H1,I1,r,z,q⟩=>⟨by rw[←r.length];exact z,?_⟩);have hf:H1 s1.heap.objs.size=none:=I1.hok.fresh (Nat.le_refl _);refine⟨.ref s1.heap.objs.size,upd H1 s1.heap.objs.size (.lst xs),I1.laid (t':=s1.toks) (fun b u e=>Heap.get?_push_of_some _ e) (Nat.le_refl _) ?_,rfl,q _ hf⟩;exact⟨z,us,0,r,Heap.get?_push_size _ rfl⟩
end
abbrev Sp:=List V->Hp->VK->XK->Prop
abbrev CXT:=List Env->Hp->Shared->XK->Value->Shared->Prop
structure Env0(P:Program)(w:World)(K:PySem.W.Frag)(mg:Str->Option Value)(base:Heap)(A:Around)(outer:List Env)(s:Shared)(H:Hp):Prop where
 frames:A.frames=some outer
 mod:Mod K mg base
 bs:∀b o,base.get? b=some o->s.heap.get? b=some o/\H b=none
 bsz:base.objs.size≤s.heap.objs.size
 funs:s.heap.FunFrames base outer
 frf:∀b∈frs outer,H b=none
 hok:HOk P w H s.heap
 bare:AllBare s.gens
def CE(outer:List Env)(P:Program)(w:World)(H:Hp)(s:Shared)(Q:VK)(u:Value)(s':Shared):Prop:=
 ∃v H',s'.os=s.os/\AllBare s'.gens/\Un (frs outer) [] H H' s.heap s'.heap/\HOk P w H' s'.heap/\RelV v u/\Q v H'
def CR(CX:CXT)(outer:List Env)(P:Program)(w:World)(H:Hp)(s:Shared)(Q:VK)(E:XK)(r:Result)(s':Shared):Prop:=
 match r with
 |.ok (.ret u)=>CE outer P w H s Q u s'
 |.ok _=>False
 |.error e=>CX outer H s E e s'
structure FnOk(P:Program)(w:World)(K:PySem.W.Frag)(mg:Str->Option Value)(base:Heap)(CX:CXT)(k:Nat)(f:Addr)(fd:FuncData)(ps:List Str)(sp:Sp):Prop where
 len:∀vs H Q E,sp vs H Q E->vs.length=ps.length
 run:∀(A:Around) (outer:List Env) (s:Shared) (H:Hp) (args:Args) (us:List Value) (vs:List V) (Q:VK) (E:XK),Room k A->Env0 P w K mg base A outer s H->BindsTo s fd args (ps.zip us)->Vals vs us->sp vs H Q E ->
  codeAny (model P w) A (.call (.ref f) args) (CR CX outer P w H s Q E) s
theorem FnOk.mono{P:Program}{w:World}{K:PySem.W.Frag}{mg:Str->Option Value}{base:Heap}{CX:CXT}{j k:Nat}{f:Addr}{fd:FuncData}{ps:List Str}{sp:Sp}(F:FnOk P w K mg base CX j f fd ps sp)(h:j≤k):
  FnOk P w K mg base CX k f fd ps sp:=⟨F.len,fun A outer s H args us vs Q E hr=>F.run A outer s H args us vs Q E (hr.mono h)⟩
theorem FnOk.imp{P:Program}{w:World}{K:PySem.W.Frag}{mg:Str->Option Value}{base:Heap}{CX:CXT}{k:Nat}{f:Addr}{fd:FuncData}{ps:List Str}{sp sp':Sp}(F:FnOk P w K mg base CX k f fd ps sp)
  (h:∀vs H Q E,sp' vs H Q E->sp vs H Q E):FnOk P w K mg base CX k f fd ps sp':=
 ⟨fun vs H Q E q=>F.len vs H Q E (h _ _ _ _ q),fun A outer s H args us vs Q E hr he hb hv hs=>F.run A outer s H args us vs Q E hr he hb hv (h _ _ _ _ hs)⟩
section
variable {X:Cx} {pins:List (Addr×Obj)} {σ:St} {H:Hp} {s s':Shared}
theorem Inv.env0(I:Inv X pins σ H s):Env0 X.prog X.w X.K X.mg X.base X.A X.stack s H:=
 ⟨I.ok.frames,I.ok.mod,I.bs,Nat.le_trans I.ok.bsz I.sz,I.stack,I.stkFree,I.hok,I.bare⟩
theorem Inv.after{Q:VK}{u:Value}(I:Inv X pins σ H s)(h:CE X.stack X.prog X.w H s Q u s'):EP X pins σ Q u s':=by
 obtain⟨v,H',os,bare,un,hok,r,q⟩:=h;obtain⟨hh,g,d,t,os'⟩:=s';obtain rfl:os'=s.os:=os;exact⟨v,H',I.call (h':=hh) (g':=g) (d':=d) (t':=t) (ch:=[]) un hok bare (fun b z=>absurd z (by simp)),r,q⟩
end
def tCall(sp:Sp)(dvs:List V)(E:XK)(t:TA):TE:=fun σ H Q=>t σ H fun vs H1=>sp (vs++dvs) H1 Q E
def Binds(K:PySem.W.Frag)(fd:FuncData)(ps:List Str)(ds:List Value):Prop:=
 ∀(s:Shared) (us:List Value),K.In s.heap->(us++ds).length=ps.length->BindsTo s fd ⟨us,[]⟩ (ps.zip (us++ds))
theorem Binds.all{K:PySem.W.Frag}{fd:FuncData}{ps:List Str}(h:∀us:List Value,us.length=ps.length->bindArgs fd ⟨us,[]⟩=pure (ps.zip us)):Binds K fd ps []:=fun s us _ hl=>by
 rw[List.append_nil] at hl ⊢;exact .of_eq (h us hl)
def Passes(CX:CXT)(X:Cx)(E:XK):Prop:=∀(pins:List (Addr×Obj)) (σ:St) (H:Hp) (s:Shared) (e:Value) (s':Shared),Inv X pins σ H s->CX X.stack H s E e s'->X.xe e s'
section
variable {X:Cx} {CX:CXT} {k:Nat} {f C:Addr} {fd:FuncData} {ps:List Str} {sp:Sp} {dvs:List V} {ds:List Value} {E:XK} {x m:Str} {p pos apos:Pos} {e o:Expr} {es:List Expr} {ta:TE} {t:TA}
theorem qofz{pins:List (Addr×Obj)}{σ:St}{H:Hp}{s:Shared}{Q:VK}{us:List Value}{vs:List V}(F:FnOk X.prog X.w X.K X.mg X.base CX k f fd ps sp)(hr:Room k X.A)(hb:Binds X.K fd ps ds)(hd:Vals dvs ds)(hx:Passes CX X E)
  (I:Inv X pins σ H s) (r:Vals vs us) (h:sp (vs++dvs) H Q E):wpAny (model X.prog X.w) X.A (call (.ref f) us) (EP X pins σ Q) X.xe s:=by
 have r2:Vals (vs++dvs) (us++ds):=r.append hd;have hl:(us++ds).length=ps.length:=by rw[←r2.length];exact F.len _ _ _ _ h
 refine wpAny_call (codeAny_mono (F.run X.A X.stack s H ⟨us,[]⟩ (us++ds) (vs++dvs) Q E hr I.env0 (hb s us I.kIn hl) r2 h) fun r s' hq=>?_);cases r with
 |error e=>exact hx pins σ H s e s' I hq
 |ok fl=>
  cases fl with
  |ret u=>exact I.after hq
  |next=>exact False.elim hq
  |brk=>exact False.elim hq
  |cont=>exact False.elim hq
theorem qogz(F:FnOk X.prog X.w X.K X.mg X.base CX k f fd ps sp)(hr:Room k X.A)(hg:Gl X x)(hm:X.mg x=some (.ref f))(hk:PySem.W.keepIn X.K (.ref f)=true)(hb:Binds X.K fd ps ds)(hd:Vals dvs ds)(hx:Passes CX X E)
  (ha:PA X (e::es) t) (hdb:(x==("__debug__":Str))=false:=by decide) (he:starEach (e::es) X.env=(false,eval e X.env)::starEach es X.env:=by rfl) (hpl:(backTo pos (starEach es X.env)).any (·.1)=false:=by rfl):
  PE X (.Call (.Name x p) (e::es) [] pos) (tCall sp dvs E t):=by
 intro pins s σ H Q I h;refine wpAny_Call_Name_kw (qb3z I hg hm ?_ hdb);refine PySem.W.callWith_K (h₀:=X.base) I.ok.mod.kin hk (thn (ha pos pins s σ H _ I h) fun us s1 ⟨vs,H1,I1,r,q⟩=>⟨I1.kIn,?_⟩) he hpl;exact qofz F hr hb hd hx I1 r q
end
structure FnScope(N P:List Str)(sc:Scope):Prop where
 kind:sc.kind=.function
 co:sc.isCoroutine=false
 gen:sc.isGenerator=false
 nd:N.Nodup
 pre:N.take P.length=P
 par:∀x∈P,sc.names.lookup x=some .local∨sc.names.lookup x=some .cell
 nofree:∀y∈sc.names,y.2≠.free
theorem qhnz{kindOf:Str->Option NameKind}{x:Str}:∀{binds:List (Str×Value)} {m:Str->Option Value},(∀v,(x,v)∉binds)->bindL kindOf binds m x=m x
 |[],_,_=>rfl
 | (n,v)::r,m,h=>by
  unfold bindL;rw[qhnz fun w hw=>h w (List.mem_cons_of_mem _ hw)];split
  ·have:x≠n:=by rintro rfl;exact h v List.mem_cons_self
   simp[this]
  ·rfl
theorem qhoz{kindOf:Str->Option NameKind}{x:Str}:∀{binds:List (Str×Value)} {m:Str->Option Value},(∀v,(x,v)∉binds)->bindC kindOf binds m x=m x
 |[],_,_=>rfl
 | (n,v)::r,m,h=>by
  unfold bindC;rw[qhoz fun w hw=>h w (List.mem_cons_of_mem _ hw)];split
  ·rfl
  ·have:x≠n:=by rintro rfl;exact h v List.mem_cons_self
   simp[this]
theorem qhpz{kindOf:Str->Option NameKind}{x:Str}{v:Value}:∀{P:List Str} {vs:List Value} {i:Nat} {m:Str->Option Value},P.Nodup->P[i]?=some x->vs[i]?=some v->kindOf x=some .local ->
  bindL kindOf (P.zip vs) m x=some v
 |[],_,_,_,_,h,_,_=>by simp at h
 |_::_,[],_,_,_,_,h,_=>by simp at h
 |p::P,w::vs,0,m,nd,h1,h2,hk=>by
  simp at h1 h2;subst h1;subst h2;show bindL kindOf ((p,w)::P.zip vs) m p=_;unfold bindL;rw[qhnz fun v hv=>(List.nodup_cons.mp nd).1 (List.of_mem_zip hv).1,if_pos hk];simp
 |p::P,w::vs,i+1,m,nd,h1,h2,hk=>by
  show bindL kindOf ((p,w)::P.zip vs) m x=_;unfold bindL;exact qhpz (i:=i) (List.nodup_cons.mp nd).2 (by simpa using h1) (by simpa using h2) hk
theorem qhqz{kindOf:Str->Option NameKind}{x:Str}{v:Value}:∀{P:List Str} {vs:List Value} {i:Nat} {m:Str->Option Value},P.Nodup->P[i]?=some x->vs[i]?=some v->kindOf x≠some .local ->
  bindC kindOf (P.zip vs) m x=some v
 |[],_,_,_,_,h,_,_=>by simp at h
 |_::_,[],_,_,_,_,h,_=>by simp at h
 |p::P,w::vs,0,m,nd,h1,h2,hk=>by
  simp at h1 h2;subst h1;subst h2;show bindC kindOf ((p,w)::P.zip vs) m p=_;unfold bindC;rw[qhoz fun v hv=>(List.nodup_cons.mp nd).1 (List.of_mem_zip hv).1,if_neg hk];simp
 |p::P,w::vs,i+1,m,nd,h1,h2,hk=>by
  show bindC kindOf ((p,w)::P.zip vs) m x=_;unfold bindC;exact qhqz (i:=i) (List.nodup_cons.mp nd).2 (by simpa using h1) (by simpa using h2) hk
def start(N:List Str)(vs:List V):St:=vs.map some++List.replicate (N.length-vs.length) none
def cxOf(CX:CXT)(P:Program)(w:World)(K:PySem.W.Frag)(mg:Str->Option Value)(base:Heap)(N:List Str)(qual:Str)(scope:Scope)(f:Addr)(cd:Value)(A:Around)(outer:List Env)(s:Shared)(H:Hp)(E:XK):Cx where
 prog:=P
 w:=w
 K:=K
 mg:=mg
 base:=base
 A:=A.deeper (envOfC qual scope s.heap.objs.size f cd)
 N:=N
 s₀:=s
 H₀:=H
 env:=envOfC qual scope s.heap.objs.size f cd
 outer:=outer
 stack:=envOfC qual scope s.heap.objs.size f cd::outer
 ex:=[]
 calm:=true
 fn:=fun _=>true
 pn:=[]
 xe:=fun e s'=>wpAny (model P w) (A.deeper (envOfC qual scope s.heap.objs.size f cd)) (leaving (envOfC qual scope s.heap.objs.size f cd) e) (fun _ s''=>CX outer H s E e s'') (fun e' s''=>CX outer H s E e' s'') s'
theorem qhrz{sc:Scope}{n:Nat}{x:Str}(h:sc.names.lookup x=some .cell):∃c,(cellsFrom n sc.names []).lookup x=some c:=by
 have q:=PySem.W.cellsFrom_some sc.names n [] (.inl h);exact Option.isSome_iff_exists.mp q
theorem qhsz{CX:CXT}{P:Program}{w:World}{K:PySem.W.Frag}{mg:Str->Option Value}{base:Heap}{N ps:List Str}{qual:Str}{scope:Scope}{f:Addr}{cd:Value}{A:Around}{outer:List Env}{s s1:Shared}{H:Hp}{E:XK}{us:List Value}{vs:List V}
  (S:FnScope N ps scope) (hd:A.handled=none) (e0:Env0 P w K mg base A outer s H) (hl:vs.length=ps.length) (r:Vals vs us)
  (x:InCallC s s.heap.objs.size (bindL (envOfC qual scope s.heap.objs.size f cd).kindOf (ps.zip us) fun _=>none) (cellsFrom (s.heap.objs.size+1) scope.names []) (bindC (envOfC qual scope s.heap.objs.size f cd).kindOf (ps.zip us) fun _=>none) s1):
  Inv (cxOf CX P w K mg base N qual scope f cd A outer s H E) [] (start N vs) H s1:=by
 have hpl:ps.length≤N.length:=by have:=congrArg List.length S.pre;rw[List.length_take] at this;omega
 obtain⟨h1,tk,rfl,hk⟩:=x.done;have noA:∀b:Addr,b∉(cxOf CX P w K mg base N qual scope f cd A outer s H E).ex:=fun b z=>absurd (show b∈([]:List Addr) from z) (by simp);refine⟨⟨e0.mod,S.kind,rfl,rfl,Nat.le_refl _,fun y z c h1 h2=>?_,fun y hy=>?_,fun y c _ h=>?_,fun _=>hd,Around.frames_deeper e0.frames,.inr ⟨rfl,rfl⟩,fun b z=>absurd z (noA b),e0.bs,e0.bsz,fun b _ _=>noA b,fun b z=>absurd z (noA b),e0.funs,e0.frf⟩,
  rfl,e0.bare,Un.kept hk,⟨_,x.toInCall.ns,fun i y v h1 h2 h3=>?_⟩,fun y c h=>⟨_,x.cell y c h⟩,e0.hok.fresh (Nat.le_refl _),fun y c h=>?_,fun p hp=>absurd (show p∈([]:List (Addr×Obj)) from hp) (by simp),e0.hok.kept hk,?_⟩
 ·exact name_of_addr x.apart (PySem.mem_of_lookup h1) (PySem.mem_of_lookup h2)
 ·have hy:scope.names.lookup y=some .cell∨scope.names.lookup y=some .free:=hy;rcases hy with hy|hy
  ·exact qhrz hy
  ·exact absurd rfl (S.nofree _ (PySem.mem_of_lookup hy))
 ·exact Nat.le_of_lt (x.above y c (PySem.mem_of_lookup h))
 ·have hi:i<vs.length:=by
   unfold start at h2;by_cases hi:i<vs.length
   ·exact hi
   ·rw[List.getElem?_append_right (by simpa using hi)] at h2;rw[List.getElem?_replicate] at h2;split at h2<;>cases h2
  have ha:vs[i]?=some v:=by
   unfold start at h2;rw[List.getElem?_append_left (by simpa using hi),List.getElem?_map] at h2;cases e:vs[i]? with
   |none=>rw[e] at h2;cases h2
   |some a=>rw[e] at h2;cases h2;rfl
  obtain⟨u,hu,rv⟩:=r.get ha;have hp:ps[i]?=some y:=by
   rw[←S.pre,List.getElem?_take_of_lt (by omega)];exact h1
  have ndP:ps.Nodup:=by rw[←S.pre];exact S.nd.sublist (List.take_sublist _ _)
  refine⟨u,rv,?_⟩;rcases S.par y (List.mem_of_getElem? hp) with k|k
  ·exact .inl ⟨k,qhpz ndP hp hu k⟩
  ·obtain⟨c,e⟩:=qhrz (n:=s.heap.objs.size+1) k;refine .inr ⟨.inl k,c,e,?_⟩;have q:=x.cell y c e;rw[qhqz ndP hp hu (by show scope.names.lookup y≠_;rw[k];decide)] at q;exact q
 ·exact e0.hok.fresh (Nat.le_of_lt (x.above y c (PySem.mem_of_lookup h)))
 ·unfold start;show _=N.length;rw[List.length_append,List.length_map,List.length_replicate];omega
theorem qhtz{CX:CXT}{P:Program}{w:World}{K:PySem.W.Frag}{mg:Str->Option Value}{base:Heap}{k:Nat}{f:Addr}{name qual:Str}{params:Arguments}{body:List Stmt}{scope:Scope}{dV kV doc pm cdv ct oc:Value}{an od:Option Addr}
  {osl:Array (Option Value)} {N ps:List Str} {sp:Sp} (lk:K.lookup f=some ⟨oc,od,.func (PySem.W.fnOf name qual params body scope dV kV doc pm an cdv ct),osl⟩) (hcd:PySem.W.codeIn K cdv qual=true) (S:FnScope N ps scope)
  (len:∀vs H Q E,sp vs H Q E->vs.length=ps.length)
  (hbody:∀(A:Around) (outer:List Env) (s:Shared) (H:Hp) (vs:List V) (Q:VK) (E:XK),Room k (A.deeper (envOfC qual scope s.heap.objs.size f cdv))->sp vs H Q E ->
   ∃t,PSs (cxOf CX P w K mg base N qual scope f cdv A outer s H E) body t/\t { nx:=fun _ H'=>Q .non H',rt:=Q } (start N vs) H):
  FnOk P w K mg base CX (k+1) f (PySem.W.fnOf name qual params body scope dV kV doc pm an cdv ct) ps sp:=by
 refine⟨len,fun A outer s H args us vs Q E hr e0 hb r hsp=>?_⟩;have hl:=len _ _ _ _ hsp;have KX:K.In s.heap:=e0.mod.kin.keeps fun b o e=>(e0.bs b o e).1;have lim:s.heap.NoLimit:=e0.mod.nolimit.keeps fun b o e=>(e0.bs b o e).1;have hkind:∀y∈ps.zip us,scope.names.lookup y.1=some .local∨(scope.names.lookup y.1=some .cell/\((cellsFrom (s.heap.objs.size+1) scope.names []).lookup y.1).isSome=true):=fun⟨n,v⟩ hy=>by
  rcases S.par n (List.of_mem_zip hy).1 with q|q
  ·exact .inl q
  ·exact .inr ⟨q,PySem.W.cellsFrom_some _ _ _ (.inl q)⟩
 refine codeAny_call_function hr.depth (KX _ _ lk) rfl S.co S.gen rfl (PySem.W.codeRec_of KX hcd) (hb _ _ _ _ ?_);refine wpAny_newFunctionEnv_cells S.kind hkind fun env he s1 x=>?_;subst he;refine⟨lim.keeps x.toInCall.keep,codeAny_func ?_⟩;obtain⟨t,ht,hq⟩:=hbody A outer s H vs Q E (hr.deeper _) hsp;have I:Inv (cxOf CX P w K mg base N qual scope f cdv A outer s H E) [] (start N vs) H s1:=qhsz S hr.hd e0 hl r x;refine wpAny_mono (ht [] s1 (start N vs) H _ I hq) (fun fl s' hs=>?_) fun e s' hs=>hs;have fin:∀{σ':St} {H':Hp} {v:V} {u:Value},Inv (cxOf CX P w K mg base N qual scope f cdv A outer s H E) [] σ' H' s'->RelV v u->Q v H'->CE outer P w H s Q u s':=
  fun {σ' H' v u} J rv q=>⟨v,H',J.os,J.bare,J.base,J.hok,rv,q⟩
 cases fl with
 |ret u=>
  obtain⟨v,σ',H',J,rv,q⟩:=hs;exact fin J rv q
 |next=>
  obtain⟨σ',H',J,q⟩:=hs;exact fin (v:=V.non) (u:=Value.none) J rfl q
 |brk=>
  obtain⟨_,_,_,q⟩:=hs;exact False.elim q
 |cont=>
  obtain⟨_,_,_,q⟩:=hs;exact False.elim q
end L2
namespace L2
open PySem PySem.Spec PyProof.Rows
section
variable {X:Cx} {x:Str} {p pos:Pos} {e:Expr} {es:List Expr} {t:TA} {id T:String} {r:List V->Hp->VK->Prop}
def tCB(r:List V->Hp->VK->Prop)(t:TA):TE:=fun σ H Q=>t σ H fun vs H1=>r vs H1 Q
theorem qarz(hc:CallR X (.builtin id) r)(hg:Gl X x)(hm:X.mg x=none)(hv:bootBuiltins x=some (.builtin id))(ha:PA X (e::es) t)(hn:x≠"__name__":=by decide)(hdb:(x==("__debug__":Str))=false:=by decide)
  (he:starEach (e::es) X.env=(false,eval e X.env)::starEach es X.env:=by rfl) (hpl:(backTo pos (starEach es X.env)).any (·.1)=false:=by rfl):PE X (.Call (.Name x p) (e::es) [] pos) (tCB r t):=by
 intro pins s σ H Q I h;refine wpAny_Call_Name_kw (qaxz I hg hm hv ?_ hn hdb);exact PyProof.Rows.callWith_builtin1 (thn (ha pos pins s σ H _ I h) fun us s1 ⟨vs,H1,I1,r1,q1⟩=>hc pins s1 σ H1 vs us Q I1 r1 q1) he hpl
theorem qcrz(hc:CallR X (.type T) r)(hg:Gl X x)(hm:X.mg x=none)(hv:bootBuiltins x=some (.type T))(ha:PA X (e::es) t)(hn:x≠"__name__":=by decide)(hdb:(x==("__debug__":Str))=false:=by decide)
  (he:starEach (e::es) X.env=(false,eval e X.env)::starEach es X.env:=by rfl) (hpl:(backTo pos (starEach es X.env)).any (·.1)=false:=by rfl):PE X (.Call (.Name x p) (e::es) [] pos) (tCB r t):=by
 intro pins s σ H Q I h;refine wpAny_Call_Name_kw (qaxz I hg hm hv ?_ hn hdb);exact PyProof.Rows.callWith_type1 (thn (ha pos pins s σ H _ I h) fun us s1 ⟨vs,H1,I1,r1,q1⟩=>hc pins s1 σ H1 vs us Q I1 r1 q1) he hpl
end
end L2
namespace HT
open PySem PyProof.Rows
def lexLt:List Int->List Int->Bool
 |[],[]=>false
 |[],_::_=>true
 |_::_,[]=>false
 |x::xs,y::ys=>if x=y then lexLt xs ys else decide (x<y)
theorem qohz(x y:Int)(xs ys:List Int):lexLt (x::xs) (y::ys)=if x=y then lexLt xs ys else decide (x<y):=rfl
theorem qoiz:lexLt [] []=false:=rfl
theorem qojz(y:Int)(ys:List Int):lexLt [] (y::ys)=true:=rfl
theorem qokz(x:Int)(xs:List Int):lexLt (x::xs) []=false:=rfl
theorem qolz(A:Around)(s:Shared)(a:Int)(t:Tok)(c:Int)(u:Tok):∃e,SeqAt.EqAt A s (.int a t) (.int c u) e/\(e=true↔a=c):=
 ⟨(a==c),SeqAt.EqAt.int_int a t c u,by simp⟩
theorem qomz(A:Around)(s:Shared)(a:Int)(t:Tok)(c:Int)(u:Tok)(prog:Program)(w:World)(E:Value->Shared->Prop)(Q:Value->Shared->Prop)(h:Q (.bool (decide (a<c))) s):
  wpAny (model prog w) A (richCompare .Lt (.int a t) (.int c u)) Q E s:=
 (PyProof.Rows.lt_int h:wpAny (model prog w) A (compareOp .Lt (.int a t) (.int c u)) Q E s)
section
open PySem.SeqAt
open PySem.AutoSeq1 (wpAny_loadPart')
open PySem.MeetsSeq PySem.MeetsSeq2 PySem.MeetsSeq3
theorem qonz(l b:Addr)(items items2:Array Value)(n n2:Nat)(dd dd2:Option Addr)(sl sl2:Array (Option Value))(ns ms:List Int)(hi:IntsAre items.toList ns)(hj:IntsAre items2.toList ms):
  Meets (Builtin.«tuple.__lt__» ⟨[.ref l,.ref b],[]⟩)
   (fun _ R s=>s.heap.get? l=some { cls:=.type "tuple",dict:=dd,data:=.seq items n,slots:=sl }/\s.heap.get? b=some { cls:=.type "tuple",dict:=dd2,data:=.seq items2 n2,slots:=sl2 } ∧
    R (.ok (.ret (.bool (lexLt ns ms)))) s):=
 .of_wp fun prog w A R s h=>by
  obtain⟨hp,g,d,tk,os⟩:=s;obtain⟨hl,hb,h⟩:=h;have f2:=AutoSeq1.sub_tuple_tuple;have z1:items.size=ns.length:=by rw[←hi.length];simp
  have z2:items2.size=ms.length:=by rw[←hj.length];simp
  wp_walk using wpAny_loadPart' hl,wpAny_loadPart' hb,wpAny_forIn_list _ (fun rest b s'=>b.1=none/\s'=⟨hp,g,d,tk,os⟩/\∃(vs ws:List Value) (ns' ms':List Int),rest=vs.zip ws ∧
   IntsAre vs ns'/\IntsAre ws ms'/\ns'.length+items2.size=ms'.length+items.size/\R (.ok (.ret (.bool (lexLt ns' ms')))) ⟨hp,g,d,tk,os⟩) _
  case turn=>
   rintro⟨y,x⟩ rest b s' ⟨hb',rfl,vs,ws,ns',ms',hz,hvi,hwi,hlen,hR⟩;cases hvi with
   |nil=>rw[List.zip_nil_left] at hz;cases hz
   |cons a t hvi'=>
    cases hwi with
    |nil=>rw[List.zip_nil_right] at hz;cases hz
    |cons c u hwi'=>
     rw[List.zip_cons_cons] at hz;injection hz with hyx hrest;injection hyx with hy hx;subst hy hx;rw[qohz] at hR;simp only[List.length_cons] at hlen;obtain⟨e,he,hiff⟩:=qolz A.in1 ⟨hp,g,d,tk,os⟩ a t c u;refine wpAny_bind (he prog w _ _ ?_);cases e with
     |true=>
      rw[if_pos (hiff.mp rfl)] at hR;wp_walk;exact⟨rfl,rfl,_,_,_,_,hrest,hvi',hwi',by omega,hR⟩
     |false=>
      rw[if_neg (fun q=>absurd (hiff.mpr q) Bool.false_ne_true)] at hR;have hri:=qomz A.in1 ⟨hp,g,d,tk,os⟩ a t c u prog w;wp_walk using hri;exact⟨_,rfl,by simpa using hR⟩
  case fin=>
   rintro⟨b1,b2⟩ s' ⟨hb',rfl,vs,ws,ns',ms',hz,hvi,hwi,hlen,hR⟩;simp only at hb';subst hb';have hv:lexLt ns' ms'=decide (items.size<items2.size):=by
    cases hvi with
    |nil=>
     cases hwi with
     |nil=>
      simp only[List.length_nil] at hlen;rw[qoiz];exact (decide_eq_false (by omega)).symm
     |cons c u hw=>
      simp only[List.length_nil,List.length_cons] at hlen;rw[qojz];exact (decide_eq_true (by omega)).symm
    |cons a t hv=>
     cases hwi with
     |nil=>
      simp only[List.length_nil,List.length_cons] at hlen;rw[qokz];exact (decide_eq_false (by omega)).symm
     |cons c u hw=>
      rw[List.zip_cons_cons] at hz;cases hz
   rw[hv] at hR;wp_walk;exact⟨_,rfl,by simpa [Builtin.Tuple.tupleCompareSizes] using hR⟩
  case h=>
   exact⟨rfl,rfl,items.toList,items2.toList,ns,ms,rfl,hi,hj,by omega,h⟩
end
section
variable {prog:Program} {w:World} {A:Around} {E:Value->Shared->Prop} {s:Shared}
theorem lt_tupInts{l b:Addr}{items items2:Array Value}{ns ms:List Int}{Q:Value->Shared->Prop}(hl:IsTup s.heap l items)(hb:IsTup s.heap b items2)(hi:IntsAre items.toList ns)(hj:IntsAre items2.toList ms)
  (hu:A.units<cLine) (h:Q (.bool (lexLt ns ms)) s):wpAny (model prog w) A (compareOp .Lt (.ref l) (.ref b)) Q E s:=by
 obtain⟨⟨cls,dd,data,sl⟩,ho,hc,n,hd⟩:=id hl;obtain⟨⟨cls2,dd2,data2,sl2⟩,ho2,hc2,n2,hd2⟩:=id hb;simp only at hc hd hc2 hd2;subst hc hd hc2 hd2;exact richCompare_meets_room (op:=.Lt) ⟨_,ho,rfl⟩ ⟨_,ho2,rfl⟩ PySem.F.slot_tuple_lt PySem.F.entry_tuple_lt (PySem.F.args_tuple_lt_2 _ _) (qonz l b items items2 n n2 dd dd2 sl sl2 ns ms hi hj)
  ⟨ho,ho2,show Value.bool (lexLt ns ms)≠Value.notImplemented/\Q (.bool (lexLt ns ms)) s from⟨(fun x=>nomatch x),h⟩⟩ hu
theorem cat_tup{t b:Addr}{vs ws:List Value}{Q:Value->Shared->Prop}(ht:IsTup s.heap t vs.toArray)(hb:IsTup s.heap b ws.toArray)(hv:vs≠[])
  (h1:ws=[]->Q (.ref t) s) (h2:ws≠[]->Q (.ref s.heap.objs.size) { s with heap:=s.heap.push { cls:=.type "tuple",data:=.seq (vs++ws).toArray }})
  (hsz:vs.length+ws.length≤sizeLine):wpAny (model prog w) A (binaryOp .Add (.ref t) (.ref b)) Q E s:=by
 obtain⟨⟨cls,dd,data,sl⟩,ho,hc,n,hd⟩:=id ht;obtain⟨⟨cls2,dd2,data2,sl2⟩,ho2,hc2,n2,hd2⟩:=id hb;simp only at hc hd hc2 hd2;subst hc hd hc2 hd2;have e:vs.toArray++ws.toArray=(vs++ws).toArray:=by simp
 by_cases hw:ws=[]
 ·exact concat_meets ⟨_,ho,rfl⟩ ⟨_,ho2,rfl⟩ noFill_tuple_add seq_tuple_add PySem.F.slot_tuple_add PySem.F.entry_tuple_add (PySem.F.args_tuple_add_2 _ _)
   (tuple_addW1 t b vs.toArray ws.toArray n n2 dd dd2 sl sl2 (by simpa using hv) (by simp[hw])) ⟨ho,ho2,h1 hw⟩
 ·refine concat_meets ⟨_,ho,rfl⟩ ⟨_,ho2,rfl⟩ noFill_tuple_add seq_tuple_add PySem.F.slot_tuple_add PySem.F.entry_tuple_add (PySem.F.args_tuple_add_2 _ _)
   (tuple_addW2 t b vs.toArray ws.toArray n n2 dd dd2 sl sl2 (by simpa using hv) (by simpa using hw) (by rw[List.size_toArray,List.size_toArray];exact hsz)) ⟨ho,ho2,?_⟩
  rw[e];exact h2 hw
def sIx(n d:Nat):Option Int->Nat
 |none=>d
 |some v=>if v<0 then (v+(n:Int)).toNat else min v.toNat n
theorem sIx_none(n d:Nat):sIx n d none=d:=rfl
theorem sIx_nat(n d k:Nat):sIx n d (some (k:Int))=min k n:=by
 show (if (k:Int)<0 then ((k:Int)+(n:Int)).toNat else min (k:Int).toNat n)=min k n;rw[if_neg (by omega),Int.toNat_natCast]
theorem qooz(n d:Nat)(hd:d≤n)(o:Option Int):sIx n d o≤n:=by
 cases o with
 |none=>exact hd
 |some v=>
  show (if v<0 then (v+(n:Int)).toNat else min v.toNat n)≤n;by_cases hv:v<0
  ·rw[if_pos hv];omega
  ·rw[if_neg hv];exact Nat.min_le_right _ _
theorem qhuz(v:Int)(n d:Nat):(if v<0 then max (v+(n:Int)) 0 else min v (n:Int))=((sIx n d (some v):Nat):Int):=by
 show (if v<0 then max (v+(n:Int)) 0 else min v (n:Int))=(((if v<0 then (v+(n:Int)).toNat else min v.toNat n):Nat):Int);by_cases hv:v<0
 ·simp only[if_pos hv];omega
 ·simp only[if_neg hv];omega
theorem qopz(lo hi:Option Int)(n:Nat):Builtin.Slice.sliceAdjust lo hi 1 (n:Int)=(((sIx n 0 lo:Nat):Int),((sIx n n hi:Nat):Int)):=by
 have h1:¬((1:Int)<0):=by omega
 unfold Builtin.Slice.sliceAdjust;simp only[h1,if_false];refine Prod.ext ?_ ?_
 ·cases lo with
  |none=>rfl
  |some v=>exact qhuz v n 0
 ·cases hi with
  |none=>rfl
  |some v=>exact qhuz v n n
theorem qoqz(i j:Nat):Builtin.Slice.slicePlaces (i:Int) (j:Int) 1=j-i:=by
 unfold Builtin.Slice.slicePlaces;have h1:(1:Int) > 0:=by omega
 simp only[h1,if_true,Int.ediv_one];split<;>omega
theorem qhvz{v:Value}{o:Option Int}{Q:Option Int->Shared->Prop}(p:IsPart v o)(h:Q o s):wpAny (model prog w) A (Builtin.Slice.slicePartIndex v) Q E s:=by
 cases p with
 |none=>exact slicePart_none h
 |int i t=>exact slicePart_int h
theorem sliceApplied_gen{sl:Addr}{vl vu:Value}{lo hi:Option Int}{n:Nat}{Q:Int×Int×Nat->Shared->Prop}(hs:s.heap.IsSliceOf sl vl vu .none)(pl:IsPart vl lo)(pu:IsPart vu hi)
  (h:Q (((sIx n 0 lo:Nat):Int),1,sIx n n hi-sIx n 0 lo) s):wpAny (model prog w) A (Builtin.Slice.sliceApplied (.ref sl) (pure (n:Int))) Q E s:=by
 obtain⟨os,hos,hcs,hds⟩:=id hs;unfold Builtin.Slice.sliceApplied Builtin.Slice.sliceFields;refine wpAny_bind (wpAny_bind (wpAny_field hos hds (x:=vl) rfl (wpAny_bind (wpAny_field hos hds (x:=vu) rfl (wpAny_bind (wpAny_field hos hds (x:=.none) rfl (wpAny_pure ?_)))))));refine wpAny_bind (slicePart_none ?_);show wpAny _ _ (if ((1:Int)==0)=true then _ else _) _ _ s;rw[if_neg (by decide)];refine wpAny_bind (qhvz pl (wpAny_bind (qhvz pu (wpAny_bind (wpAny_pure ?_)))));show wpAny _ _ (match Builtin.Slice.sliceAdjust lo hi 1 (n:Int) with|(lo,hi)=>pure (lo,(1:Int),Builtin.Slice.slicePlaces lo hi 1)) _ _ s
 rw[qopz lo hi n];show wpAny _ _ (pure (((sIx n 0 lo:Nat):Int),(1:Int),Builtin.Slice.slicePlaces ((sIx n 0 lo:Nat):Int) ((sIx n n hi:Nat):Int) 1)) _ _ s;rw[qoqz];exact wpAny_pure h
theorem qorz(xs:Array Value)(i k:Nat):((List.range k).filterMap fun (m:Nat)=>xs[((i:Int)+(m:Int)*1).toNat]?).toArray=((xs.toList.drop i).take k).toArray:=by
 have e:(fun (m:Nat)=>xs[((i:Int)+(m:Int)*1).toNat]?)=fun m=>xs[i+m]?:=by
  funext m;have:((i:Int)+(m:Int)*1).toNat=i+m:=by omega
  rw[this]
 rw[e];have:=pick_run xs i k;rw[List.filterMap_map] at this;have e2:((fun x=>xs[x]?) ∘ fun x=>i+x)=fun m=>xs[i+m]?:=rfl;rw[e2] at this;rw[this]
theorem getItem_tuple_cut{t sl:Addr}{items:Array Value}{vl vu:Value}{lo hi:Option Int}{Q:Value->Shared->Prop}(ht:IsTup s.heap t items)(hs:s.heap.IsSliceOf sl vl vu .none)(pl:IsPart vl lo)(pu:IsPart vu hi)
  (hw:¬(sIx items.size 0 lo=0/\sIx items.size items.size hi=items.size))
  (h:Q (.ref s.heap.objs.size) { s with heap:=s.heap.push { cls:=.type "tuple",data:=.seq ((items.toList.drop (sIx items.size 0 lo)).take (sIx items.size items.size hi-sIx items.size 0 lo)).toArray }})
  (hsz:items.size≤sizeLine):wpAny (model prog w) A (getItem (.ref t) (.ref sl)) Q E s:=by
 have htake:sizeOk (.seq ((items.toList.drop (sIx items.size 0 lo)).take (sIx items.size items.size hi-sIx items.size 0 lo)).toArray):=by
  show ((items.toList.drop (sIx items.size 0 lo)).take (sIx items.size items.size hi-sIx items.size 0 lo)).toArray.size≤sizeLine;rw[List.size_toArray,List.length_take,List.length_drop,Array.length_toList];omega
 have hj:sIx items.size items.size hi≤items.size:=qooz _ _ (Nat.le_refl _) hi;obtain⟨os,hos,hcs,hds⟩:=id hs;have hTs:s.TypeIs (.ref sl) "slice":=⟨os,hos,hcs⟩;unfold getItem
 try with_reducible refine wpAny_holding ?_
 first|refine wpAny_bind (wpAny_pure ?_)|skip
 refine wpAny_bind (wpAny_sequenceKey ht.typeIs (by decide) ?_);refine wpAny_bind (wpAny_callSpecial?_slot (name:=Str.ofString "__getitem__") ht.typeIs PyProof.Rows.slot_tuple_getitem
  (wpAny_call_entry PyProof.Rows.slot_tuple_getitem ht.typeIs entry_tuple_getitem ?_ (args_tuple_getitem _ _)))
 show wpAny _ _ (Builtin.Tuple.tupleItemsOf (.ref t) >>= _) _ _ s;refine wpAny_bind (tupleItemsOf_ ht ?_);refine wpAny_bind (wpAny_typeOf hTs ?_);rw[if_pos (by decide)];refine wpAny_bind (sliceApplied_gen hs pl pu ?_);have hno:¬((((sIx items.size 0 lo:Nat):Int)==0&&(1:Int)==1&&(sIx items.size items.size hi-sIx items.size 0 lo)==items.size)=true):=by
  intro q;rw[Bool.and_eq_true,Bool.and_eq_true] at q;have q1:((sIx items.size 0 lo:Nat):Int)=0:=eq_of_beq q.1.1;have q2:sIx items.size items.size hi-sIx items.size 0 lo=items.size:=eq_of_beq q.2;exact hw ⟨by omega,by omega⟩
 show wpAny _ _ (if (((sIx items.size 0 lo:Nat):Int)==0&&(1:Int)==1&&(sIx items.size items.size hi-sIx items.size 0 lo)==items.size)=true then _ else _) _ _ s;rw[if_neg hno,qorz]
 first
  |exact wpAny_bind (m:=Builtin.Tuple.tupleExact _) (wpAny_newObj_type (wpAny_pure ⟨_,rfl,wpAny_pure h⟩) htake)
  |exact wpAny_bind (m:=Builtin.Tuple.tupleExact _) (wpAny_newObj_type (wpAny_bind (wpAny_pure (wpAny_pure ⟨_,rfl,wpAny_pure h⟩))) htake)
  |exact wpAny_bind (wpAny_bind (m:=Builtin.Tuple.tupleExact _) (wpAny_newObj_type (wpAny_pure (wpAny_pure ⟨_,rfl,wpAny_pure h⟩)) htake))
  |exact wpAny_bind (wpAny_bind (m:=Builtin.Tuple.tupleExact _) (wpAny_newObj_type (wpAny_pure ⟨_,rfl,wpAny_pure h⟩) htake))
end
end HT
namespace L2
open PySem PySem.Spec PyProof.Rows
abbrev TO:=St->Hp->(Option Int->Hp->Prop)->Prop
def PO(X:Cx)(e:Option Expr)(t:TO):Prop:=
 ∀(pins:List (Addr×Obj)) (s:Shared) (σ:St) (H:Hp) (Q:Option Int->Hp->Prop),Inv X pins σ H s->t σ H Q ->
  wpAny (model X.prog X.w) X.A (evalPart e X.env) (fun u s'=>∃o H',Inv X pins σ H' s'/\IsPart u o/\Q o H') X.xe s
def tNoPart:TO:=fun _ H Q=>Q none H
def tPart(t:TE):TO:=fun σ H Q=>t σ H fun x H1=>∃i,x=.int i/\Q (some i) H1
theorem intsAre_of{ns:List Int}:∀{us:List Value},Vals (ns.map V.int) us->IntsAre us ns:=by
 induction ns with
 |nil=>intro us r;rw[List.map_nil] at r;cases r;exact .nil
 |cons n ns ih=>
  intro us r;rw[List.map_cons] at r;cases r with
  |cons r1 r2=>
   obtain⟨t,e⟩:=r1;subst e;exact .cons n t (ih r2)
section
variable {X:Cx} {e:Expr} {te:TE} {lo hi:Option Expr} {tl th:TO} {pos p2:Pos}
theorem qosz:PO X none tNoPart:=by
 intro pins s σ H Q I h;rw[evalPart_none];exact wpAny_pure ⟨none,H,I,.none,h⟩
theorem qotz(h:PE X e te):PO X (some e) (tPart te):=by
 intro pins s σ H Q I hw;rw[evalPart_some];refine thn (h pins s σ H _ I hw) fun u s1 ⟨x,H1,I1,r1,q1⟩=>?_;obtain⟨i,rfl,q⟩:=q1;obtain⟨t,rfl⟩:=r1;exact⟨some i,H1,I1,.int i t,q⟩
def SlR(X:Cx)(r:V->Option Int->Option Int->Hp->VK->Prop):Prop:=
 ∀(pins:List (Addr×Obj)) (s:Shared) (σ:St) (H:Hp) (x:V) (v vl vu:Value) (lo hi:Option Int) (sl:Addr) (Q:VK),Inv X pins σ H s->RelV x v->s.heap.IsSliceOf sl vl vu .none->IsPart vl lo->IsPart vu hi->r x lo hi H Q ->
  ∃T id,typeLookup (.type T) "__getitem__" = pure (some (.builtin id))/\s.TypeIs v T/\wpAny (model X.prog X.w) X.A (getItem v (.ref sl)) (EP X pins σ Q) X.xe s
theorem SlR.or{r r':V->Option Int->Option Int->Hp->VK->Prop}(h:SlR X r)(h':SlR X r'):SlR X (fun x lo hi H Q=>r x lo hi H Q∨r' x lo hi H Q):=by
 intro pins s σ H x v vl vu lo hi sl Q I rx hs pl pu q;rcases q with q|q
 ·exact h pins s σ H x v vl vu lo hi sl Q I rx hs pl pu q
 ·exact h' pins s σ H x v vl vu lo hi sl Q I rx hs pl pu q
def tSl(r:V->Option Int->Option Int->Hp->VK->Prop)(te:TE)(tl th:TO):TE:=fun σ H Q=>te σ H fun x H1=>tl σ H1 fun l H2=>th σ H2 fun u H3=>r x l u H3 Q
theorem qouz{r:V->Option Int->Option Int->Hp->VK->Prop}(hr:SlR X r)(he:PE X e te)(hl:PO X lo tl)(hu:PO X hi th):PE X (.Subscript e (.Slice lo hi none p2) pos) (tSl r te tl th):=by
 intro pins s σ H Q I h;refine Subscript_ (thn (he pins s σ H _ I h) fun v s1 ⟨x,H1,I1,r1,q1⟩=>?_);refine wpAny_Slice (thn (hl pins s1 σ H1 _ I1 q1) fun vl s2 ⟨l,H2,I2,pl,q2⟩=>thn (hu pins s2 σ H2 _ I2 q2) fun vu s3 ⟨u,H3,I3,pu,q3⟩=>?_);rw[evalPart_none];refine wpAny_pure ?_;have I4:Inv X pins σ H3 { s3 with heap:=s3.heap.push { cls:=.type "slice",data:=.fields #[vl,vu,.none]}}:=I3.kept (t':=s3.toks) fun b ob q=>Heap.get?_push_of_some _ q;obtain⟨T,id,hT,ht,hg⟩:=hr pins { s3 with heap:=s3.heap.push { cls:=.type "slice",data:=.fields #[vl,vu,.none]}} σ H3 x v vl vu l u s3.heap.objs.size Q I4 r1 (Heap.IsSliceOf.new ..) pl pu q3;show wpAny (model X.prog X.w) X.A (subscriptTail e (.Slice lo hi none p2) v (.ref s3.heap.objs.size)) (EP X pins σ Q) X.xe { s3 with heap:=s3.heap.push { cls:=.type "slice",data:=.fields #[vl,vu,.none]}};exact tail_any (ops:=[.ref s3.heap.objs.size,v]) ht hT hg (by with_unfolding_all rfl)
def cutV(xs:List V)(lo hi:Option Int):List V:=(xs.drop (HT.sIx xs.length 0 lo)).take (HT.sIx xs.length xs.length hi-HT.sIx xs.length 0 lo)
theorem qhwz(xs:List V)(lo hi:Option Int):(cutV xs lo hi).length≤xs.length:=by
 unfold cutV;rw[List.length_take,List.length_drop];omega
def rSlT(K:PySem.W.Frag):V->Option Int->Option Int->Hp->VK->Prop:=fun x lo hi H Q=>∃a xs,x=.ref a/\SqT K H a xs ∧
 ¬(HT.sIx xs.length 0 lo=0/\HT.sIx xs.length xs.length hi=xs.length)/\∀p,H p=none->Q (.ref p) (upd H p (.tup (cutV xs lo hi)))
theorem sl_tup:SlR X (rSlT X.K):=by
 intro pins s σ H x v vl vu lo hi sl Q I rx hs pl pu h;obtain⟨a,xs,rfl,hx,hw,q⟩:=h;cases rx;obtain⟨its,r,ht,hz⟩:=I.tuple hx;have hlen:its.toArray.size=xs.length:=by rw[List.size_toArray];exact r.length.symm
 refine⟨"tuple",_,PyProof.Rows.slot_tuple_getitem.lookup,ht.typeIs,?_⟩;refine HT.getItem_tuple_cut ht hs pl pu (by rw[hlen];exact hw) ?_ (by rw[hlen];exact hz);rw[hlen];refine⟨.ref s.heap.objs.size,_,I.laid (t':=s.toks) (o:=.tup (cutV xs lo hi)) (fun b ob q=>Heap.get?_push_of_some _ q) (Nat.le_refl _) ?_,rfl,q _ (I.hok.fresh (Nat.le_refl _))⟩;exact⟨Nat.le_trans (qhwz xs lo hi) hz,_,(r.drop (HT.sIx xs.length 0 lo)).take (HT.sIx xs.length xs.length hi-HT.sIx xs.length 0 lo),IsTup2.new _ _⟩
def rLtT(K:PySem.W.Frag):R2:=fun x y H Q=>∃a b ns ms,x=.ref a/\y=.ref b/\SqT K H a (ns.map V.int)/\SqT K H b (ms.map V.int)/\Q (.bl (HT.lexLt ns ms)) H
theorem qovz(hu:X.A.units<cLine):OpR X (compareOp .Lt) (rLtT X.K):=by
 intro pins s σ H x y v u Q I rx ry h;obtain⟨a,b,ns,ms,rfl,rfl,ha,hb,q⟩:=h;cases rx;cases ry;obtain⟨its,r1,p1,_⟩:=I.tuple ha;obtain⟨its2,r2,p2,_⟩:=I.tuple hb;have i1:IntsAre its.toArray.toList ns:=intsAre_of r1;have i2:IntsAre its2.toArray.toList ms:=intsAre_of r2;exact HT.lt_tupInts p1 p2 i1 i2 hu ⟨.bl (HT.lexLt ns ms),H,I,rfl,q⟩
def rCatT(K:PySem.W.Frag):R2:=fun x y H Q=>∃a b xs ys,x=.ref a/\y=.ref b/\SqT K H a xs/\SqT K H b ys/\xs≠[]/\xs.length+ys.length≤sizeLine ∧
 (ys=[]->Q (.ref a) H)/\(ys≠[]->∀p,H p=none->Q (.ref p) (upd H p (.tup (xs++ys))))
theorem Vals.nil_iff{xs:List V}{us:List Value}(r:Vals xs us):us=[]↔xs=[]:=by
 cases r with
 |nil=>simp
 |cons _ _=>simp
theorem op_catT:OpR X (binaryOp .Add) (rCatT X.K):=by
 intro pins s σ H x y v u Q I rx ry h;obtain⟨a,b,xs,ys,rfl,rfl,ha,hb,hx,hz,q1,q2⟩:=h;cases rx;cases ry;obtain⟨its,r1,p1,_⟩:=I.tuple ha;obtain⟨its2,r2,p2,_⟩:=I.tuple hb;refine HT.cat_tup p1 p2 (fun z=>hx (r1.nil_iff.mp z)) (fun z=>⟨.ref a,H,I,rfl,q1 (r2.nil_iff.mp z)⟩) (fun z=>?_) (by rw[←r1.length,←r2.length];exact hz);refine⟨.ref s.heap.objs.size,_,I.laid (t':=s.toks) (o:=.tup (xs++ys)) (fun b ob q=>Heap.get?_push_of_some _ q) (Nat.le_refl _) ?_,rfl,q2 (fun w=>z (r2.nil_iff.mpr w)) _ (I.hok.fresh (Nat.le_refl _))⟩;exact⟨by rw[List.length_append];exact hz,_,r1.append r2,IsTup2.new _ _⟩
end
end L2
namespace L2
open PySem PySem.Spec PyProof.Rows
def ixN(n:Nat)(i:Int):Option Nat:=if 0≤i then (if i<n then some i.toNat else none) else if -(n:Int)≤i then some (i+n).toNat else none
def atI{α:Type}(xs:List α)(i:Int):Option α:=(ixN xs.length i).bind fun j=>xs[j]?
theorem qhxz{n:Nat}{i:Int}{j:Nat}(h:ixN n i=some j):seqIndex? i n=some j/\j<n/\-(n:Int)≤i/\i<n:=by
 unfold ixN at h;by_cases h0:0≤i
 ·rw[if_pos h0] at h;by_cases h1:i<n
  ·rw[if_pos h1] at h;have e:i.toNat=j:=Option.some.inj h;exact⟨by rw[seqIndex_of h0 h1,e],by omega,by omega,h1⟩
  ·rw[if_neg h1] at h;cases h
 ·rw[if_neg h0] at h;by_cases h1:-(n:Int)≤i
  ·rw[if_pos h1] at h;have e:(i+n).toNat=j:=Option.some.inj h;exact⟨by rw[seqIndex_neg (by omega) h1,e],by omega,h1,by omega⟩
  ·rw[if_neg h1] at h;cases h
theorem qfbz{α:Type}{xs:List α}{i:Int}{v:α}(h:atI xs i=some v):∃j,seqIndex? i xs.length=some j/\xs[j]?=some v/\j<xs.length/\-(xs.length:Int)≤i/\i<xs.length:=by
 unfold atI at h;cases e:ixN xs.length i with
 |none=>rw[e] at h;cases h
 |some j=>
  rw[e] at h;obtain⟨h1,h2,h3,h4⟩:=qhxz e;exact⟨j,h1,h,h2,h3,h4⟩
theorem qbpz{α:Type}{xs:List α}{j:Nat}{v:α}(h:xs[j]?=some v):atI xs (j:Int)=some v:=by
 have hj:j<xs.length:=(List.getElem?_eq_some_iff.mp h).1;have e:ixN xs.length (j:Int)=some j:=by
  unfold ixN;rw[if_pos (by omega),if_pos (by omega)];simp
 unfold atI;rw[e];exact h
def PlainIx(b:Expr):Prop:=∀o i,subscripted b false o i=operate [o,i] (getItem o i)
def IxR(X:Cx)(r:R2):Prop:=
 ∀(value slice:Expr) (pins:List (Addr×Obj)) (s:Shared) (σ:St) (H:Hp) (x y:V) (v u:Value) (Q:VK),Inv X pins σ H s->RelV x v->RelV y u->r x y H Q ->
  subscripted slice false v u=operate [v,u] (getItem v u)->wpAny (model X.prog X.w) X.A (subscriptTail value slice v u) (EP X pins σ Q) X.xe s
def MtR(X:Cx)(id:String)(r:V->List V->Hp->VK->Prop):Prop:=
 ∀(pins:List (Addr×Obj)) (s:Shared) (σ:St) (H:Hp) (x:V) (xs:List V) (v:Value) (us:List Value) (Q:VK),Inv X pins σ H s->RelV x v->Vals xs us->r x xs H Q ->
  wpAny (model X.prog X.w) X.A (call (.builtin id) (v::us)) (EP X pins σ Q) X.xe s
section
variable {X:Cx} {a b:Expr} {ta tb:TE} {pos:Pos}
theorem IxR.or{r r':R2}(h:IxR X r)(h':IxR X r'):IxR X (fun x y H Q=>r x y H Q∨r' x y H Q):=by
 intro value slice pins s σ H x y v u Q I rx ry q hs;rcases q with q|q
 ·exact h value slice pins s σ H x y v u Q I rx ry q hs
 ·exact h' value slice pins s σ H x y v u Q I rx ry q hs
theorem qhyz{r:R2}(hr:IxR X r)(ha:PE X a ta)(hb:PE X b tb)(hs:PlainIx b):PE X (.Subscript a b pos) (tOp r ta tb):=by
 intro pins s σ H Q I h;exact Subscript_ (binT ha hb I h fun v u s2 x y H2 I2 rx ry q=>hr a b pins s2 σ H2 x y v u Q I2 rx ry q (hs _ _))
def rIxL(K:PySem.W.Frag):R2:=fun x y H Q=>∃p xs i v,x=.ref p/\y=.int i/\SqL K H p xs/\atI xs i=some v/\Q v H
def rIxT(K:PySem.W.Frag):R2:=fun x y H Q=>∃p xs i v,x=.ref p/\y=.int i/\SqT K H p xs/\atI xs i=some v/\Q v H
def rIxS:R2:=fun x y H Q=>∃z i c,x=.str z/\y=.int i/\z.length≤sizeLine/\atI z.cps.toList i=some c/\Q (.str ⟨#[c]⟩) H
theorem ix_list:IxR X (rIxL X.K):=by
 intro value slice pins s σ H x y v u Q I rx ry h hs;obtain⟨p,xs,i,z,rfl,rfl,hq,he,q⟩:=h;cases rx;obtain⟨t,rfl⟩:=ry;obtain⟨its,r,pl,hz⟩:=I.list hq;obtain⟨j,h1,h2,h3,h4,h5⟩:=qfbz he;obtain⟨w,ew,rw'⟩:=r.get h2;have hl:=r.length;have hn:=line63;have fin:EP X pins σ Q w s:=⟨z,H,I,rw',q⟩;by_cases h0:0≤i
 ·have hj:i.toNat=j:=by
   rw[seqIndex_of h0 h5] at h1;exact Option.some.inj h1
  exact item_listR pl.isList h0 (by omega) (by rw[hj];simpa using ew) fin hs
 ·have hj:(i+(its.toArray.size:Int)).toNat=j:=by
   rw[seqIndex_neg (by omega) h4] at h1;rw[List.size_toArray,←hl];exact Option.some.inj h1
  exact subscriptTail_builtinR (x:=w) pl.isList.typeIs slot_list_getitem.lookup
   (wpAny_getItem_list_neg (Q:=fun r s'=>r=w/\EP X pins σ Q r s') pl.isList (by omega) (by rw[List.size_toArray]<;>omega) (by omega) (by rw[hj];simpa using ew) ⟨rfl,fin⟩) hs
theorem ix_tup:IxR X (rIxT X.K):=by
 intro value slice pins s σ H x y v u Q I rx ry h hs;obtain⟨p,xs,i,z,rfl,rfl,hq,he,q⟩:=h;cases rx;obtain⟨t,rfl⟩:=ry;obtain⟨its,r,pl,hz⟩:=I.tuple hq;obtain⟨j,h1,h2,h3,h4,h5⟩:=qfbz he;obtain⟨w,ew,rw'⟩:=r.get h2;have hl:=r.length;have hn:=line63;have fin:EP X pins σ Q w s:=⟨z,H,I,rw',q⟩;exact subscriptTail_builtinR (x:=w) pl.typeIs slot_tuple_getitem.lookup
  (getItem_tuple (j:=j) (Q:=fun r s'=>r=w/\EP X pins σ Q r s') pl (by omega) (by omega) (by rw[List.size_toArray,←hl];exact h1) (by simpa using ew) ⟨rfl,fin⟩) hs
theorem qowz:IxR X rIxS:=by
 intro value slice pins s σ H x y v u Q I rx ry h hs;obtain⟨z,i,c,rfl,rfl,hz,he,q⟩:=h;obtain⟨t,rfl⟩:=rx;obtain⟨t',rfl⟩:=ry;obtain⟨j,h1,h2,h3,h4,h5⟩:=qfbz he;have hl:z.cps.toList.length=z.length:=by simp[Str.length]
 rw[hl] at h1 h4 h5;have hn:=line63;exact tail_any (typeIs_str s z t) slot_str_getitem.lookup (getItem_str (c:=c) (by
  have e1:decide (i < -(2^63:Int))=false:=decide_eq_false (by omega);have e2:decide (i≥2^63)=false:=decide_eq_false (by omega);rw[e1,e2,Bool.or_false]) (by rw[h1];simpa using h2) ⟨.str ⟨#[c]⟩,H,I.tok _,⟨_,rfl⟩,q⟩) hs
def rIx(K:PySem.W.Frag):R2:=fun x y H Q=>rIxL K x y H Q∨rIxT K x y H Q∨rIxS x y H Q
theorem qhzz:IxR X (rIx X.K):=ix_list.or (ix_tup.or qowz)
theorem qoxz(its:List Value)(n j:Nat)(u:Value):Obj.mapSeq (·.setIfInBounds j u) { cls:=.type "list",data:=.seq its.toArray n }={ cls:=.type "list",data:=.seq (its.set j u).toArray n }:=by
 simp[Obj.mapSeq]
theorem Inv.lst{pins:List (Addr×Obj)}{σ:St}{H:Hp}{s:Shared}{p:Addr}{xs:List V}(I:Inv X pins σ H s)(h:H p=some (.lst xs)):
  ∃(its:List Value) (n:Nat),Vals xs its/\s.heap.get? p=some { cls:=.type "list",data:=.seq its.toArray n }/\xs.length≤sizeLine:=by
 obtain⟨z,its,n,r,e⟩:=I.hok p _ h;exact⟨its,n,r,e,z⟩
theorem Inv.lstUpd{pins:List (Addr×Obj)}{σ:St}{H:Hp}{s:Shared}{p:Addr}{xs ys:List V}{its its':List Value}{n n':Nat}{f:Obj->Obj}(I:Inv X pins σ H s)(h:H p=some (.lst xs))
  (ho:s.heap.get? p=some { cls:=.type "list",data:=.seq its.toArray n }) (hf:f { cls:=.type "list",data:=.seq its.toArray n }={ cls:=.type "list",data:=.seq its'.toArray n' }) (r:Vals ys its') (hz:ys.length≤sizeLine) (t:Nat):
  Inv X pins σ (upd H p (.lst ys)) { s with heap:=s.heap.update p f,toks:=t }:=by
 have e:(s.heap.update p f).get? p=some { cls:=.type "list",data:=.seq its'.toArray n' }:=by
  rw[Heap.get?_update_self f ho (by rw[hf]<;>rfl),hf]
 refine I.write (x:=p) (e:=p) (by rw[h];trivial) (.inl rfl) (fun b u hb q=>(Heap.get?_update_other _ _ (Ne.symm hb)).trans q) ⟨_,e⟩ ?_;exact⟨hz,its',n',r,e⟩
def rSetL:V->V->V->Hp->(Hp->Prop)->Prop:=fun o i v H Q=>∃p xs k j,o=.ref p/\i=.int k/\H p=some (.lst xs)/\ixN xs.length k=some j/\Q (upd H p (.lst (xs.set j v)))
theorem set_list:PSet X rSetL:=by
 intro pins s σ H o i v ov iv u Q I ro ri rv h;obtain⟨p,xs,k,j,rfl,rfl,hp,hj,q⟩:=h;cases ro;obtain⟨t,rfl⟩:=ri;obtain⟨its,n,r,ho,hz⟩:=I.lst hp;obtain⟨h1,h2,h3,h4⟩:=qhxz hj;have hl:=r.length;have hn:=line63;have I':Inv X pins σ (upd H p (.lst (xs.set j v))) { s with heap:=s.heap.update p (Obj.mapSeq (·.setIfInBounds j u))}:=
  I.lstUpd hp ho (qoxz its n j u) (r.set rv j) (by rw[List.length_set];exact hz) s.toks
 by_cases h0:0≤k
 ·have hk:k.toNat=j:=by
   rw[seqIndex_of h0 h4] at h1;exact Option.some.inj h1
  exact PySem.W.ki_setAt ho h0 (by omega) (by rw[List.size_toArray,←hl];exact h4) (by rw[hk];exact⟨_,I',q⟩)
 ·have hk:(k+(its.toArray.size:Int)).toNat=j:=by
   rw[seqIndex_neg (by omega) h3] at h1;rw[List.size_toArray,←hl];exact Option.some.inj h1
  exact PySem.W.ki_setBack ho (by omega) (by rw[List.size_toArray,←hl];exact h3) (by omega) (by rw[hk];exact⟨_,I',q⟩)
theorem qoyz(lo hi:Option Int)(n:Nat):(sliceBounds lo hi none n).1=((HT.sIx n 0 lo:Nat):Int)/\(sliceBounds lo hi none n).2.1=((HT.sIx n n hi:Nat):Int)/\(sliceBounds lo hi none n).2.2=1:=by
 refine⟨?_,?_,rfl⟩
 ·cases lo with
  |none=>simp[sliceBounds,HT.sIx]
  |some i=>
   simp only[sliceBounds,HT.sIx,Option.getD_none,show (1:Int) > 0 by decide,if_true];by_cases h:i<0
   ·simp only[h,if_true]<;>omega
   ·simp only[h,if_false]<;>omega
 ·cases hi with
  |none=>simp[sliceBounds,HT.sIx]
  |some i=>
   simp only[sliceBounds,HT.sIx,Option.getD_none,show (1:Int) > 0 by decide,if_true];by_cases h:i<0
   ·simp only[h,if_true]<;>omega
   ·simp only[h,if_false]<;>omega
theorem qozz(its:List Value)(lo hi:Option Int):slicePick its.toArray lo hi none=((its.drop (HT.sIx its.length 0 lo)).take (HT.sIx its.length its.length hi-HT.sIx its.length 0 lo)).toArray:=by
 obtain⟨h1,h2,h3⟩:=qoyz lo hi its.toArray.size;unfold slicePick;rw[h1,h2,h3];simp only[sliceRange_one,pick_run,List.size_toArray]<;>rfl
def rSlL(K:PySem.W.Frag):V->Option Int->Option Int->Hp->VK->Prop:=fun x lo hi H Q=>∃a xs,x=.ref a/\SqL K H a xs/\∀p,H p=none->Q (.ref p) (upd H p (.lst (cutV xs lo hi)))
theorem qo0z:SlR X (rSlL X.K):=by
 intro pins s σ H x v vl vu lo hi sl Q I rx hs pl pu h;obtain⟨a,xs,rfl,hx,q⟩:=h;cases rx;obtain⟨its,r,ht,hz⟩:=I.list hx;have hlen:=r.length;refine⟨"list",_,slot_list_getitem.lookup,ht.isList.typeIs,?_⟩;refine wpAny_getItem_list_slice ht.isList hs pl pu .none (by simp) ?_ (by rw[List.size_toArray]<;>omega)
 rw[qozz,←hlen];refine⟨.ref s.heap.objs.size,_,I.laid (t':=s.toks) (o:=.lst (cutV xs lo hi)) (fun b ob q=>Heap.get?_push_of_some _ q) (Nat.le_refl _) ?_,rfl,q _ (I.hok.fresh (Nat.le_refl _))⟩;exact⟨Nat.le_trans (qhwz xs lo hi) hz,_,0,(r.drop (HT.sIx xs.length 0 lo)).take (HT.sIx xs.length xs.length hi-HT.sIx xs.length 0 lo),Heap.get?_push_size _ rfl⟩
theorem qo1z:CallR X (.builtin "len") (fun xs H Q=>∃p ys,xs=[.ref p]/\(SqL X.K H p ys∨SqT X.K H p ys)/\Q (.int ys.length) H):=by
 intro pins s σ H xs us Q I r h;obtain⟨p,ys,rfl,hq,q⟩:=h;obtain⟨u,rfl,rx⟩:=vals1 r;cases rx;have hn:=line63;rcases hq with hq|hq
 ·obtain⟨its,r',pl,hz⟩:=I.list hq;have hlen:=r'.length;exact Calls.call_len_list pl.isList (by simp only[List.size_toArray]<;>omega) ⟨.int ys.length,H,I.tok _,⟨s.toks+1,by rw[List.size_toArray,hlen]⟩,q⟩
 ·obtain⟨its,r',pl,hz⟩:=I.tuple hq;have hlen:=r'.length;exact len_tuple pl (by simp only[List.size_toArray]<;>omega) ⟨.int ys.length,H,I.tok _,⟨s.toks+1,by rw[List.size_toArray,hlen]⟩,q⟩
theorem qo2z:CallR X (.type "list") (fun xs H Q=>∃p ys,xs=[.ref p]/\(SqL X.K H p ys∨SqT X.K H p ys)/\∀l,H l=none->Q (.ref l) (upd H l (.lst ys))):=by
 intro pins s σ H xs us Q I r h;obtain⟨p,ys,rfl,hq,q⟩:=h;obtain⟨u,rfl,rx⟩:=vals1 r;cases rx;have fin:∀(its:List Value),Vals ys its->ys.length≤sizeLine->∀(h':Heap) (c':Nat),(∀b o',s.heap.get? b=some o'->h'.get? b=some o') ->
   h'.get? s.heap.objs.size=some { cls:=.type "list",dict:=none,data:=.seq its.toArray c',slots:=#[]}->EP X pins σ Q (.ref s.heap.objs.size) { s with heap:=h' }:=fun its r' hz h' c' kp e=>
  ⟨.ref s.heap.objs.size,_,I.laid (t':=s.toks) kp (Nat.le_refl _) (show ObjOk X.prog X.w _ h' _ (.lst ys) from⟨hz,its,c',r',e⟩),rfl,q _ (I.hok.fresh (Nat.le_refl _))⟩
 rcases hq with hq|hq
 ·obtain⟨its,r',pl,hz⟩:=I.list hq;have hlen:=r'.length;obtain⟨o,ho,hc,n,hd⟩:=pl.isList;exact call_list_seq p (.inl rfl) ho hc hd (fun h' c' kp e=>fin its r' hz h' c' kp e) (by simp only[List.size_toArray]<;>omega)
 ·obtain⟨its,r',pl,hz⟩:=I.tuple hq;have hlen:=r'.length;obtain⟨o,ho,hc,n,hd⟩:=pl;exact call_list_seq p (.inr rfl) ho hc hd (fun h' c' kp e=>fin its r' hz h' c' kp e) (by simp only[List.size_toArray]<;>omega)
theorem qo3z:CallR X (.type "tuple") (fun xs H Q=>∃p ys,xs=[.ref p]/\((SqL X.K H p ys/\∀l,H l=none->Q (.ref l) (upd H l (.tup ys)))∨(SqT X.K H p ys/\Q (.ref p) H))):=by
 intro pins s σ H xs us Q I r h;obtain⟨p,ys,rfl,h⟩:=h;obtain⟨u,rfl,rx⟩:=vals1 r;cases rx;rcases h with⟨hq,q⟩|⟨hq,q⟩
 ·obtain⟨its,r',pl,hz⟩:=I.list hq;have hlen:=r'.length;refine call_tuple_list pl.isList (fun h' kp=>?_) (by simp only[List.size_toArray]<;>omega)
  have I1:Inv X pins σ H { s with heap:=h' }:=I.kept (t':=s.toks) kp;have I2:Inv X pins σ (upd H h'.objs.size (.tup ys)) { s with heap:=h'.push { cls:=.type "tuple",data:=.seq its.toArray }}:=
   I1.laid (t':=s.toks) (fun b o e=>Heap.get?_push_of_some _ e) (Nat.le_refl _) (show ObjOk X.prog X.w _ _ _ (.tup ys) from⟨hz,its,r',IsTup2.new _ _⟩)
  exact⟨.ref h'.objs.size,_,I2,rfl,q _ (I1.hok.fresh (Nat.le_refl _))⟩
 ·obtain⟨its,r',pl,hz⟩:=I.tuple hq;exact call_tuple_same pl ⟨.ref p,H,I,rfl,q⟩
def tyV(K:PySem.W.Frag)(T:String)(x:V)(H:Hp):Prop:=match x with
 |.str _=>T="str"
 |.int _=>T="int"
 |.ref p=>(T="list"/\∃xs,SqL K H p xs)∨(T="tuple"/\∃o,K.lookup p=some o/\o.cls=.type "tuple"/\o.dict=none) ∨
   (T="dict"/\((∃kvs,H p=some (.dK kvs))∨∃kvs,H p=some (.dT kvs)))∨(T="set"/\∃S n,H p=some (.set S n))
 |_=>False
theorem qo4z{pins:List (Addr×Obj)}{σ:St}{H:Hp}{s:Shared}{T:String}{x:V}{v:Value}(I:Inv X pins σ H s)(r:RelV x v)(ty:tyV X.K T x H):
  s.TypeIs v T/\∀a,v=.ref a->∃ob,s.heap.get? a=some ob/\ob.dict=none:=by
 cases x with
 |str z=>
  obtain⟨t,rfl⟩:=r;cases (show T="str" from ty);exact⟨typeIs_str s z t,fun _ e=>nomatch e⟩
 |int i=>
  obtain⟨t,rfl⟩:=r;cases (show T="int" from ty);exact⟨typeIs_int s i t,fun _ e=>nomatch e⟩
 |ref p=>
  cases r;rcases ty with⟨rfl,xs,hq⟩|⟨rfl,o,hk,hc,hd⟩|⟨rfl,hk⟩|⟨rfl,S,n,hk⟩
  ·obtain⟨its,_,pl,_⟩:=I.list hq;refine⟨pl.isList.typeIs,fun a e=>?_⟩;cases e;obtain⟨o,n,e,c,hd,_⟩:=pl;exact⟨o,e,hd⟩
  ·refine⟨⟨o,I.kIn p o hk,hc⟩,fun a e=>?_⟩;cases e;exact⟨o,I.kIn _ o hk,hd⟩
  ·have z:∃o,s.heap.get? p=some o/\o.ExactDict:=by
    rcases hk with⟨kvs,hk⟩|⟨kvs,hk⟩
    ·obtain⟨_,_,_,_,o,_,_,e,ex,_⟩:=I.hok p _ hk;exact⟨o,e,ex⟩
    ·obtain⟨_,_,_,_,o,_,_,e,ex,_⟩:=I.hok p _ hk;exact⟨o,e,ex⟩
   obtain⟨o,e,ex⟩:=z;refine⟨⟨o,e,ex.1⟩,fun a e2=>?_⟩;cases e2;exact⟨o,e,ex.2.1⟩
  ·obtain⟨o,_,_,_,e,ex,_⟩:=I.hok p _ hk;refine⟨⟨o,e,ex.1⟩,fun a e2=>?_⟩;cases e2;exact⟨o,e,ex.2.1⟩
 |_=>exact False.elim ty
def tBM(K:PySem.W.Frag)(T:String)(r:V->List V->Hp->VK->Prop)(to:TE)(t:TA):TE:=fun σ H Q=>to σ H fun x H1=>tyV K T x H1/\t σ H1 fun xs H2=>r x xs H2 Q
variable {o e:Expr} {es:List Expr} {to:TE} {t:TA} {name:Str} {apos cpos:Pos} {T id:String} {r:V->List V->Hp->VK->Prop}
theorem qo5z(pa:PlainAttrs T)(slot:Slot T name id)(hty:typeOf (.builtin id)=pure (.type "method_descriptor"))(hm:MtR X id r)(ho:PE X o to)(ha:PA X (e::es) t)
  (hbase:attributeBase o name X.env (eval o X.env)=eval o X.env:=by rfl)
  (hfew:((backTo cpos (starEach (e::es) X.env)).all (fun x=>!x.1)&&(backToKw cpos (keywordEach [] X.env)).all (fun x=>x.1.isSome)
   && decide ((e::es).length+([]:List Keyword).length+(if ([]:List Keyword).isEmpty then 0 else 1)<30))=true:=by rfl)
  (hline:(apos.endLine==cpos.line)=true:=by rfl) (hs:starEach (e::es) X.env=(false,eval e X.env)::starEach es X.env:=by rfl) (hplain:(backTo cpos (starEach es X.env)).any (·.1)=false:=by rfl):
  PE X (.Call (.Attribute o name apos) (e::es) [] cpos) (tBM X.K T r to t):=by
 intro pins s σ H Q I h;refine wpAny_Call_method_late hbase hfew hline rfl (thn (ho pins s σ H _ I h) fun v s1 ⟨x,H1,I1,r1,ty,q1⟩=>?_);obtain⟨h1,h2⟩:=qo4z I1 r1 ty;refine⟨T,id,pa,slot,hty,h1,h2,?_⟩;have hA:=ha cpos pins s1 σ H1 _ I1 q1;rw[hs] at hA ⊢;refine Calls.callWith_builtin (by show (false||(backTo cpos (starEach es X.env)).any (·.1))=false;rw[hplain]<;>rfl) (Calls.evalArgs_plain ?_)
 exact thn hA fun us s2 ⟨vs,H2,I2,r2,q2⟩=>hm pins s2 σ H2 x vs v us Q I2 r1 r2 q2
/- xs.append(e),list.index on a module's tuple .. are MtR facts of 06m -/
end
end L2
namespace L2
open PySem PySem.Spec PyProof.Rows
def MtM(X:Cx)(id:String)(r:V->List V->Hp->VK->Prop):Prop:=
 ∀(pins:List (Addr×Obj)) (s:Shared) (σ:St) (H:Hp) (x:V) (xs:List V) (v:Value) (us:List Value) (Q:VK),Inv X pins σ H s->RelV x v->Vals xs us->r x xs H Q ->
  wpAny (model X.prog X.w) X.A (call (.builtin id) (v::us)) (EP X pins σ Q) X.xe s
theorem Vals.one:∀{x:V} {us:List Value},Vals [x] us->∃u,us=[u]/\RelV x u
 |_,_,.cons r .nil=>⟨_,rfl,r⟩
theorem Vals.zero:∀{us:List Value},Vals [] us->us=[]
 |_,.nil=>rfl
theorem Vals.eraseIdx:∀{xs:List V} {us:List Value} (i:Nat),Vals xs us->Vals (xs.eraseIdx i) (us.eraseIdx i)
 |_,_,_,.nil=>.nil
 |_,_,0,.cons _ t=>t
 |_,_,i+1,.cons r t=>.cons r (Vals.eraseIdx i t)
theorem Vals.rep{xs:List V}{us:List Value}(h:Vals xs us):∀k:Nat,Vals (List.replicate k xs).flatten (List.replicate k us).flatten
 |0=>.nil
 |k+1=>by
  rw[List.replicate_succ,List.replicate_succ,List.flatten_cons,List.flatten_cons];exact Vals.append h (Vals.rep h k)
theorem qfcz{α:Type}:∀(l:List α) (i:Nat),(l.eraseIdx i).length≤l.length
 |[],_=>Nat.le_refl _
 |_::_,0=>Nat.le_succ _
 |_::r,i+1=>Nat.succ_le_succ (qfcz r i)
theorem foldl_rep(its:List Value):∀(k:Nat) (acc:List Value),
  List.foldl (fun x1 x2=>x1++x2) acc.toArray (List.replicate k its.toArray)=(acc++(List.replicate k its).flatten).toArray
 |0,acc=>by simp
 |k+1,acc=>by
  have e:acc.toArray++its.toArray=(acc++its).toArray:=by simp
  have e2:(acc++its)++(List.replicate k its).flatten=acc++(List.replicate (k+1) its).flatten:=by
   rw[List.replicate_succ,List.flatten_cons,List.append_assoc]
  rw[←e2,←foldl_rep its k (acc++its),←e,List.replicate_succ,List.foldl_cons]
section
variable {X:Cx} {pins:List (Addr×Obj)} {σ:St} {H:Hp} {s:Shared} {l b:Addr} {xs ys zs:List V}
theorem Inv.lset{its its':List Value}{n:Nat}{f:Array Value->Array Value}{t':Nat}(I:Inv X pins σ H s)(hH:H l=some (.lst xs))
  (e:s.heap.get? l=some { cls:=.type "list",data:=.seq its.toArray n }) (hf:f its.toArray=its'.toArray) (hv:Vals ys its') (hz:ys.length≤sizeLine):
  Inv X pins σ (upd H l (.lst ys)) { s with heap:=s.heap.update l (Obj.mapSeq f),toks:=t' }:=by
 have q:=PySem.IsL.update e f;rw[hf] at q;refine I.write (x:=l) (e:=l) (by rw[hH];exact trivial) (.inl rfl) (fun b' u hb hu=>(Heap.get?_update_other s.heap (Obj.mapSeq f) (Ne.symm hb)).trans hu) ⟨_,q⟩ ?_;exact⟨hz,its',_,hv,q⟩
theorem Inv.lnew{its:List Value}{t':Nat}(I:Inv X pins σ H s)(hv:Vals ys its)(hz:ys.length≤sizeLine):
  Inv X pins σ (upd H s.heap.objs.size (.lst ys)) { s with heap:=s.heap.push { cls:=.type "list",data:=.seq its.toArray },toks:=t' }:=
 I.laid (fun _ _ q=>Heap.get?_push_of_some _ q) (Nat.le_refl _) ⟨hz,its,0,hv,Heap.get?_push_size _ rfl⟩
theorem Inv.fresh(I:Inv X pins σ H s):H s.heap.objs.size=none:=I.hok.fresh (Nat.le_refl _)
theorem Inv.lstM(I:Inv X pins σ H s)(hH:H l=some (.lst xs)):xs.length≤sizeLine/\∃(its:List Value) (n:Nat),Vals xs its/\xs.length=its.length/\s.heap.get? l=some { cls:=.type "list",data:=.seq its.toArray n }:=by
 obtain⟨z,its,n,r,e⟩:=I.hok l _ hH;exact⟨z,its,n,r,r.length,e⟩
theorem notLongL{n:Nat}(h:n≤sizeLine):Builtin.List.listTooLong n=false:=by
 unfold Builtin.List.listTooLong;exact decide_eq_false (by omega)
end
section
variable {X:Cx}
def rAppend:V->List V->Hp->VK->Prop:=fun x vs H Q=>∃l xs y,x=.ref l/\vs=[y]/\H l=some (.lst xs)/\xs.length<sizeLine/\Q .non (upd H l (.lst (xs++[y])))
theorem qcsz:MtM X "list.append" rAppend:=by
 intro pins s σ H x vs v us Q I rx rv h;obtain⟨l,xs,y,rfl,rfl,hH,hz,q⟩:=h;cases rx;obtain⟨u,rfl,ru⟩:=rv.one;obtain⟨z,its,n,r,hl,e⟩:=I.lstM hH;refine call_meets F.slot_list_append ⟨_,e,rfl⟩ F.entry_list_append (F.args_list_append_2 _ _) (PySem.list_append l its.toArray n u (by rw[List.size_toArray];omega)) ⟨e,?_⟩;refine⟨.non,_,I.lset (its':=its++[u]) hH e (by simp) (r.append (.cons ru .nil)) ?_,rfl,q⟩;rw[List.length_append,List.length_singleton];omega
def rExtend:V->List V->Hp->VK->Prop:=fun x vs H Q=>∃l b xs zs,x=.ref l/\vs=[.ref b]/\H l=some (.lst xs)/\H b=some (.lst zs)/\xs.length+zs.length≤sizeLine/\Q .non (upd H l (.lst (xs++zs)))
theorem q1wz:MtM X "list.extend" rExtend:=by
 intro pins s σ H x vs v us Q I rx rv h;obtain⟨l,b,xs,zs,rfl,rfl,hH,hB,hz,q⟩:=h;cases rx;obtain⟨u,rfl,ru⟩:=rv.one;cases ru;obtain⟨z,its,n,r,hl,e⟩:=I.lstM hH;obtain⟨z2,its2,n2,r2,hl2,e2⟩:=I.lstM hB;have hsz:its.toArray.size+its2.toArray.size≤sizeLine:=by rw[List.size_toArray,List.size_toArray];omega
 have hlong:¬(!its.toArray.isEmpty&&Builtin.List.listTooLong (its.toArray.size+its2.toArray.size))=true:=by
  rw[notLongL hsz,Bool.and_false];exact Bool.false_ne_true
 refine call_meets F.slot_list_extend ⟨_,e,rfl⟩ F.entry_list_extend (F.args_list_extend_2 _ _)
  (AutoSeq1.list_extend_list_list_0 l its.toArray n b its2.toArray n2 hlong (by rw[List.size_toArray];omega) (by omega)) ⟨e,e2,?_⟩
 refine⟨.non,_,I.lset (its':=its++its2) hH e (by simp) (r.append r2) ?_,rfl,q⟩;rw[List.length_append];omega
def rPopAt:V->List V->Hp->VK->Prop:=fun x vs H Q=>∃l xs i k y,x=.ref l/\vs=[.int i]/\H l=some (.lst xs)/\-(2^63)≤i/\i<2^63/\seqIndex? i xs.length=some k/\xs[k]?=some y/\Q y (upd H l (.lst (xs.eraseIdx k)))
theorem qfdz:MtM X "list.pop" rPopAt:=by
 intro pins s σ H x vs v us Q I rx rv h;obtain⟨l,xs,i,k,y,rfl,rfl,hH,h1,h2,hk,hy,q⟩:=h;cases rx;obtain⟨u,rfl,ru⟩:=rv.one;obtain⟨t,rfl⟩:=ru;obtain⟨z,its,n,r,hl,e⟩:=I.lstM hH;obtain⟨w,hw,rw'⟩:=r.get hy;refine call_meets F.slot_list_pop ⟨_,e,rfl⟩ F.entry_list_pop (F.args_list_pop_2 _ _)
  (MeetsSeq.list_pop_at l its.toArray n i t k w (fitsIndex_both h1 h2) (by rw[List.size_toArray,←hl];exact hk) (by rw[←Array.getElem?_toList];exact hw) (by rw[List.size_toArray];omega)) ⟨e,?_⟩
 refine⟨y,_,I.lset (its':=its.eraseIdx k) hH e ?_ (r.eraseIdx k) ?_,rw',q⟩
 ·show its.toArray.eraseIdxIfInBounds k=(its.eraseIdx k).toArray;rw[List.eraseIdxIfInBounds_toArray]
 ·have:=qfcz xs k;omega
def rCat:R2:=fun x y H Q=>∃l b xs zs,x=.ref l/\y=.ref b/\H l=some (.lst xs)/\H b=some (.lst zs)/\xs.length+zs.length≤sizeLine/\∀p,H p=none->Q (.ref p) (upd H p (.lst (xs++zs)))
theorem op_cat:OpR X (binaryOp .Add) rCat:=by
 intro pins s σ H x y v u Q I rx ry h;obtain⟨l,b,xs,zs,rfl,rfl,hH,hB,hz,q⟩:=h;cases rx;cases ry;obtain⟨z,its,n,r,hl,e⟩:=I.lstM hH;obtain⟨z2,its2,n2,r2,hl2,e2⟩:=I.lstM hB;refine PySem.P.add_list e e2 ?_ (by rw[List.size_toArray,List.size_toArray];omega);have ea:its.toArray++its2.toArray=(its++its2).toArray:=by simp
 rw[ea];exact⟨.ref _,_,I.lnew (t':=s.toks) (r.append r2) (by rw[List.length_append];omega),rfl,q _ I.fresh⟩
def rRep:R2:=fun x y H Q=>∃l k xs,x=.ref l/\y=.int k/\H l=some (.lst xs)/\-(2^63)≤k/\k<2^63/\xs.length*k.toNat≤sizeLine ∧
 ∀p,H p=none->Q (.ref p) (upd H p (.lst (List.replicate k.toNat xs).flatten))
theorem len_rep{α:Type}(xs:List α)(k:Nat):(List.replicate k xs).flatten.length=k*xs.length:=by
 induction k with
 |zero=>simp
 |succ k ih=>rw[List.replicate_succ,List.flatten_cons,List.length_append,ih,Nat.succ_mul,Nat.add_comm]
theorem qo6z:OpR X (binaryOp .Mult) rRep:=by
 intro pins s σ H x y v u Q I rx ry h;obtain⟨l,k,xs,rfl,rfl,hH,h1,h2,hz,q⟩:=h;cases rx;obtain⟨t,rfl⟩:=ry;obtain⟨z,its,n,r,hl,e⟩:=I.lstM hH;have hlen:its.toArray.size*k.toNat≤sizeLine:=by rw[List.size_toArray,←hl];exact hz
 have hcap:¬its.toArray.size*k.toNat > (2^63-1) / 8:=by
  have:(sizeLine:Nat)≤(2^63-1) / 8:=by decide
  omega
 have hfit:¬(!Builtin.List.listFitsIndex k)=true:=by
  rw[fitsIndex_both h1 h2];exact Bool.false_ne_true
 have hlong:¬Builtin.List.listTooLong (its.toArray.size*k.toNat)=true:=by
  rw[notLongL hlen];exact Bool.false_ne_true
 have hnew:List.foldl (fun x1 x2=>x1++x2) #[] (List.replicate (if its.toArray.isEmpty=true then 0 else k.toNat) its.toArray)=(List.replicate k.toNat its).flatten.toArray:=by
  have f0:∀m:Nat,List.foldl (fun x1 x2=>x1++x2) #[] (List.replicate m its.toArray)=(List.replicate m its).flatten.toArray:=fun m=>by
   have:=foldl_rep its m [];rw[List.nil_append] at this;exact this
  rw[f0];cases its with
  |nil=>simp
  |cons a r'=>rw[if_neg (by simp)]
 refine wpAny_binaryOp_repeat_ref (T:="list") (U:="int") (by decide) ⟨_,e,rfl⟩ (fun s'=>typeIs_int s' k t) noFill_list_mul F.fills_int_mul F.slot_int_rmul repeat_list F.slot_int_index.lookup
  (call_meets F.slot_int_rmul (typeIs_int s k t) F.entry_int_rmul (F.args_int_rmul_2 _ _) (int___rmul___int_list k t l its.toArray n)
   ⟨e,rfl,⟨_,e,rfl⟩,call_meets F.slot_list_mul ⟨_,e,rfl⟩ F.entry_list_mul (F.args_list_mul_2 _ _) (AutoListH.list___mul___list_int_3 l its.toArray n k t hfit hcap hlong) ⟨e,?_⟩⟩)
 rw[hnew];exact⟨.ref _,_,I.lnew (t':=s.toks) (r.rep k.toNat) (by rw[len_rep,Nat.mul_comm];exact hz),rfl,q _ I.fresh⟩
end
end L2
namespace Att
open PySem PySem.W PySem.Calls PyProof.Rows
theorem qo7z{P:Params}{h:Heap}:∀(ns:List Int) (vs:List Value),WellAll P h vs (ns.map WData.int)->IntsAre vs ns:=by
 intro ns
 induction ns with
 |nil=>
  intro vs w;rw[List.map_nil] at w;cases w;exact .nil
 |cons n ns ih=>
  intro vs w;rw[List.map_cons] at w;cases w with
  |cons a b=>
   cases a;exact .cons _ _ (ih _ b)
theorem qo8z{l:OpenLaw}{n:Nat}(hn:l.most=some n){P:Params}{h:Heap}{args:List WData}{vals:List Value}
  (hpre:l.row.toRowW.claim.pre args=true) (hwl:WellAll P h vals args):
  ∃a vs ns,vals=[Value.ref a]/\args=[WData.list (ns.map WData.int)]/\h.get? a=some { cls:=.type "list",data:=.seq vs.toArray }/\IntsAre vs ns/\ns.length≤n:=by
 have hsh:WShape.hasAll [] args [.list .int]=true:=(pre_splitW hpre).1;have hc:l.pre.holds [] { args:=args }=true:=(pre_splitW hpre).2;obtain⟨d,r,rfl,h1,h2⟩:=hasAllW_cons hsh;obtain rfl:=hasAllW_nil h2;obtain⟨xs,rfl,h3⟩:=hasW_list h1;obtain⟨ns,rfl⟩:=items_int h3;have hlen:ns.length≤n:=by
  unfold OpenLaw.pre at hc;have h4:(WTm.not (.lt (.lit (.int (n:Int))) (.len (.arg 0)))).holds [] { args:=[.list (ns.map .int)]}=true:=by
   have h4:=(holds_andW hc).1;rw[hn] at h4;exact h4
  have h5:=condW_of h4 (w_not (w_lt w_lit (w_len_list (w_arg rfl))));rw[List.length_map] at h5;refine Nat.le_of_not_lt fun q=>?_;have q':(n:Int)<((ns.length:Nat):Int):=by omega
  first
   | (rw[decide_eq_true q'] at h5;exact absurd h5 (by decide))
   | (simp at h5;omega)
 cases hwl with
 |cons w1 w2=>
  cases w2;cases w1 with
  |list ho hall=>exact⟨_,_,ns,rfl,rfl,ho,qo7z ns _ hall,hlen⟩
theorem qo9z(l:OpenLaw)(args:List WData):l.row.toRowW.claim.post args (.bool true) args=true:=
 postW_of (r:=l.row.toRowW) (X:=(true==true))
  (show WShape.has [] (.bool true) .bool=true by first|rfl|decide|simp[WShape.has,WShape.arms,WShape.armsAll])
  (show (WTm.eq .res (.lit (.bool true))).value [] { args:=args,res:=some (.bool true),after:=args }=some (.bool (true==true)) from w_eq_bool (w_res rfl) w_lit) rfl
theorem attach_call{l:OpenLaw}{n:Nat}{q:Program}{loose:List Str}{XP:(Str->Option Value)->Heap->Prop}{YP:World->Heap->Prop}{d:DefRec}
  (hn:l.most=some n) (hdf:d.params.defaults=[])
  (call:∀(w:World) (s₀ s₁:Shared) (mg mb:Str->Option Value) (fa:Addr) (o:Obj) (pm cd doc:Value) (a:Addr) (vs:List Value) (ns:List Int),
   Ground q loose [] XP w s₀ mg mb s₁.heap->YP w s₁.heap ->
   s₁.heap.get? fa=some o->o.data=.func (docDef d.name d.params d.body d.scope pm cd doc)->s₁.heap.CodeRec cd d.name->mg d.name=some (.ref fa) ->
   s₁.heap.get? a=some { cls:=.type "list",data:=.seq vs.toArray }->IntsAre vs ns->ns.length≤n->s₁.gens = #[] ->
   codeAny (model l.prog w) callerA (.call (.ref fa) ⟨[.ref a],[]⟩) (fun r s'=>r=.ok (.ret (.bool true))/\OldK s₁.heap s'.heap/\s'.os=s₁.os/\AllBare s'.gens) s₁):
  WalkO q loose XP YP l.row.toRowW d [] (fun f vs=>PySem.call f vs):=by
 intro w s₀ s₁ mg mb G Y fa o pm cd doc dV kV ho hd hcd hD hmg hg args vals as hpre hlay hrd hwl hlo;obtain rfl:dV=.none:=Dflts.none hD hdf;obtain rfl:kV=.none:=Dflts.noKw hD;obtain⟨a,vs,ns,rfl,rfl,hobj,hints,hlen⟩:=qo8z hn hpre hwl;refine enter_call (codeAny_mono (call w s₀ s₁ mg mb fa o pm cd doc a vs ns G Y ho (fd_plain hd) hcd hmg hobj hints hlen hg) fun r s' hq=>?_);obtain⟨rfl,h2,h3,h4⟩:=hq;exact⟨.inl ⟨.bool true,.bool true,[],rfl,fun _=>rfl,.bool true,qo9z l _,fun _=>⟨List.Pairwise.nil,fun _ hm=>(nomatch hm)⟩⟩,h2,h3,h4⟩
end Att
namespace L2
open PySem PySem.Spec PyProof.Rows
theorem qh0z:∀{vs:List Value} {ns:List Int},IntsAre vs ns->Vals (ns.map V.int) vs
 |_,_,.nil=>.nil
 |_,_,.cons n t h=>.cons ⟨t,rfl⟩ (qh0z h)
def Only(H:Hp):Prop:=∀b,H b=none∨∃o xs,H b=some (.frz o (.lst xs))
theorem qpaz{P:Program}{w:World}{K:PySem.W.Frag}{mg mb:Str->Option Value}{CX:CXT}{k:Nat}{fa a:Addr}{fd:FuncData}{x:Str}{sp:Sp}{s₁:Shared}{vs:List Value}{ns:List Int}
  (KX:K.In s₁.heap) (hns:s₁.heap.Ns mainGlobals mg) (hb:s₁.heap.Ns builtinsNs mb) (hbb:∀x:Str,x≠"__name__"->mb x=bootBuiltins x) (hlim:s₁.heap.NoLimit) (hg:s₁.gens = #[])
  (ha:s₁.heap.get? a=some { cls:=.type "list",data:=.seq vs.toArray }) (hi:IntsAre vs ns) (hl:ns.length≤sizeLine) (hr:Room k callerA)
  (F:∀base:Heap,K.In base->base.Ns mainGlobals mg->FnOk P w K mg base CX k fa fd [x] sp) (hbind:∀(s:Shared) (u:Value),BindsTo s fd ⟨[u],[]⟩ [(x,u)])
  (hsp:∀H:Hp,Only H->SqL K H a (ns.map V.int)->sp [.ref a] H (fun v _=>v=.bl true) fun _ _ _=>False)
  (hCX:∀H e s',CX [] H s₁ (fun _ _ _=>False) e s'->False):
  codeAny (model P w) callerA (.call (.ref fa) ⟨[.ref a],[]⟩) (fun r s'=>r=.ok (.ret (.bool true))/\OldK s₁.heap s'.heap/\s'.os=s₁.os/\AllBare s'.gens) s₁:=by
 have rv:=qh0z hi;have lenV:=hi.length
 -- from an abstract heap in which nothing but the script may be tracked
 have core:∀H:Hp,Only H->SqL K H a (ns.map V.int)->HOk P w H s₁.heap->(∀b,H b≠none->b=a)->(H a≠none->K.lookup a=none) ->
   codeAny (model P w) callerA (.call (.ref fa) ⟨[.ref a],[]⟩) (fun r s'=>r=.ok (.ret (.bool true))/\OldK s₁.heap s'.heap/\s'.os=s₁.os/\AllBare s'.gens) s₁:=by
  intro H hO hS hok hA hK;have base_of:∀{b:Addr} {o:Obj},s₁.heap.get? b=some o->H b=none->(hidT s₁.heap H).get? b=some o:=fun e n=>qmyz e n;have noA:∀{b:Addr} {o:Obj} {es:Array DictEntry} {ep:Nat},s₁.heap.get? b=some o->o.data=.dict es ep->H b=none:=fun {b o es ep} e d=>by
   cases q:H b with
   |none=>rfl
   |some u=>
    have e':b=a:=hA b (by rw[q];simp);subst e';rw[ha] at e;cases e;have d':Data.seq vs.toArray _=Data.dict es ep:=d;cases d'
  have nsK:∀{b:Addr} {m:Str->Option Value},s₁.heap.Ns b m->(hidT s₁.heap H).Ns b m:=fun {b m} ⟨o,es,ep,e,d,r⟩=>⟨o,es,ep,base_of e (noA e d),d,r⟩;have hKb:K.In (hidT s₁.heap H):=fun b o e=>base_of (KX b o e) (by
   cases q:H b with
   |none=>rfl
   |some u=>
    have e':b=a:=hA b (by rw[q];simp);subst e';rw[hK (by rw[q];simp)] at e;cases e)
  have hM:Mod K mg (hidT s₁.heap H):=⟨hKb,nsK hns,⟨mb,nsK hb,hbb⟩,let ⟨mc,h1,h2⟩:=hlim;⟨mc,nsK h1,h2⟩⟩
  have e0:Env0 P w K mg (hidT s₁.heap H) callerA [] s₁ H:=⟨rfl,hM,fun b o e=>qmzz e,Nat.le_of_eq (qmxz _ _),trivial,fun b hb=>absurd (show b∈([]:List Addr) from hb) (by simp),hok,.of_eq hg⟩;refine codeAny_mono ((F _ hKb (nsK hns)).run callerA [] s₁ H ⟨[.ref a],[]⟩ [.ref a] [.ref a] _ _ hr e0 (hbind s₁ (.ref a)) (.cons rfl .nil) (hsp H hO hS)) fun r s' h=>?_;cases r with
  |error e=>exact (hCX H e s' h).elim
  |ok fl=>
   cases fl with
   |next=>exact False.elim h
   |brk=>exact False.elim h
   |cont=>exact False.elim h
   |ret u=>
    obtain⟨v,H',os,bare,un,hok',r',q⟩:=h;have q':v=.bl true:=q;subst q';obtain rfl:u=Value.bool true:=r';refine⟨rfl,OldK.of_keep fun b o e=>?_,os,bare⟩;cases q:H b with
    |none=>exact un.keep b o e q (by intro z;exact absurd (show b∈([]:List Addr) from z) (by simp)) (by simp)
    |some u=>
     rcases hO b with z|⟨ob,xs,z⟩
     ·rw[q] at z;cases z
     ·have z2:=un.frzs b ob _ z;obtain⟨e1,_⟩:=hok b _ z;obtain⟨e2,_⟩:=hok' b _ z2;rw[e] at e1;cases e1;exact e2
 cases hk:K.lookup a with
 |some o=>
  -- the script is one of the module's own objects
  have e:=KX a o hk;rw[ha] at e;cases e;refine core (fun _=>none) (fun _=>.inl rfl) (.inr ⟨_,vs.toArray,_,hk,rfl,rfl,rfl,by rw[List.size_toArray,lenV];exact hl,by simpa using rv⟩) (fun b u z=>by have z':(none:Option HO)=some u:=z;cases z') (fun b z=>absurd rfl z) fun z=>absurd rfl z
 |none=>
  refine core (fun b=>if b=a then some (.frz { cls:=.type "list",data:=.seq vs.toArray } (.lst (ns.map V.int))) else none) (fun b=>?_) (.inl (.inr ⟨{ cls:=.type "list",data:=.seq vs.toArray },if_pos rfl⟩)) (fun b u z=>?_) (fun b z=>?_) fun _=>hk
  ·by_cases hb:b=a
   ·exact .inr ⟨_,_,if_pos hb⟩
   ·exact .inl (if_neg hb)
  ·by_cases hb:b=a
   ·have z':=(if_pos hb).symm.trans z;cases z';subst hb;exact⟨ha,by rw[List.length_map];exact hl,vs,_,rv,ha⟩
   ·have z':=(if_neg hb).symm.trans z;cases z'
  ·by_cases hb:b=a
   ·exact hb
   ·exact absurd (if_neg hb) z
end L2
namespace L2
open PySem PySem.Spec PyProof.Rows
theorem walk_of{l:PySem.W.OpenLaw}{n k:Nat}{q:Program}{loose:List Str}{XP:(Str->Option Value)->Heap->Prop}{YP:World->Heap->Prop}{d:DefRec}{K:Params->PySem.W.Frag}{CX:World->CXT}{sp:World->Sp}{x:Str}
  (hn:l.most=some n) (hn2:n≤sizeLine) (hdf:d.params.defaults=[]) (hr:Room k callerA)
  (hY:∀(w:World) (h:Heap),YP w h->(K w.params).In h)
  (F:∀(w:World) (mg:Str->Option Value) (fa:Addr) (h:Heap),(K w.params).In h->h.Ns mainGlobals mg->mg d.name=some (.ref fa) ->
   ∃fd:FuncData,(∀(s:Shared) (u:Value),BindsTo s fd ⟨[u],[]⟩ [(x,u)]) ∧
    ∀base:Heap,(K w.params).In base->base.Ns mainGlobals mg->FnOk l.prog w (K w.params) mg base (CX w) k fa fd [x] (sp w))
  (hsp:∀(w:World) (H:Hp) (a:Addr) (ns:List Int),ns.length≤n->Only H->SqL (K w.params) H a (ns.map V.int)->sp w [.ref a] H (fun v _=>v=.bl true) fun _ _ _=>False)
  (hCX:∀(w:World) (H:Hp) (s:Shared) (e:Value) (s':Shared),CX w [] H s (fun _ _ _=>False) e s'->False):
  PySem.W.WalkO q loose XP YP l.row.toRowW d [] (fun f vs=>PySem.call f vs):=by
 refine Att.attach_call hn hdf fun w s₀ s₁ mg mb fa o pm cd doc a vs ns G Y ho hd hcd hmg hobj hints hlen hg=>?_;have KX:=hY w _ Y;obtain⟨fd,hb,hF⟩:=F w mg fa _ KX G.T.g hmg;exact qpaz KX G.T.g G.T.b G.T.builtins G.T.nolimit hg hobj hints (Nat.le_trans hlen hn2) hr hF hb (fun H hO hS=>hsp w H a ns hlen hO hS) fun H e s'=>hCX w H s₁ e s'
end L2
/- THE LAST THEOREM (shape;LID,My.* are yours):
  My.Adr: a structure of the addresses that your layer names (classes,functions);My.Txt K t: a structure (Prop) of the equations over K;
  My.txt_mk:{K} {implicit addresses ..} (e1:nsIn K mainGlobals "law" = some (some (.ref f))) (e2:K.lookup f=some ⟨oc,od,.func (fnOf "law" "law" params body scope dV kV doc pm an cdv ct),sl⟩) (e3:codeIn K cdv "law" = true) ..:∃t,My.Txt K t
set_option maxRecDepth 100000 in
set_option maxHeartbeats 0 in
theorem PySem.Challenge.cw_LID_holds : PySem.Challenge.rw_LID.Holds := by
 w_on;o_law;k_head;(case hw=>w_witness2)
 k_fill
 refine L2.walk_of (l:=PySem.Challenge.rw_LID) (n:=63) (k:=40) (x:="script") (CX:=fun w=>..) (sp:=fun _=>My.sp_law) rfl (by decide) rfl ⟨rfl,by decide,by decide⟩ (fun w h Y=>PySem.W.kIn_of Y) ?F ?S ?C
 case F=>
  intro w mg fa h KX G hmg
  have T:∃t,My.Txt (L2.KOf KX) t:=by
   dsimp only[L2.KOf]                          -- K must stand as «<heap const> w.params» for k_is
   refine' My.txt_mk ?e1 ?e2 ?e3 ..
   (case e1=>PySem.W.k_is)                    -- in the order: a name -> its address -> its object -> its parts
   (case e2=>PySem.W.k_is)
   ..
  obtain⟨t,T⟩:=T
  have e0:=hmg.symm.trans (PySem.W.mg_of KX G T.law)
  cases e0                                       -- fa is the law's own address
  exact⟨_,fun s u=>.of_eq rfl,fun base kb nb=>My.law_fn T kb nb⟩     -- if «.of_eq rfl» comes too early: refine' ⟨_,?b,fun base kb nb=>My.law_fn T kb nb⟩;exact fun s u=>.of_eq rfl
 case S=>exact fun w H a ns hl hO hS=>..
 case C=>exact ..
(the tactic k_is has no namespace: write k_is) -/
namespace L2
open PySem PySem.Spec PyProof.Rows
def defArgs(s:Stmt):Arguments:=match s with
 |.FunctionDef _ a _ _ _ _ _ _ _ _=>a
 |_=>{ posonlyargs:=[],args:=[],vararg:=none,kwonlyargs:=[],kw_defaults:=[],kwarg:=none,defaults:=[]}
def defBody(s:Stmt):List Stmt:=match s with
 |.FunctionDef _ _ b _ _ _ _ _ _ _=>b
 |_=>[]
def defScope(s:Stmt):Scope:=match s with
 |.FunctionDef _ _ _ _ _ _ sc _ _ _=>sc
 |_=>{ kind:=.function,names:=[],isGenerator:=false,isCoroutine:=false }
abbrev CX0:CXT:=fun _ _ _ _ _ _=>False
abbrev E0:XK:=fun _ _ _=>False
theorem pass0{X:Cx}:Passes CX0 X E0:=fun _ _ _ _ _ _ _ h=>h.elim
structure Fun(K:PySem.W.Frag)(x qual:Str)(st:Stmt)(f:Addr)(fd:FuncData):Prop where
 ex:∃(oc:Value) (od:Option Addr) (kV doc pm:Value) (an:Option Addr) (cdv ct:Value) (osl:Array (Option Value)),
  fd=PySem.W.fnOf x qual (defArgs st) (defBody st) (defScope st) .none kV doc pm an cdv ct/\K.lookup f=some ⟨oc,od,.func fd,osl⟩/\PySem.W.codeIn K cdv qual=true
 kp:PySem.W.keepIn K (.ref f)=true
section
variable {P:Program} {w:World} {K:PySem.W.Frag} {mg:Str->Option Value} {base:Heap}
theorem Fun.ok{x qual:Str}{st:Stmt}{f:Addr}{fd:FuncData}{N ps:List Str}{k:Nat}{sp:Sp}(F:Fun K x qual st f fd)(S:FnScope N ps (defScope st))(len:∀vs H Q E,sp vs H Q E->vs.length=ps.length)
  (hbody:∀(cdv:Value) (A:Around) (outer:List Env) (s:Shared) (H:Hp) (vs:List V) (Q:VK) (E:XK),Room k (A.deeper (envOfC qual (defScope st) s.heap.objs.size f cdv))->sp vs H Q E ->
   ∃t,PSs (cxOf CX0 P w K mg base N qual (defScope st) f cdv A outer s H E).nox (defBody st) t/\t { nx:=fun _ H'=>Q .non H',rt:=Q } (start N vs) H):FnOk P w K mg base CX0 (k+1) f fd ps sp:=by
 obtain⟨oc,od,kV,doc,pm,an,cdv,ct,osl,rfl,lk,hcd⟩:=F.ex;refine qhtz lk hcd S len fun A outer s H vs Q E hr hsp=>?_;obtain⟨t,h,q⟩:=hbody cdv A outer s H vs Q E hr hsp;exact⟨t,h.nox,q⟩
theorem Fun.binds{x qual:Str}{st:Stmt}{f:Addr}{fd:FuncData}{ps:List Str}(F:Fun K x qual st f fd)
  (h:∀(kV doc pm:Value) (an:Option Addr) (cdv ct:Value) (us:List Value),us.length=ps.length->bindArgs (PySem.W.fnOf x qual (defArgs st) (defBody st) (defScope st) .none kV doc pm an cdv ct) ⟨us,[]⟩=pure (ps.zip us)):Binds K fd ps []:=by
 obtain⟨oc,od,kV,doc,pm,an,cdv,ct,osl,rfl,lk,hcd⟩:=F.ex;exact .all (h kV doc pm an cdv ct)
theorem qpbz{x qual:Str}{st:Stmt}{f:Addr}{oc:Value}{od an:Option Addr}{osl:Array (Option Value)}{kV doc pm cdv ct:Value}(l:K.lookup f=some ⟨oc,od,.func (PySem.W.fnOf x qual (defArgs st) (defBody st) (defScope st) .none kV doc pm an cdv ct),osl⟩)
  (c:PySem.W.codeIn K cdv qual=true) (k:PySem.W.keepIn K (.ref f)=true):Fun K x qual st f (PySem.W.fnOf x qual (defArgs st) (defBody st) (defScope st) .none kV doc pm an cdv ct):=⟨⟨oc,od,kV,doc,pm,an,cdv,ct,osl,rfl,l,c⟩,k⟩
end
section
variable {X:Cx}
theorem pv(i:Nat){x:Str}{pos:Pos}(hN:X.N[i]?=some x:=by rfl)(hv:Vis X.env.scope x:=by first|exact Or.inl rfl|exact Or.inr (Or.inl rfl)|exact Or.inr (Or.inr rfl))(hd:(x==("__debug__":Str))=false:=by decide)
  (hcd:(x==("__classdict__":Str))=false:=by decide):PE X (.Name x pos) (tVar i):=qm0z hN hv hd hcd
end
end L2
namespace L3
open PySem PySem.Spec PyProof.Rows L2
inductive D where
 |non|bl (b:Bool)|int (i:Int)|str (x:Str)|tup (xs:List D)|scr (xs:List D)|obj (a:Addr)|dc (a:Addr)
def SqF(K:PySem.W.Frag)(H:Hp)(a:Addr)(xs:List V):Prop:=
 (∃o,H a=some (.frz o (.lst xs))) ∨
  ∃(o:Obj) (its:Array Value) (n:Nat),K.lookup a=some o/\o.cls=.type "list"/\o.dict=none/\o.data=.seq its n/\its.size≤sizeLine/\Vals xs its.toList
theorem SqF.l{K:PySem.W.Frag}{H:Hp}{a:Addr}{xs:List V}(h:SqF K H a xs):SqL K H a xs:=by
 rcases h with h|h
 ·exact .inl (.inr h)
 ·exact .inr h
mutual
def Hv(K:PySem.W.Frag)(H:Hp):D->V->Prop
 |.non,v=>v=.non
 |.bl b,v=>v=.bl b
 |.int i,v=>v=.int i
 |.str x,v=>v=.str x
 |.tup ds,v=>∃a vs,v=.ref a/\SqT K H a vs/\Hvs K H ds vs
 |.scr ds,v=>∃a vs,v=.ref a/\SqF K H a vs/\Hvs K H ds vs
 |.obj a,v=>v=.ref a
 |.dc a,v=>v=.ref a/\∃ob φ,H a=some (.frz ob (.ext φ))/\ob.cls=.type "dict"
def Hvs(K:PySem.W.Frag)(H:Hp):List D->List V->Prop
 |[],vs=>vs=[]
 |d::ds,vs=>∃v r,vs=v::r/\Hv K H d v/\Hvs K H ds r
end
inductive GO where
 |lst (ds:List D)|pen|dct
 |gen (R:PySem.W.Frag->Addr->Hp->Prop)
def GO.plain:GO->Prop
 |.gen _=>False
 |_=>True
abbrev Gp:=Addr->Option GO
def upd3(G:Gp)(a:Addr)(o:GO):Gp:=fun b=>if b=a then some o else G b
theorem qaiz{G:Gp}{a:Addr}{o:GO}:upd3 G a o a=some o:=by simp[upd3]
theorem q8z{G:Gp}{a b:Addr}{o:GO}(h:b≠a):upd3 G a o b=G b:=by simp[upd3,h]
theorem qpcz{G:Gp}{a b:Addr}{o u:GO}(hn:G a=none)(h:G b=some u):upd3 G a o b=some u:=by
 rw[q8z]
 ·exact h
 ·intro e;rw[e,hn] at h;cases h
theorem qpdz{G:Gp}{a:Addr}{o u:GO}:upd3 (upd3 G a o) a u=upd3 G a u:=by
 funext b;unfold upd3;by_cases h:b=a
 ·rw[if_pos h,if_pos h]
 ·rw[if_neg h,if_neg h,if_neg h]
def PenOk(a b c:Int):Prop:=0≤a/\0≤c/\c<2147483647
def GOk(K:PySem.W.Frag)(H:Hp)(a:Addr):GO->Prop
 |.lst ds=>∃vs,H a=some (.lst vs)/\Hvs K H ds vs
 |.pen=>∃i j k,H a=some (.lst [.int i,.int j,.int k])/\PenOk i j k
 |.dct=>H a=some (.ext fun h=>∃o,h.get? a=some o/\o.cls=.type "dict")
 |.gen R=>R K a H/\(∃o,H a=some o/\(∀xs,o≠.tup xs)/\∀ob u,o≠.frz ob u)/\∀H1 H2:Hp,(∀b xs,H1 b=some (.tup xs)->H2 b=some (.tup xs))->(∀b o u,H1 b=some (.frz o u)->H2 b=some (.frz o u))->H2 a=H1 a->R K a H1->R K a H2
def RepG(K:PySem.W.Frag)(G:Gp)(H:Hp):Prop:=∀a o,G a=some o->GOk K H a o
structure Ext(H H':Hp):Prop where
 tup:∀b xs,H b=some (.tup xs)->H' b=some (.tup xs)
 frz:∀b o u,H b=some (.frz o u)->H' b=some (.frz o u)
theorem Ext.refl(H:Hp):Ext H H:=⟨fun _ _ h=>h,fun _ _ _ h=>h⟩
theorem Ext.trans{H H1 H2:Hp}(a:Ext H H1)(b:Ext H1 H2):Ext H H2:=⟨fun c x h=>b.tup c x (a.tup c x h),fun c o u h=>b.frz c o u (a.frz c o u h)⟩
structure Step(H:Hp)(G:Gp)(H':Hp)(G':Gp):Prop where
 fr:∀a o,H a=some o->G a=none->H' a=some o
 trk:∀a,H a≠none->H' a≠none
 new:∀a,G a=none->G' a≠none->H a=none
theorem Step.refl(H:Hp)(G:Gp):Step H G H G:=⟨fun _ _ h _=>h,fun _ h=>h,fun _ h1 h2=>absurd h1 h2⟩
theorem Step.trans{H H1 H2:Hp}{G G1 G2:Gp}(a:Step H G H1 G1)(b:Step H1 G1 H2 G2):Step H G H2 G2 where
 fr:=fun c o h n=>b.fr c o (a.fr c o h n) (by
  refine Classical.byContradiction fun q=>?_;rw[a.new c n q] at h;cases h)
 trk:=fun c h=>b.trk c (a.trk c h)
 new:=fun c n q=>by
  by_cases h1:G1 c=none
  ·have h2:=b.new c h1 q;refine Classical.byContradiction fun z=>?_;exact a.trk c z h2
  ·exact a.new c n h1
def Sub(G' G:Gp):Prop:=∀a o,G' a=some o->G a=some o
theorem Sub.refl(G:Gp):Sub G G:=fun _ _ h=>h
theorem Sub.trans{A B C:Gp}(a:Sub A B)(b:Sub B C):Sub A C:=fun x o h=>b x o (a x o h)
theorem Sub.upd{G:Gp}{a:Addr}{o:GO}(h:G a=none):Sub G (upd3 G a o):=fun _ _ e=>qpcz h e
theorem Sub.of_none{G' G:Gp}(s:Sub G' G){a:Addr}(h:G a=none):G' a=none:=by
 cases e:G' a with
 |none=>rfl
 |some o=>
  rw[s a o e] at h;cases h
structure New(G:Gp)(p:Addr)(o:GO)(G':Gp):Prop where
 non:G p=none
 sub:Sub G G'
 at_:G' p=some o
theorem New.mk'{G:Gp}{p:Addr}{o:GO}(h:G p=none):New G p o (upd3 G p o):=⟨h,Sub.upd h,qaiz⟩
theorem Step.sub{H:Hp}{G G':Gp}(s:Sub G' G):Step H G H G':=⟨fun _ _ h _=>h,fun _ h=>h,fun a n q=>by
 exact absurd (s.of_none n) q⟩
section
variable {K:PySem.W.Frag} {H H':Hp} {G G':Gp}
theorem RepG.sub(R:RepG K G H)(s:Sub G' G):RepG K G' H:=fun a o e=>R a o (s a o e)
theorem GOk.mut{a:Addr}{o:GO}(h:GOk K H a o):∃o,H a=some o/\(∀xs,o≠.tup xs)/\∀ob u,o≠.frz ob u:=by
 cases o with
 |lst ds=>obtain⟨vs,e,_⟩:=h;exact⟨_,e,fun _=>nofun,fun _ _=>nofun⟩
 |pen=>obtain⟨i,j,k,e,_⟩:=h;exact⟨_,e,fun _=>nofun,fun _ _=>nofun⟩
 |dct=>exact⟨_,h,fun _=>nofun,fun _ _=>nofun⟩
 |gen R=>exact h.2.1
theorem RepG.outT(R:RepG K G H){a:Addr}{xs:List V}(e:H a=some (.tup xs)):G a=none:=by
 cases q:G a with
 |none=>rfl
 |some u=>
  obtain⟨o,z,h1,_⟩:=(R a u q).mut;rw[e] at z;exact absurd (Option.some.inj z).symm (h1 xs)
theorem RepG.outF(R:RepG K G H){a:Addr}{ob:Obj}{u:HO}(e:H a=some (.frz ob u)):G a=none:=by
 cases q:G a with
 |none=>rfl
 |some g=>
  obtain⟨o,z,_,h1⟩:=(R a g q).mut;rw[e] at z;exact absurd (Option.some.inj z).symm (h1 ob u)
theorem RepG.free(R:RepG K G H){a:Addr}(e:H a=none):G a=none:=by
 cases q:G a with
 |none=>rfl
 |some u=>
  obtain⟨o,z,_⟩:=(R a u q).mut;rw[e] at z;cases z
theorem Step.ext(S:Step H G H' G')(R:RepG K G H):Ext H H':=⟨fun b xs h=>S.fr b _ h (R.outT h),fun b o u h=>S.fr b _ h (R.outF h)⟩
theorem SqT.ext{a:Addr}{xs:List V}(E:Ext H H')(h:SqT K H a xs):SqT K H' a xs:=by
 rcases h with (h|⟨o,h⟩)|h
 ·exact .inl (.inl (E.tup _ _ h))
 ·exact .inl (.inr ⟨o,E.frz _ _ _ h⟩)
 ·exact .inr h
theorem SqF.ext{a:Addr}{xs:List V}(E:Ext H H')(h:SqF K H a xs):SqF K H' a xs:=by
 rcases h with⟨o,h⟩|h
 ·exact .inl ⟨o,E.frz _ _ _ h⟩
 ·exact .inr h
mutual
theorem Hv.ext(E:Ext H H'):∀{d:D} {v:V},Hv K H d v->Hv K H' d v
 |.non,_,h=>by simpa [Hv] using h
 |.bl _,_,h=>by simpa [Hv] using h
 |.int _,_,h=>by simpa [Hv] using h
 |.str _,_,h=>by simpa [Hv] using h
 |.obj _,_,h=>by simpa [Hv] using h
 |.dc a,v,h=>by
  unfold Hv at h ⊢;obtain⟨e,ob,φ,q,c⟩:=h;exact⟨e,ob,φ,E.frz _ _ _ q,c⟩
 |.tup ds,v,h=>by
  unfold Hv at h ⊢;obtain⟨a,vs,e,q,r⟩:=h;exact⟨a,vs,e,SqT.ext E q,Hvs.ext E r⟩
 |.scr ds,v,h=>by
  unfold Hv at h ⊢;obtain⟨a,vs,e,q,r⟩:=h;exact⟨a,vs,e,SqF.ext E q,Hvs.ext E r⟩
theorem Hvs.ext(E:Ext H H'):∀{ds:List D} {vs:List V},Hvs K H ds vs->Hvs K H' ds vs
 |[],_,h=>by simpa [Hvs] using h
 |d::ds,vs,h=>by
  unfold Hvs at h ⊢;obtain⟨v,r,e,q,z⟩:=h;exact⟨v,r,e,Hv.ext E q,Hvs.ext E z⟩
end
theorem Hvs.nil:Hvs K H [] []:=by simp[Hvs]
theorem Hvs.cons{d:D}{v:V}{ds:List D}{vs:List V}(h:Hv K H d v)(r:Hvs K H ds vs):Hvs K H (d::ds) (v::vs):=by
 unfold Hvs;exact⟨v,vs,rfl,h,r⟩
theorem Hvs.inv{d:D}{ds:List D}{vs:List V}(h:Hvs K H (d::ds) vs):∃v r,vs=v::r/\Hv K H d v/\Hvs K H ds r:=by
 unfold Hvs at h;exact h
theorem Hvs.inv0{vs:List V}(h:Hvs K H [] vs):vs=[]:=by
 unfold Hvs at h;exact h
theorem Hvs.length:∀{ds:List D} {vs:List V},Hvs K H ds vs->ds.length=vs.length
 |[],_,h=>by rw[h.inv0];rfl
 |d::ds,vs,h=>by
  obtain⟨v,r,rfl,_,q⟩:=h.inv;simp[q.length]
theorem Hvs.get:∀{ds:List D} {vs:List V} {i:Nat} {d:D},Hvs K H ds vs->ds[i]?=some d->∃v,vs[i]?=some v/\Hv K H d v
 |[],_,_,_,_,e=>by simp at e
 |x::ds,vs,0,d,h,e=>by
  obtain⟨v,r,rfl,q,_⟩:=h.inv;simp at e;subst e;exact⟨v,rfl,q⟩
 |x::ds,vs,i+1,d,h,e=>by
  obtain⟨v,r,rfl,_,q⟩:=h.inv;simp at e;obtain⟨u,e2,q2⟩:=q.get e;exact⟨u,by simpa using e2,q2⟩
theorem Hvs.append:∀{ds es:List D} {vs us:List V},Hvs K H ds vs->Hvs K H es us->Hvs K H (ds++es) (vs++us)
 |[],es,_,_,h,q=>by rw[h.inv0];exact q
 |d::ds,es,vs,us,h,q=>by
  obtain⟨v,r,rfl,z,w⟩:=h.inv;exact .cons z (w.append q)
theorem Hvs.drop:∀{ds:List D} {vs:List V} (n:Nat),Hvs K H ds vs->Hvs K H (ds.drop n) (vs.drop n)
 |ds,vs,0,h=>h
 |[],_,n+1,h=>by rw[h.inv0];exact .nil
 |d::ds,vs,n+1,h=>by
  obtain⟨v,r,rfl,_,q⟩:=h.inv;exact q.drop n
theorem Hvs.take:∀{ds:List D} {vs:List V} (n:Nat),Hvs K H ds vs->Hvs K H (ds.take n) (vs.take n)
 |ds,vs,0,h=>by simpa using Hvs.nil
 |[],_,n+1,h=>by rw[h.inv0];exact .nil
 |d::ds,vs,n+1,h=>by
  obtain⟨v,r,rfl,q,z⟩:=h.inv;exact .cons q (z.take n)
theorem Hvs.set:∀{ds:List D} {vs:List V} (i:Nat) {d:D} {v:V},Hvs K H ds vs->Hv K H d v->Hvs K H (ds.set i d) (vs.set i v)
 |[],_,i,d,v,h,_=>by rw[h.inv0];exact .nil
 |x::ds,vs,0,d,v,h,q=>by
  obtain⟨u,r,rfl,_,z⟩:=h.inv;exact .cons q z
 |x::ds,vs,i+1,d,v,h,q=>by
  obtain⟨u,r,rfl,y,z⟩:=h.inv;exact .cons y (z.set i q)
theorem Hvs.erase:∀{ds:List D} {vs:List V} (i:Nat),Hvs K H ds vs->Hvs K H (ds.eraseIdx i) (vs.eraseIdx i)
 |[],_,i,h=>by rw[h.inv0];exact .nil
 |x::ds,vs,0,h=>by
  obtain⟨u,r,rfl,_,z⟩:=h.inv;exact z
 |x::ds,vs,i+1,h=>by
  obtain⟨u,r,rfl,y,z⟩:=h.inv;exact .cons y (z.erase i)
theorem Hvs.rep{ds:List D}{vs:List V}(h:Hvs K H ds vs):∀k:Nat,Hvs K H (List.replicate k ds).flatten (List.replicate k vs).flatten
 |0=>.nil
 |k+1=>by
  simp only[List.replicate_succ,List.flatten_cons];exact h.append (h.rep k)
theorem Hvs.ints:∀(ns:List Int),Hvs K H (ns.map D.int) (ns.map V.int)
 |[]=>.nil
 |n::ns=>.cons (by simp[Hv]) (Hvs.ints ns)
theorem Ext.laid{p:Addr}{o:HO}(h:H p=none):Ext H (upd H p o):=⟨fun b xs e=>by rw[qiz (qaez e h)];exact e,fun b x u e=>by rw[qiz (qaez e h)];exact e⟩
theorem GOk.ext{a:Addr}{o:GO}(h:GOk K H a o)(E:Ext H H')(e:H' a=H a):GOk K H' a o:=by
 cases o with
 |lst ds=>
  obtain⟨vs,z,q⟩:=h;exact⟨vs,e.trans z,q.ext E⟩
 |pen=>
  obtain⟨i,j,k,z,q⟩:=h;exact⟨i,j,k,e.trans z,q⟩
 |dct=>exact e.trans h
 |gen R=>
  obtain⟨h1,h2,h3⟩:=h;exact⟨h3 H H' E.tup E.frz e h1,by rw[e];exact h2,h3⟩
theorem RepG.laid{p:Addr}{o:HO}(R:RepG K G H)(h:H p=none):RepG K G (upd H p o):=fun a u e=>by
 have hne:a≠p:=fun z=>by
  rw[z,R.free h] at e;cases e
 exact (R a u e).ext (Ext.laid h) (qiz hne)
theorem RepG.laidG{p:Addr}{o:HO}{g:GO}(R:RepG K G H)(h:H p=none)(new:GOk K (upd H p o) p g):RepG K (upd3 G p g) (upd H p o):=fun a u e=>by
 by_cases z:a=p
 ·subst z;rw[qaiz] at e;cases e;exact new
 ·rw[q8z z] at e;exact (R.laid h) a u e
theorem Step.laid{p:Addr}{o:HO}(h:H p=none):Step H G (upd H p o) G:=⟨fun a u e _=>by rw[qiz (qaez e h)];exact e,fun a q=>by
 by_cases z:a=p
 ·rw[z,qrz];simp
 ·rw[qiz z];exact q,fun a n q=>absurd n q⟩
theorem Step.laidG{p:Addr}{o:HO}{g:GO}(h:H p=none):Step H G (upd H p o) (upd3 G p g):=⟨(Step.laid (G:=G) h).fr,(Step.laid (G:=G) h).trk,fun a n q=>by
 by_cases z:a=p
 ·rw[z];exact h
 ·rw[q8z z] at q;exact absurd n q⟩
theorem qpez{p b:Addr}{xs ys:List V}(h:H p=some (.lst xs))(e:H b=some (.tup ys)):b≠p:=fun z=>by
 rw[z,h] at e;cases e
theorem qpfz{p b:Addr}{xs:List V}{o:Obj}{u:HO}(h:H p=some (.lst xs))(e:H b=some (.frz o u)):b≠p:=fun z=>by
 rw[z,h] at e;cases e
theorem Ext.wrote{p:Addr}{xs:List V}{o:HO}(h:H p=some (.lst xs)):Ext H (upd H p o):=
 ⟨fun b ys e=>by rw[qiz (qpez h e)];exact e,fun b x u e=>by rw[qiz (qpfz h e)];exact e⟩
theorem RepG.wrote{p:Addr}{xs:List V}{o:HO}{g:GO}(R:RepG K G H)(h:H p=some (.lst xs))(new:GOk K (upd H p o) p g):RepG K (upd3 G p g) (upd H p o):=fun a u e=>by
 by_cases z:a=p
 ·subst z;rw[qaiz] at e;cases e;exact new
 ·rw[q8z z] at e;exact (R a u e).ext (Ext.wrote h) (qiz z)
theorem RepG.newL{p:Addr}{xs:List V}{ds:List D}(R:RepG K G H)(h:H p=none)(hv:Hvs K H ds xs):RepG K (upd3 G p (.lst ds)) (upd H p (.lst xs)):=R.laidG h ⟨xs,qrz,hv.ext (.laid h)⟩
theorem RepG.wroteL{p:Addr}{xs ys:List V}{ds:List D}(R:RepG K G H)(e:H p=some (.lst xs))(hv:Hvs K H ds ys):RepG K (upd3 G p (.lst ds)) (upd H p (.lst ys)):=R.wrote e ⟨ys,qrz,hv.ext (.wrote e)⟩
theorem Step.wrote{p:Addr}{o:HO}{g u:GO}(h:G p=some u):Step H G (upd H p o) (upd3 G p g):=⟨fun a x e n=>by
 have hne:a≠p:=fun z=>by
  rw[z,h] at n;cases n
 rw[qiz hne];exact e,fun a q=>by
 by_cases z:a=p
 ·rw[z,qrz];simp
 ·rw[qiz z];exact q,fun a n q=>by
 have hne:a≠p:=fun z=>by
  rw[z,h] at n;cases n
 rw[q8z hne] at q;exact absurd n q⟩
end
abbrev S3:=List (Option D)
def at3:S3->Nat->Option D
 |[],_=>none
 |x::_,0=>x
 |_::r,n+1=>at3 r n
def set3:S3->Nat->D->S3
 |[],_,_=>[]
 |_::r,0,d=>some d::r
 |x::r,n+1,d=>x::set3 r n d
structure RepS(K:PySem.W.Frag)(τ:S3)(σ:L2.St)(H:Hp):Prop where
 len:τ.length=σ.length
 at_:∀(i:Nat) d,at3 τ i=some d->∃v,σ[i]?=some (some v)/\Hv K H d v
theorem qh1z:∀(τ:S3) (i:Nat) (d:D),(set3 τ i d).length=τ.length
 |[],_,_=>rfl
 |_::r,0,d=>rfl
 |x::r,n+1,d=>by simp[set3,qh1z r n d]
theorem qh2z:∀(τ:S3) (i j:Nat) (d:D),at3 (set3 τ i d) j=if j=i/\i<τ.length then some d else at3 τ j
 |[],i,j,d=>by simp[set3,at3]
 |x::r,0,0,d=>by simp[set3,at3]
 |x::r,0,j+1,d=>by simp[set3,at3]
 |x::r,i+1,0,d=>by simp[set3,at3]
 |x::r,i+1,j+1,d=>by
  simp only[set3,at3,qh2z r i j d,List.length_cons];by_cases h:j=i/\i<r.length
  ·rw[if_pos h,if_pos (by omega)]
  ·rw[if_neg h,if_neg (by omega)]
section
variable {K:PySem.W.Frag} {τ:S3} {σ:L2.St} {H H':Hp}
theorem RepS.ext(R:RepS K τ σ H)(E:Ext H H'):RepS K τ σ H':=⟨R.len,fun i d h=>by
 obtain⟨v,e,q⟩:=R.at_ i d h;exact⟨v,e,q.ext E⟩⟩
theorem RepS.set(R:RepS K τ σ H){i:Nat}{d:D}{v:V}(h:Hv K H d v):RepS K (set3 τ i d) (σ.set i (some v)) H:=⟨by rw[qh1z,List.length_set];exact R.len,fun j e q=>by
 rw[qh2z] at q;by_cases c:j=i/\i<τ.length
 ·rw[if_pos c] at q;cases q;refine⟨v,?_,h⟩;rw[c.1,List.getElem?_set_self (by rw[←R.len];exact c.2)]
 ·rw[if_neg c] at q;obtain⟨u,e1,e2⟩:=R.at_ j e q;refine⟨u,?_,e2⟩;by_cases hij:i=j
  ·subst hij;have:σ.length≤i:=by
    have:=R.len;have:¬i<τ.length:=fun z=>c ⟨rfl,z⟩;omega
   rw[List.getElem?_eq_none_iff.mpr this] at e1;cases e1
  ·rw[List.getElem?_set_ne hij];exact e1⟩
end
def start3:List Str->List D->S3
 |[],_=>[]
 |_::N,[]=>none::start3 N []
 |_::N,d::ds=>some d::start3 N ds
theorem qfez:∀(N:List Str) (ds:List D),(start3 N ds).length=N.length
 |[],_=>rfl
 |_::N,[]=>by simp[start3,qfez N []]
 |_::N,d::ds=>by simp[start3,qfez N ds]
theorem qh3z:∀(N:List Str) (i:Nat),at3 (start3 N []) i=none
 |[],i=>rfl
 |_::N,0=>rfl
 |_::N,i+1=>qh3z N i
theorem qh4z:∀(N:List Str) (ds:List D) (i:Nat) (d:D),at3 (start3 N ds) i=some d->ds[i]?=some d
 |[],_,_,_,h=>by cases h
 |_::N,[],i,d,h=>by
  rw[qh3z] at h;cases h
 |_::N,x::ds,0,d,h=>by
  simp only[start3,at3] at h;simpa using h
 |_::N,x::ds,i+1,d,h=>by
  simp only[start3,at3] at h;simpa using qh4z N ds i d h
theorem RepS.start{K:PySem.W.Frag}{N:List Str}{ds:List D}{vs:List V}{H:Hp}(h:Hvs K H ds vs)(hl:vs.length≤N.length):RepS K (start3 N ds) (L2.start N vs) H:=⟨by
 rw[qfez];simp[L2.start];omega,fun i d e=>by
 obtain⟨v,e1,q⟩:=h.get (qh4z N ds i d e);refine⟨v,?_,q⟩;unfold L2.start;have hi:i<vs.length:=(List.getElem?_eq_some_iff.mp e1).1;rw[List.getElem?_append_left (by simpa using hi),List.getElem?_map,e1];rfl⟩
abbrev V3:=D->Gp->Prop
abbrev TE3:=S3->Gp->V3->Prop
abbrev TT3:=S3->Gp->(Bool->Gp->Prop)->Prop
abbrev TA3:=S3->Gp->(List D->Gp->Prop)->Prop
structure Ends3 where
 nx:S3->Gp->Prop
 rt:V3
 bk:S3->Gp->Prop:=fun _ _=>False
 ct:S3->Gp->Prop:=fun _ _=>False
abbrev TS3:=Ends3->S3->Gp->Prop
def low(K:PySem.W.Frag)(t:TE3):TE:=fun σ H Q=>∃τ G Q3,RepS K τ σ H/\RepG K G H/\t τ G Q3/\∀v H' d G',Hv K H' d v->Step H G H' G'->RepG K G' H'->Q3 d G'->Q v H'
def lowT(K:PySem.W.Frag)(t:TT3):TT:=fun σ H Q=>∃τ G Q3,RepS K τ σ H/\RepG K G H/\t τ G Q3/\∀b H' G',Step H G H' G'->RepG K G' H'->Q3 b G'->Q b H'
def lowA(K:PySem.W.Frag)(t:TA3):TA:=fun σ H Q=>∃τ G Q3,RepS K τ σ H/\RepG K G H/\t τ G Q3/\∀vs H' ds G',Hvs K H' ds vs->Step H G H' G'->RepG K G' H'->Q3 ds G'->Q vs H'
structure EndsLow(K:PySem.W.Frag)(H:Hp)(G:Gp)(D3:Ends3)(D2:Ends):Prop where
 nx:∀τ σ G' H',RepS K τ σ H'->Step H G H' G'->RepG K G' H'->D3.nx τ G'->D2.nx σ H'
 bk:∀τ σ G' H',RepS K τ σ H'->Step H G H' G'->RepG K G' H'->D3.bk τ G'->D2.bk σ H'
 ct:∀τ σ G' H',RepS K τ σ H'->Step H G H' G'->RepG K G' H'->D3.ct τ G'->D2.ct σ H'
 rt:∀d v G' H',Hv K H' d v->Step H G H' G'->RepG K G' H'->D3.rt d G'->D2.rt v H'
theorem EndsLow.step{K:PySem.W.Frag}{H H1:Hp}{G G1:Gp}{D3:Ends3}{D2:Ends}(E:EndsLow K H G D3 D2)(S:Step H G H1 G1):EndsLow K H1 G1 D3 D2:=
 ⟨fun τ σ G' H' a b c q=>E.nx τ σ G' H' a (S.trans b) c q,fun τ σ G' H' a b c q=>E.bk τ σ G' H' a (S.trans b) c q,fun τ σ G' H' a b c q=>E.ct τ σ G' H' a (S.trans b) c q,fun d v G' H' a b c q=>E.rt d v G' H' a (S.trans b) c q⟩
def lowS(K:PySem.W.Frag)(t:TS3):TS:=fun D2 σ H=>∃τ G D3,RepS K τ σ H/\RepG K G H/\t D3 τ G/\EndsLow K H G D3 D2
abbrev PE3(X:Cx)(e:Expr)(t:TE3):Prop:=PE X e (low X.K t)
abbrev PT3(X:Cx)(e:Expr)(t:TT3):Prop:=PT X e (lowT X.K t)
abbrev PW3(X:Cx)(e:Expr)(t:TT3):Prop:=PW X e (lowT X.K t)
abbrev PA3(X:Cx)(es:List Expr)(t:TA3):Prop:=PA X es (lowA X.K t)
abbrev PS3(X:Cx)(st:Stmt)(t:TS3):Prop:=PS X st (lowS X.K t)
abbrev PSs3(X:Cx)(st:List Stmt)(t:TS3):Prop:=PSs X st (lowS X.K t)
section
variable {X:Cx} {e:Expr}
theorem qsz{t t':TE}(h:PE X e t)(f:∀σ H Q,t' σ H Q->t σ H Q):PE X e t':=fun pins s σ H Q I q=>h pins s σ H Q I (f σ H Q q)
theorem qffz{t t':TT}(h:PT X e t)(f:∀σ H Q,t' σ H Q->t σ H Q):PT X e t':=fun pins s σ H Q I q=>h pins s σ H Q I (f σ H Q q)
theorem pw_of{t t':TT}(h:PW X e t)(f:∀σ H Q,t' σ H Q->t σ H Q):PW X e t':=fun w pins s σ H Q I q=>h w pins s σ H Q I (f σ H Q q)
theorem qh5z{es:List Expr}{t t':TA}(h:PA X es t)(f:∀σ H Q,t' σ H Q->t σ H Q):PA X es t':=fun p pins s σ H Q I q=>h p pins s σ H Q I (f σ H Q q)
theorem qayz{st:Stmt}{t t':TS}(h:PS X st t)(f:∀D σ H,t' D σ H->t D σ H):PS X st t':=fun pins s σ H Q I q=>h pins s σ H Q I (f Q σ H q)
theorem qh6z{st:List Stmt}{t t':TS}(h:PSs X st t)(f:∀D σ H,t' D σ H->t D σ H):PSs X st t':=fun pins s σ H Q I q=>h pins s σ H Q I (f Q σ H q)
end
def Br(b:Bool)(A B:Prop):Prop:=(b=true->A)/\(b=false->B)
theorem Br.ite{b:Bool}{A B A' B':Prop}(h:Br b A B)(f:A->A')(g:B->B'):if b=true then A' else B':=by
 cases b with
 |true=>rw[if_pos rfl];exact f (h.1 rfl)
 |false=>rw[if_neg Bool.false_ne_true];exact g (h.2 rfl)
section
variable {X:Cx} {a b e c:Expr} {ta tb te:TE3} {tA tB:TT3} {pos:Pos} {es rest:List Expr}
def eC(d:D):TE3:=fun _ G Q=>Q d G
def eVar(i:Nat):TE3:=fun τ G Q=>match at3 τ i with
 |some d=>Q d G
 |none=>False
theorem qpgz{i:Nat}{x:Str}(h:PE X (.Name x pos) (tVar i)):PE3 X (.Name x pos) (eVar i):=qsz h fun σ H Q ⟨τ,G,Q3,RS,RG,h,k⟩=>by
 unfold eVar at h;cases hd:at3 τ i with
 |none=>rw[hd] at h;exact h.elim
 |some d=>
  rw[hd] at h;obtain⟨v,e1,e2⟩:=RS.at_ i d hd;exact⟨v,e1,k v H d G e2 (.refl H G) RG h⟩
theorem qdsz{v:V}{d:D}(h:PE X e (tC v))(r:∀H,Hv X.K H d v):PE3 X e (eC d):=qsz h fun σ H Q ⟨τ,G,Q3,RS,RG,h,k⟩=>k v H d G (r H) (.refl H G) RG h
theorem qphz{i:Int}{j}:PE3 X (.Constant (.int i) j pos) (eC (.int i)):=qdsz qm1z fun H=>by simp[Hv]
theorem e_bl{i:Bool}{j}:PE3 X (.Constant (.bool i) j pos) (eC (.bl i)):=qdsz qm2z fun H=>by simp[Hv]
theorem qpiz{j}:PE3 X (.Constant .none j pos) (eC .non):=qdsz qm3z fun H=>by simp[Hv]
theorem qpjz{x:Str}{j}:PE3 X (.Constant (.str x) j pos) (eC (.str x)):=qdsz qm4z fun H=>by simp[Hv]
abbrev R3:=D->D->Gp->V3->Prop
def eOp(r:R3)(ta tb:TE3):TE3:=fun τ G Q=>ta τ G fun x G1=>tb τ G1 fun y G2=>r x y G2 Q
def LowR(K:PySem.W.Frag)(r:R3)(r2:R2):Prop:=∀x y vx vy G H Q3 Q,Hv K H x vx->Hv K H y vy->RepG K G H->r x y G Q3->(∀v H' d G',Hv K H' d v->Step H G H' G'->RepG K G' H'->Q3 d G'->Q v H')->r2 vx vy H Q
theorem qdtz{K:PySem.W.Frag}{r:R3}{r2:R2}(L:LowR K r r2){σ:L2.St}{H:Hp}{Q:VK}(h:low K (eOp r ta tb) σ H Q):tOp r2 (low K ta) (low K tb) σ H Q:=by
 obtain⟨τ,G,Q3,RS,RG,h,k⟩:=h;refine⟨τ,G,_,RS,RG,h,fun v1 H1 d1 G1 h1 S1 R1 q1=>?_⟩;refine⟨τ,G1,_,RS.ext (S1.ext RG),R1,q1,fun v2 H2 d2 G2 h2 S2 R2 q2=>?_⟩;exact L _ _ _ _ _ _ _ _ (h1.ext (S2.ext R1)) h2 R2 q2 fun v H' d G' z1 z2 z3 z4=>k v H' d G' z1 ((S1.trans S2).trans z2) z3 z4
theorem e_op{op:Operator}{r:R3}{r2:R2}(L:LowR X.K r r2)(ho:OpR X (binaryOp op) r2)(ha:PE3 X a ta)(hb:PE3 X b tb):PE3 X (.BinOp a op b pos) (eOp r ta tb):=
 qsz (qnvz ho ha hb) fun _ _ _ h=>qdtz L h
theorem qpkz{op:CmpOp}{r:R3}{r2:R2}(L:LowR X.K r r2)(ho:OpR X (compareOp op) r2)(ha:PE3 X a ta)(hb:PE3 X b tb)(hm:behindInMarks op b=false):PE3 X (.Compare a [op] [b] pos) (eOp r ta tb):=
 qsz (qn5z ho ha hb hm) fun _ _ _ h=>qdtz L h
def eTest(t:TE3):TT3:=fun τ G Q=>t τ G fun x G1=>match x with
 |.bl k=>Q k G1
 |_=>False
theorem qh7z{K:PySem.W.Frag}{t:TE3}{σ:L2.St}{H:Hp}{Q:Bool->Hp->Prop}(h:lowT K (eTest t) σ H Q):tTest (low K t) σ H Q:=by
 obtain⟨τ,G,Q3,RS,RG,h,k⟩:=h;refine⟨τ,G,_,RS,RG,h,fun v H' d G' h1 h2 h3 h4=>?_⟩;cases d with
 |bl c=>
  unfold Hv at h1;exact⟨c,h1,k c H' G' h2 h3 h4⟩
 |_=>exact h4.elim
theorem qplz{op:CmpOp}{r:R3}{r2:R2}(L:LowR X.K r r2)(ho:OpR X (compareOp op) r2)(ha:PE3 X a ta)(hb:PE3 X b tb)(hm:behindInMarks op b=false):PT3 X (.Compare a [op] [b] pos) (eTest (eOp r ta tb)):=
 qffz (qn6z ho ha hb hm) fun σ H Q h=>by
  obtain⟨τ,G,Q3,RS,RG,h,k⟩:=qh7z h;exact qdtz L ⟨τ,G,Q3,RS,RG,h,k⟩
theorem qpmz(h:PE3 X a ta)(he:∀whole,isTrue a X.env whole=(do let v ←whole;standAt a.pos;holding [v] (truthy v)):=by intro _;rfl):PT3 X a (eTest ta):=
 qffz (qoaz h he) fun σ H Q h=>by
  obtain⟨τ,G,Q3,RS,RG,h,k⟩:=qh7z h;refine⟨τ,G,Q3,RS,RG,h,fun v H' d G' h1 h2 h3 h4=>?_⟩;obtain⟨c,rfl,q⟩:=k v H' d G' h1 h2 h3 h4;exact⟨c,rfl,q⟩
def eChain(r r':R3)(ta tb tc:TE3):TE3:=fun τ G Q=>ta τ G fun x G1=>tb τ G1 fun y G2=>r x y G2 fun z G3=>match z with
 |.bl k=>Br k (tc τ G3 fun w G4=>r' y w G4 Q) (Q (.bl false) G3)
 |_=>False
theorem qpnz{K:PySem.W.Frag}{r r':R3}{r2 r2':R2}(L:LowR K r r2)(L':LowR K r' r2'){tc:TE3}{σ:L2.St}{H:Hp}{Q:VK}(h:low K (eChain r r' ta tb tc) σ H Q):tChain r2 r2' (low K ta) (low K tb) (low K tc) σ H Q:=by
 obtain⟨τ,G,Q3,RS,RG,h,k⟩:=h;refine⟨τ,G,_,RS,RG,h,fun v1 H1 d1 G1 h1 S1 R1 q1=>?_⟩;refine⟨τ,G1,_,RS.ext (S1.ext RG),R1,q1,fun v2 H2 d2 G2 h2 S2 R2 q2=>?_⟩;refine L _ _ _ _ _ _ _ _ (h1.ext (S2.ext R1)) h2 R2 q2 fun v H3 d G3 z1 S3 R3 z4=>?_;cases d with
 |bl c=>
  unfold Hv at z1;refine⟨c,z1,Br.ite z4 (fun q=>?_) fun q=>?_⟩
  ·refine⟨τ,G3,_,((RS.ext (S1.ext RG)).ext (S2.ext R1)).ext (S3.ext R2),R3,q,fun v4 H4 d4 G4 h4 S4 R4 q4=>?_⟩;exact L' _ _ _ _ _ _ _ _ ((h2.ext (S3.ext R2)).ext (S4.ext R3)) h4 R4 q4 fun v H' d G' y1 y2 y3 y4=>k v H' d G' y1 ((((S1.trans S2).trans S3).trans S4).trans y2) y3 y4
  ·exact k _ H3 (.bl false) G3 (by simp[Hv]) ((S1.trans S2).trans S3) R3 q
 |_=>exact z4.elim
theorem qpoz{op op':CmpOp}{r r':R3}{r2 r2':R2}{tc:TE3}(L:LowR X.K r r2)(L':LowR X.K r' r2')(h:PE X e (tChain r2 r2' (low X.K ta) (low X.K tb) (low X.K tc))):PE3 X e (eChain r r' ta tb tc):=
 qsz h fun _ _ _ h=>qpnz L L' h
def eUn(r:D->Gp->V3->Prop)(ta:TE3):TE3:=fun τ G Q=>ta τ G fun x G1=>r x G1 Q
def rNeg3:D->Gp->V3->Prop:=fun x G Q=>match x with
 |.int i=>Q (.int (-i)) G
 |_=>False
theorem qppz(ha:PE3 X a ta):PE3 X (.UnaryOp .USub a pos) (eUn rNeg3 ta):=qsz (qnwz qn1z ha) fun σ H Q h=>by
 obtain⟨τ,G,Q3,RS,RG,h,k⟩:=h;refine⟨τ,G,_,RS,RG,h,fun v H' d G' h1 h2 h3 h4=>?_⟩;cases d with
 |int i=>
  unfold Hv at h1;exact⟨i,h1,k _ H' (.int (-i)) G' (by simp[Hv]) h2 h3 h4⟩
 |_=>exact h4.elim
def eAnd(t u:TT3):TT3:=fun τ G Q=>t τ G fun c G1=>Br c (u τ G1 Q) (Q false G1)
def eOr(t u:TT3):TT3:=fun τ G Q=>t τ G fun c G1=>Br c (Q true G1) (u τ G1 Q)
def eNot(t:TT3):TT3:=fun τ G Q=>t τ G fun c G1=>Q (!c) G1
theorem qpqz(ha:PT3 X a tA):PW3 X (.BoolOp .And [a] pos) tA:=pw_and1 ha
theorem qprz(ha:PT3 X a tA):PW3 X (.BoolOp .Or [a] pos) tA:=pw_or1 ha
theorem qpsz(ha:PT3 X a tA)(hb:PW3 X (.BoolOp .And (b::rest) pos) tB):PW3 X (.BoolOp .And (a::b::rest) pos) (eAnd tA tB):=pw_of (pw_and ha hb) fun σ H Q h=>by
 obtain⟨τ,G,Q3,RS,RG,h,k⟩:=h;refine⟨τ,G,_,RS,RG,h,fun c H1 G1 S1 R1 q1=>?_⟩;exact Br.ite q1 (fun q=>⟨τ,G1,Q3,RS.ext (S1.ext RG),R1,q,fun b' H' G' y1 y2 y3=>k b' H' G' (S1.trans y1) y2 y3⟩) fun q=>k false H1 G1 S1 R1 q
theorem qptz(ha:PT3 X a tA)(hb:PW3 X (.BoolOp .Or (b::rest) pos) tB):PW3 X (.BoolOp .Or (a::b::rest) pos) (eOr tA tB):=pw_of (pw_or ha hb) fun σ H Q h=>by
 obtain⟨τ,G,Q3,RS,RG,h,k⟩:=h;refine⟨τ,G,_,RS,RG,h,fun c H1 G1 S1 R1 q1=>?_⟩;exact Br.ite q1 (fun q=>k true H1 G1 S1 R1 q) fun q=>⟨τ,G1,Q3,RS.ext (S1.ext RG),R1,q,fun b' H' G' y1 y2 y3=>k b' H' G' (S1.trans y1) y2 y3⟩
theorem tt_w(h:PW3 X a tA):PT3 X a tA:=h.pt
theorem qpuz(ha:PT3 X a tA):PT3 X (.UnaryOp .Not a pos) (eNot tA):=qffz (qm6z ha) fun σ H Q h=>by
 obtain⟨τ,G,Q3,RS,RG,h,k⟩:=h;exact⟨τ,G,_,RS,RG,h,fun c H1 G1 S1 R1 q1=>k _ H1 G1 S1 R1 q1⟩
def eAndV(ta tb:TE3):TE3:=fun τ G Q=>ta τ G fun x G1=>match x with
 |.bl c=>Br c (tb τ G1 Q) (Q (.bl false) G1)
 |_=>False
def eNotV(ta:TE3):TE3:=fun τ G Q=>ta τ G fun x G1=>match x with
 |.bl c=>Q (.bl (!c)) G1
 |_=>False
theorem qpvz{op}(h:PE3 X a ta):PE3 X (.BoolOp op [a] pos) ta:=qm7z h
theorem qpwz(ha:PE3 X a ta)(hb:PE3 X (.BoolOp .And (b::rest) pos) tb):PE3 X (.BoolOp .And (a::b::rest) pos) (eAndV ta tb):=qsz (qm8z ha hb) fun σ H Q h=>by
 obtain⟨τ,G,Q3,RS,RG,h,k⟩:=h;refine⟨τ,G,_,RS,RG,h,fun v H1 d G1 h1 S1 R1 q1=>?_⟩;cases d with
 |bl c=>
  unfold Hv at h1;exact⟨c,h1,Br.ite q1 (fun q=>⟨τ,G1,Q3,RS.ext (S1.ext RG),R1,q,fun b' H' d' G' y0 y1 y2 y3=>k b' H' d' G' y0 (S1.trans y1) y2 y3⟩) fun q=>k _ H1 (.bl false) G1 (by simp[Hv]) S1 R1 q⟩
 |_=>exact q1.elim
theorem qpxz(ha:PE3 X a ta):PE3 X (.UnaryOp .Not a pos) (eNotV ta):=qsz (qm9z ha) fun σ H Q h=>by
 obtain⟨τ,G,Q3,RS,RG,h,k⟩:=h;refine⟨τ,G,_,RS,RG,h,fun v H1 d G1 h1 S1 R1 q1=>?_⟩;cases d with
 |bl c=>
  unfold Hv at h1;exact⟨c,h1,k _ H1 (.bl (!c)) G1 (by simp[Hv]) S1 R1 q1⟩
 |_=>exact q1.elim
def notStar:Expr->Bool
 |.Starred ..=>false
 |_=>true
theorem qjz{e:Expr}{es:List Expr}{env:Env}(h:notStar e=true):starEach (e::es) env=(false,eval e env)::starEach es env:=by
 cases e<;>first|rfl|(simp[notStar] at h)
theorem qyz{pos:Pos}{env:Env}:∀{es:List Expr},es.all notStar=true->(backTo pos (starEach es env)).any (·.1)=false
 |[],_=>rfl
 |e::es,h=>by
  rw[List.all_cons,Bool.and_eq_true] at h;rw[qjz h.1];show (false||(backTo pos (starEach es env)).any (·.1))=false;rw[qyz h.2];rfl
def aNil:TA3:=fun _ G Q=>Q [] G
def aCons(ta:TE3)(tr:TA3):TA3:=fun τ G Q=>ta τ G fun x G1=>tr τ G1 fun xs G2=>Q (x::xs) G2
theorem qpyz:PA3 X [] aNil:=qh5z qbez fun σ H Q ⟨τ,G,Q3,RS,RG,h,k⟩=>k [] H [] G .nil (.refl H G) RG h
theorem qpzz{tr:TA3}(ha:PE3 X a ta)(hr:PA3 X es tr)(hs:notStar a=true:=by rfl):PA3 X (a::es) (aCons ta tr):=qh5z (qaoz ha hr (qjz hs)) fun σ H Q h=>by
 obtain⟨τ,G,Q3,RS,RG,h,k⟩:=h;refine⟨τ,G,_,RS,RG,h,fun v1 H1 d1 G1 h1 S1 R1 q1=>?_⟩;refine⟨τ,G1,_,RS.ext (S1.ext RG),R1,q1,fun vs H2 ds G2 h2 S2 R2 q2=>?_⟩;exact k _ H2 _ G2 (.cons (h1.ext (S2.ext R1)) h2) (S1.trans S2) R2 q2
def smallL{α:Type}(P:Prop):List α->Nat->Prop
 |[],_=>P
 |_::_,0=>False
 |_::xs,n+1=>smallL P xs n
theorem qctz{α:Type}{P:Prop}:∀{xs:List α} {n:Nat},smallL P xs n->xs.length≤n/\P
 |[],n,h=>⟨Nat.zero_le _,h⟩
 |_::_,0,h=>h.elim
 |_::xs,n+1,h=>by
  obtain⟨h1,h2⟩:=qctz (xs:=xs) (n:=n) h;exact⟨Nat.succ_le_succ h1,h2⟩
theorem line64{n:Nat}(h:n≤64):n≤sizeLine:=Nat.le_trans h (by decide)
def eTup(t:TA3):TE3:=fun τ G Q=>t τ G fun ds G1=>smallL (Q (.tup ds) G1) ds 64
def eLst(t:TA3):TE3:=fun τ G Q=>t τ G fun ds G1=>smallL (∀p G2,New G1 p (.lst ds) G2->Q (.obj p) G2) ds 64
theorem qp0z{t:TA3}{x1}(h:PA3 X es t):PE3 X (.Tuple es x1 pos) (eTup t):=qsz (qoez h) fun σ H Q h=>by
 obtain⟨τ,G,Q3,RS,RG,h,k⟩:=h;refine⟨τ,G,_,RS,RG,h,fun vs H1 ds G1 h1 S1 R1 q1=>?_⟩;obtain⟨z,q1⟩:=qctz q1;refine⟨by rw[←h1.length];exact line64 z,fun p hp=>?_⟩;refine k _ _ (.tup ds) G1 ?_ (S1.trans (.laid hp)) (R1.laid hp) q1;unfold Hv;exact⟨p,vs,rfl,.of qrz,h1.ext (.laid hp)⟩
theorem qp1z{t:TA3}(h:PA3 X es t):PE3 X (.List es pos) (eLst t):=qsz (qhmz h) fun σ H Q h=>by
 obtain⟨τ,G,Q3,RS,RG,h,k⟩:=h;refine⟨τ,G,_,RS,RG,h,fun vs H1 ds G1 h1 S1 R1 q1=>?_⟩;obtain⟨z,q1⟩:=qctz q1;refine⟨by rw[←h1.length];exact line64 z,fun p hp=>?_⟩;exact k _ _ (.obj p) (upd3 G1 p (.lst ds)) (by simp[Hv]) (S1.trans (.laidG hp)) (R1.laidG hp ⟨vs,qrz,h1.ext (.laid hp)⟩) (q1 p _ (.mk' (R1.free hp)))
end
end L3
namespace L2
open PySem PySem.Spec PyProof.Rows
def clos(env:Env):List (Str×NameKind)->List (Str×Addr)->List (Str×Addr)
 |[],acc=>acc
 | (n,k)::r,acc=>clos env r (if k=.free then (n,(env.cells.lookup n).getD 0)::acc else acc)
theorem qh8z{scope:Scope}{env:Env}(h:∀y∈scope.names,y.2=.free->∃c,env.cells.lookup y.1=some c):closureFor scope env=pure (clos env scope.names []):=by
 have key:∀(l:List (Str×NameKind)) (acc:List (Str×Addr)),(∀y∈l,y.2=.free->∃c,env.cells.lookup y.1=some c) ->
   (forIn l acc fun (x:Str×NameKind) (r:List (Str×Addr))=>(do
    if (x.2==NameKind.free)=true then do
     let a ←cellOf env x.1
     pure (ForInStep.yield ((x.1,a)::r))
    else pure (ForInStep.yield r):Sem (ForInStep (List (Str×Addr)))))=pure (clos env l acc):=by
  intro l
  induction l with
  |nil=>intro acc _;rfl
  |cons y r ih=>
   intro acc hy;obtain⟨n,k⟩:=y;rw[List.forIn_cons];by_cases hk:k=.free
   ·obtain⟨c,hc⟩:=hy (n,k) List.mem_cons_self hk;have e1:cellOf env n=pure c:=by unfold cellOf;rw[show env.cells.lookup n=some c from hc]
    subst hk;simp only[beq_self_eq_true,if_true,e1,pure_bind];rw[ih _ fun y hy'=>hy y (List.mem_cons_of_mem _ hy')];show _=pure (clos env r (if NameKind.free=NameKind.free then (n,(env.cells.lookup n).getD 0)::acc else acc));rw[if_pos rfl,show env.cells.lookup n=some c from hc];rfl
   ·have hb:(k==NameKind.free)=false:=by simpa using hk
    simp only[hb,Bool.false_eq_true,if_false,pure_bind];rw[ih _ fun y hy'=>hy y (List.mem_cons_of_mem _ hy')];show _=pure (clos env r (if k=NameKind.free then (n,(env.cells.lookup n).getD 0)::acc else acc));rw[if_neg hk]
 have:=key scope.names [] h;unfold closureFor
 first
  |exact (by simpa using this)
  | (simp only[bind_pure];exact this)
theorem qh9z{env:Env}{x:Str}{c:Addr}:∀(l:List (Str×NameKind)) (acc:List (Str×Addr)),(clos env l acc).lookup x=some c ->
  acc.lookup x=some c∨((x,NameKind.free)∈l/\c=(env.cells.lookup x).getD 0)
 |[],_,h=>.inl h
 | (n,k)::r,acc,h=>by
  rcases qh9z r _ h with q|⟨q1,q2⟩
  ·by_cases hk:k=.free
   ·rw[if_pos hk,List.lookup_cons] at q;by_cases hx:(x==n)=true
    ·rw[hx] at q;have hx':x=n:=by simpa using hx
     subst hx' hk;exact .inr ⟨List.mem_cons_self,(Option.some.inj q).symm⟩
    ·have hx2:(x==n)=false:=by simpa using hx
     rw[hx2] at q;exact .inl q
   ·rw[if_neg hk] at q;exact .inl q
  ·exact .inr ⟨List.mem_cons_of_mem _ q1,q2⟩
theorem qiaz{env:Env}{x:Str}:∀(l:List (Str×NameKind)) (acc:List (Str×Addr)),acc.lookup x=some ((env.cells.lookup x).getD 0)->(clos env l acc).lookup x=some ((env.cells.lookup x).getD 0)
 |[],_,h=>h
 | (n,k)::r,acc,h=>by
  refine qiaz r _ ?_;by_cases hk:k=.free
  ·rw[if_pos hk,List.lookup_cons];by_cases hx:(x==n)=true
   ·rw[hx];have hx':x=n:=by simpa using hx
    rw[hx']
   ·have hx2:(x==n)=false:=by simpa using hx
    rw[hx2];exact h
  ·rw[if_neg hk];exact h
theorem qibz{env:Env}{x:Str}:∀(l:List (Str×NameKind)) (acc:List (Str×Addr)),(x,NameKind.free)∈l->(clos env l acc).lookup x=some ((env.cells.lookup x).getD 0)
 |[],_,h=>by cases h
 | (n,k)::r,acc,h=>by
  rcases List.mem_cons.mp h with e|e
  ·cases e;refine qiaz r _ ?_;rw[if_pos rfl,List.lookup_cons,beq_self_eq_true]
  ·exact qibz r _ e
structure CmpOk(N:List Str)(sc scope:Scope)(own:List Str)(js:List Nat):Prop where
 kind:scope.kind=.function
 nocell:∀y∈scope.names,y.2≠.cell
 names:∀y∈scope.names,y.2=.local->scope.names.lookup y.1=some .local
 free:∀y∈scope.names,y.2=.free->sc.names.lookup y.1=some .cell/\own.contains y.1=false
 only:∀y∈scope.names,y.2=.free->scope.names.lookup y.1=some .free
 js:∀j∈js,j<N.length/\(N.getD j Str.empty,NameKind.free)∈scope.names
def cmpN(N own:List Str)(js:List Nat):List Str:=own++js.map fun j=>N.getD j Str.empty
def cmpSt(own:List Str)(js:List Nat)(σ:St):St:=List.replicate own.length none++js.map fun j=>(σ[j]?).getD none
def Cx.cmp(X:Cx)(scope:Scope)(own:List Str)(js:List Nat)(s:Shared)(H:Hp)(fp:List Addr):Cx:=
 { X with N:=cmpN X.N own js,s₀:=s,H₀:=H,env:=compEnvC scope (clos X.env scope.names []) s.heap.objs.size X.env,outer:=X.stack,ex:=fp,fn:=fun x=>own.contains x,pn:=[],xe:=fun _ _=>False }
theorem qduz{sc:Scope}{env:Env}{x:Str}{k:NameKind}:∀(names:List (Str×NameKind)),
  (names.map fun (n,k)=>if (k==NameKind.free&&env.scope.kind==.function&&env.kindOf n==some .cell) then (n,NameKind.cell) else (n,k)).lookup x=some k ->
  (names.lookup x=some k/\(k≠.free∨k=.free))∨(k=.cell/\names.lookup x=some .free)
 |[],h=>by simp at h
 | (n,k')::r,h=>by
  have ih:=@qduz sc env x k r;have h':List.lookup x ((if (k'==NameKind.free&&env.scope.kind==.function&&env.kindOf n==some .cell)=true then (n,NameKind.cell) else (n,k'))::_)=some k:=h;rw[List.lookup_cons];by_cases hc:(k'==NameKind.free&&env.scope.kind==.function&&env.kindOf n==some .cell)=true
  ·rw[if_pos hc,List.lookup_cons] at h';cases hx:x==n with
   |true=>
    rw[hx] at h';have e:NameKind.cell=k:=Option.some.inj h';have hk':k'=.free:=by
     rw[Bool.and_eq_true,Bool.and_eq_true] at hc;simpa using hc.1.1
    exact .inr ⟨e.symm,by rw[hk']⟩
   |false=>
    rw[hx] at h';exact ih h'
  ·rw[if_neg hc,List.lookup_cons] at h';cases hx:x==n with
   |true=>
    rw[hx] at h';have e:k'=k:=Option.some.inj h';subst e;exact .inl ⟨rfl,by by_cases z:k'=.free;exact .inr z;exact .inl z⟩
   |false=>
    rw[hx] at h';exact ih h'
theorem qfgz{x:Str}{k:NameKind}{l:List (Str×NameKind)}(h:l.lookup x=some k):(x,k)∈l:=PySem.mem_of_lookup h
section
variable {X:Cx} {pins:List (Addr×Obj)} {σ:St} {H:Hp} {s:Shared} {scope:Scope} {own:List Str} {js:List Nat} {fp:List Addr}
theorem CmpOk.cells(C:CmpOk X.N X.env.scope scope own js)(ok:X.Ok):∀y∈scope.names,y.2=.free->∃c,X.env.cells.lookup y.1=some c:=fun y hy e=>
 ok.has y.1 (.inl (C.free y hy e).1)
theorem CmpOk.cl_of(C:CmpOk X.N X.env.scope scope own js)(ok:X.Ok){x:Str}{c:Addr}(h:(clos X.env scope.names []).lookup x=some c):(x,NameKind.free)∈scope.names/\X.env.cells.lookup x=some c:=by
 rcases qh9z scope.names [] h with q|⟨q1,q2⟩
 ·cases q
 ·obtain⟨c',e⟩:=C.cells ok _ q1 rfl;refine⟨q1,?_⟩;rw[q2,show X.env.cells.lookup x=some c' from e];rfl
theorem CmpOk.cl_has(C:CmpOk X.N X.env.scope scope own js)(ok:X.Ok){x:Str}(h:(x,NameKind.free)∈scope.names):∃c,(clos X.env scope.names []).lookup x=some c/\X.env.cells.lookup x=some c:=by
 obtain⟨c,e⟩:=C.cells ok _ h rfl;refine⟨c,?_,e⟩;rw[qibz scope.names [] h,show X.env.cells.lookup x=some c from e];rfl
theorem Inv.cmpOk(I:Inv X pins σ H s)(C:CmpOk X.N X.env.scope scope own js)(hf:∀b∈fp,FpOk X pins H b/\b<s.heap.objs.size):(X.cmp scope own js s H fp).Ok where
 mod:=I.ok.mod
 kind:=C.kind
 glob:=I.ok.glob
 blt:=I.ok.blt
 above:=Nat.le_refl _
 inj:=fun x y c h1 h2=>I.ok.inj x y c (C.cl_of I.ok h1).2 (C.cl_of I.ok h2).2
 has:=fun x h=>by
  have hfree:(x,NameKind.free)∈scope.names:=by
   rcases h with h|h
   ·rcases qduz (sc:=scope) (env:=X.env) scope.names h with⟨q,_⟩|⟨_,q⟩
    ·exact absurd rfl (C.nocell _ (qfgz q))
    ·exact qfgz q
   ·rcases qduz (sc:=scope) (env:=X.env) scope.names h with⟨q,_⟩|⟨q,_⟩
    ·exact qfgz q
    ·cases q
  obtain⟨c,e,_⟩:=C.cl_has I.ok hfree;exact⟨c,e⟩
 cab:=fun x c h1 h2=>by
  have q:=(C.free _ (C.cl_of I.ok h2).1 rfl).2;have h1':own.contains x=true:=h1;rw[q] at h1';cases h1'
 hd:=I.ok.hd
 frames:=I.ok.frames
 stk:=.inl rfl
 exf:=fun b hb=>⟨Nat.ne_of_lt (hf b hb).2,fun x c e=>(hf b hb).1.2.2.2.2.1 x c (C.cl_of I.ok e).2⟩
 bs:=I.bs
 bsz:=Nat.le_trans I.ok.bsz I.sz
 noex:=fun b o e hb=>by
  rcases (hf b hb).1.2.2.2.1 with z|z
  ·exact I.ok.noex b o e z
  ·exact absurd (Nat.lt_of_lt_of_le (Heap.lt_size e) (Nat.le_trans I.ok.bsz z)) (Nat.lt_irrefl _)
 exfs:=fun b hb z=>by
  rcases List.mem_cons.mp (I.stkSub b z) with e|e
  ·exact (hf b hb).1.2.1 e
  ·exact (hf b hb).1.2.2.1 e
 funs:=I.stack
 frf:=I.stkFree
theorem qp2z{N:List Str}{js:List Nat}{i:Nat}{x:Str}(h:(js.map fun j=>N.getD j Str.empty)[i]?=some x):∃j,js[i]?=some j/\x=N.getD j Str.empty:=by
 rw[List.getElem?_map] at h;cases e:js[i]? with
 |none=>rw[e] at h;cases h
 |some j=>rw[e] at h;exact⟨j,rfl,(Option.some.inj h).symm⟩
theorem Inv.cmp(I:Inv X pins σ H s)(C:CmpOk X.N X.env.scope scope own js)(hf:∀b∈fp,FpOk X pins H b/\b<s.heap.objs.size){h':Heap}{tk:Nat}(hn:h'.Ns s.heap.objs.size fun _=>none)
  (kept:∀b o,s.heap.get? b=some o->h'.get? b=some o):Inv (X.cmp scope own js s H fp) [] (cmpSt own js σ) H { s with heap:=h',toks:=tk }:=by
 have ok:=I.cmpOk C hf;refine⟨ok,rfl,I.bare,Un.kept kept,⟨_,hn,fun i x v h1 h2 h3=>?_⟩,fun x c e=>?_,I.hok.fresh (Nat.le_refl _),fun x c e=>I.freeC x c (C.cl_of I.ok e).2,fun p hp=>?_,I.hok.kept kept,?_⟩
 ·have h1':(own++js.map fun j=>X.N.getD j Str.empty)[i]?=some x:=h1;have h2':(List.replicate own.length none++js.map fun j=>(σ[j]?).getD none)[i]?=some (some v):=h2;by_cases hi:i<own.length
  ·rw[List.getElem?_append_left (by simpa using hi),List.getElem?_replicate,if_pos hi] at h2';cases h2'
  ·rw[List.getElem?_append_right (by omega)] at h1';rw[List.getElem?_append_right (by simp;omega),List.length_replicate] at h2';obtain⟨j,hj,rfl⟩:=qp2z h1';rw[List.getElem?_map,hj] at h2';have h2'':(σ[j]?).getD none=some v:=Option.some.inj h2';have hσ:σ[j]?=some (some v):=by
    cases e:σ[j]? with
    |none=>rw[e] at h2'';cases h2''
    |some o=>
     rw[e] at h2'';have:o=some v:=h2'';rw[this]
   obtain⟨jl,jf⟩:=C.js j (List.mem_of_getElem? hj);have hN:X.N[j]?=some (X.N.getD j Str.empty):=by
    rw[List.getD_eq_getElem?_getD,List.getElem?_eq_getElem jl];rfl
   have hcell:=(C.free _ jf rfl).1;obtain⟨m,hm,hl⟩:=I.loc;obtain⟨u,ru,lk⟩:=hl j _ v hN hσ (.inr (.inl hcell));refine⟨u,ru,?_⟩;obtain⟨c,e1,e2⟩:=C.cl_has I.ok jf;rcases lk with⟨z,_⟩|⟨_,c',z1,z2⟩
   ·have z':X.env.scope.names.lookup (X.N.getD j Str.empty)=some .local:=z;rw[show X.env.scope.names.lookup (X.N.getD j Str.empty)=some .cell from hcell] at z';cases z'
   ·rw[e2] at z1;cases z1;have ic:h'.IsCell c (some u):=by
     obtain⟨o,q1,q2⟩:=z2;exact⟨o,kept _ _ q1,q2⟩
    rcases h3 with h3|h3|h3
    ·exfalso;rcases qduz (sc:=scope) (env:=X.env) scope.names h3 with⟨q,_⟩|⟨q,_⟩
     ·have z:=C.only _ jf rfl;rw[q] at z;cases z
     ·cases q
    ·exact .inr ⟨.inl h3,c,e1,ic⟩
    ·exact .inr ⟨.inr h3,c,e1,ic⟩
 ·obtain⟨v,o,q1,q2⟩:=I.cell x c (C.cl_of I.ok e).2;exact⟨v,o,kept _ _ q1,q2⟩
 ·exact absurd (show p∈([]:List (Addr×Obj)) from hp) (by simp)
 ·show (List.replicate own.length none++js.map fun j=>(σ[j]?).getD none).length=(own++js.map fun j=>X.N.getD j Str.empty).length;simp
theorem Inv.uncmp{σ':St}{H':Hp}{s':Shared}{pl:List (Addr×Obj)}(I:Inv X pins σ H s)(hf:∀b∈fp,FpOk X pins H b/\b<s.heap.objs.size)(J:Inv (X.cmp scope own js s H fp) pl σ' H' s'):Inv X pins σ H' s':=by
 refine I.call' (ch:=fp) J.os J.base J.hok J.bare fun b hb=>?_;obtain⟨f0,f1,f2,f3,f4,f5⟩:=(hf b hb).1;exact⟨f3,f1,f4,f5⟩
theorem Inv.other{H':Hp}{s':Shared}{h':Heap}{b:Addr}(I0:Inv X pins σ H s)(I:Inv X pins σ H' s')(hb:s.heap.objs.size≤b)(hn:H' b=none)(sb:Heap.SameBut b s'.heap h'):Inv X pins σ H' { s' with heap:=h' }:=by
 obtain⟨f0,f1,f2,f3,f4,f5⟩:=I0.fpOk hb hn;exact I.turned (t':=s'.toks) (fun c o hc e=>(sb.2 c hc).trans e) f0 f1 f3 f4 f5
end
def PCt(X:Cx)(ifs:List Expr)(t:TT):Prop:=
 ∀(pins:List (Addr×Obj)) (s:Shared) (σ:St) (H:Hp) (Q:Bool->Hp->Prop),Inv X pins σ H s->t σ H Q ->
  wpAny (model X.prog X.w) X.A (forIn ifs true fun c r=>if r=true then do let ok ←isTrue c X.env (eval c X.env);pure (ForInStep.yield ok) else pure (ForInStep.yield r)) (TP X pins σ Q) X.xe s
def tNoTest:TT:=fun _ H Q=>Q true H
theorem qp3z{X:Cx}:PCt X [] tNoTest:=fun _ _ _ H _ I h=>wpAny_tests_nil ⟨H,I,h⟩
theorem qp4z{X:Cx}{c:Expr}{t:TT}(h:PT X c t):PCt X [c] t:=fun pins s σ H Q I hq=>wpAny_tests_one (h pins s σ H Q I hq)
section
variable {prog:Program} {w:World} {A:Around} {R:Result->Shared->Prop} {s:Shared}
theorem qp5z{elt target iter:Expr}{ifs:List Expr}{scope:Scope}{pos:Pos}{it acc:Value}{env:Env}(I:Nat->Shared->Prop)
  (turn:∀n s,I n s->wpAny (model prog w) A (pyNext it) (fun r s₁=>match r with
   |none=>R (.ok .next) s₁
   | some v=>wpAny (model prog w) A (letOwnedTupleGo target it v) (fun _ s₁'=>wpAny (model prog w) A (assign target env v) (fun _ s₂=>
     wpAny (model prog w) A (forIn ifs true fun c r=>if r=true then do let ok ←isTrue c env (eval c env);pure (ForInStep.yield ok) else pure (ForInStep.yield r)) (fun ok s₃=>
      if ok=true then wpAny (model prog w) A (eval elt env) (fun x s₄=>
       wpAny (model prog w) A (call (.builtin "list.append") [acc,x]) (fun _ s₅=>∃m,m<n/\I m s₅) (fun _ _=>False) s₄) (fun _ _=>False) s₃
      else ∃m,m<n/\I m s₃) (fun _ _=>False) s₂) (fun _ _=>False) s₁') (fun _ _=>False) s₁) (fun _ _=>False) s)
  (n:Nat) (h:I n s):
  codeAny (model prog w) A (.compLoop (.ListComp elt [⟨target,iter,ifs,0⟩] scope pos) 0 it acc env) R s:=by
 refine codeAny_loop rfl I (fun n s hI=>?_) n h;show wpAny _ A ((compTurn (.ListComp elt [⟨target,iter,ifs,0⟩] scope pos) 0 it acc env).onRaise (fun x=>do noteFrame x env;theTreesLotGoes x)) _ _ s
 refine wpAny_noted ?_;rw[compTurn_list];refine wpAny_bind (wpAny_standAt (wpAny_bind (wpAny_mono (turn n s hI) (fun r s₁ h₁=>?_) fun _ _ h'=>h'.elim)));cases r with
 |none=>exact wpAny_pure h₁
 |some v=>
  refine wpAny_bind (wpAny_mono h₁ (fun _ s₁' h₁'=>?_) fun _ _ h'=>h'.elim);refine wpAny_bind (wpAny_mono h₁' (fun _ s₂ h₂=>wpAny_bind (wpAny_mono h₂ (fun ok s₃ h₃=>?_) fun _ _ h'=>h'.elim)) fun _ _ h'=>h'.elim);cases ok with
  |false=>exact wpAny_pure ⟨rfl,h₃⟩
  |true=>
   exact wpAny_bind (wpAny_bind (wpAny_mono h₃ (fun x s₄ h₄=>wpAny_bind (wpAny_mono h₄ (fun _ s₅ h₅=>wpAny_pure (wpAny_pure ⟨rfl,h₅⟩)) fun _ _ h'=>h'.elim)) fun _ _ h'=>h'.elim))
end
def LcRd(own:List Str)(js:List Nat)(g:TG)(tc:TT)(te:TE)(J:It)(σ:St)(H:Hp)(Q:VK):Prop:=
 ∀D,H D=none->∃W:Nat->Nat->List V->St->Hp->Prop,(∃m,W 0 m [] (cmpSt own js σ) (upd H D (.lst [])))/\∀i m ys σ' H',W i m ys σ' H'->H' D=some (.lst ys) ∧
  ((J.stop i H'/\Q (.ref D) H')∨(J.go i H'/\ys.length<sizeLine/\∀x H2,J.yld i H' x H2->g x σ' H2 fun σ2 H3=>tc σ2 H3 fun b H4=>
   if b=true then te σ2 H4 fun v H5=>H5 D=some (.lst ys)/\∃m',m' < m/\W (i+1) m' (ys++[v]) σ2 (upd H5 D (.lst (ys++[v]))) else ∃m',m' < m/\W (i+1) m' ys σ2 H4))
def tLc(own:List Str)(js:List Nat)(wi:TI)(g:TG)(tc:TT)(te:TE):TE:=fun σ H Q=>wi σ H fun J H1=>LcRd own js g tc te J σ H1 Q
section
variable {X:Cx} {tg iter elt:Expr} {ifs:List Expr} {scope:Scope} {pos:Pos} {own:List Str} {js:List Nat} {g:TG} {tc:TT} {te:TE}
theorem qicz{pins:List (Addr×Obj)}{σ:St}{H:Hp}{s:Shared}{Q:VK}{it:Addr}{fp:List Addr}{tn:Nat->Heap->Prop}{J:It}{E:Value->Shared->Prop}{RR:Value->Addr->Result->Shared->Prop}
  (hc:X.calm=true) (C:CmpOk X.N X.env.scope scope own js)
  (hb:∀s H fp,PG (X.cmp scope own js s H fp) tg g/\PCt (X.cmp scope own js s H fp) ifs tc/\PE (X.cmp scope own js s H fp) elt te)
  (I:Inv X pins σ H s) (T:Turn X.prog X.w X.K tg J fp it tn) (st:tn 0 s.heap) (hf:∀b∈fp,FpOk X pins H b) (rd:LcRd own js g tc te J σ H Q)
  (hRR:∀D N s' H',Inv X pins σ H' s'->Q (.ref D) H'->s.heap.objs.size≤N->H' N=none->(∃m,s'.heap.Ns N m)->RR (.ref D) N (.ok .next) s'):
  wpAny (model X.prog X.w) X.A (newList []) (fun acc s₃=>wpAny (model X.prog X.w) X.A (newFunctionEnv scope X.env.globals (clos X.env scope.names []) [] X.env.qual none .none (some X.env)) (fun cenv s₄=>
   codeAny (model X.prog X.w) X.A (.compStart (.ListComp elt [⟨tg,iter,ifs,0⟩] scope pos) 0 (.ref it) acc { cenv with scope:=relabel scope X.env }) (RR acc cenv.locals) s₄) E s₃) E s:=by
 have hD:H s.heap.objs.size=none:=I.fresh;obtain⟨W,⟨m0,w0⟩,turn⟩:=rd s.heap.objs.size hD;refine wpAny_newObj_type ?_;have hI3:Inv X pins σ (upd H s.heap.objs.size (.lst [])) { s with heap:=s.heap.push { cls:=.type "list",data:=.seq ([]:List Value).toArray }}:=
  I.lnew (t':=s.toks) (its:=[]) (ys:=[]) .nil (Nat.zero_le _)
 have hlt:∀b∈fp,b<s.heap.objs.size:=fun b hb=>by
  obtain⟨o,e,_⟩:=T.obj 0 _ st b hb;exact Heap.lt_size e
 have st3:tn 0 (s.heap.push { cls:=.type "list",data:=.seq ([]:List Value).toArray }):=T.keep 0 _ _ st fun b _ o e=>Heap.get?_push_of_some _ e;generalize hs3:({ s with heap:=s.heap.push { cls:=.type "list",data:=.seq ([]:List Value).toArray }}:Shared)=s3 at hI3 ⊢;have hsz3:s3.heap.objs.size=s.heap.objs.size+1:=by rw[←hs3];exact Heap.size_push ..
 have st3':tn 0 s3.heap:=by rw[←hs3];exact st3
 have hf3:∀b∈fp,FpOk X pins (upd H s.heap.objs.size (.lst [])) b/\b<s3.heap.objs.size:=fun b hb=>by
  obtain⟨f0,f1⟩:=hf b hb;refine⟨⟨?_,f1⟩,by rw[hsz3];exact Nat.lt_succ_of_lt (hlt b hb)⟩;rw[qiz (Nat.ne_of_lt (hlt b hb))];exact f0
 refine wpAny_newFunctionEnv C.nocell (by intro y hy;simp at hy) (fun h₁ hns₁ hsb₁=>?_) C.kind;have kept1:∀b o,s3.heap.get? b=some o->h₁.get? b=some o:=fun b o e=>(hsb₁.2 b (Nat.ne_of_lt (Heap.lt_size e))).trans (Heap.get?_push_of_some _ e);have I4:Inv (X.cmp scope own js s3 (upd H s.heap.objs.size (.lst [])) fp) [] (cmpSt own js σ) (upd H s.heap.objs.size (.lst [])) { s3 with heap:=h₁,toks:=s3.toks+([]:List (Str×Value)).length }:=
  hI3.cmp C hf3 hns₁ kept1
 have st4:tn 0 h₁:=T.keep 0 _ _ st3' fun b _ o e=>kept1 b o e;obtain⟨hg,ht,he⟩:=hb s3 (upd H s.heap.objs.size (.lst [])) fp
 -- the iterator's objects in the block's context
 have stat:∀{H':Hp},(∀b∈fp,H' b=none)->∀b∈fp,FpOk (X.cmp scope own js s3 (upd H s.heap.objs.size (.lst [])) fp) [] H' b:=fun {H'} hn b hb=>by
  have q:=I4.ok;exact⟨hn b hb,(q.exf b hb).1,q.exfs b hb,.inl hb,(q.exf b hb).2,fun p hp=>absurd (show p∈([]:List (Addr×Obj)) from hp) (by simp)⟩
 have loop:codeAny (model X.prog X.w) X.A (.compLoop (.ListComp elt [⟨tg,iter,ifs,0⟩] scope pos) 0 (.ref it) (.ref s.heap.objs.size) (compEnvC scope (clos X.env scope.names []) s3.heap.objs.size X.env))
   (RR (.ref s.heap.objs.size) s3.heap.objs.size) { s3 with heap:=h₁,toks:=s3.toks+([]:List (Str×Value)).length }:=by
  refine qp5z (fun n s'=>∃i ys σ' H',Inv (X.cmp scope own js s3 (upd H s.heap.objs.size (.lst [])) fp) [] σ' H' s'/\tn i s'.heap/\(∀b∈fp,H' b=none)/\W i n ys σ' H') ?_ m0
   ⟨0,[],_,_,I4,st4,fun b hb=>(hf3 b hb).1.1,w0⟩
  rintro n s5 ⟨i,ys,σ5,H5,I5,st5,fr5,w5⟩;obtain⟨hacc,hcase⟩:=turn i n ys σ5 H5 w5;rcases hcase with⟨stop,qn⟩|⟨go,hys,step⟩
  ·refine thn (T.done (X.cmp scope own js s3 (upd H s.heap.objs.size (.lst [])) fp) rfl rfl rfl hc i [] s5 σ5 H5 (fun _ _=>False) I5 (stat fr5) st5 stop) fun r s6 ⟨hr,I6⟩=>?_;subst hr;have I7:=hI3.uncmp hf3 I6;obtain⟨m,hm,_⟩:=I6.loc;exact hRR _ _ _ _ I7 qn (by rw[hsz3];exact Nat.le_succ _) I6.free ⟨m,hm⟩
  ·refine thn (T.item (X.cmp scope own js s3 (upd H s.heap.objs.size (.lst [])) fp) rfl rfl rfl hc i [] s5 σ5 H5 (fun _ _=>False) I5 (stat fr5) st5 go) fun r s6 ⟨u,hr,h6⟩=>?_;subst hr;refine thn h6 fun _ s7 ⟨x,H7,I7,r7,y7,st7,fr7⟩=>?_;have I7':=I7.pinned (stat fr7) (T.obj _ _ st7);refine thn (hg _ s7 σ5 H7 x u _ I7' r7 (step x H7 y7)) fun _ s8 ⟨σ8,H8,I8,q8⟩=>?_;refine thn (ht _ s8 σ8 H8 _ I8 q8) fun ok s9 ⟨H9,I9,q9⟩=>?_;have back:∀{σ':St} {H':Hp} {s':Shared} {ys':List V},Inv (X.cmp scope own js s3 (upd H s.heap.objs.size (.lst [])) fp) ([]++pinsAt fp s7.heap) σ' H' s'->(∃m',m' < n/\W (i+1) m' ys' σ' H') ->
     ∃m',m' < n/\∃i ys σ' H',Inv (X.cmp scope own js s3 (upd H s.heap.objs.size (.lst [])) fp) [] σ' H' s'/\tn i s'.heap/\(∀b∈fp,H' b=none)/\W i m' ys σ' H':=fun {σ' H' s' ys'} I' ⟨m',hm,w'⟩=>by
    refine⟨m',hm,i+1,ys',σ',H',I'.unpinned,T.keep _ _ _ st7 fun b hb o e=>(I'.pin (b,o) (List.mem_append_right _ (List.mem_append_right _ (qdpz hb e)))).1,fun b hb=>?_,w'⟩;obtain⟨o,e,d⟩:=T.obj _ _ st7 b hb;exact (I'.pin (b,o) (List.mem_append_right _ (List.mem_append_right _ (qdpz hb e)))).2.1
   cases ok with
   |false=>
    rw[if_neg Bool.false_ne_true] at q9 ⊢;exact back I9 q9
   |true=>
    rw[if_pos rfl] at q9 ⊢;refine thn (he _ s9 σ8 H9 _ I9 q9) fun xv s10 ⟨v,H10,I10,r10,hD10,q10⟩=>?_;refine thn (qcsz (X:=X.cmp scope own js s3 (upd H s.heap.objs.size (.lst [])) fp) _ s10 σ8 H10 (.ref s.heap.objs.size) [v] (.ref s.heap.objs.size) [xv] (fun _ H'=>H'=upd H10 s.heap.objs.size (.lst (ys++[v]))) I10 rfl (.cons r10 .nil)
     ⟨_,ys,v,rfl,rfl,hD10,hys,rfl⟩) fun _ s11 ⟨_,H11,I11,_,e11⟩=>?_
    subst e11;exact back I11 q10
 exact codeAny_compStart_list loop (T.self _ 0 _ _ _ st4 loop)
theorem qp6z{wi:TI}(hc:X.calm=true)(C:CmpOk X.N X.env.scope scope own js)(hi:PI X tg iter wi)
  (hb:∀s H fp,PG (X.cmp scope own js s H fp) tg g/\PCt (X.cmp scope own js s H fp) ifs tc/\PE (X.cmp scope own js s H fp) elt te)
  (hs:∀x,foldedSetIterable iter X.env x=pure x:=by intro _;rfl):PE X (.ListComp elt [⟨tg,iter,ifs,0⟩] scope pos) (tLc own js wi g tc te):=by
 intro pins s σ H Q I h;rw[eval_ListComp];refine wpAny_comprehension_free (use:=none) rfl hs (qh8z (C.cells I.ok)) C.kind C.names (thn (hi pins s σ H _ I h) fun xv s₁ h₁=>thn h₁ fun itv s₂ h₂=>?_);obtain⟨it,fp,tn,J,H2,e,I2,T,st2,f2,rd⟩:=h₂;subst e;refine qicz (RR:=fun acc C'=>compPost (model X.prog X.w) X.A X.xe none (EP X pins σ Q) acc C') hc C hb I2 T st2 f2 rd fun D N s' H' I' q hN hHN ⟨m,hm⟩=>?_;exact⟨m,hm,fun h' sb=>⟨.ref D,H',I2.other I' hN hHN sb,rfl,q⟩⟩
theorem qp7z{wi:TI}{i:Nat}{y:Str}{py spos:Pos}(hc:X.calm=true)(hN:X.N.Nodup)(hy:X.N[i]?=some y)(hyl:X.env.scope.names.lookup y=some .local)(C:CmpOk X.N X.env.scope scope own js)(hi:PI X tg iter wi)
  (hb:∀s H fp,PG (X.cmp scope own js s H fp) tg g/\PCt (X.cmp scope own js s H fp) ifs tc/\PE (X.cmp scope own js s H fp) elt te)
  (hsw:swapsWith (.ListComp elt [⟨tg,iter,ifs,0⟩] scope pos) (some (.Name y py)) spos.line X.env=pure true:=by rfl)
  (hs:∀x,foldedSetIterable iter X.env x=pure x:=by intro _;rfl):PS X (.Assign [.Name y py] (.ListComp elt [⟨tg,iter,ifs,0⟩] scope pos) spos) (tAsg (tLc own js wi g tc te) (gName i)):=by
 intro pins s σ H D I h;rw[exec_Assign_Name_used _ _ _ _ hsw];refine wpAny_bind (wpAny_standAt (wpAny_bind ?_));show wpAny _ X.A (do let _ ←comprehension (.ListComp elt [⟨tg,iter,ifs,0⟩] scope pos) scope X.env _ (newList []) false (eval iter X.env) (some (assign (.Name y py) X.env))) _ _ s;refine wpAny_bind (wpAny_mono (wpAny_comprehension_free (use:=some (assign (.Name y py) X.env)) (Q:=fun _ s'=>SP X pins D .next s') rfl hs (qh8z (C.cells I.ok)) C.kind C.names
  (thn (hi pins s σ H _ I h) fun xv s₁ h₁=>thn h₁ fun itv s₂ h₂=>?_)) (fun _ s' hq=>wpAny_pure (wpAny_pure hq)) fun _ _ e=>e)
 obtain⟨it,fp,tn,J,H2,e,I2,T,st2,f2,rd⟩:=h₂;subst e;refine qicz (RR:=fun acc C'=>compPost (model X.prog X.w) X.A X.xe (some (assign (.Name y py) X.env)) (fun _ s'=>SP X pins D .next s') acc C') hc C hb I2 T st2 f2 rd fun L N s' H' I' q hN' hHN ⟨m,hm⟩=>?_
 show wpAny _ _ (assign (.Name y py) X.env (.ref L)) _ _ _;refine wpAny_assign_Name (qe9z I' hN hy (.inl hyl) (v:=.ref L) rfl (fun s'' I'' ⟨a,sb,ha⟩=>?_) (.inr hyl));have hNa:N≠a:=by
  obtain⟨f0,f1,f2,f3,f4,f5⟩:=I2.fpOk hN' hHN;rcases ha with rfl|ha
  ·exact f1
  ·exact Ne.symm (f4 _ _ ha)
 refine⟨m,hm.sameBut sb hNa,fun h'' sb''=>?_⟩;refine⟨σ.set i (some (.ref L)),H',?_,q⟩;obtain⟨f0,f1,f2,f3,f4,f5⟩:=I2.fpOk hN' hHN;exact I''.turned (t':=s''.toks) (fun c o hc e=>(sb''.2 c hc).trans e) f0 f1 f3 f4 f5
end
end L2
namespace L3
open PySem PySem.Spec PyProof.Rows L2
section
variable {X:Cx} {st:Stmt} {rest:List Stmt} {t u:TS3} {e c:Expr} {te:TE3} {tc:TT3} {pos:Pos}
def sNext:TS3:=fun D τ G=>D.nx τ G
def sSeq(t u:TS3):TS3:=fun D τ G=>t { D with nx:=u D } τ G
theorem qp8z:PSs3 X [] sNext:=qh6z qnaz fun D σ H ⟨τ,G,D3,RS,RG,h,k⟩=>k.nx τ σ G H RS (.refl H G) RG h
theorem qp9z(h1:PS3 X st t)(h2:PSs3 X rest u):PSs3 X (st::rest) (sSeq t u):=qh6z (qnbz h1 h2) fun D σ H ⟨τ,G,D3,RS,RG,h,k⟩=>
 ⟨τ,G,{ D3 with nx:=u D3 },RS,RG,h,⟨fun τ' σ' G' H' a b c q=>⟨τ',G',D3,a,c,q,k.step b⟩,k.bk,k.ct,k.rt⟩⟩
theorem qqaz(h1:PS3 X st t):PSs3 X [st] t:=qncz h1
def sDrop(te:TE3):TS3:=fun D τ G=>te τ G fun _ G1=>D.nx τ G1
theorem qqbz(he:PE3 X e te)(hs:swapsWith e none pos.line X.env=pure false:=by rfl):PS3 X (.Expr e pos) (sDrop te):=qayz (qndz he hs) fun D σ H ⟨τ,G,D3,RS,RG,h,k⟩=>
 ⟨τ,G,_,RS,RG,h,fun v H1 d G1 h1 S1 R1 q1=>k.nx τ σ G1 H1 (RS.ext (S1.ext RG)) S1 R1 q1⟩
def sRet(te:TE3):TS3:=fun D τ G=>te τ G D.rt
theorem qqcz(he:PE3 X e te):PS3 X (.Return (some e) pos) (sRet te):=qayz (qnez he) fun D σ H ⟨τ,G,D3,RS,RG,h,k⟩=>
 ⟨τ,G,D3.rt,RS,RG,h,fun v H1 d G1 h1 S1 R1 q1=>k.rt d v G1 H1 h1 S1 R1 q1⟩
def sIf(c:TT3)(t u:TS3):TS3:=fun D τ G=>c τ G fun b G1=>Br b (t D τ G1) (u D τ G1)
theorem s_if{a b:List Stmt}(hc:PT3 X c tc)(ha:PSs3 X a t)(hb:PSs3 X b u):PS3 X (.If c a b pos) (sIf tc t u):=qayz (qnfz hc ha hb) fun D σ H ⟨τ,G,D3,RS,RG,h,k⟩=>
 ⟨τ,G,_,RS,RG,h,fun b H1 G1 S1 R1 q1=>Br.ite q1 (fun q=>⟨τ,G1,D3,RS.ext (S1.ext RG),R1,q,k.step S1⟩) fun q=>⟨τ,G1,D3,RS.ext (S1.ext RG),R1,q,k.step S1⟩⟩
end
abbrev TG3:=D->S3->Gp->(S3->Gp->Prop)->Prop
abbrev TGs3:=List D->S3->Gp->(S3->Gp->Prop)->Prop
def lowG(K:PySem.W.Frag)(t:TG3):TG:=fun v σ H Q=>∃d τ G Q3,Hv K H d v/\RepS K τ σ H/\RepG K G H/\t d τ G Q3/\∀τ' σ' G' H',RepS K τ' σ' H'->Step H G H' G'->RepG K G' H'->Q3 τ' G'->Q σ' H'
def lowGs(K:PySem.W.Frag)(t:TGs3):TGs:=fun vs σ H Q=>∃ds τ G Q3,Hvs K H ds vs/\RepS K τ σ H/\RepG K G H/\t ds τ G Q3/\∀τ' σ' G' H',RepS K τ' σ' H'->Step H G H' G'->RepG K G' H'->Q3 τ' G'->Q σ' H'
abbrev PG3(X:Cx)(tg:Expr)(t:TG3):Prop:=PG X tg (lowG X.K t)
abbrev PGs3(X:Cx)(tgs:List Expr)(t:TGs3):Prop:=PGs X tgs (lowGs X.K t)
section
variable {X:Cx} {pos:Pos} {e:Expr} {es:List Expr}
theorem qfhz{t t':TG}(h:PG X e t)(f:∀v σ H Q,t' v σ H Q->t v σ H Q):PG X e t':=fun pins s σ H v u Q I r q=>h pins s σ H v u Q I r (f v σ H Q q)
theorem qidz{t t':TGs}(h:PGs X es t)(f:∀v σ H Q,t' v σ H Q->t v σ H Q):PGs X es t':=fun pins s σ H v u Q I r q=>h pins s σ H v u Q I r (f v σ H Q q)
def hName(i:Nat):TG3:=fun d τ G Q=>Q (set3 τ i d) G
theorem qqdz{i:Nat}{x:Str}(hN:X.N.Nodup)(hi:X.N[i]?=some x:=by rfl)(hx:Loc X.env.scope x:=by first|exact Or.inl rfl|exact Or.inr rfl)(hf:X.fn x=true∨X.env.scope.names.lookup x=some .local:=by first|exact .inl rfl|exact .inr rfl|assumption):PG3 X (.Name x pos) (hName i):=
 qfhz (qngz hN hi hx hf) fun v σ H Q ⟨d,τ,G,Q3,hd,RS,RG,h,k⟩=>k _ _ G H (RS.set hd) (.refl H G) RG h
def hNil:TGs3:=fun ds τ G Q=>match ds with
 |[]=>Q τ G
 |_::_=>False
def hCons(t:TG3)(u:TGs3):TGs3:=fun ds τ G Q=>match ds with
 |[]=>False
 |d::r=>t d τ G fun τ' G'=>u r τ' G' Q
theorem qqez:PGs3 X [] hNil:=qidz qnhz fun vs σ H Q ⟨ds,τ,G,Q3,hd,RS,RG,h,k⟩=>by
 cases ds with
 |nil=>exact⟨hd.inv0,k _ _ G H RS (.refl H G) RG h⟩
 |cons d r=>exact h.elim
theorem qqfz{t:TG3}{u:TGs3}(h1:PG3 X e t)(h2:PGs3 X es u)(hs:(assignEach (e::es) X.env).map (·.2)=assign e X.env::(assignEach es X.env).map (·.2):=by rfl):PGs3 X (e::es) (hCons t u):=
 qidz (qniz h1 h2 hs) fun vs σ H Q ⟨ds,τ,G,Q3,hd,RS,RG,h,k⟩=>by
  cases ds with
  |nil=>exact h.elim
  |cons d r=>
   obtain⟨v,vr,rfl,q1,q2⟩:=hd.inv;refine⟨v,vr,rfl,d,τ,G,_,q1,RS,RG,h,fun τ' σ' G' H' a b c q=>?_⟩;exact⟨r,τ',G',Q3,q2.ext (b.ext RG),a,c,q,fun τ2 σ2 G2 H2 a2 b2 c2=>k τ2 σ2 G2 H2 a2 (b.trans b2) c2⟩
def hTup(n:Nat)(t:TGs3):TG3:=fun d τ G Q=>match d with
 |.tup ds=>ds.length=n/\t ds τ G Q
 |_=>False
theorem qqgz{k:Nat}{t:TGs3}{n:Nat}(hc:X.calm=true)(h:PGs3 X es t)(hn:(assignEach es X.env).length=n:=by rfl)(hst:(assignEach es X.env).findIdx? (·.1)=none:=by rfl):PG3 X (.Tuple es k pos) (hTup n t):=
 qfhz (qnjz hc h hn hst) fun v σ H Q ⟨d,τ,G,Q3,hd,RS,RG,h,k⟩=>by
  cases d with
  |tup ds=>
   unfold Hv at hd;obtain⟨a,vs,e1,e2,e3⟩:=hd;exact⟨a,vs,e1,e2,by rw[←e3.length];exact h.1,ds,τ,G,Q3,e3,RS,RG,h.2,k⟩
  |_=>exact h.elim
def sAsg(te:TE3)(g:TG3):TS3:=fun D τ G=>te τ G fun x G1=>g x τ G1 D.nx
theorem qqhz{tg:Expr}{te:TE3}{g:TG3}(he:PE3 X e te)(hg:PG3 X tg g)(hs:swapsWithSole [tg] e pos.line X.env=pure false:=by rfl)(hw:swappedStores [tg] e X.env=pure none:=by rfl)
  (h1:(assignEach [tg] X.env).map (·.2)=[assign tg X.env]:=by rfl):PS3 X (.Assign [tg] e pos) (sAsg te g):=qayz (qnlz he hg hs hw h1) fun D σ H ⟨τ,G,D3,RS,RG,h,k⟩=>
 ⟨τ,G,_,RS,RG,h,fun v H1 d G1 h1 S1 R1 q1=>⟨d,τ,G1,D3.nx,h1,RS.ext (S1.ext RG),R1,q1,fun τ' σ' G' H' a b c q=>k.nx τ' σ' G' H' a (S1.trans b) c q⟩⟩
theorem qqiz{i:Nat}{x:Str}{te:TE3}{pos':Pos}(hN:X.N.Nodup)(he:PE3 X e te)(hi:X.N[i]?=some x:=by rfl)(hx:Loc X.env.scope x:=by first|exact Or.inl rfl|exact Or.inr rfl)(hs:swapsWith e (some (.Name x pos')) pos.line X.env=pure false:=by rfl)
  (hf:X.fn x=true∨X.env.scope.names.lookup x=some .local:=by first|exact .inl rfl|exact .inr rfl|assumption):PS3 X (.Assign [.Name x pos'] e pos) (sAsg te (hName i)):=qayz (qnmz hN hi hx he hs hf) fun D σ H ⟨τ,G,D3,RS,RG,h,k⟩=>
 ⟨τ,G,_,RS,RG,h,fun v H1 d G1 h1 S1 R1 q1=>k.nx _ _ G1 H1 ((RS.ext (S1.ext RG)).set h1) S1 R1 q1⟩
def rSet3:D->D->D->Gp->(Gp->Prop)->Prop:=fun o i v G Q=>match o,i with
 |.obj p,.int k=>∃ds j,G p=some (.lst ds)/\ixN ds.length k=some j/\Q (upd3 G p (.lst (ds.set j v)))
 |_,_=>False
def hSub(to ti:TE3):TG3:=fun v τ G Q=>to τ G fun o G1=>ti τ G1 fun i G2=>rSet3 o i v G2 fun G3=>Q τ G3
theorem qqjz{K:PySem.W.Frag}{o i v:D}{vo vi vv:V}{G:Gp}{H:Hp}{Q3:Gp->Prop}{Q:Hp->Prop}(ho:Hv K H o vo)(hi:Hv K H i vi)(hv:Hv K H v vv)(RG:RepG K G H)(h:rSet3 o i v G Q3)
  (k:∀H' G',Step H G H' G'->RepG K G' H'->Q3 G'->Q H'):rSetL vo vi vv H Q:=by
 match o,i,ho,hi,h with
 |.obj p,.int j,ho,hi,h=>
  unfold Hv at ho hi;obtain⟨ds,n,e1,e2,q⟩:=h;obtain⟨vs,e3,e4⟩:=RG p _ e1;refine⟨p,vs,j,n,ho,hi,e3,by rw[←e4.length];exact e2,k _ _ (Step.wrote (g:=.lst (ds.set n v)) e1) (RG.wrote e3 ⟨_,qrz,?_⟩) q⟩;exact (e4.ext (Ext.wrote e3)).set n (hv.ext (Ext.wrote e3))
 |.obj _,.non,_,_,h=>exact h.elim
 |.obj _,.bl _,_,_,h=>exact h.elim
 |.obj _,.str _,_,_,h=>exact h.elim
 |.obj _,.tup _,_,_,h=>exact h.elim
 |.obj _,.scr _,_,_,h=>exact h.elim
 |.obj _,.obj _,_,_,h=>exact h.elim
 |.obj _,.dc _,_,_,h=>exact h.elim
 |.dc _,_,_,_,h=>exact h.elim
 |.non,_,_,_,h=>exact h.elim
 |.bl _,_,_,_,h=>exact h.elim
 |.int _,_,_,_,h=>exact h.elim
 |.str _,_,_,_,h=>exact h.elim
 |.tup _,_,_,_,h=>exact h.elim
 |.scr _,_,_,_,h=>exact h.elim
theorem qqkz{o i:Expr}{to ti:TE3}(ho:PE3 X o to)(hi:PE3 X i ti)
  (ha:∀v,assign (.Subscript o i pos) X.env v=(do
   let ov ←holding [v] (eval o X.env)
   let iv ←holding [v,ov] (eval i X.env)
   standAt pos
   holding [v,ov,iv] (setItem ov iv v)
   release [v,ov,iv] []):=by intro _;rfl):PG3 X (.Subscript o i pos) (hSub to ti):=qfhz (qnkz ho hi set_list ha) fun v σ H Q ⟨d,τ,G,Q3,hd,RS,RG,h,k⟩=>
 ⟨τ,G,_,RS,RG,h,fun v1 H1 d1 G1 h1 S1 R1 q1=>⟨τ,G1,_,RS.ext (S1.ext RG),R1,q1,fun v2 H2 d2 G2 h2 S2 R2 q2=>
  qqjz (h1.ext (S2.ext R1)) h2 ((hd.ext (S1.ext RG)).ext (S2.ext R1)) R2 q2 fun H' G' y1 y2 y3=>k _ _ G' H' (((RS.ext (S1.ext RG)).ext (S2.ext R1)).ext (y1.ext R2)) ((S1.trans S2).trans y1) y2 y3⟩⟩
def sWhile(c:TT3)(tb:TS3):TS3:=fun D τ G=>∃W:Nat->S3->Gp->Prop,(∃m,W m τ G)/\∀m τ G,W m τ G ->
 c τ G fun b G1=>Br b (tb { D with nx:=fun τ' G'=>∃m',m' < m/\W m' τ' G',ct:=fun τ' G'=>∃m',m' < m/\W m' τ' G',bk:=D.nx } τ G1) (D.nx τ G1)
theorem qqlz{c:Expr}{body:List Stmt}{tc:TT3}{tb:TS3}(hp:PassesOwn (model X.prog X.w) X.A X.env X.xe)(hc:PT3 X c tc)(hb:PSs3 X body tb):PS3 X (.While c body [] pos) (sWhile tc tb):=
 qayz (qnnz hp hc hb) fun D σ H ⟨τ,G,D3,RS,RG,⟨W,⟨m0,w0⟩,turn⟩,k⟩=>by
  refine⟨fun m σ' H'=>∃τ' G',W m τ' G'/\RepS X.K τ' σ' H'/\RepG X.K G' H'/\Step H G H' G',⟨m0,τ,G,w0,RS,RG,.refl H G⟩,fun m σ1 H1 ⟨τ1,G1,w1,RS1,RG1,S1⟩=>?_⟩;refine⟨τ1,G1,_,RS1,RG1,turn m τ1 G1 w1,fun b H2 G2 S2 R2 q2=>Br.ite q2 (fun q=>?_) fun q=>k.nx _ _ G2 H2 (RS1.ext (S2.ext RG1)) (S1.trans S2) R2 q⟩;refine⟨fun σ' H'=>∃τ' G',(∃m',m' < m/\W m' τ' G')/\RepS X.K τ' σ' H'/\RepG X.K G' H'/\Step H G H' G',fun σ' H' ⟨τ',G',⟨m',hm,w'⟩,a,b,c⟩=>⟨m',hm,τ',G',w',a,b,c⟩,?_⟩;refine⟨τ1,G2,_,RS1.ext (S2.ext RG1),R2,q,⟨?_,?_,?_,?_⟩⟩
  ·exact fun τ' σ' G' H' a b c q=>⟨τ',G',q,a,c,(S1.trans S2).trans b⟩
  ·exact fun τ' σ' G' H' a b c q=>k.nx τ' σ' G' H' a ((S1.trans S2).trans b) c q
  ·exact fun τ' σ' G' H' a b c q=>⟨τ',G',q,a,c,(S1.trans S2).trans b⟩
  ·exact fun d v G' H' a b c q=>k.rt d v G' H' a ((S1.trans S2).trans b) c q
end
abbrev Sp3:=List D->Gp->V3->Prop
def lowSp(K:PySem.W.Frag)(sp:Sp3):Sp:=fun vs H Q _=>∃ds G Q3,Hvs K H ds vs/\RepG K G H/\sp ds G Q3/\∀v H' d G',Hv K H' d v->Step H G H' G'->RepG K G' H'->Q3 d G'->Q v H'
abbrev FnOk3(P:Program)(w:World)(K:PySem.W.Frag)(mg:Str->Option Value)(base:Heap)(k:Nat)(f:Addr)(fd:FuncData)(ps:List Str)(sp:Sp3):Prop:=FnOk P w K mg base CX0 k f fd ps (lowSp K sp)
def eCall(sp:Sp3)(t:TA3):TE3:=fun τ G Q=>t τ G fun ds G1=>sp ds G1 Q
section
variable {X:Cx} {k:Nat} {f:Addr} {fd:FuncData} {ps:List Str} {sp:Sp3} {x:Str} {p pos:Pos} {e:Expr} {es:List Expr} {t:TA3}
theorem qiez{K:PySem.W.Frag}{σ:L2.St}{H:Hp}{Q:VK}{E:XK}(h:low K (eCall sp t) σ H Q):tCall (lowSp K sp) [] E (lowA K t) σ H Q:=by
 obtain⟨τ,G,Q3,RS,RG,h,k⟩:=h;refine⟨τ,G,_,RS,RG,h,fun vs H1 ds G1 h1 S1 R1 q1=>?_⟩;refine⟨ds,G1,Q3,by rw[List.append_nil];exact h1,R1,q1,fun v H' d G' z1 z2 z3 z4=>k v H' d G' z1 (S1.trans z2) z3 z4⟩
theorem qqmz(F:FnOk3 X.prog X.w X.K X.mg X.base k f fd ps sp)(hr:Room k X.A)(hm:X.mg x=some (.ref f))(hk:PySem.W.keepIn X.K (.ref f)=true)(hb:Binds X.K fd ps [])(ha:PA3 X (e::es) t)(hg:Gl X x:=by rfl)
  (hdb:(x==("__debug__":Str))=false:=by decide) (he:notStar e=true:=by rfl) (hpl:es.all notStar=true:=by rfl):
  PE3 X (.Call (.Name x p) (e::es) [] pos) (eCall sp t):=qsz (qogz (E:=E0) F hr hg hm hk hb .nil pass0 ha hdb (qjz he) (qyz hpl)) fun σ H Q h=>qiez h
end
section
variable {P:Program} {w:World} {K:PySem.W.Frag} {mg:Str->Option Value} {base:Heap}
def endsOf(Q:V3):Ends3:={ nx:=fun _ G'=>∃G0,Sub G0 G'/\Q .non G0,rt:=fun d G'=>∃G0,Sub G0 G'/\Q d G0 }
theorem fn3{x qual:Str}{st:Stmt}{f:Addr}{fd:FuncData}{N ps:List Str}{k:Nat}{sp:Sp3}(F:Fun K x qual st f fd)(S:FnScope N ps (defScope st))(hN:ps.length≤N.length)(len:∀ds G Q,sp ds G Q->ds.length=ps.length)(tb:TS3)
  (hbody:∀(cdv:Value) (A:Around) (outer:List Env) (s:Shared) (H:Hp) (E:XK),Room k (A.deeper (envOfC qual (defScope st) s.heap.objs.size f cdv)) ->
   PSs3 (cxOf CX0 P w K mg base N qual (defScope st) f cdv A outer s H E).nox (defBody st) tb)
  (hrd:∀ds G Q,sp ds G Q->tb (endsOf Q) (start3 N ds) G):FnOk3 P w K mg base (k+1) f fd ps sp:=by
 refine F.ok S (fun vs H Q E h=>?_) (fun cdv A outer s H vs Q E hr h=>?_)
 ·obtain⟨ds,G,Q3,h1,h2,h3,h4⟩:=h;rw[←h1.length];exact len _ _ _ h3
 ·obtain⟨ds,G,Q3,h1,h2,h3,h4⟩:=h;refine⟨_,hbody cdv A outer s H E hr,start3 N ds,G,endsOf Q3,.start h1 ?_,h2,hrd _ _ _ h3,⟨?_,?_,?_,?_⟩⟩
  ·rw[←h1.length,len _ _ _ h3];exact hN
  ·exact fun τ σ G' H' a b c ⟨G0,s0,q⟩=>h4 _ H' .non G0 (by simp[Hv]) (b.trans (.sub s0)) (c.sub s0) q
  ·exact fun τ σ G' H' a b c q=>q.elim
  ·exact fun τ σ G' H' a b c q=>q.elim
  ·exact fun d v G' H' a b c ⟨G0,s0,q⟩=>h4 _ H' d G0 a (b.trans (.sub s0)) (c.sub s0) q
end
end L3
namespace L3
open PySem PySem.Spec PyProof.Rows L2
structure Src where
 items:List D
 guard:Gp->Prop
structure SrcOk(K:PySem.W.Frag)(H0:Hp)(J:It)(S:Src):Prop where
 go:∀(i:Nat) d H G,Ext H0 H->RepG K G H->S.guard G->S.items[i]?=some d->J.go i H/\∀x H',J.yld i H x H'->Hv K H' d x/\Step H G H' G/\RepG K G H'
 stop:∀(i:Nat) H G,Ext H0 H->RepG K G H->S.guard G->S.items.length≤i->J.stop i H
abbrev TI3:=S3->Gp->(Src->Gp->Prop)->Prop
def lowI(K:PySem.W.Frag)(ti:TI3):TI:=fun σ H R=>∃τ G R3,RepS K τ σ H/\RepG K G H/\ti τ G R3/\∀J H' S G',SrcOk K H' J S->Step H G H' G'->RepG K G' H'->R3 S G'->R J H'
abbrev PI3(X:Cx)(tg iter:Expr)(ti:TI3):Prop:=PI X tg iter (lowI X.K ti)
section
variable {X:Cx} {tg iter:Expr} {pos p:Pos}
theorem qdvz{t t':TI}(h:PI X tg iter t)(f:∀σ H R,t' σ H R->t σ H R):PI X tg iter t':=fun pins s σ H R I q=>h pins s σ H R I (f σ H R q)
def iSeq(te:TE3):TI3:=fun τ G R=>te τ G fun x G1=>match x with
 |.obj p=>∃ds,G1 p=some (.lst ds)/\R ⟨ds,fun G=>G p=some (.lst ds)⟩ G1
 |.tup ds=>R ⟨ds,fun _=>True⟩ G1
 |.scr ds=>R ⟨ds,fun _=>True⟩ G1
 |_=>False
theorem qqnz{l:Expr}{te:TE3}(hl:PE3 X l te):PI3 X tg l (iSeq te):=by
 intro pins s σ H R I h;obtain⟨τ,G,R3,RS,RG,h,k⟩:=h
 -- the state carries what a list of the heap is
 refine thn (hl pins s σ H (fun v H'=>∃d G',Hv X.K H' d v/\Step H G H' G'/\RepG X.K G' H'/\(match d with
  |.obj p=>∃ds,G' p=some (.lst ds)/\R3 ⟨ds,fun G=>G p=some (.lst ds)⟩ G'
  |.tup ds=>R3 ⟨ds,fun _=>True⟩ G'
  |.scr ds=>R3 ⟨ds,fun _=>True⟩ G'
  | _=>False)) I ⟨τ,G,_,RS,RG,h,fun v H' d G' a b c q=>⟨d,G',a,b,c,q⟩⟩) fun v s1 ⟨x,H1,I1,r1,d,G1,hv,S1,R1,q⟩=>?_
 have hlist:∀(a:Addr) (its:List Value) (xs:List V),Vals xs its->PlainL s1.heap a its.toArray->R (Itl X.K a) H1->wpAny (model X.prog X.w) X.A (pyIter (.ref a)) (PIE X pins σ tg R) X.xe s1:=by
  intro a its xs rv p q;refine wpAny_pyIter_list p.isList ?_;refine⟨s1.heap.objs.size,[s1.heap.objs.size],_,_,H1,rfl,I1.kept (t':=s1.toks) fun b o e=>Heap.get?_push_of_some _ e,qnoz a _,⟨_,Heap.get?_push_size _ rfl,rfl,rfl⟩,fun b hb=>?_,q⟩;have e:b=s1.heap.objs.size:=by simpa using hb
  subst e;exact I1.fpOk (Nat.le_refl _) (I1.hok.fresh (Nat.le_refl _))
 cases d with
 |obj a=>
  unfold Hv at hv;subst hv;cases r1;obtain⟨ds,e1,q⟩:=q;obtain⟨vs,e2,e3⟩:=R1 a _ e1;obtain⟨its,rv,p,hz⟩:=I1.list (SqL.of e2);refine hlist a its vs rv p (k _ _ _ _ ⟨?_,?_⟩ S1 R1 q)
  ·intro i d H' G' E' RG' hg hi;obtain⟨vs',z1,z2⟩:=RG' a _ hg;obtain⟨v',y1,y2⟩:=z2.get hi;refine⟨⟨vs',v',.of z1,y1⟩,fun x H'' hy=>?_⟩;obtain⟨rfl,hy⟩:=hy;have:=hy vs' (.of z1);rw[y1] at this;cases this;exact⟨y2,.refl _ _,RG'⟩
  ·intro i H' G' E' RG' hg hi;obtain⟨vs',z1,z2⟩:=RG' a _ hg;exact⟨vs',.of z1,by rw[←z2.length];exact hi⟩
 |tup ds=>
  unfold Hv at hv;obtain⟨a,vs,rfl,e2,e3⟩:=hv;cases r1;obtain⟨its,rv,p,hz⟩:=I1.tuple e2;have hq:R (Itt X.K a) H1:=by
   refine k _ _ _ _ ⟨?_,?_⟩ S1 R1 q
   ·intro i d H' G' E' RG' hg hi;obtain⟨v',y1,y2⟩:=e3.get hi;refine⟨⟨vs,v',SqT.ext E' e2,y1⟩,fun x H'' hy=>?_⟩;obtain⟨rfl,hy⟩:=hy;have:=hy vs (SqT.ext E' e2);rw[y1] at this;cases this;exact⟨y2.ext E',.refl _ _,RG'⟩
   ·intro i H' G' E' RG' hg hi;exact⟨vs,SqT.ext E' e2,by rw[←e3.length];exact hi⟩
  refine wpAny_pyIter_tuple (show s1.heap.IsTuple a its.toArray from p) ?_;refine⟨s1.heap.objs.size,[s1.heap.objs.size],_,_,H1,rfl,I1.kept (t':=s1.toks) fun b o e=>Heap.get?_push_of_some _ e,qnpz a _,⟨_,Heap.get?_push_size _ rfl,rfl,rfl⟩,fun b hb=>?_,hq⟩;have e:b=s1.heap.objs.size:=by simpa using hb
  subst e;exact I1.fpOk (Nat.le_refl _) (I1.hok.fresh (Nat.le_refl _))
 |scr ds=>
  unfold Hv at hv;obtain⟨a,vs,rfl,e2,e3⟩:=hv;cases r1;obtain⟨its,rv,p,hz⟩:=I1.list e2.l;refine hlist a its vs rv p (k _ _ _ _ ⟨?_,?_⟩ S1 R1 q)
  ·intro i d H' G' E' RG' hg hi;obtain⟨v',y1,y2⟩:=e3.get hi;refine⟨⟨vs,v',(SqF.ext E' e2).l,y1⟩,fun x H'' hy=>?_⟩;obtain⟨rfl,hy⟩:=hy;have:=hy vs (SqF.ext E' e2).l;rw[y1] at this;cases this;exact⟨y2.ext E',.refl _ _,RG'⟩
  ·intro i H' G' E' RG' hg hi;exact⟨vs,(SqF.ext E' e2).l,by rw[←e3.length];exact hi⟩
 |non=>exact q.elim
 |bl _=>exact q.elim
 |int _=>exact q.elim
 |str _=>exact q.elim
 |dc _=>exact q.elim
def rngL(lo:Int)(n:Nat):List D:=(List.range n).map fun i:Nat=>.int (lo+(i:Int))
theorem qifz{lo:Int}{n i:Nat}{d:D}(h:(rngL lo n)[i]?=some d):i<n/\d=.int (lo+(i:Int)):=by
 unfold rngL at h;rw[List.getElem?_map] at h;by_cases hi:i<n
 ·rw[List.getElem?_range hi] at h;simp at h;exact⟨hi,h.symm⟩
 ·rw[List.getElem?_eq_none_iff.mpr (by simpa using hi)] at h;cases h
theorem qasz(lo:Int)(n:Nat):(rngL lo n).length=n:=by simp[rngL]
theorem qigz{K:PySem.W.Frag}{H:Hp}(lo:Int)(n:Nat):SrcOk K H (Itr lo n) ⟨rngL lo n,fun _=>True⟩:=⟨by
 intro i d H' G' _ RG _ hi;obtain⟨h1,h2⟩:=qifz hi;refine⟨h1,fun x H'' hy=>?_⟩;obtain⟨rfl,rfl⟩:=hy;exact⟨by rw[h2];simp[Hv],.refl _ _,RG⟩,by
 intro i H' G' _ RG _ hi;rw[qasz] at hi;exact hi⟩
def iRng1(ta:TA3):TI3:=fun τ G R=>ta τ G fun ds G1=>match ds with
 |[.int j]=>(-(2^62)≤j/\j<2^62)/\R ⟨rngL 0 j.toNat,fun _=>True⟩ G1
 |_=>False
def iRng2(ta:TA3):TI3:=fun τ G R=>ta τ G fun ds G1=>match ds with
 |[.int i,.int j]=>(-(2^62)≤i/\i<2^62/\-(2^62)≤j/\j<2^62)/\R ⟨rngL i (j-i).toNat,fun _=>True⟩ G1
 |_=>False
theorem qqoz{a:Expr}{ta:TA3}(hm:X.mg "range" = none)(ha:PA3 X [a] ta)(hg:Gl X "range":=by rfl)(hs:notStar a=true:=by rfl):PI3 X tg (.Call (.Name "range" p) [a] [] pos) (iRng1 ta):=
 qdvz (qnrz hg hm ha (qjz hs)) fun σ H R ⟨τ,G,R3,RS,RG,h,k⟩=>⟨τ,G,_,RS,RG,h,fun vs H1 ds G1 h1 S1 R1 q1=>by
  rcases ds with _|⟨d,_|⟨d2,ds⟩⟩
  ·exact q1.elim
  ·cases d with
   |int j=>
    obtain⟨v,r,rfl,z1,z2⟩:=h1.inv;cases z2.inv0;unfold Hv at z1;exact⟨j,by rw[z1],q1.1.1,q1.1.2,k _ _ _ _ (qigz 0 _) S1 R1 q1.2⟩
   |_=>exact q1.elim
  ·cases d<;>exact q1.elim⟩
theorem qqpz{a b:Expr}{ta:TA3}(hm:X.mg "range" = none)(ha:PA3 X [a,b] ta)(hg:Gl X "range":=by rfl)(hs:notStar a=true:=by rfl)(hs2:notStar b=true:=by rfl):
  PI3 X tg (.Call (.Name "range" p) [a,b] [] pos) (iRng2 ta):=
 qdvz (qnsz hg hm ha (by rw[qjz hs,qjz hs2];rfl) (qjz hs2)) fun σ H R ⟨τ,G,R3,RS,RG,h,k⟩=>⟨τ,G,_,RS,RG,h,fun vs H1 ds G1 h1 S1 R1 q1=>by
  rcases ds with _|⟨d,_|⟨d2,_|⟨d3,ds⟩⟩⟩
  ·exact q1.elim
  ·cases d<;>exact q1.elim
  ·cases d with
   |int i=>
    cases d2 with
    |int j=>
     obtain⟨v,r,rfl,z1,z2⟩:=h1.inv;obtain⟨v',r',rfl,z3,z4⟩:=z2.inv;cases z4.inv0;unfold Hv at z1 z3;exact⟨i,j,by rw[z1,z3],q1.1,k _ _ _ _ (qigz i _) S1 R1 q1.2⟩
    |_=>exact q1.elim
   |_=>exact q1.elim
  ·cases d with
   |int i=>cases d2<;>exact q1.elim
   |_=>exact q1.elim⟩
def forGo(guard:Gp->Prop)(g:TG3)(tb:TS3)(D3:Ends3):List D->S3->Gp->Prop
 |[],τ,G=>guard G/\D3.nx τ G
 |d::ds,τ,G=>guard G/\g d τ G fun τ2 G2=>tb { D3 with nx:=forGo guard g tb D3 ds,ct:=forGo guard g tb D3 ds,bk:=D3.nx } τ2 G2
def sFor(ti:TI3)(g:TG3)(tb:TS3):TS3:=fun D3 τ G=>ti τ G fun S G1=>forGo S.guard g tb D3 S.items τ G1
theorem qqqz{body:List Stmt}{ti:TI3}{g:TG3}{tb:TS3}(hp:PassesOwn (model X.prog X.w) X.A X.env X.xe)(hc:X.calm=true)(hi:PI3 X tg iter ti)(hg:PG3 X tg g)(hb:PSs3 X body tb)
  (hs:∀x,foldedSetIterable iter X.env x=pure x:=by intro _;rfl):PS3 X (.For tg iter body [] pos) (sFor ti g tb):=qayz (qnuz hp hc hi hg hb hs) fun D2 σ H ⟨τ,G,D3,RS,RG,h,k⟩=>by
 refine⟨τ,G,_,RS,RG,h,fun J H1 S G1 ok S1 R1 q1=>?_⟩;refine⟨fun i m σ' H'=>∃τ' G',RepS X.K τ' σ' H'/\RepG X.K G' H'/\Step H G H' G'/\Ext H1 H'/\forGo S.guard g tb D3 (S.items.drop i) τ' G'/\m+i=S.items.length,⟨S.items.length,τ,G1,RS.ext (S1.ext RG),R1,S1,.refl H1,by simpa using q1,by omega⟩,?_⟩;rintro i m σ' H' ⟨τ',G',RS',RG',S',E',q,hm⟩;by_cases hlt:i<S.items.length
 ·have hd:S.items.drop i=S.items[i]::S.items.drop (i+1):=List.drop_eq_getElem_cons hlt;have hget:S.items[i]?=some S.items[i]:=List.getElem?_eq_getElem hlt;rw[hd] at q;obtain⟨hgd,q⟩:=q;obtain⟨z1,z2⟩:=ok.go i _ H' G' E' RG' hgd hget;refine .inr ⟨z1,fun σ2 H2=>∃τ2 G2,RepS X.K τ2 σ2 H2/\RepG X.K G2 H2/\Step H G H2 G2/\Ext H1 H2/\forGo S.guard g tb D3 (S.items.drop (i+1)) τ2 G2,fun σ2 H2 ⟨τ2,G2,a1,a2,a3,a4,a5⟩=>⟨m-1,by omega,τ2,G2,a1,a2,a3,a4,a5,by omega⟩,fun x H2 hy=>?_⟩;obtain⟨y1,y2,y3⟩:=z2 x H2 hy;refine⟨S.items[i],τ',G',_,y1,RS'.ext (y2.ext RG'),y3,q,fun τ3 σ3 G3 H3 b1 b2 b3 b4=>?_⟩;refine⟨τ3,G3,_,b1,b3,b4,⟨?_,?_,?_,?_⟩⟩
  ·exact fun τ4 σ4 G4 H4 c1 c2 c3 c4=>⟨τ4,G4,c1,c3,((S'.trans y2).trans b2).trans c2,((E'.trans (y2.ext RG')).trans (b2.ext y3)).trans (c2.ext b3),c4⟩
  ·exact fun τ4 σ4 G4 H4 c1 c2 c3 c4=>k.nx τ4 σ4 G4 H4 c1 (((S'.trans y2).trans b2).trans c2) c3 c4
  ·exact fun τ4 σ4 G4 H4 c1 c2 c3 c4=>⟨τ4,G4,c1,c3,((S'.trans y2).trans b2).trans c2,((E'.trans (y2.ext RG')).trans (b2.ext y3)).trans (c2.ext b3),c4⟩
  ·exact fun d v G4 H4 c1 c2 c3 c4=>k.rt d v G4 H4 c1 (((S'.trans y2).trans b2).trans c2) c3 c4
 ·have hd:S.items.drop i=[]:=List.drop_eq_nil_of_le (by omega);rw[hd] at q;exact .inl ⟨ok.stop i H' G' E' RG' q.1 (by omega),k.nx τ' σ' G' H' RS' S' RG' q.2⟩
def compGo(guard:Gp->Prop)(g:TG3)(tc:TT3)(te:TE3)(Q:List D->Gp->Prop):List D->List D->S3->Gp->Prop
 |[],acc,τ,G=>guard G/\Q acc G
 |d::ds,acc,τ,G=>guard G/\g d τ G fun τ2 G2=>tc τ2 G2 fun b G3=>Br b (te τ2 G3 fun v G4=>compGo guard g tc te Q ds (acc++[v]) τ2 G4) (compGo guard g tc te Q ds acc τ2 G3)
def cmp3(own:List Str)(js:List Nat)(τ:S3):S3:=(own.map fun _=>none)++js.map fun j=>at3 τ j
def eComp(own:List Str)(js:List Nat)(ti:TI3)(g:TG3)(tc:TT3)(te:TE3):TE3:=fun τ G Q=>ti τ G fun S G1=>S.items.length≤sizeLine ∧
 compGo S.guard g tc te (fun ds G2=>∀p G3,New G2 p (.lst ds) G3->Q (.obj p) G3) S.items [] (cmp3 own js τ) G1
theorem qihz:∀(τ:S3) (i:Nat),at3 τ i=(τ[i]?).getD none
 |[],i=>by simp[at3]
 |x::r,0=>by simp[at3]
 |x::r,i+1=>by simp[at3,qihz r i]
theorem RepS.cmp{K:PySem.W.Frag}{τ:S3}{σ:L2.St}{H:Hp}(own:List Str)(js:List Nat)(R:RepS K τ σ H):RepS K (cmp3 own js τ) (cmpSt own js σ) H:=⟨by simp[cmp3,cmpSt],fun i d h=>by
 rw[qihz] at h;unfold cmp3 at h;by_cases hi:i<own.length
 ·rw[List.getElem?_append_left (by simpa using hi)] at h;rw[List.getElem?_map,List.getElem?_eq_getElem hi] at h;cases h
 ·rw[List.getElem?_append_right (by simpa using hi),List.getElem?_map] at h;simp only[List.length_map] at h;cases hj:js[i-own.length]? with
  |none=>rw[hj] at h;cases h
  |some j=>
   rw[hj] at h;have h':at3 τ j=some d:=h;obtain⟨v,e1,e2⟩:=R.at_ j d h';refine⟨v,?_,e2⟩;unfold cmpSt;rw[List.getElem?_append_right (by simpa using hi),List.getElem?_map];simp only[List.length_replicate,hj,Option.map_some,e1,Option.getD_some]⟩
def tNoTest3:TT3:=fun _ G Q=>Q true G
theorem qqrz:PCt X [] (lowT X.K tNoTest3):=fun pins s σ H Q I ⟨τ,G,Q3,RS,RG,h,k⟩=>qp3z pins s σ H Q I (k true H G (.refl H G) RG h)
theorem qqsz{c:Expr}{t:TT3}(h:PT3 X c t):PCt X [c] (lowT X.K t):=qp4z h
theorem qiiz{K:PySem.W.Frag}{own:List Str}{js:List Nat}{ti:TI3}{g:TG3}{tc:TT3}{te:TE3}{σ:L2.St}{H:Hp}{Q:VK}(h:low K (eComp own js ti g tc te) σ H Q):tLc own js (lowI K ti) (lowG K g) (lowT K tc) (low K te) σ H Q:=by
 obtain⟨τ,G,Q3,RS,RG,h,k⟩:=h;refine⟨τ,G,_,RS,RG,h,fun J H1 S G1 ok S1 R1 q1=>?_⟩;obtain⟨hz,q1⟩:=q1;intro p hp;have hGp:G1 p=none:=R1.free hp;refine⟨fun i m ys σ' H'=>∃τ' G' acc,RepS K τ' σ' H'/\RepG K G' H'/\Step H G H' G'/\Ext H1 H'/\H' p=some (.lst ys)/\G' p=none/\Hvs K H' acc ys ∧
  compGo S.guard g tc te (fun ds G2=>∀p G3,New G2 p (.lst ds) G3->Q3 (.obj p) G3) (S.items.drop i) acc τ' G'/\m+i=S.items.length/\ys.length≤i,?_,?_⟩
 ·have E1:Ext H1 (upd H1 p (.lst [])):=.laid hp;exact⟨S.items.length,cmp3 own js τ,G1,[],((RS.ext (S1.ext RG)).cmp own js).ext E1,R1.laid hp,S1.trans (.laid hp),E1,qrz,hGp,.nil,by simpa using q1,by omega,Nat.zero_le _⟩
 rintro i m ys σ' H' ⟨τ',G',acc,RS',RG',S',E',hpl,hG',hacc,q,hm,hy⟩;refine⟨hpl,?_⟩;by_cases hlt:i<S.items.length
 ·have hd:S.items.drop i=S.items[i]::S.items.drop (i+1):=List.drop_eq_getElem_cons hlt;have hget:S.items[i]?=some S.items[i]:=List.getElem?_eq_getElem hlt;rw[hd] at q;obtain⟨hgd,q⟩:=q;obtain⟨z1,z2⟩:=ok.go i _ H' G' E' RG' hgd hget;refine .inr ⟨z1,by omega,fun x H2 hyl=>?_⟩;obtain⟨y1,y2,y3⟩:=z2 x H2 hyl
  -- what is not in G stays
  have keep:∀{Ha Hb:Hp} {Ga Gb:Gp},Step Ha Ga Hb Gb->Ha p=some (.lst ys)->Ga p=none->Hb p=some (.lst ys)/\Gb p=none:=fun {Ha Hb Ga Gb} st e n=>by
   refine⟨st.fr p _ e n,?_⟩;refine Classical.byContradiction fun z=>?_;rw[st.new p n z] at e;cases e
  obtain⟨p2,n2⟩:=keep y2 hpl hG';refine⟨S.items[i],τ',G',_,y1,RS'.ext (y2.ext RG'),y3,q,fun τ3 σ3 G3 H3 b1 b2 b3 b4=>?_⟩;obtain⟨p3,n3⟩:=keep b2 p2 n2;refine⟨τ3,G3,_,b1,b3,b4,fun bb H4 G4 c1 c2 c3=>?_⟩;obtain⟨p4,n4⟩:=keep c1 p3 n3;have E4:Ext H' H4:=((y2.ext RG').trans (b2.ext y3)).trans (c1.ext b3);have S4:Step H G H4 G4:=((S'.trans y2).trans b2).trans c1;have RS4:=b1.ext (c1.ext b3);refine Br.ite c3 (fun c3=>?_) fun c3=>?_
  ·refine⟨τ3,G4,_,RS4,c2,c3,fun v H5 d G5 e1 e2 e3 e4=>?_⟩;obtain⟨p5,n5⟩:=keep e2 p4 n4;refine⟨p5,m-1,by omega,τ3,G5,acc++[d],?_,?_,?_,?_,qrz,n5,?_,e4,by omega,by rw[List.length_append];simp;omega⟩
   ·exact (RS4.ext (e2.ext c2)).ext (.wrote p5)
   ·intro a o e;have hne:a≠p:=fun z=>by
     rw[z,n5] at e;cases e
    exact (e3 a o e).ext (.wrote p5) (qiz hne)
   ·refine⟨fun a o e n=>?_,fun a q=>?_,fun a n q=>((S4.trans e2).new a n q)⟩
    ·by_cases hne:a=p
     ·exfalso;rw[hne] at e n;have hh:=S1.fr p o e n;rw[hp] at hh;cases hh
     ·rw[qiz hne];exact (S4.trans e2).fr a o e n
    ·by_cases hne:a=p
     ·rw[hne,qrz];simp
     ·rw[qiz hne];exact (S4.trans e2).trk a q
   ·exact ((E'.trans E4).trans (e2.ext c2)).trans (.wrote p5)
   ·have E5:Ext H' (upd H5 p (.lst (ys++[v]))):=(E4.trans (e2.ext c2)).trans (.wrote p5);exact (hacc.ext E5).append (.cons (e1.ext (.wrote p5)) .nil)
  ·exact⟨m-1,by omega,τ3,G4,acc,RS4,c2,S4,E'.trans E4,p4,n4,hacc.ext E4,c3,by omega,by omega⟩
 ·have hd:S.items.drop i=[]:=List.drop_eq_nil_of_le (by omega);rw[hd] at q;refine .inl ⟨ok.stop i H' G' E' RG' q.1 (by omega),?_⟩;refine k _ H' (.obj p) (upd3 G' p (.lst acc)) (by simp[Hv]) ?_ ?_ (q.2 p _ (.mk' hG'))
  ·refine⟨S'.fr,S'.trk,fun a n z=>?_⟩;by_cases hne:a=p
   ·rw[hne];cases hh:H p with
    |none=>rfl
    |some o=>
     exfalso;rw[hne] at n;have:=S1.fr p o hh n;rw[hp] at this;cases this
   ·rw[q8z hne] at z;exact S'.new a n z
  ·intro a o e;by_cases hne:a=p
   ·rw[hne,qaiz] at e;cases e;rw[hne];exact⟨ys,hpl,hacc⟩
   ·rw[q8z hne] at e;exact RG' a o e
theorem qqtz{elt:Expr}{ifs:List Expr}{scope:Scope}{own:List Str}{js:List Nat}{ti:TI3}{g:TG3}{tc:TT3}{te:TE3}(hc:X.calm=true)(C:CmpOk X.N X.env.scope scope own js)(hi:PI3 X tg iter ti)
  (hb:∀s H fp,PG3 (X.cmp scope own js s H fp) tg g/\PCt (X.cmp scope own js s H fp) ifs (lowT X.K tc)/\PE3 (X.cmp scope own js s H fp) elt te)
  (hs:∀x,foldedSetIterable iter X.env x=pure x:=by intro _;rfl):PE3 X (.ListComp elt [⟨tg,iter,ifs,0⟩] scope pos) (eComp own js ti g tc te):=
 qsz (qp6z hc C hi hb hs) fun σ H Q h=>qiiz h
theorem qquz{elt:Expr}{ifs:List Expr}{scope:Scope}{own:List Str}{js:List Nat}{ti:TI3}{g:TG3}{tc:TT3}{te:TE3}{i:Nat}{y:Str}{py spos:Pos}(hc:X.calm=true)(hN:X.N.Nodup)(C:CmpOk X.N X.env.scope scope own js)(hi:PI3 X tg iter ti)
  (hb:∀s H fp,PG3 (X.cmp scope own js s H fp) tg g/\PCt (X.cmp scope own js s H fp) ifs (lowT X.K tc)/\PE3 (X.cmp scope own js s H fp) elt te) (hy:X.N[i]?=some y:=by rfl) (hyl:X.env.scope.names.lookup y=some .local:=by rfl)
  (hsw:swapsWith (.ListComp elt [⟨tg,iter,ifs,0⟩] scope pos) (some (.Name y py)) spos.line X.env=pure true:=by rfl)
  (hs:∀x,foldedSetIterable iter X.env x=pure x:=by intro _;rfl):PS3 X (.Assign [.Name y py] (.ListComp elt [⟨tg,iter,ifs,0⟩] scope pos) spos) (sAsg (eComp own js ti g tc te) (hName i)):=
 qayz (qp7z hc hN hy hyl C hi hb hsw hs) fun D2 σ H ⟨τ,G,D3,RS,RG,h,k⟩=>
  qiiz ⟨τ,G,_,RS,RG,h,fun v H1 d G1 h1 S1 R1 q1=>k.nx _ _ G1 H1 ((RS.ext (S1.ext RG)).set h1) S1 R1 q1⟩
theorem qqvz{guard:Gp->Prop}{g:TG3}{tb:TS3}{D3:Ends3}(I:List D->S3->Gp->Prop)(hg:∀ds τ G,I ds τ G->guard G)
  (step:∀d ds τ G,I (d::ds) τ G->g d τ G fun τ2 G2=>tb { D3 with nx:=I ds,ct:=I ds,bk:=D3.nx } τ2 G2) (hend:∀τ G,I [] τ G->D3.nx τ G)
  (mono:∀(N N':S3->Gp->Prop),(∀τ G,N τ G->N' τ G)->∀d τ G,(g d τ G fun τ2 G2=>tb { D3 with nx:=N,ct:=N,bk:=D3.nx } τ2 G2)->g d τ G fun τ2 G2=>tb { D3 with nx:=N',ct:=N',bk:=D3.nx } τ2 G2):
  ∀ds τ G,I ds τ G->forGo guard g tb D3 ds τ G
 |[],τ,G,h=>⟨hg _ _ _ h,hend _ _ h⟩
 |d::ds,τ,G,h=>⟨hg _ _ _ h,mono (I ds) _ (fun τ G q=>qqvz I hg step hend mono ds τ G q) d τ G (step d ds τ G h)⟩
theorem qazz{guard:Gp->Prop}{g:TG3}{tb:TS3}{D3:Ends3}(I:List D->S3->Gp->Prop)(hg:∀ds τ G,I ds τ G->guard G)
  (step:∀d ds τ G (N:S3->Gp->Prop),I (d::ds) τ G->(∀τ' G',I ds τ' G'->N τ' G')->g d τ G fun τ2 G2=>tb { D3 with nx:=N,ct:=N,bk:=D3.nx } τ2 G2) (hend:∀τ G,I [] τ G->D3.nx τ G):
  ∀ds τ G,I ds τ G->forGo guard g tb D3 ds τ G
 |[],τ,G,h=>⟨hg _ _ _ h,hend _ _ h⟩
 |d::ds,τ,G,h=>⟨hg _ _ _ h,step d ds τ G _ h fun τ' G' q=>qazz I hg step hend ds τ' G' q⟩
end
end L3
namespace Dat
open PySem PySem.SeqAt
inductive D where
 |non|bl (b:Bool)|int (i:Int)|str (x:Str)|tup (xs:List D)|lst (xs:List D)|dct
mutual
def D.eqb:D->D->Bool
 |.non,.non=>true
 |.bl a,.bl b=>a==b
 |.bl a,.int b=>(if a then 1 else 0)==b
 |.int a,.bl b=>a==(if b then 1 else 0)
 |.int a,.int b=>a==b
 |.str a,.str b=>a==b
 |.tup xs,.tup ys=>eqbs xs ys
 |.lst xs,.lst ys=>eqbs xs ys
 |_,_=>false
def eqbs:List D->List D->Bool
 |[],[]=>true
 |x::xs,y::ys=>x.eqb y&&eqbs xs ys
 |_,_=>false
end
mutual
def D.dep:D->Nat
 |.tup xs=>deps xs+1
 |.lst xs=>deps xs+1
 |_=>0
def deps:List D->Nat
 |[]=>0
 |x::xs=>max x.dep (deps xs)
end
theorem dep_mem{d:D}:∀{xs:List D},d∈xs->d.dep≤deps xs
 |x::xs,h=>by
  unfold deps;rcases List.mem_cons.mp h with e|e
  ·rw[e];exact Nat.le_max_left _ _
  ·exact Nat.le_trans (dep_mem e) (Nat.le_max_right _ _)
mutual
def Hv(h:Heap):D->Value->Prop
 |.non,u=>u=.none
 |.bl b,u=>u=.bool b
 |.int i,u=>∃t,u=.int i t
 |.str x,u=>∃t,u=.str x t
 |.tup ds,u=>∃(a:Addr) (its:List Value),u=.ref a/\h.IsTuple a its.toArray/\Hvs h ds its
 |.lst ds,u=>∃(a:Addr) (its:List Value),u=.ref a/\h.IsList a its.toArray/\Hvs h ds its
 |.dct,_=>False
def Hvs(h:Heap):List D->List Value->Prop
 |[],us=>us=[]
 |d::ds,us=>∃u r,us=u::r/\Hv h d u/\Hvs h ds r
end
theorem Hvs.length{h:Heap}:∀{ds:List D} {us:List Value},Hvs h ds us->us.length=ds.length
 |[],us,e=>by
  unfold Hvs at e;rw[e];rfl
 |d::ds,us,e=>by
  unfold Hvs at e;obtain⟨u,r,rfl,_,e2⟩:=e;rw[List.length_cons,List.length_cons,e2.length]
theorem Hvs.get{h:Heap}:∀{ds:List D} {us:List Value} {j:Nat} {d:D} {u:Value},Hvs h ds us->ds[j]?=some d->us[j]?=some u->Hv h d u
 |[],_,_,_,_,_,e,_=>by simp at e
 |d::ds,us,0,_,_,q,e1,e2=>by
  unfold Hvs at q;obtain⟨u,r,rfl,q1,_⟩:=q;simp at e1 e2;rw[←e1,←e2];exact q1
 |d::ds,us,j+1,_,_,q,e1,e2=>by
  unfold Hvs at q;obtain⟨u,r,rfl,_,q2⟩:=q;exact q2.get (j:=j) (by simpa using e1) (by simpa using e2)
theorem qijz{h:Heap}{a:Addr}{xs ys:Array Value}(hl:h.IsList a xs)(ht:h.IsTuple a ys):False:=by
 obtain⟨o,ho,hc,_⟩:=hl;obtain⟨o',ho',hc',_⟩:=ht;rw[ho] at ho';cases ho';rw[hc] at hc';exact absurd hc' (by decide)
mutual
theorem Hv.inj{h:Heap}:∀{d e:D} {u:Value},Hv h d u->Hv h e u->d=e
 |d,e,u,p,q=>by
  cases d with
  |non=>unfold Hv at p;subst p;cases e<;>unfold Hv at q<;>first|rfl|(simp at q)
  |bl b=>unfold Hv at p;subst p;cases e<;>unfold Hv at q<;>first|(simp at q;rw[q])|(simp at q)
  |int b=>unfold Hv at p;obtain⟨t,rfl⟩:=p;cases e<;>unfold Hv at q<;>first|(simp at q;rw[q])|(simp at q)
  |str b=>unfold Hv at p;obtain⟨t,rfl⟩:=p;cases e<;>unfold Hv at q<;>first|(simp at q;rw[q])|(simp at q)
  |dct=>unfold Hv at p;exact p.elim
  |tup ds=>
   unfold Hv at p;obtain⟨a,its,rfl,ha,p⟩:=p;cases e with
   |tup es=>
    unfold Hv at q;obtain⟨a',its',e1,ha',q⟩:=q;cases e1;have e2:its=its':=by
     obtain⟨o,ho,_,n,hd⟩:=ha;obtain⟨o',ho',_,n',hd'⟩:=ha';rw[ho] at ho';cases ho';rw[hd] at hd';injection hd' with e3 _
     simpa using congrArg Array.toList e3
    subst e2;rw[Hvs.inj p q]
   |lst es=>
    unfold Hv at q;obtain⟨a',its',e1,ha',q⟩:=q;cases e1;exact (qijz ha' ha).elim
   |_=>unfold Hv at q<;>simp at q
  |lst ds=>
   unfold Hv at p;obtain⟨a,its,rfl,ha,p⟩:=p;cases e with
   |lst es=>
    unfold Hv at q;obtain⟨a',its',e1,ha',q⟩:=q;cases e1;have e2:its=its':=by
     obtain⟨o,ho,_,n,hd⟩:=ha;obtain⟨o',ho',_,n',hd'⟩:=ha';rw[ho] at ho';cases ho';rw[hd] at hd';injection hd' with e3 _
     simpa using congrArg Array.toList e3
    subst e2;rw[Hvs.inj p q]
   |tup es=>
    unfold Hv at q;obtain⟨a',its',e1,ha',q⟩:=q;cases e1;exact (qijz ha ha').elim
   |_=>unfold Hv at q<;>simp at q
theorem Hvs.inj{h:Heap}:∀{ds es:List D} {us:List Value},Hvs h ds us->Hvs h es us->ds=es
 |[],[],_,_,_=>rfl
 |[],e::es,us,p,q=>by
  unfold Hvs at p q;subst p;obtain⟨_,_,e1,_⟩:=q;cases e1
 |d::ds,[],us,p,q=>by
  unfold Hvs at p q;subst q;obtain⟨_,_,e1,_⟩:=p;cases e1
 |d::ds,e::es,us,p,q=>by
  unfold Hvs at p q;obtain⟨u,r,rfl,p1,p2⟩:=p;obtain⟨u',r',e1,q1,q2⟩:=q;cases e1;rw[Hv.inj p1 q1,Hvs.inj p2 q2]
end
theorem qbqz:∀(ds es:List D),((List.range (min ds.length es.length)).all (fun j=>(ds.getD j .non).eqb (es.getD j .non))&&ds.length==es.length)=eqbs ds es
 |[],[]=>by simp[eqbs]
 |[],e::es=>by simp[eqbs]
 |d::ds,[]=>by simp[eqbs]
 |d::ds,e::es=>by
  have ih:=qbqz ds es;unfold eqbs;rw[←ih];rw[List.length_cons,List.length_cons,show min (ds.length+1) (es.length+1)=min ds.length es.length+1 by omega,List.range_succ_eq_map,List.all_cons,List.all_map];have e1:((ds.length+1==es.length+1):Bool)=(ds.length==es.length):=by simp
  rw[e1,Bool.and_assoc];rfl
theorem qdwz:∀(ds es:List D),ds.length≠es.length->eqbs ds es=false
 |[],[],h=>absurd rfl h
 |[],e::es,_=>rfl
 |d::ds,[],_=>rfl
 |d::ds,e::es,h=>by
  unfold eqbs;rw[qdwz ds es (by simpa using h),Bool.and_false]
mutual
theorem Hv.refl{h:Heap}:∀{d:D} {u:Value},Hv h d u->d.eqb d=true
 |.non,_,_=>rfl
 |.bl b,_,_=>by unfold D.eqb;simp
 |.int b,_,_=>by unfold D.eqb;simp
 |.str b,_,_=>by unfold D.eqb;simp
 |.dct,_,p=>by unfold Hv at p;exact p.elim
 |.tup ds,_,p=>by
  unfold Hv at p;obtain⟨_,_,_,_,p⟩:=p;unfold D.eqb;exact Hvs.refl p
 |.lst ds,_,p=>by
  unfold Hv at p;obtain⟨_,_,_,_,p⟩:=p;unfold D.eqb;exact Hvs.refl p
theorem Hvs.refl{h:Heap}:∀{ds:List D} {us:List Value},Hvs h ds us->eqbs ds ds=true
 |[],_,_=>rfl
 |d::ds,us,p=>by
  unfold Hvs at p;obtain⟨u,r,_,p1,p2⟩:=p;unfold eqbs;rw[Hv.refl p1,Hvs.refl p2];rfl
end
theorem q2z{h:Heap}{ds:List D}{us:List Value}(p:Hvs h ds us){j:Nat}(hj:j<us.toArray.size):Hv h (ds.getD j .non) (us.toArray[j])/\ds.getD j .non∈ds:=by
 have hl:=p.length;have hj':j<ds.length:=by simp at hj;omega
 have e1:ds[j]?=some (ds.getD j .non):=by simp[hj']
 exact⟨p.get e1 (by simp at hj;simp[hj]),List.mem_of_getElem? e1⟩
theorem eqAt{s:Shared}:∀(d e:D) (u v:Value) (A:Around),Hv s.heap d u->Hv s.heap e v->A.units+d.dep+1<cLine->EqAt A s u v (d.eqb e)
 |.non,.non,u,v,A,p1,p2,hu=>by
  unfold Hv at p1;subst p1;unfold Hv at p2;subst p2;exact EqAt.same _
 |.non,.bl b2,u,v,A,p1,p2,hu=>by
  unfold Hv at p1;subst p1;unfold Hv at p2;subst p2;exact EqAt.none_bool  b2
 |.non,.int b2,u,v,A,p1,p2,hu=>by
  unfold Hv at p1;subst p1;unfold Hv at p2;obtain⟨t2,rfl⟩:=p2;exact EqAt.none_int  b2 t2
 |.non,.str b2,u,v,A,p1,p2,hu=>by
  unfold Hv at p1;subst p1;unfold Hv at p2;obtain⟨t2,rfl⟩:=p2;exact EqAt.none_str  b2 t2
 |.non,.tup ds2,u,v,A,p1,p2,hu=>by
  unfold Hv at p1;subst p1;unfold Hv at p2;obtain⟨a2,its2,rfl,l2,p2⟩:=p2;exact EqAt.none_tuple  l2 (by omega)
 |.non,.lst ds2,u,v,A,p1,p2,hu=>by
  unfold Hv at p1;subst p1;unfold Hv at p2;obtain⟨a2,its2,rfl,l2,p2⟩:=p2;exact EqAt.none_list  l2 (by omega)
 |.bl b1,.non,u,v,A,p1,p2,hu=>by
  unfold Hv at p1;subst p1;unfold Hv at p2;subst p2;exact EqAt.bool_none b1
 |.bl b1,.bl b2,u,v,A,p1,p2,hu=>by
  unfold Hv at p1;subst p1;unfold Hv at p2;subst p2;exact EqAt.bool_bool b1 b2
 |.bl b1,.int b2,u,v,A,p1,p2,hu=>by
  unfold Hv at p1;subst p1;unfold Hv at p2;obtain⟨t2,rfl⟩:=p2;exact EqAt.bool_int b1 b2 t2
 |.bl b1,.str b2,u,v,A,p1,p2,hu=>by
  unfold Hv at p1;subst p1;unfold Hv at p2;obtain⟨t2,rfl⟩:=p2;exact EqAt.bool_str b1 b2 t2
 |.bl b1,.tup ds2,u,v,A,p1,p2,hu=>by
  unfold Hv at p1;subst p1;unfold Hv at p2;obtain⟨a2,its2,rfl,l2,p2⟩:=p2;exact EqAt.bool_tuple b1 l2 (by omega)
 |.bl b1,.lst ds2,u,v,A,p1,p2,hu=>by
  unfold Hv at p1;subst p1;unfold Hv at p2;obtain⟨a2,its2,rfl,l2,p2⟩:=p2;exact EqAt.bool_list b1 l2 (by omega)
 |.int b1,.non,u,v,A,p1,p2,hu=>by
  unfold Hv at p1;obtain⟨t1,rfl⟩:=p1;unfold Hv at p2;subst p2;exact EqAt.int_none b1 t1
 |.int b1,.bl b2,u,v,A,p1,p2,hu=>by
  unfold Hv at p1;obtain⟨t1,rfl⟩:=p1;unfold Hv at p2;subst p2;exact EqAt.int_bool b1 t1 b2
 |.int b1,.int b2,u,v,A,p1,p2,hu=>by
  unfold Hv at p1;obtain⟨t1,rfl⟩:=p1;unfold Hv at p2;obtain⟨t2,rfl⟩:=p2;exact EqAt.int_int b1 t1 b2 t2
 |.int b1,.str b2,u,v,A,p1,p2,hu=>by
  unfold Hv at p1;obtain⟨t1,rfl⟩:=p1;unfold Hv at p2;obtain⟨t2,rfl⟩:=p2;exact EqAt.int_str b1 t1 b2 t2
 |.int b1,.tup ds2,u,v,A,p1,p2,hu=>by
  unfold Hv at p1;obtain⟨t1,rfl⟩:=p1;unfold Hv at p2;obtain⟨a2,its2,rfl,l2,p2⟩:=p2;exact EqAt.int_tuple b1 t1 l2 (by omega)
 |.int b1,.lst ds2,u,v,A,p1,p2,hu=>by
  unfold Hv at p1;obtain⟨t1,rfl⟩:=p1;unfold Hv at p2;obtain⟨a2,its2,rfl,l2,p2⟩:=p2;exact EqAt.int_list b1 t1 l2 (by omega)
 |.str b1,.non,u,v,A,p1,p2,hu=>by
  unfold Hv at p1;obtain⟨t1,rfl⟩:=p1;unfold Hv at p2;subst p2;exact EqAt.str_none b1 t1
 |.str b1,.bl b2,u,v,A,p1,p2,hu=>by
  unfold Hv at p1;obtain⟨t1,rfl⟩:=p1;unfold Hv at p2;subst p2;exact EqAt.str_bool b1 t1 b2
 |.str b1,.int b2,u,v,A,p1,p2,hu=>by
  unfold Hv at p1;obtain⟨t1,rfl⟩:=p1;unfold Hv at p2;obtain⟨t2,rfl⟩:=p2;exact EqAt.str_int b1 t1 b2 t2
 |.str b1,.str b2,u,v,A,p1,p2,hu=>by
  unfold Hv at p1;obtain⟨t1,rfl⟩:=p1;unfold Hv at p2;obtain⟨t2,rfl⟩:=p2;exact EqAt.str_str b1 t1 b2 t2
 |.str b1,.tup ds2,u,v,A,p1,p2,hu=>by
  unfold Hv at p1;obtain⟨t1,rfl⟩:=p1;unfold Hv at p2;obtain⟨a2,its2,rfl,l2,p2⟩:=p2;exact EqAt.str_tuple b1 t1 l2 (by omega)
 |.str b1,.lst ds2,u,v,A,p1,p2,hu=>by
  unfold Hv at p1;obtain⟨t1,rfl⟩:=p1;unfold Hv at p2;obtain⟨a2,its2,rfl,l2,p2⟩:=p2;exact EqAt.str_list b1 t1 l2 (by omega)
 |.tup ds1,.non,u,v,A,p1,p2,hu=>by
  unfold Hv at p1;obtain⟨a1,its1,rfl,l1,p1⟩:=p1;unfold Hv at p2;subst p2;exact EqAt.tuple_none  l1 (by omega)
 |.tup ds1,.bl b2,u,v,A,p1,p2,hu=>by
  unfold Hv at p1;obtain⟨a1,its1,rfl,l1,p1⟩:=p1;unfold Hv at p2;subst p2;exact EqAt.tuple_bool b2 l1 (by omega)
 |.tup ds1,.int b2,u,v,A,p1,p2,hu=>by
  unfold Hv at p1;obtain⟨a1,its1,rfl,l1,p1⟩:=p1;unfold Hv at p2;obtain⟨t2,rfl⟩:=p2;exact EqAt.tuple_int b2 t2 l1 (by omega)
 |.tup ds1,.str b2,u,v,A,p1,p2,hu=>by
  unfold Hv at p1;obtain⟨a1,its1,rfl,l1,p1⟩:=p1;unfold Hv at p2;obtain⟨t2,rfl⟩:=p2;exact EqAt.tuple_str b2 t2 l1 (by omega)
 |.tup ds1,.tup ds2,u,v,A,p1,p2,hu=>by
  unfold Hv at p1;obtain⟨a1,its1,rfl,l1,p1⟩:=p1;unfold Hv at p2;obtain⟨a2,its2,rfl,l2,p2⟩:=p2;unfold D.eqb;by_cases ha:a1=a2
  ·subst ha;have e0:(.tup ds1:D)=.tup ds2:=Hv.inj (h:=s.heap) (u:=.ref a1) (by unfold Hv;exact⟨a1,its1,rfl,l1,p1⟩) (by unfold Hv;exact⟨a1,its2,rfl,l2,p2⟩);injection e0 with e0;subst e0;rw[p1.refl];exact EqAt.same _
  ·refine EqAt.of_refs ha ?_;have hdep:A.units+deps ds1+1+1<cLine:=by
    have e9:(.tup ds1:D).dep=deps ds1+1:=by first|rfl|(unfold D.dep;rfl)
    omega
   have q:=RcAt.tuples (e:=fun j=>(ds1.getD j .non).eqb (ds2.getD j .non)) l1 l2 (by omega) fun j h1 h2=>
    have m:=(q2z p1 h1).2
    eqAt (ds1.getD j .non) (ds2.getD j .non) _ _ A.in1 (q2z p1 h1).1 (q2z p2 h2).1 (by
     have:=dep_mem m;show A.units+1+_+1<cLine;omega)
   rw[List.size_toArray,List.size_toArray,p1.length,p2.length,qbqz] at q;exact q
 |.tup ds1,.lst ds2,u,v,A,p1,p2,hu=>by
  unfold Hv at p1;obtain⟨a1,its1,rfl,l1,p1⟩:=p1;unfold Hv at p2;obtain⟨a2,its2,rfl,l2,p2⟩:=p2;exact EqAt.tuple_list l1 l2 (by omega)
 |.lst ds1,.non,u,v,A,p1,p2,hu=>by
  unfold Hv at p1;obtain⟨a1,its1,rfl,l1,p1⟩:=p1;unfold Hv at p2;subst p2;exact EqAt.list_none  l1 (by omega)
 |.lst ds1,.bl b2,u,v,A,p1,p2,hu=>by
  unfold Hv at p1;obtain⟨a1,its1,rfl,l1,p1⟩:=p1;unfold Hv at p2;subst p2;exact EqAt.list_bool b2 l1 (by omega)
 |.lst ds1,.int b2,u,v,A,p1,p2,hu=>by
  unfold Hv at p1;obtain⟨a1,its1,rfl,l1,p1⟩:=p1;unfold Hv at p2;obtain⟨t2,rfl⟩:=p2;exact EqAt.list_int b2 t2 l1 (by omega)
 |.lst ds1,.str b2,u,v,A,p1,p2,hu=>by
  unfold Hv at p1;obtain⟨a1,its1,rfl,l1,p1⟩:=p1;unfold Hv at p2;obtain⟨t2,rfl⟩:=p2;exact EqAt.list_str b2 t2 l1 (by omega)
 |.lst ds1,.tup ds2,u,v,A,p1,p2,hu=>by
  unfold Hv at p1;obtain⟨a1,its1,rfl,l1,p1⟩:=p1;unfold Hv at p2;obtain⟨a2,its2,rfl,l2,p2⟩:=p2;exact EqAt.list_tuple l1 l2 (by omega)
 |.lst ds1,.lst ds2,u,v,A,p1,p2,hu=>by
  unfold Hv at p1;obtain⟨a1,its1,rfl,l1,p1⟩:=p1;unfold Hv at p2;obtain⟨a2,its2,rfl,l2,p2⟩:=p2;unfold D.eqb;by_cases ha:a1=a2
  ·subst ha;have e0:(.lst ds1:D)=.lst ds2:=Hv.inj (h:=s.heap) (u:=.ref a1) (by unfold Hv;exact⟨a1,its1,rfl,l1,p1⟩) (by unfold Hv;exact⟨a1,its2,rfl,l2,p2⟩);injection e0 with e0;subst e0;rw[p1.refl];exact EqAt.same _
  ·refine EqAt.of_refs ha ?_;have hdep:A.units+deps ds1+1+1<cLine:=by
    have e9:(.lst ds1:D).dep=deps ds1+1:=by first|rfl|(unfold D.dep;rfl)
    omega
   by_cases hn:ds1.length=ds2.length
   ·have q:=RcAt.lists (e:=fun j=>(ds1.getD j .non).eqb (ds2.getD j .non)) l1 l2 (by simp[p1.length,p2.length,hn]) (by omega) fun j h1 h2=>
     have m:=(q2z p1 h1).2
     eqAt (ds1.getD j .non) (ds2.getD j .non) _ _ A.in1 (q2z p1 h1).1 (q2z p2 h2).1 (by
      have:=dep_mem m;show A.units+1+_+1<cLine;omega)
    have q2:=qbqz ds1 ds2;rw[hn,Nat.min_self,beq_self_eq_true,Bool.and_true] at q2;rw[List.size_toArray,p1.length,hn,q2] at q;exact q
   ·rw[qdwz _ _ hn];exact RcAt.lists_lengths l1 l2 (by simp[p1.length,p2.length,hn]) (by omega)
 |.non,.dct,u,v,A,p1,p2,hu=>by
  unfold Hv at p2;exact p2.elim
 |.bl b1,.dct,u,v,A,p1,p2,hu=>by
  unfold Hv at p2;exact p2.elim
 |.int b1,.dct,u,v,A,p1,p2,hu=>by
  unfold Hv at p2;exact p2.elim
 |.str b1,.dct,u,v,A,p1,p2,hu=>by
  unfold Hv at p2;exact p2.elim
 |.tup ds1,.dct,u,v,A,p1,p2,hu=>by
  unfold Hv at p2;exact p2.elim
 |.lst ds1,.dct,u,v,A,p1,p2,hu=>by
  unfold Hv at p2;exact p2.elim
 |.dct,e,u,v,A,p1,p2,hu=>by
  unfold Hv at p1;exact p1.elim
termination_by d=>sizeOf d
decreasing_by
 all_goals (have:=List.sizeOf_lt_of_mem m;first|(rw[D.tup.sizeOf_spec];omega)|(rw[D.lst.sizeOf_spec];omega))
theorem rcAt{s:Shared}(d e:D)(u v:Value)(A:Around)(p1:Hv s.heap d u)(p2:Hv s.heap e v)(hu:A.units+d.dep+1<cLine):RcAt A s u v (d.eqb e):=
 match d,e,p1,p2,hu with
 |.non,.non,p1,p2,hu=>by
  unfold Hv at p1;subst p1;unfold Hv at p2;subst p2;exact RcAt.none_none
 |.non,.bl b2,p1,p2,hu=>by
  unfold Hv at p1;subst p1;unfold Hv at p2;subst p2;exact RcAt.none_bool  b2
 |.non,.int b2,p1,p2,hu=>by
  unfold Hv at p1;subst p1;unfold Hv at p2;obtain⟨t2,rfl⟩:=p2;exact RcAt.none_int  b2 t2
 |.non,.str b2,p1,p2,hu=>by
  unfold Hv at p1;subst p1;unfold Hv at p2;obtain⟨t2,rfl⟩:=p2;exact RcAt.none_str  b2 t2
 |.non,.tup ds2,p1,p2,hu=>by
  unfold Hv at p1;subst p1;unfold Hv at p2;obtain⟨a2,its2,rfl,l2,p2⟩:=p2;exact RcAt.none_tuple  l2 (by omega)
 |.non,.lst ds2,p1,p2,hu=>by
  unfold Hv at p1;subst p1;unfold Hv at p2;obtain⟨a2,its2,rfl,l2,p2⟩:=p2;exact RcAt.none_list  l2 (by omega)
 |.bl b1,.non,p1,p2,hu=>by
  unfold Hv at p1;subst p1;unfold Hv at p2;subst p2;exact RcAt.bool_none b1
 |.bl b1,.bl b2,p1,p2,hu=>by
  unfold Hv at p1;subst p1;unfold Hv at p2;subst p2;exact RcAt.bool_bool b1 b2
 |.bl b1,.int b2,p1,p2,hu=>by
  unfold Hv at p1;subst p1;unfold Hv at p2;obtain⟨t2,rfl⟩:=p2;exact RcAt.bool_int b1 b2 t2
 |.bl b1,.str b2,p1,p2,hu=>by
  unfold Hv at p1;subst p1;unfold Hv at p2;obtain⟨t2,rfl⟩:=p2;exact RcAt.bool_str b1 b2 t2
 |.bl b1,.tup ds2,p1,p2,hu=>by
  unfold Hv at p1;subst p1;unfold Hv at p2;obtain⟨a2,its2,rfl,l2,p2⟩:=p2;exact RcAt.bool_tuple b1 l2 (by omega)
 |.bl b1,.lst ds2,p1,p2,hu=>by
  unfold Hv at p1;subst p1;unfold Hv at p2;obtain⟨a2,its2,rfl,l2,p2⟩:=p2;exact RcAt.bool_list b1 l2 (by omega)
 |.int b1,.non,p1,p2,hu=>by
  unfold Hv at p1;obtain⟨t1,rfl⟩:=p1;unfold Hv at p2;subst p2;exact RcAt.int_none b1 t1
 |.int b1,.bl b2,p1,p2,hu=>by
  unfold Hv at p1;obtain⟨t1,rfl⟩:=p1;unfold Hv at p2;subst p2;exact RcAt.int_bool b1 t1 b2
 |.int b1,.int b2,p1,p2,hu=>by
  unfold Hv at p1;obtain⟨t1,rfl⟩:=p1;unfold Hv at p2;obtain⟨t2,rfl⟩:=p2;exact RcAt.int_int b1 t1 b2 t2
 |.int b1,.str b2,p1,p2,hu=>by
  unfold Hv at p1;obtain⟨t1,rfl⟩:=p1;unfold Hv at p2;obtain⟨t2,rfl⟩:=p2;exact RcAt.int_str b1 t1 b2 t2
 |.int b1,.tup ds2,p1,p2,hu=>by
  unfold Hv at p1;obtain⟨t1,rfl⟩:=p1;unfold Hv at p2;obtain⟨a2,its2,rfl,l2,p2⟩:=p2;exact RcAt.int_tuple b1 t1 l2 (by omega)
 |.int b1,.lst ds2,p1,p2,hu=>by
  unfold Hv at p1;obtain⟨t1,rfl⟩:=p1;unfold Hv at p2;obtain⟨a2,its2,rfl,l2,p2⟩:=p2;exact RcAt.int_list b1 t1 l2 (by omega)
 |.str b1,.non,p1,p2,hu=>by
  unfold Hv at p1;obtain⟨t1,rfl⟩:=p1;unfold Hv at p2;subst p2;exact RcAt.str_none b1 t1
 |.str b1,.bl b2,p1,p2,hu=>by
  unfold Hv at p1;obtain⟨t1,rfl⟩:=p1;unfold Hv at p2;subst p2;exact RcAt.str_bool b1 t1 b2
 |.str b1,.int b2,p1,p2,hu=>by
  unfold Hv at p1;obtain⟨t1,rfl⟩:=p1;unfold Hv at p2;obtain⟨t2,rfl⟩:=p2;exact RcAt.str_int b1 t1 b2 t2
 |.str b1,.str b2,p1,p2,hu=>by
  unfold Hv at p1;obtain⟨t1,rfl⟩:=p1;unfold Hv at p2;obtain⟨t2,rfl⟩:=p2;exact RcAt.str_str b1 t1 b2 t2
 |.str b1,.tup ds2,p1,p2,hu=>by
  unfold Hv at p1;obtain⟨t1,rfl⟩:=p1;unfold Hv at p2;obtain⟨a2,its2,rfl,l2,p2⟩:=p2;exact RcAt.str_tuple b1 t1 l2 (by omega)
 |.str b1,.lst ds2,p1,p2,hu=>by
  unfold Hv at p1;obtain⟨t1,rfl⟩:=p1;unfold Hv at p2;obtain⟨a2,its2,rfl,l2,p2⟩:=p2;exact RcAt.str_list b1 t1 l2 (by omega)
 |.tup ds1,.non,p1,p2,hu=>by
  unfold Hv at p1;obtain⟨a1,its1,rfl,l1,p1⟩:=p1;unfold Hv at p2;subst p2;exact RcAt.tuple_none  l1 (by omega)
 |.tup ds1,.bl b2,p1,p2,hu=>by
  unfold Hv at p1;obtain⟨a1,its1,rfl,l1,p1⟩:=p1;unfold Hv at p2;subst p2;exact RcAt.tuple_bool b2 l1 (by omega)
 |.tup ds1,.int b2,p1,p2,hu=>by
  unfold Hv at p1;obtain⟨a1,its1,rfl,l1,p1⟩:=p1;unfold Hv at p2;obtain⟨t2,rfl⟩:=p2;exact RcAt.tuple_int b2 t2 l1 (by omega)
 |.tup ds1,.str b2,p1,p2,hu=>by
  unfold Hv at p1;obtain⟨a1,its1,rfl,l1,p1⟩:=p1;unfold Hv at p2;obtain⟨t2,rfl⟩:=p2;exact RcAt.tuple_str b2 t2 l1 (by omega)
 |.tup ds1,.tup ds2,p1,p2,hu=>by
  unfold Hv at p1;obtain⟨a1,its1,rfl,l1,p1⟩:=p1;unfold Hv at p2;obtain⟨a2,its2,rfl,l2,p2⟩:=p2;unfold D.eqb;have hdep:A.units+deps ds1+1+1<cLine:=by
   have e9:(.tup ds1:D).dep=deps ds1+1:=by first|rfl|(unfold D.dep;rfl)
   omega
  have q:=RcAt.tuples (e:=fun j=>(ds1.getD j .non).eqb (ds2.getD j .non)) l1 l2 (by omega) fun j h1 h2=>
   eqAt (ds1.getD j .non) (ds2.getD j .non) _ _ A.in1 (q2z p1 h1).1 (q2z p2 h2).1 (by
    have:=dep_mem (q2z p1 h1).2;show A.units+1+_+1<cLine;omega)
  rw[List.size_toArray,List.size_toArray,p1.length,p2.length,qbqz] at q;exact q
 |.tup ds1,.lst ds2,p1,p2,hu=>by
  unfold Hv at p1;obtain⟨a1,its1,rfl,l1,p1⟩:=p1;unfold Hv at p2;obtain⟨a2,its2,rfl,l2,p2⟩:=p2;exact RcAt.tuple_list l1 l2 (by omega)
 |.lst ds1,.non,p1,p2,hu=>by
  unfold Hv at p1;obtain⟨a1,its1,rfl,l1,p1⟩:=p1;unfold Hv at p2;subst p2;exact RcAt.list_none  l1 (by omega)
 |.lst ds1,.bl b2,p1,p2,hu=>by
  unfold Hv at p1;obtain⟨a1,its1,rfl,l1,p1⟩:=p1;unfold Hv at p2;subst p2;exact RcAt.list_bool b2 l1 (by omega)
 |.lst ds1,.int b2,p1,p2,hu=>by
  unfold Hv at p1;obtain⟨a1,its1,rfl,l1,p1⟩:=p1;unfold Hv at p2;obtain⟨t2,rfl⟩:=p2;exact RcAt.list_int b2 t2 l1 (by omega)
 |.lst ds1,.str b2,p1,p2,hu=>by
  unfold Hv at p1;obtain⟨a1,its1,rfl,l1,p1⟩:=p1;unfold Hv at p2;obtain⟨t2,rfl⟩:=p2;exact RcAt.list_str b2 t2 l1 (by omega)
 |.lst ds1,.tup ds2,p1,p2,hu=>by
  unfold Hv at p1;obtain⟨a1,its1,rfl,l1,p1⟩:=p1;unfold Hv at p2;obtain⟨a2,its2,rfl,l2,p2⟩:=p2;exact RcAt.list_tuple l1 l2 (by omega)
 |.lst ds1,.lst ds2,p1,p2,hu=>by
  unfold Hv at p1;obtain⟨a1,its1,rfl,l1,p1⟩:=p1;unfold Hv at p2;obtain⟨a2,its2,rfl,l2,p2⟩:=p2;unfold D.eqb;have hdep:A.units+deps ds1+1+1<cLine:=by
   have e9:(.lst ds1:D).dep=deps ds1+1:=by first|rfl|(unfold D.dep;rfl)
   omega
  by_cases hn:ds1.length=ds2.length
  ·have q:=RcAt.lists (e:=fun j=>(ds1.getD j .non).eqb (ds2.getD j .non)) l1 l2 (by simp[p1.length,p2.length,hn]) (by omega) fun j h1 h2=>
    eqAt (ds1.getD j .non) (ds2.getD j .non) _ _ A.in1 (q2z p1 h1).1 (q2z p2 h2).1 (by
     have:=dep_mem (q2z p1 h1).2;show A.units+1+_+1<cLine;omega)
   have q2:=qbqz ds1 ds2;rw[hn,Nat.min_self,beq_self_eq_true,Bool.and_true] at q2;rw[List.size_toArray,p1.length,hn,q2] at q;exact q
  ·rw[qdwz _ _ hn];exact RcAt.lists_lengths l1 l2 (by simp[p1.length,p2.length,hn]) (by omega)
 |d,.dct,p1,p2,hu=>by
  unfold Hv at p2;exact p2.elim
 |.dct,e,p1,p2,hu=>by
  unfold Hv at p1;exact p1.elim
theorem rcNe{s:Shared}(d e:D)(u v:Value)(A:Around)(p1:Hv s.heap d u)(p2:Hv s.heap e v)(hu:A.units+d.dep+1<cLine):RcNeAt A s u v (!d.eqb e):=
 match d,e,p1,p2,hu with
 |.non,.non,p1,p2,hu=>by
  unfold Hv at p1;subst p1;unfold Hv at p2;subst p2;exact RcNeAt.none_none
 |.non,.bl b2,p1,p2,hu=>by
  unfold Hv at p1;subst p1;unfold Hv at p2;subst p2;exact RcNeAt.none_bool  b2
 |.non,.int b2,p1,p2,hu=>by
  unfold Hv at p1;subst p1;unfold Hv at p2;obtain⟨t2,rfl⟩:=p2;exact RcNeAt.none_int  b2 t2
 |.non,.str b2,p1,p2,hu=>by
  unfold Hv at p1;subst p1;unfold Hv at p2;obtain⟨t2,rfl⟩:=p2;exact RcNeAt.none_str  b2 t2
 |.non,.tup ds2,p1,p2,hu=>by
  unfold Hv at p1;subst p1;unfold Hv at p2;obtain⟨a2,its2,rfl,l2,p2⟩:=p2;exact RcNeAt.none_tuple  l2 (by omega)
 |.non,.lst ds2,p1,p2,hu=>by
  unfold Hv at p1;subst p1;unfold Hv at p2;obtain⟨a2,its2,rfl,l2,p2⟩:=p2;exact RcNeAt.none_list  l2 (by omega)
 |.bl b1,.non,p1,p2,hu=>by
  unfold Hv at p1;subst p1;unfold Hv at p2;subst p2;exact RcNeAt.bool_none b1
 |.bl b1,.bl b2,p1,p2,hu=>by
  unfold Hv at p1;subst p1;unfold Hv at p2;subst p2;exact RcNeAt.bool_bool b1 b2
 |.bl b1,.int b2,p1,p2,hu=>by
  unfold Hv at p1;subst p1;unfold Hv at p2;obtain⟨t2,rfl⟩:=p2;exact RcNeAt.bool_int b1 b2 t2
 |.bl b1,.str b2,p1,p2,hu=>by
  unfold Hv at p1;subst p1;unfold Hv at p2;obtain⟨t2,rfl⟩:=p2;exact RcNeAt.bool_str b1 b2 t2
 |.bl b1,.tup ds2,p1,p2,hu=>by
  unfold Hv at p1;subst p1;unfold Hv at p2;obtain⟨a2,its2,rfl,l2,p2⟩:=p2;exact RcNeAt.bool_tuple b1 l2 (by omega)
 |.bl b1,.lst ds2,p1,p2,hu=>by
  unfold Hv at p1;subst p1;unfold Hv at p2;obtain⟨a2,its2,rfl,l2,p2⟩:=p2;exact RcNeAt.bool_list b1 l2 (by omega)
 |.int b1,.non,p1,p2,hu=>by
  unfold Hv at p1;obtain⟨t1,rfl⟩:=p1;unfold Hv at p2;subst p2;exact RcNeAt.int_none b1 t1
 |.int b1,.bl b2,p1,p2,hu=>by
  unfold Hv at p1;obtain⟨t1,rfl⟩:=p1;unfold Hv at p2;subst p2;exact RcNeAt.int_bool b1 t1 b2
 |.int b1,.int b2,p1,p2,hu=>by
  unfold Hv at p1;obtain⟨t1,rfl⟩:=p1;unfold Hv at p2;obtain⟨t2,rfl⟩:=p2;exact RcNeAt.int_int b1 t1 b2 t2
 |.int b1,.str b2,p1,p2,hu=>by
  unfold Hv at p1;obtain⟨t1,rfl⟩:=p1;unfold Hv at p2;obtain⟨t2,rfl⟩:=p2;exact RcNeAt.int_str b1 t1 b2 t2
 |.int b1,.tup ds2,p1,p2,hu=>by
  unfold Hv at p1;obtain⟨t1,rfl⟩:=p1;unfold Hv at p2;obtain⟨a2,its2,rfl,l2,p2⟩:=p2;exact RcNeAt.int_tuple b1 t1 l2 (by omega)
 |.int b1,.lst ds2,p1,p2,hu=>by
  unfold Hv at p1;obtain⟨t1,rfl⟩:=p1;unfold Hv at p2;obtain⟨a2,its2,rfl,l2,p2⟩:=p2;exact RcNeAt.int_list b1 t1 l2 (by omega)
 |.str b1,.non,p1,p2,hu=>by
  unfold Hv at p1;obtain⟨t1,rfl⟩:=p1;unfold Hv at p2;subst p2;exact RcNeAt.str_none b1 t1
 |.str b1,.bl b2,p1,p2,hu=>by
  unfold Hv at p1;obtain⟨t1,rfl⟩:=p1;unfold Hv at p2;subst p2;exact RcNeAt.str_bool b1 t1 b2
 |.str b1,.int b2,p1,p2,hu=>by
  unfold Hv at p1;obtain⟨t1,rfl⟩:=p1;unfold Hv at p2;obtain⟨t2,rfl⟩:=p2;exact RcNeAt.str_int b1 t1 b2 t2
 |.str b1,.str b2,p1,p2,hu=>by
  unfold Hv at p1;obtain⟨t1,rfl⟩:=p1;unfold Hv at p2;obtain⟨t2,rfl⟩:=p2;exact RcNeAt.str_str b1 t1 b2 t2
 |.str b1,.tup ds2,p1,p2,hu=>by
  unfold Hv at p1;obtain⟨t1,rfl⟩:=p1;unfold Hv at p2;obtain⟨a2,its2,rfl,l2,p2⟩:=p2;exact RcNeAt.str_tuple b1 t1 l2 (by omega)
 |.str b1,.lst ds2,p1,p2,hu=>by
  unfold Hv at p1;obtain⟨t1,rfl⟩:=p1;unfold Hv at p2;obtain⟨a2,its2,rfl,l2,p2⟩:=p2;exact RcNeAt.str_list b1 t1 l2 (by omega)
 |.tup ds1,.non,p1,p2,hu=>by
  unfold Hv at p1;obtain⟨a1,its1,rfl,l1,p1⟩:=p1;unfold Hv at p2;subst p2;exact RcNeAt.tuple_none  l1 (by omega)
 |.tup ds1,.bl b2,p1,p2,hu=>by
  unfold Hv at p1;obtain⟨a1,its1,rfl,l1,p1⟩:=p1;unfold Hv at p2;subst p2;exact RcNeAt.tuple_bool b2 l1 (by omega)
 |.tup ds1,.int b2,p1,p2,hu=>by
  unfold Hv at p1;obtain⟨a1,its1,rfl,l1,p1⟩:=p1;unfold Hv at p2;obtain⟨t2,rfl⟩:=p2;exact RcNeAt.tuple_int b2 t2 l1 (by omega)
 |.tup ds1,.str b2,p1,p2,hu=>by
  unfold Hv at p1;obtain⟨a1,its1,rfl,l1,p1⟩:=p1;unfold Hv at p2;obtain⟨t2,rfl⟩:=p2;exact RcNeAt.tuple_str b2 t2 l1 (by omega)
 |.tup ds1,.tup ds2,p1,p2,hu=>by
  unfold Hv at p1;obtain⟨a1,its1,rfl,l1,p1⟩:=p1;unfold Hv at p2;obtain⟨a2,its2,rfl,l2,p2⟩:=p2;unfold D.eqb;have hdep:A.units+deps ds1+1+1<cLine:=by
   have e9:(.tup ds1:D).dep=deps ds1+1:=by first|rfl|(unfold D.dep;rfl)
   omega
  have q:=RcNeAt.tuples (e:=fun j=>(ds1.getD j .non).eqb (ds2.getD j .non)) l1 l2 (by omega) fun j h1 h2=>
   eqAt (ds1.getD j .non) (ds2.getD j .non) _ _ A.in1 (q2z p1 h1).1 (q2z p2 h2).1 (by
    have:=dep_mem (q2z p1 h1).2;show A.units+1+_+1<cLine;omega)
  rw[List.size_toArray,List.size_toArray,p1.length,p2.length,qbqz] at q;exact q
 |.tup ds1,.lst ds2,p1,p2,hu=>by
  unfold Hv at p1;obtain⟨a1,its1,rfl,l1,p1⟩:=p1;unfold Hv at p2;obtain⟨a2,its2,rfl,l2,p2⟩:=p2;exact RcNeAt.tuple_list l1 l2 (by omega)
 |.lst ds1,.non,p1,p2,hu=>by
  unfold Hv at p1;obtain⟨a1,its1,rfl,l1,p1⟩:=p1;unfold Hv at p2;subst p2;exact RcNeAt.list_none  l1 (by omega)
 |.lst ds1,.bl b2,p1,p2,hu=>by
  unfold Hv at p1;obtain⟨a1,its1,rfl,l1,p1⟩:=p1;unfold Hv at p2;subst p2;exact RcNeAt.list_bool b2 l1 (by omega)
 |.lst ds1,.int b2,p1,p2,hu=>by
  unfold Hv at p1;obtain⟨a1,its1,rfl,l1,p1⟩:=p1;unfold Hv at p2;obtain⟨t2,rfl⟩:=p2;exact RcNeAt.list_int b2 t2 l1 (by omega)
 |.lst ds1,.str b2,p1,p2,hu=>by
  unfold Hv at p1;obtain⟨a1,its1,rfl,l1,p1⟩:=p1;unfold Hv at p2;obtain⟨t2,rfl⟩:=p2;exact RcNeAt.list_str b2 t2 l1 (by omega)
 |.lst ds1,.tup ds2,p1,p2,hu=>by
  unfold Hv at p1;obtain⟨a1,its1,rfl,l1,p1⟩:=p1;unfold Hv at p2;obtain⟨a2,its2,rfl,l2,p2⟩:=p2;exact RcNeAt.list_tuple l1 l2 (by omega)
 |.lst ds1,.lst ds2,p1,p2,hu=>by
  unfold Hv at p1;obtain⟨a1,its1,rfl,l1,p1⟩:=p1;unfold Hv at p2;obtain⟨a2,its2,rfl,l2,p2⟩:=p2;unfold D.eqb;have hdep:A.units+deps ds1+1+1<cLine:=by
   have e9:(.lst ds1:D).dep=deps ds1+1:=by first|rfl|(unfold D.dep;rfl)
   omega
  by_cases hn:ds1.length=ds2.length
  ·have q:=RcNeAt.lists (e:=fun j=>(ds1.getD j .non).eqb (ds2.getD j .non)) l1 l2 (by simp[p1.length,p2.length,hn]) (by omega) fun j h1 h2=>
    eqAt (ds1.getD j .non) (ds2.getD j .non) _ _ A.in1 (q2z p1 h1).1 (q2z p2 h2).1 (by
     have:=dep_mem (q2z p1 h1).2;show A.units+1+_+1<cLine;omega)
   have q2:=qbqz ds1 ds2;rw[hn,Nat.min_self,beq_self_eq_true,Bool.and_true] at q2;rw[List.size_toArray,p1.length,hn,q2] at q;exact q
  ·rw[qdwz _ _ hn];exact RcNeAt.lists_lengths l1 l2 (by simp[p1.length,p2.length,hn]) (by omega)
 |d,.dct,p1,p2,hu=>by
  unfold Hv at p2;exact p2.elim
 |.dct,e,p1,p2,hu=>by
  unfold Hv at p1;exact p1.elim
end Dat
namespace L3
open PySem PySem.Spec PyProof.Rows L2
section
variable {X:Cx} {K:PySem.W.Frag}
def rI3(f:Int->Int->D):R3:=fun x y G Q=>match x,y with
 |.int i,.int j=>Q (f i j) G
 |_,_=>False
theorem qwz{H:Hp}{i:Int}{v:V}(h:Hv K H (.int i) v):v=.int i:=by unfold Hv at h;exact h
theorem qbrz{H:Hp}{i:Bool}{v:V}(h:Hv K H (.bl i) v):v=.bl i:=by unfold Hv at h;exact h
theorem qtz{H:Hp}{a:Addr}{v:V}(h:Hv K H (.obj a) v):v=.ref a:=by unfold Hv at h;exact h
theorem q9z{H:Hp}{ds:List D}{v:V}(h:Hv K H (.tup ds) v):∃a vs,v=.ref a/\SqT K H a vs/\Hvs K H ds vs:=by unfold Hv at h;exact h
theorem qbfz{H:Hp}{ds:List D}{v:V}(h:Hv K H (.scr ds) v):∃a vs,v=.ref a/\SqF K H a vs/\Hvs K H ds vs:=by unfold Hv at h;exact h
theorem q3z{H:Hp}{i:Int}:Hv K H (.int i) (.int i):=by simp[Hv]
theorem q5z{H:Hp}{i:Bool}:Hv K H (.bl i) (.bl i):=by simp[Hv]
theorem qa0z{H:Hp}{a:Addr}:Hv K H (.obj a) (.ref a):=by simp[Hv]
theorem qa1z{H:Hp}{ds:List D}{a:Addr}{vs:List V}(h:SqT K H a vs)(q:Hvs K H ds vs):Hv K H (.tup ds) (.ref a):=by
 unfold Hv;exact⟨a,vs,rfl,h,q⟩
theorem low_ints{f:Int->Int->D}{g:Int->Int->V}(hf:∀i j H,Hv K H (f i j) (g i j)):LowR K (rI3 f) (rI0 g):=fun x y vx vy G H Q3 Q hx hy RG h k=>by
 cases x with
 |int i=>
  cases y with
  |int j=>
   rw[qwz hx,qwz hy];exact⟨i,j,rfl,rfl,k _ H _ G (hf i j H) (.refl H G) RG h⟩
  |_=>exact h.elim
 |_=>exact h.elim
abbrev rSub3:R3:=rI3 fun i j=>.int (i-j)
theorem qdxz:LowR K rSub3 (rI0 fun i j=>.int (i-j)):=low_ints fun _ _ _=>q3z
abbrev rLe3:R3:=rI3 fun i j=>.bl (decide (i≤j))
theorem l_le:LowR K rLe3 (rI0 fun i j=>.bl (decide (i≤j))):=low_ints fun _ _ _=>q5z
abbrev rGt3:R3:=rI3 fun i j=>.bl (decide (j<i))
theorem l_gt:LowR K rGt3 (rI0 fun i j=>.bl (decide (j<i))):=low_ints fun _ _ _=>q5z
abbrev rGe3:R3:=rI3 fun i j=>.bl (decide (j≤i))
theorem l_ge:LowR K rGe3 (rI0 fun i j=>.bl (decide (j≤i))):=low_ints fun _ _ _=>q5z
def Big(i:Int):Prop:=i.natAbs<2^4000
theorem qikz{i:Int}(h:Big i):i.natAbs.log2<4000:=by
 by_cases h0:i.natAbs=0
 ·rw[h0];decide
 ·exact (Nat.log2_lt h0).mpr h
theorem qilz{i:Int}(h:Big i):Builtin.Int.intBits i≤4000:=by
 unfold Builtin.Int.intBits;split
 ·exact Nat.zero_le _
 ·exact qikz h
theorem qqwz{i j:Int}(h1:Big i)(h2:Big j):IntMulOk i j:=by
 unfold IntMulOk Builtin.Int.intTooBig;have b1:=qilz h1;have b2:=qilz h2;have:¬((Builtin.Int.intBits i:Int)+(Builtin.Int.intBits j:Int) > (bitsLine:Int)):=by
  have:(bitsLine:Int)=134217728:=by decide
  omega
 rw[decide_eq_false this];simp
theorem qb4z:OpR X (binaryOp .FloorDiv) (rI (fun _ j=>0<j/\Big j) fun i j=>.int (i / j)):=opI fun i j _ _ _ _ _ hc q=>by
 have h1:(0:Int)<j:=hc.1;exact floordiv_int (by omega) (by rw[Int.fdiv_eq_ediv_of_nonneg i (by omega)];exact q) (.inl (PyProof.noPylong_of_log2 (Nat.lt_trans (qikz hc.2) (by decide))))
theorem op_mulB:OpR X (binaryOp .Mult) (rI (fun i j=>Big i/\Big j) fun i j=>.int (i*j)):=opI fun _ _ _ _ _ _ _ hc q=>mul_int q (qqwz hc.1 hc.2)
def rIC3(C:Int->Int->Prop)(f:Int->Int->D):R3:=fun x y G Q=>match x,y with
 |.int i,.int j=>C i j/\Q (f i j) G
 |_,_=>False
theorem qb5z{C:Int->Int->Prop}{f:Int->Int->D}{g:Int->Int->V}(hf:∀i j H,Hv K H (f i j) (g i j)):LowR K (rIC3 C f) (rI C g):=fun x y vx vy G H Q3 Q hx hy RG h k=>by
 cases x with
 |int i=>
  cases y with
  |int j=>
   rw[qwz hx,qwz hy];exact⟨i,j,rfl,rfl,h.1,k _ H _ G (hf i j H) (.refl H G) RG h.2⟩
  |_=>exact h.elim
 |_=>exact h.elim
abbrev rDiv3:R3:=rIC3 (fun _ j=>0<j/\Big j) fun i j=>.int (i / j)
theorem qb6z:LowR K rDiv3 (rI (fun _ j=>0<j/\Big j) fun i j=>.int (i / j)):=qb5z fun _ _ _=>q3z
abbrev rMod3:R3:=rIC3 (fun _ j=>0<j) fun i j=>.int (i%j)
theorem qbsz:LowR K rMod3 (rI (fun _ j=>0<j) fun i j=>.int (i%j)):=qb5z fun _ _ _=>q3z
abbrev rPow3:R3:=rIC3 CPow fun i j=>.int (i^j.toNat)
theorem qqxz:LowR K rPow3 (rI CPow fun i j=>.int (i^j.toNat)):=qb5z fun _ _ _=>q3z
theorem qqyz{prog:Program}{w:World}{A:Around}{E:Value->Shared->Prop}{s:Shared}{t b:Addr}{ws:List Value}{Q:Value->Shared->Prop}(ht:IsTup s.heap t #[])(hb:IsTup s.heap b ws.toArray)(h1:Q (.ref b) s):
  wpAny (model prog w) A (binaryOp .Add (.ref t) (.ref b)) Q E s:=by
 obtain⟨⟨cls,dd,data,sl⟩,ho,hc,n,hd⟩:=id ht;obtain⟨⟨cls2,dd2,data2,sl2⟩,ho2,hc2,n2,hd2⟩:=id hb;simp only at hc hd hc2 hd2;subst hc hd hc2 hd2;exact concat_meets ⟨_,ho,rfl⟩ ⟨_,ho2,rfl⟩ noFill_tuple_add seq_tuple_add PySem.F.slot_tuple_add PySem.F.entry_tuple_add (PySem.F.args_tuple_add_2 _ _)
   (tuple_addW0 t b #[] ws.toArray n n2 dd dd2 sl sl2 rfl) ⟨ho,ho2,h1⟩
def rCatT0(K:PySem.W.Frag):R2:=fun x y H Q=>∃a b ys,x=.ref a/\y=.ref b/\SqT K H a []/\SqT K H b ys/\Q (.ref b) H
theorem qqzz:OpR X (binaryOp .Add) (rCatT0 X.K):=by
 intro pins s σ H x y v u Q I rx ry h;obtain⟨a,b,ys,rfl,rfl,ha,hb,q⟩:=h;cases rx;cases ry;obtain⟨its,r1,p1,_⟩:=I.tuple ha;obtain⟨its2,r2,p2,_⟩:=I.tuple hb;cases r1;exact qqyz p1 p2 ⟨.ref b,H,I,rfl,q⟩
def rAdd3:R3:=fun x y G Q=>match x,y with
 |.int i,.int j=>Q (.int (i+j)) G
 |.obj a,.obj b=>∃ds es,G a=some (.lst ds)/\G b=some (.lst es)/\ds.length+es.length≤sizeLine/\∀p G',New G p (.lst (ds++es)) G'->Q (.obj p) G'
 |.tup ds,.tup es=>ds.length+es.length≤sizeLine/\Q (.tup (ds++es)) G
 |_,_=>False
abbrev rAdd2(K:PySem.W.Frag):R2:=fun x y H Q=>rI0 (fun i j=>.int (i+j)) x y H Q∨(rCat x y H Q∨(rCatT K x y H Q∨rCatT0 K x y H Q))
theorem qzz:OpR X (binaryOp .Add) (rAdd2 X.K):=op_add.or (op_cat.or (op_catT.or qqzz))
theorem q0z:LowR K rAdd3 (rAdd2 K):=fun x y vx vy G H Q3 Q hx hy RG h k=>by
 cases x with
 |int i=>
  cases y with
  |int j=>
   rw[qwz hx,qwz hy];exact .inl ⟨i,j,rfl,rfl,k _ H _ G q3z (.refl H G) RG h⟩
  |_=>exact h.elim
 |obj a=>
  cases y with
  |obj b=>
   rw[qtz hx,qtz hy];obtain⟨ds,es,e1,e2,hz,q⟩:=h;obtain⟨vs,z1,z2⟩:=RG a _ e1;obtain⟨us,y1,y2⟩:=RG b _ e2;refine .inr (.inl ⟨a,b,vs,us,rfl,rfl,z1,y1,by rw[←z2.length,←y2.length];exact hz,fun p hp=>?_⟩);exact k _ _ (.obj p) _ qa0z (.laidG hp) (RG.newL hp (z2.append y2)) (q p _ (.mk' (RG.free hp)))
  |_=>exact h.elim
 |tup ds=>
  cases y with
  |tup es=>
   obtain⟨a,vs,rfl,e1,e2⟩:=q9z hx;obtain⟨b,us,rfl,y1,y2⟩:=q9z hy;by_cases h0:vs=[]
   ·subst h0;have:ds=[]:=by
     have:=e2.length;exact List.eq_nil_of_length_eq_zero (by simpa using this)
    subst this;exact .inr (.inr (.inr ⟨a,b,us,rfl,rfl,e1,y1,k _ H (.tup es) G (qa1z y1 y2) (.refl H G) RG h.2⟩))
   ·refine .inr (.inr (.inl ⟨a,b,vs,us,rfl,rfl,e1,y1,h0,by rw[←e2.length,←y2.length];exact h.1,fun z=>?_,fun z p hp=>?_⟩))
    ·subst z;have:es=[]:=List.eq_nil_of_length_eq_zero (by simpa using y2.length);subst this;refine k _ H (.tup ds) G (qa1z e1 e2) (.refl H G) RG ?_;have:=h.2;rwa [List.append_nil] at this
    ·exact k _ _ (.tup (ds++es)) G (qa1z (.of qrz) ((e2.append y2).ext (.laid hp))) (.laid hp) (RG.laid hp) h.2
  |_=>exact h.elim
 |_=>exact h.elim
def rMul3:R3:=fun x y G Q=>match x,y with
 |.int i,.int j=>(Big i/\Big j)/\Q (.int (i*j)) G
 |.obj a,.int k=>∃ds,G a=some (.lst ds)/\(-(2^63)≤k/\k<2^63)/\ds.length*k.toNat≤sizeLine/\∀p G',New G p (.lst (List.replicate k.toNat ds).flatten) G'->Q (.obj p) G'
 |_,_=>False
abbrev rMul2:R2:=fun x y H Q=>rI (fun i j=>Big i/\Big j) (fun i j=>.int (i*j)) x y H Q∨rRep x y H Q
theorem qa2z:OpR X (binaryOp .Mult) rMul2:=op_mulB.or qo6z
theorem qa3z:LowR K rMul3 rMul2:=fun x y vx vy G H Q3 Q hx hy RG h k=>by
 cases x with
 |int i=>
  cases y with
  |int j=>
   rw[qwz hx,qwz hy];exact .inl ⟨i,j,rfl,rfl,h.1,k _ H _ G q3z (.refl H G) RG h.2⟩
  |_=>exact h.elim
 |obj a=>
  cases y with
  |int j=>
   rw[qtz hx,qwz hy];obtain⟨ds,e1,hk,hz,q⟩:=h;obtain⟨vs,z1,z2⟩:=RG a _ e1;refine .inr ⟨a,j,vs,rfl,rfl,z1,hk.1,hk.2,by rw[←z2.length];exact hz,fun p hp=>?_⟩;exact k _ _ (.obj p) _ qa0z (.laidG hp) (RG.newL hp (z2.rep _)) (q p _ (.mk' (RG.free hp)))
  |_=>exact h.elim
 |_=>exact h.elim
def isNon:D->Bool
 |.non=>true
 |_=>false
def rIs3(neg:Bool):R3:=fun x y G Q=>match y with
 |.non=>Q (.bl (if neg then !isNon x else isNon x)) G
 |_=>False
theorem qq0z{H:Hp}{x:D}{v:V}(h:Hv K H x v):decide (v=.non)=isNon x:=by
 cases x with
 |non=>unfold Hv at h;subst h;rfl
 |bl b=>rw[qbrz h];rfl
 |int b=>rw[qwz h];rfl
 |str b=>unfold Hv at h;subst h;rfl
 |obj b=>rw[qtz h];rfl
 |tup ds=>obtain⟨a,vs,rfl,_⟩:=q9z h;rfl
 |scr ds=>obtain⟨a,vs,rfl,_⟩:=qbfz h;rfl
 |dc a=>unfold Hv at h;rw[h.1];rfl
theorem qq1z:LowR K (rIs3 true) (fun x y H Q=>y=.non/\Q (.bl (!decide (x=.non))) H):=fun x y vx vy G H Q3 Q hx hy RG h k=>by
 cases y with
 |non=>
  refine⟨by unfold Hv at hy;exact hy,?_⟩;rw[qq0z hx];exact k _ H _ G q5z (.refl H G) RG h
 |_=>exact h.elim
def intsOf:List D->Option (List Int)
 |[]=>some []
 |.int i::r=>(intsOf r).map (i::·)
 |_::_=>none
theorem qb7z{H:Hp}:∀{ds:List D} {vs:List V} {ns:List Int},Hvs K H ds vs->intsOf ds=some ns->vs=ns.map V.int
 |[],vs,ns,h,e=>by
  cases e;exact h.inv0
 |d::ds,vs,ns,h,e=>by
  cases d with
  |int i=>
   obtain⟨v,r,rfl,z1,z2⟩:=h.inv;unfold intsOf at e;cases hm:intsOf ds with
   |none=>rw[hm] at e;cases e
   |some ms=>
    rw[hm] at e;cases e;rw[qwz z1,qb7z z2 hm];rfl
  |_=>cases e
def rLtT3:R3:=fun x y G Q=>match x,y with
 |.int i,.int j=>Q (.bl (decide (i<j))) G
 |.tup ds,.tup es=>∃ns ms,intsOf ds=some ns/\intsOf es=some ms/\Q (.bl (HT.lexLt ns ms)) G
 |_,_=>False
abbrev rLtA(K:PySem.W.Frag):R2:=fun x y H Q=>rI0 (fun i j=>.bl (decide (i<j))) x y H Q∨rLtT K x y H Q
theorem qb8z(hu:X.A.units<cLine):OpR X (compareOp .Lt) (rLtA X.K):=op_lt.or (qovz hu)
theorem qb9z:LowR K rLtT3 (rLtA K):=fun x y vx vy G H Q3 Q hx hy RG h k=>by
 cases x with
 |int i=>
  cases y with
  |int j=>
   rw[qwz hx,qwz hy];exact .inl ⟨i,j,rfl,rfl,k _ H _ G q5z (.refl H G) RG h⟩
  |_=>exact h.elim
 |tup ds=>
  cases y with
  |tup es=>
   obtain⟨a,vs,rfl,e1,e2⟩:=q9z hx;obtain⟨b,us,rfl,y1,y2⟩:=q9z hy;obtain⟨ns,ms,z1,z2,q⟩:=h;have q1:=qb7z e2 z1;have q2:=qb7z y2 z2;subst q1 q2;exact .inr ⟨a,b,ns,ms,rfl,rfl,e1,y1,k _ H _ G q5z (.refl H G) RG q⟩
  |_=>exact h.elim
 |_=>exact h.elim
def rIx3:R3:=fun x y G Q=>match x,y with
 |.tup ds,.int i=>∃d,atI ds i=some d/\Q d G
 |.scr ds,.int i=>∃d,atI ds i=some d/\Q d G
 |.obj p,.int i=>∃ds d,G p=some (.lst ds)/\atI ds i=some d/\Q d G
 |_,_=>False
theorem qdyz{H:Hp}{ds:List D}{vs:List V}{i:Int}{d:D}(h:Hvs K H ds vs)(e:atI ds i=some d):∃v,atI vs i=some v/\Hv K H d v:=by
 unfold atI at e ⊢;rw[←h.length];cases hx:ixN ds.length i with
 |none=>rw[hx] at e;cases e
 |some j=>
  rw[hx] at e;exact h.get e
theorem l_ix:LowR K rIx3 (rIx K):=fun x y vx vy G H Q3 Q hx hy RG h k=>by
 cases y with
 |int i=>
  rw[qwz hy];cases x with
  |tup ds=>
   obtain⟨d,e,q⟩:=h;obtain⟨a,vs,rfl,e1,e2⟩:=q9z hx;obtain⟨v,z1,z2⟩:=qdyz e2 e;exact .inr (.inl ⟨a,vs,i,v,rfl,rfl,e1,z1,k _ H d G z2 (.refl H G) RG q⟩)
  |scr ds=>
   obtain⟨d,e,q⟩:=h;obtain⟨a,vs,rfl,e1,e2⟩:=qbfz hx;obtain⟨v,z1,z2⟩:=qdyz e2 e;exact .inl ⟨a,vs,i,v,rfl,rfl,e1.l,z1,k _ H d G z2 (.refl H G) RG q⟩
  |obj p=>
   obtain⟨ds,d,e0,e,q⟩:=h;rw[qtz hx];obtain⟨vs,e1,e2⟩:=RG p _ e0;obtain⟨v,z1,z2⟩:=qdyz e2 e;exact .inl ⟨p,vs,i,v,rfl,rfl,.of e1,z1,k _ H d G z2 (.refl H G) RG q⟩
  |_=>exact h.elim
 |_=>cases x<;>exact h.elim
theorem e_ix{a b:Expr}{ta tb:TE3}{pos:Pos}(ha:PE3 X a ta)(hb:PE3 X b tb)(hs:PlainIx b:=by intro _ _;rfl):PE3 X (.Subscript a b pos) (eOp rIx3 ta tb):=qsz (qhyz qhzz ha hb hs) fun _ _ _ h=>qdtz l_ix h
def eLstIx(ta:TA3)(tb:TE3):TE3:=fun τ G Q=>ta τ G fun ds G1=>smallL (tb τ G1 fun y G2=>match y with
 |.int i=>∃d,atI ds i=some d/\Q d G2
 | _=>False) ds 64
theorem qq2z{es:List Expr}{b:Expr}{ta:TA3}{tb:TE3}{pos pos':Pos}(ha:PA3 X es ta)(hb:PE3 X b tb)(hs:PlainIx b:=by intro _ _;rfl):PE3 X (.Subscript (.List es pos') b pos) (eLstIx ta tb):=
 qsz (qhyz qhzz (qhmz ha) hb hs) fun σ H Q ⟨τ,G,Q3,RS,RG,h,k⟩=>by
  refine⟨τ,G,_,RS,RG,h,fun vs H1 ds G1 h1 S1 R1 q1=>?_⟩;obtain⟨z,q1⟩:=qctz q1;refine⟨by rw[←h1.length];exact line64 z,fun p hp=>?_⟩;refine⟨τ,G1,_,(RS.ext (S1.ext RG)).ext (.laid hp),R1.laid hp,q1,fun v2 H2 d2 G2 h2 S2 R2 q2=>?_⟩;have e2:H2 p=some (.lst vs):=S2.fr p _ qrz (R1.free hp);cases d2 with
  |int i=>
   obtain⟨d,e,q⟩:=q2;obtain⟨v,z1,z2⟩:=qdyz ((h1.ext (.laid hp)).ext (S2.ext (R1.laid hp))) e;rw[qwz h2];exact .inl ⟨p,vs,i,v,rfl,rfl,.of e2,z1,k _ H2 d G2 z2 ((S1.trans (.laid hp)).trans S2) R2 q⟩
  |_=>exact q2.elim
end
end L3
namespace L3
open PySem PySem.Spec PyProof.Rows L2
mutual
def toDat0:D->Option Dat.D
 |.non=>some .non
 |.bl b=>some (.bl b)
 |.int i=>some (.int i)
 |.str x=>some (.str x)
 |.tup ds=>match toDats0 ds with
  |some xs=>some (.tup xs)
  |none=>none
 |.scr ds=>match toDats0 ds with
  |some xs=>some (.lst xs)
  |none=>none
 |.obj _=>none
 |.dc _=>none
def toDats0:List D->Option (List Dat.D)
 |[]=>some []
 |d::ds=>match toDat0 d with
  |some x=>match toDats0 ds with
   |some xs=>some (x::xs)
   |none=>none
  |none=>none
end
def toDat(G:Gp):D->Option Dat.D
 |.obj a=>match G a with
  |some (.lst ds)=>match toDats0 ds with
   |some xs=>some (.lst xs)
   |none=>none
  |_=>none
 |d=>toDat0 d
section
variable {X:Cx} {pins:List (Addr×Obj)} {σ:L2.St} {H:Hp} {s:Shared}
mutual
theorem qbgz(I:Inv X pins σ H s):∀{d:D} {v:V} {u:Value} {x:Dat.D},Hv X.K H d v->RelV v u->toDat0 d=some x->Dat.Hv s.heap x u
 |.non,v,u,x,h,r,e=>by
  unfold Hv at h;subst h;cases e;unfold Dat.Hv;exact r
 |.bl b,v,u,x,h,r,e=>by
  unfold Hv at h;subst h;cases e;unfold Dat.Hv;exact r
 |.int b,v,u,x,h,r,e=>by
  unfold Hv at h;subst h;cases e;unfold Dat.Hv;exact r
 |.str b,v,u,x,h,r,e=>by
  unfold Hv at h;subst h;cases e;unfold Dat.Hv;exact r
 |.obj a,v,u,x,h,r,e=>by cases e
 |.dc a,v,u,x,h,r,e=>by cases e
 |.tup ds,v,u,x,h,r,e=>by
  obtain⟨a,vs,rfl,q1,q2⟩:=q9z h;cases r;unfold toDat0 at e;cases hd:toDats0 ds with
  |none=>rw[hd] at e;cases e
  |some xs=>
   rw[hd] at e;cases e;obtain⟨its,rv,p,_⟩:=I.tuple q1;unfold Dat.Hv;exact⟨a,its,rfl,p,qdzz I q2 rv hd⟩
 |.scr ds,v,u,x,h,r,e=>by
  obtain⟨a,vs,rfl,q1,q2⟩:=qbfz h;cases r;unfold toDat0 at e;cases hd:toDats0 ds with
  |none=>rw[hd] at e;cases e
  |some xs=>
   rw[hd] at e;cases e;obtain⟨its,rv,p,_⟩:=I.list q1.l;unfold Dat.Hv;exact⟨a,its,rfl,p.isList,qdzz I q2 rv hd⟩
theorem qdzz(I:Inv X pins σ H s):∀{ds:List D} {vs:List V} {us:List Value} {xs:List Dat.D},Hvs X.K H ds vs->Vals vs us->toDats0 ds=some xs->Dat.Hvs s.heap xs us
 |[],vs,us,xs,h,r,e=>by
  cases h.inv0;cases r;cases e;unfold Dat.Hvs;rfl
 |d::ds,vs,us,xs,h,r,e=>by
  obtain⟨v,vr,rfl,q1,q2⟩:=h.inv;unfold toDats0 at e;cases hd:toDat0 d with
  |none=>rw[hd] at e;cases e
  |some x=>
   rw[hd] at e;cases hr:toDats0 ds with
   |none=>rw[hr] at e;cases e
   |some xr=>
    rw[hr] at e;cases e;cases r with
    |cons r1 r2=>
     unfold Dat.Hvs;exact⟨_,_,rfl,qbgz I q1 r1 hd,qdzz I q2 r2 hr⟩
end
theorem qajz{G:Gp}(I:Inv X pins σ H s)(RG:RepG X.K G H){d:D}{v:V}{u:Value}{x:Dat.D}(h:Hv X.K H d v)(r:RelV v u)(e:toDat G d=some x):Dat.Hv s.heap x u:=by
 cases d with
 |obj a=>
  rw[qtz h] at r;cases r;unfold toDat at e;cases hG:G a with
  |none=>simp[hG] at e
  |some o=>
   cases o with
   |lst ds=>
    simp only[hG] at e;cases hr:toDats0 ds with
    |none=>rw[hr] at e;cases e
    |some xs=>
     rw[hr] at e;cases e;obtain⟨vs,e1,e2⟩:=RG a _ hG;obtain⟨its,rv,p,_⟩:=I.list (SqL.of e1);unfold Dat.Hv;exact⟨a,its,rfl,p.isList,qdzz I e2 rv hr⟩
   |pen=>simp[hG] at e
   |dct=>simp[hG] at e
   |gen R=>simp[hG] at e
 |non=>exact qbgz I h r e
 |bl _=>exact qbgz I h r e
 |int _=>exact qbgz I h r e
 |str _=>exact qbgz I h r e
 |tup _=>exact qbgz I h r e
 |scr _=>exact qbgz I h r e
 |dc _=>exact qbgz I h r e
end
section
variable {X:Cx} {a b e:Expr} {ta tb:TE3} {pos:Pos}
def rEq3(neg:Bool):R3:=fun x y G Q=>∃u v,toDat G x=some u/\toDat G y=some v/\u.dep≤50/\Q (.bl (if neg then !u.eqb v else u.eqb v)) G
def CmpR(X:Cx)(f:Value->Value->Sem Value)(r:R3):Prop:=
 ∀(pins:List (Addr×Obj)) (s:Shared) (σ:L2.St) (H:Hp) (G:Gp) (x y:D) (vx vy:V) (u v:Value) (Q3:V3),Inv X pins σ H s->RepG X.K G H->Hv X.K H x vx->Hv X.K H y vy->RelV vx u->RelV vy v->r x y G Q3 ->
  wpAny (model X.prog X.w) X.A (f u v) (EP X pins σ fun w H'=>∃d G',Hv X.K H' d w/\Step H G H' G'/\RepG X.K G' H'/\Q3 d G') X.xe s
theorem eqR(hu:X.A.units+64<cLine):CmpR X (compareOp .Eq) (rEq3 false):=by
 intro pins s σ H G x y vx vy u v Q3 I RG hx hy rx ry ⟨p,q,e1,e2,hd,h⟩;have:=Dat.rcAt p q u v X.A (qajz I RG hx rx e1) (qajz I RG hy ry e2) (by omega);exact this _ _ _ _ ⟨.bl (p.eqb q),H,I,rfl,.bl (p.eqb q),G,q5z,.refl H G,RG,h⟩
theorem neR(hu:X.A.units+64<cLine):CmpR X (compareOp .NotEq) (rEq3 true):=by
 intro pins s σ H G x y vx vy u v Q3 I RG hx hy rx ry ⟨p,q,e1,e2,hd,h⟩;have:=Dat.rcNe p q u v X.A (qajz I RG hx rx e1) (qajz I RG hy ry e2) (by omega);exact this _ _ _ _ ⟨.bl (!p.eqb q),H,I,rfl,.bl (!p.eqb q),G,q5z,.refl H G,RG,h⟩
def cmpR2(K:PySem.W.Frag)(r:R3):R2:=fun vx vy H Q=>∃x y G Q3,RepG K G H/\Hv K H x vx/\Hv K H y vy/\r x y G Q3/\∀v H' d G',Hv K H' d v->Step H G H' G'->RepG K G' H'->Q3 d G'->Q v H'
theorem CmpR.op{f:Value->Value->Sem Value}{r:R3}(h:CmpR X f r):OpR X f (cmpR2 X.K r):=by
 intro pins s σ H vx vy u v Q I rx ry ⟨x,y,G,Q3,RG,hx,hy,q,k⟩;refine thn (h pins s σ H G x y vx vy u v Q3 I RG hx hy rx ry q) fun w s' ⟨v',H',I',r',d,G',z1,z2,z3,z4⟩=>⟨v',H',I',r',k v' H' d G' z1 z2 z3 z4⟩
theorem qd0z{K:PySem.W.Frag}{r:R3}:LowR K r (cmpR2 K r):=fun x y vx vy G H Q3 Q hx hy RG h k=>⟨x,y,G,Q3,RG,hx,hy,h,k⟩
theorem qbhz(hu:X.A.units+64<cLine):OpR X (compareOp .Eq) (cmpR2 X.K (rEq3 false)):=(eqR hu).op
theorem qa4z(hu:X.A.units+64<cLine):OpR X (compareOp .NotEq) (cmpR2 X.K (rEq3 true)):=(neR hu).op
theorem l_eq{K:PySem.W.Frag}:LowR K (rEq3 false) (cmpR2 K (rEq3 false)):=qd0z
theorem l_ne{K:PySem.W.Frag}:LowR K (rEq3 true) (cmpR2 K (rEq3 true)):=qd0z
abbrev TO3:=S3->Gp->(Option Int->Gp->Prop)->Prop
def lowO(K:PySem.W.Frag)(t:TO3):TO:=fun σ H Q=>∃τ G Q3,RepS K τ σ H/\RepG K G H/\t τ G Q3/\∀o H' G',Step H G H' G'->RepG K G' H'->Q3 o G'->Q o H'
abbrev PO3(X:Cx)(e:Option Expr)(t:TO3):Prop:=PO X e (lowO X.K t)
theorem qimz{o:Option Expr}{t t':TO}(h:PO X o t)(f:∀σ H Q,t' σ H Q->t σ H Q):PO X o t':=fun pins s σ H Q I q=>h pins s σ H Q I (f σ H Q q)
def oNone:TO3:=fun _ G Q=>Q none G
def oSome(t:TE3):TO3:=fun τ G Q=>t τ G fun x G1=>match x with
 |.int i=>Q (some i) G1
 |_=>False
theorem qq3z:PO3 X none oNone:=qimz qosz fun σ H Q ⟨τ,G,Q3,RS,RG,h,k⟩=>k none H G (.refl H G) RG h
theorem qq4z(h:PE3 X e ta):PO3 X (some e) (oSome ta):=qimz (qotz h) fun σ H Q ⟨τ,G,Q3,RS,RG,h,k⟩=>
 ⟨τ,G,_,RS,RG,h,fun v H1 d G1 h1 S1 R1 q1=>by
  cases d with
  |int i=>exact⟨i,qwz h1,k (some i) H1 G1 S1 R1 q1⟩
  |_=>exact q1.elim⟩
def cut3(ds:List D)(lo hi:Option Int):List D:=(ds.drop (HT.sIx ds.length 0 lo)).take (HT.sIx ds.length ds.length hi-HT.sIx ds.length 0 lo)
def eSl(ta:TE3)(tl th:TO3):TE3:=fun τ G Q=>ta τ G fun x G1=>tl τ G1 fun lo G2=>th τ G2 fun hi G3=>match x with
 |.tup ds=>Q (.tup (cut3 ds lo hi)) G3
 |.scr ds=>∀p G4,New G3 p (.lst (cut3 ds lo hi)) G4->Q (.obj p) G4
 |.obj a=>∃ds,G3 a=some (.lst ds)/\∀p G4,New G3 p (.lst (cut3 ds lo hi)) G4->Q (.obj p) G4
 |_=>False
theorem qfiz{K:PySem.W.Frag}{H:Hp}{ds:List D}{vs:List V}(h:Hvs K H ds vs)(lo hi:Option Int):Hvs K H (cut3 ds lo hi) (cutV vs lo hi):=by
 unfold cut3 cutV;rw[h.length];exact (h.drop _).take _
theorem qq5z{prog:Program}{w:World}{A:Around}{E:Value->Shared->Prop}{s:Shared}{t sl:Addr}{items:Array Value}{vl vu:Value}{lo hi:Option Int}{Q:Value->Shared->Prop}(ht:IsTup s.heap t items)(hs:s.heap.IsSliceOf sl vl vu .none)(pl:IsPart vl lo)(pu:IsPart vu hi)
  (hw:HT.sIx items.size 0 lo=0/\HT.sIx items.size items.size hi=items.size) (h:Q (.ref t) s):wpAny (model prog w) A (getItem (.ref t) (.ref sl)) Q E s:=by
 obtain⟨os,hos,hcs,hds⟩:=id hs;have hTs:s.TypeIs (.ref sl) "slice":=⟨os,hos,hcs⟩;unfold getItem
 try with_reducible refine wpAny_holding ?_
 first|refine wpAny_bind (wpAny_pure ?_)|skip
 refine wpAny_bind (wpAny_sequenceKey ht.typeIs (by decide) ?_);refine wpAny_bind (wpAny_callSpecial?_slot (name:=Str.ofString "__getitem__") ht.typeIs PyProof.Rows.slot_tuple_getitem
  (wpAny_call_entry PyProof.Rows.slot_tuple_getitem ht.typeIs entry_tuple_getitem ?_ (args_tuple_getitem _ _)))
 show wpAny _ _ (Builtin.Tuple.tupleItemsOf (.ref t) >>= _) _ _ s;refine wpAny_bind (tupleItemsOf_ ht ?_);refine wpAny_bind (wpAny_typeOf hTs ?_);rw[if_pos (by decide)];refine wpAny_bind (HT.sliceApplied_gen hs pl pu ?_);have hyes:(((HT.sIx items.size 0 lo:Nat):Int)==0&&(1:Int)==1&&(HT.sIx items.size items.size hi-HT.sIx items.size 0 lo)==items.size)=true:=by
  rw[hw.1,hw.2];simp
 show wpAny _ _ (if (((HT.sIx items.size 0 lo:Nat):Int)==0&&(1:Int)==1&&(HT.sIx items.size items.size hi-HT.sIx items.size 0 lo)==items.size)=true then _ else _) _ _ s;rw[if_pos hyes];unfold Builtin.Tuple.tupleIsExact;refine wpAny_bind (wpAny_bind (wpAny_typeOf ht.typeIs (wpAny_pure ?_)));rw[if_pos (by decide)];exact wpAny_bind (wpAny_rule (wpAny_pure ⟨_,rfl,wpAny_pure h⟩))
def rSlT3(K:PySem.W.Frag):V->Option Int->Option Int->Hp->VK->Prop:=fun x lo hi H Q=>∃a xs,x=.ref a/\SqT K H a xs ∧
 (HT.sIx xs.length 0 lo=0/\HT.sIx xs.length xs.length hi=xs.length)/\Q (.ref a) H
theorem sl_tupW:SlR X (rSlT3 X.K):=by
 intro pins s σ H x v vl vu lo hi sl Q I rx hs pl pu h;obtain⟨a,xs,rfl,hx,hw,q⟩:=h;cases rx;obtain⟨its,r,ht,hz⟩:=I.tuple hx;have hlen:its.toArray.size=xs.length:=by rw[List.size_toArray];exact r.length.symm
 refine⟨"tuple",_,PyProof.Rows.slot_tuple_getitem.lookup,ht.typeIs,?_⟩;exact qq5z ht hs pl pu (by rw[hlen];exact hw) ⟨.ref a,H,I,rfl,q⟩
theorem e_sl{lo hi:Option Expr}{tl th:TO3}{p2:Pos}(ha:PE3 X a ta)(hl:PO3 X lo tl)(hh:PO3 X hi th):PE3 X (.Subscript a (.Slice lo hi none p2) pos) (eSl ta tl th):=
 qsz (qouz (sl_tup.or (sl_tupW.or qo0z)) ha hl hh) fun σ H Q ⟨τ,G,Q3,RS,RG,h,k⟩=>by
  refine⟨τ,G,_,RS,RG,h,fun v1 H1 d1 G1 h1 S1 R1 q1=>?_⟩;have RS1:=RS.ext (S1.ext RG);refine⟨τ,G1,_,RS1,R1,q1,fun l H2 G2 S2 R2 q2=>?_⟩;have RS2:=RS1.ext (S2.ext R1);refine⟨τ,G2,_,RS2,R2,q2,fun u H3 G3 S3 R3 q3=>?_⟩;have S13:Step H G H3 G3:=(S1.trans S2).trans S3;have hv:=(h1.ext (S2.ext R1)).ext (S3.ext R2);cases d1 with
  |tup ds=>
   obtain⟨a',vs,rfl,e1,e2⟩:=q9z hv;by_cases hw:HT.sIx vs.length 0 l=0/\HT.sIx vs.length vs.length u=vs.length
   ·refine .inr (.inl ⟨a',vs,rfl,e1,hw,k _ H3 (.tup (cut3 ds l u)) G3 (qa1z e1 ?_) S13 R3 q3⟩);have:cut3 ds l u=ds:=by
     unfold cut3;rw[e2.length,hw.1,hw.2];simp[←e2.length]
    rw[this];exact e2
   ·refine .inl ⟨a',vs,rfl,e1,hw,fun p hp=>?_⟩;exact k _ _ (.tup (cut3 ds l u)) G3 (qa1z (.of qrz) ((qfiz e2 l u).ext (.laid hp))) (S13.trans (.laid hp)) (R3.laid hp) q3
  |scr ds=>
   obtain⟨a',vs,rfl,e1,e2⟩:=qbfz hv;refine .inr (.inr ⟨a',vs,rfl,e1.l,fun p hp=>?_⟩);exact k _ _ (.obj p) _ qa0z (S13.trans (.laidG hp)) (R3.newL hp (qfiz e2 l u)) (q3 p _ (.mk' (R3.free hp)))
  |obj a'=>
   rw[qtz hv];obtain⟨ds,e0,q3⟩:=q3;obtain⟨vs,e1,e2⟩:=R3 a' _ e0;refine .inr (.inr ⟨a',vs,rfl,.of e1,fun p hp=>?_⟩);exact k _ _ (.obj p) _ qa0z (S13.trans (.laidG hp)) (R3.newL hp (qfiz e2 l u)) (q3 p _ (.mk' (R3.free hp)))
  |_=>exact q3.elim
end
end L3
namespace L3
open PySem PySem.Spec PyProof.Rows L2
abbrev C3:=List D->Gp->V3->Prop
def eCB(r:C3)(t:TA3):TE3:=fun τ G Q=>t τ G fun ds G1=>r ds G1 Q
def LowC(K:PySem.W.Frag)(r:C3)(r2:List V->Hp->VK->Prop):Prop:=∀ds vs G H Q3 Q,Hvs K H ds vs->RepG K G H->r ds G Q3->(∀v H' d G',Hv K H' d v->Step H G H' G'->RepG K G' H'->Q3 d G'->Q v H')->r2 vs H Q
section
variable {X:Cx} {K:PySem.W.Frag} {e:Expr} {es:List Expr} {t:TA3} {ta:TE3} {pos p:Pos}
theorem qq6z{r:C3}{r2:List V->Hp->VK->Prop}(L:LowC K r r2){σ:L2.St}{H:Hp}{Q:VK}(h:low K (eCB r t) σ H Q):tCB r2 (lowA K t) σ H Q:=by
 obtain⟨τ,G,Q3,RS,RG,h,k⟩:=h;refine⟨τ,G,_,RS,RG,h,fun vs H1 ds G1 h1 S1 R1 q1=>?_⟩;exact L _ _ _ _ _ _ h1 R1 q1 fun v H' d G' z1 z2 z3 z4=>k v H' d G' z1 (S1.trans z2) z3 z4
theorem e_cb{r:C3}{r2:List V->Hp->VK->Prop}(L:LowC X.K r r2)(h:PE X e (tCB r2 (lowA X.K t))):PE3 X e (eCB r t):=qsz h fun _ _ _ h=>qq6z L h
theorem hvs1{H:Hp}{d:D}{vs:List V}(h:Hvs K H [d] vs):∃v,vs=[v]/\Hv K H d v:=by
 obtain⟨v,r,rfl,z1,z2⟩:=h.inv;cases z2.inv0;exact⟨v,rfl,z1⟩
theorem hvs2{H:Hp}{d d':D}{vs:List V}(h:Hvs K H [d,d'] vs):∃v v',vs=[v,v']/\Hv K H d v/\Hv K H d' v':=by
 obtain⟨v,r,rfl,z1,z2⟩:=h.inv;obtain⟨v',rfl,z3⟩:=hvs1 z2;exact⟨v,v',rfl,z1,z3⟩
def q1z:C3:=fun ds G Q=>match ds with
 |[.obj a]=>∃xs,G a=some (.lst xs)/\Q (.int xs.length) G
 |[.tup xs]=>Q (.int xs.length) G
 |[.scr xs]=>Q (.int xs.length) G
 |_=>False
theorem qq7z:LowC K q1z (fun xs H Q=>∃p ys,xs=[.ref p]/\(SqL K H p ys∨SqT K H p ys)/\Q (.int ys.length) H):=fun ds vs G H Q3 Q h RG q k=>by
 rcases ds with _|⟨d,_|⟨d2,ds⟩⟩
 ·exact q.elim
 ·obtain⟨v,rfl,hv⟩:=hvs1 h;cases d with
  |obj a=>
   obtain⟨xs,e,q⟩:=q;obtain⟨us,e1,e2⟩:=RG a _ e;rw[qtz hv];exact⟨a,us,rfl,.inl (.of e1),by rw[←e2.length];exact k _ H _ G q3z (.refl H G) RG q⟩
  |tup xs=>
   obtain⟨a,us,rfl,e1,e2⟩:=q9z hv;exact⟨a,us,rfl,.inr e1,by rw[←e2.length];exact k _ H _ G q3z (.refl H G) RG q⟩
  |scr xs=>
   obtain⟨a,us,rfl,e1,e2⟩:=qbfz hv;exact⟨a,us,rfl,.inl e1.l,by rw[←e2.length];exact k _ H _ G q3z (.refl H G) RG q⟩
  |_=>exact q.elim
 ·cases d<;>exact q.elim
theorem qq8z(hu:X.A.units+64<cLine)(hm:X.mg "len" = none)(ha:PA3 X (e::es) t)(hg:Gl X "len":=by rfl)(he:notStar e=true:=by rfl)(hpl:es.all notStar=true:=by rfl):
  PE3 X (.Call (.Name "len" p) (e::es) [] pos) (eCB q1z t):=e_cb qq7z (qarz qo1z hg hm PySem.boot_len ha (he:=qjz he) (hpl:=qyz hpl))
def qd1z:C3:=fun ds G Q=>match ds with
 |[.bl b]=>Q (.int (if b then 1 else 0)) G
 |[.int i]=>Q (.int i) G
 |_=>False
theorem qq9z:LowC K qd1z (fun xs H Q=>(∃i,xs=[.int i]/\Q (.int i) H)∨∃k,xs=[.bl k]/\Q (.int (if k then 1 else 0)) H):=fun ds vs G H Q3 Q h RG q k=>by
 rcases ds with _|⟨d,_|⟨d2,ds⟩⟩
 ·exact q.elim
 ·obtain⟨v,rfl,hv⟩:=hvs1 h;cases d with
  |bl b=>
   rw[qbrz hv];exact .inr ⟨b,rfl,k _ H _ G q3z (.refl H G) RG q⟩
  |int b=>
   rw[qwz hv];exact .inl ⟨b,rfl,k _ H _ G q3z (.refl H G) RG q⟩
  |_=>exact q.elim
 ·cases d<;>exact q.elim
theorem qraz(hu:X.A.units+64<cLine)(hm:X.mg "int" = none)(ha:PA3 X (e::es) t)(hg:Gl X "int":=by rfl)(he:notStar e=true:=by rfl)(hpl:es.all notStar=true:=by rfl):
  PE3 X (.Call (.Name "int" p) (e::es) [] pos) (eCB qd1z t):=e_cb qq9z (qcrz qodz hg hm rfl ha (he:=qjz he) (hpl:=qyz hpl))
def qcuz:C3:=fun ds G Q=>match ds with
 |[.int i,.int j]=>Q (.int (if j > i then j else i)) G
 |_=>False
def qfjz:C3:=fun ds G Q=>match ds with
 |[.int i,.int j]=>Q (.int (if j<i then j else i)) G
 |_=>False
theorem qinz{f:Int->Int->Int}:LowC K (fun ds G Q=>match ds with
 |[.int i,.int j]=>Q (.int (f i j)) G
 | _=>False) (fun xs H Q=>∃i j,xs=[.int i,.int j]/\Q (.int (f i j)) H):=fun ds vs G H Q3 Q h RG q k=>by
 rcases ds with _|⟨d,_|⟨d2,_|⟨d3,ds⟩⟩⟩
 ·exact q.elim
 ·cases d<;>exact q.elim
 ·obtain⟨v,v',rfl,h1,h2⟩:=hvs2 h;cases d with
  |int i=>
   cases d2 with
   |int j=>
    rw[qwz h1,qwz h2];exact⟨i,j,rfl,k _ H _ G q3z (.refl H G) RG q⟩
   |_=>exact q.elim
  |_=>exact q.elim
 ·cases d with
  |int i=>cases d2<;>exact q.elim
  |_=>exact q.elim
theorem qrbz(hu:X.A.units+64<cLine)(hm:X.mg "max" = none)(ha:PA3 X (e::es) t)(hc:X.calm=true:=by rfl)(hg:Gl X "max":=by rfl)(he:notStar e=true:=by rfl)(hpl:es.all notStar=true:=by rfl):
  PE3 X (.Call (.Name "max" p) (e::es) [] pos) (eCB qcuz t):=e_cb (qinz (f:=fun i j=>if j > i then j else i)) (qarz (qobz hc) hg hm rfl ha (he:=qjz he) (hpl:=qyz hpl))
theorem qrcz(hu:X.A.units+64<cLine)(hm:X.mg "min" = none)(ha:PA3 X (e::es) t)(hc:X.calm=true:=by rfl)(hg:Gl X "min":=by rfl)(he:notStar e=true:=by rfl)(hpl:es.all notStar=true:=by rfl):
  PE3 X (.Call (.Name "min" p) (e::es) [] pos) (eCB qfjz t):=e_cb (qinz (f:=fun i j=>if j<i then j else i)) (qarz (qocz hc) hg hm rfl ha (he:=qjz he) (hpl:=qyz hpl))
def qatz:C3:=fun ds G Q=>match ds with
 |[.obj a]=>∃xs,G a=some (.lst xs)/\Q (.tup xs) G
 |[.tup xs]=>Q (.tup xs) G
 |[.scr xs]=>Q (.tup xs) G
 |_=>False
theorem qrdz:LowC K qatz (fun xs H Q=>∃p ys,xs=[.ref p]/\((SqL K H p ys/\∀l,H l=none->Q (.ref l) (upd H l (.tup ys)))∨(SqT K H p ys/\Q (.ref p) H))):=fun ds vs G H Q3 Q h RG q k=>by
 rcases ds with _|⟨d,_|⟨d2,ds⟩⟩
 ·exact q.elim
 ·obtain⟨v,rfl,hv⟩:=hvs1 h;cases d with
  |obj a=>
   obtain⟨xs,e,q⟩:=q;obtain⟨us,e1,e2⟩:=RG a _ e;rw[qtz hv];exact⟨a,us,rfl,.inl ⟨.of e1,fun l hl=>k _ _ (.tup xs) G (qa1z (.of qrz) (e2.ext (.laid hl))) (.laid hl) (RG.laid hl) q⟩⟩
  |tup xs=>
   obtain⟨a,us,rfl,e1,e2⟩:=q9z hv;exact⟨a,us,rfl,.inr ⟨e1,k _ H _ G (qa1z e1 e2) (.refl H G) RG q⟩⟩
  |scr xs=>
   obtain⟨a,us,rfl,e1,e2⟩:=qbfz hv;exact⟨a,us,rfl,.inl ⟨e1.l,fun l hl=>k _ _ (.tup xs) G (qa1z (.of qrz) (e2.ext (.laid hl))) (.laid hl) (RG.laid hl) q⟩⟩
  |_=>exact q.elim
 ·cases d<;>exact q.elim
theorem qrez(hu:X.A.units+64<cLine)(hm:X.mg "tuple" = none)(ha:PA3 X (e::es) t)(hg:Gl X "tuple":=by rfl)(he:notStar e=true:=by rfl)(hpl:es.all notStar=true:=by rfl):
  PE3 X (.Call (.Name "tuple" p) (e::es) [] pos) (eCB qatz t):=e_cb qrdz (qcrz qo3z hg hm rfl ha (he:=qjz he) (hpl:=qyz hpl))
def qd2z:C3:=fun ds G Q=>match ds with
 |[.obj a]=>∃xs,G a=some (.lst xs)/\∀p G',New G p (.lst xs) G'->Q (.obj p) G'
 |[.tup xs]=>∀p G',New G p (.lst xs) G'->Q (.obj p) G'
 |[.scr xs]=>∀p G',New G p (.lst xs) G'->Q (.obj p) G'
 |_=>False
theorem qrfz:LowC K qd2z (fun xs H Q=>∃p ys,xs=[.ref p]/\(SqL K H p ys∨SqT K H p ys)/\∀l,H l=none->Q (.ref l) (upd H l (.lst ys))):=fun ds vs G H Q3 Q h RG q k=>by
 have fin:∀(xs:List D) (us:List V),Hvs K H xs us->(∀p G',New G p (.lst xs) G'->Q3 (.obj p) G')->∀l,H l=none->Q (.ref l) (upd H l (.lst us)):=fun xs us e2 q l hl=>
  k _ _ (.obj l) _ qa0z (.laidG hl) (RG.newL hl e2) (q l _ (.mk' (RG.free hl)))
 rcases ds with _|⟨d,_|⟨d2,ds⟩⟩
 ·exact q.elim
 ·obtain⟨v,rfl,hv⟩:=hvs1 h;cases d with
  |obj a=>
   obtain⟨xs,e,q⟩:=q;obtain⟨us,e1,e2⟩:=RG a _ e;rw[qtz hv];exact⟨a,us,rfl,.inl (.of e1),fin xs us e2 q⟩
  |tup xs=>
   obtain⟨a,us,rfl,e1,e2⟩:=q9z hv;exact⟨a,us,rfl,.inr e1,fin xs us e2 q⟩
  |scr xs=>
   obtain⟨a,us,rfl,e1,e2⟩:=qbfz hv;exact⟨a,us,rfl,.inl e1.l,fin xs us e2 q⟩
  |_=>exact q.elim
 ·cases d<;>exact q.elim
theorem qrgz(hu:X.A.units+64<cLine)(hm:X.mg "list" = none)(ha:PA3 X (e::es) t)(hg:Gl X "list":=by rfl)(he:notStar e=true:=by rfl)(hpl:es.all notStar=true:=by rfl):
  PE3 X (.Call (.Name "list" p) (e::es) [] pos) (eCB qd2z t):=e_cb qrfz (qcrz qo2z hg hm rfl ha (he:=qjz he) (hpl:=qyz hpl))
def eM(r:D->List D->Gp->V3->Prop)(to:TE3)(t:TA3):TE3:=fun τ G Q=>to τ G fun x G1=>(∃a xs,x=.obj a/\G1 a=some (.lst xs))/\t τ G1 fun ds G2=>r x ds G2 Q
def LowM(K:PySem.W.Frag)(r:D->List D->Gp->V3->Prop)(r2:V->List V->Hp->VK->Prop):Prop:=∀x vx ds vs G H Q3 Q,Hv K H x vx->Hvs K H ds vs->RepG K G H->r x ds G Q3->(∀v H' d G',Hv K H' d v->Step H G H' G'->RepG K G' H'->Q3 d G'->Q v H')->r2 vx vs H Q
theorem qrhz{r:D->List D->Gp->V3->Prop}{r2:V->List V->Hp->VK->Prop}{to:TE3}(L:LowM K r r2){σ:L2.St}{H:Hp}{Q:VK}(h:low K (eM r to t) σ H Q):tBM K "list" r2 (low K to) (lowA K t) σ H Q:=by
 obtain⟨τ,G,Q3,RS,RG,h,k⟩:=h;refine⟨τ,G,_,RS,RG,h,fun v1 H1 d1 G1 h1 S1 R1 q1=>?_⟩;obtain⟨⟨a,xs,rfl,e1⟩,q1⟩:=q1;obtain⟨us,e2,e3⟩:=R1 a _ e1;refine⟨?_,τ,G1,_,RS.ext (S1.ext RG),R1,q1,fun vs H2 ds G2 h2 S2 R2 q2=>?_⟩
 ·rw[qtz h1];exact .inl ⟨rfl,us,.of e2⟩
 ·exact L _ _ _ _ _ _ _ _ (h1.ext (S2.ext R1)) h2 R2 q2 fun v H' d G' z1 z2 z3 z4=>k v H' d G' z1 ((S1.trans S2).trans z2) z3 z4
def qcvz:D->List D->Gp->V3->Prop:=fun x ds G Q=>match x,ds with
 |.obj a,[d]=>∃xs,G a=some (.lst xs)/\xs.length<sizeLine/\Q .non (upd3 G a (.lst (xs++[d])))
 |_,_=>False
theorem qd3z:LowM K qcvz rAppend:=fun x vx ds vs G H Q3 Q hx hs RG q k=>by
 rcases ds with _|⟨d,_|⟨d2,ds⟩⟩
 ·cases x<;>exact q.elim
 ·cases x with
  |obj a=>
   obtain⟨xs,e1,hz,q⟩:=q;obtain⟨us,e2,e3⟩:=RG a _ e1;obtain⟨v,rfl,hv⟩:=hvs1 hs;rw[qtz hx];refine⟨a,us,v,rfl,rfl,e2,by rw[←e3.length];exact hz,?_⟩;exact k _ _ .non _ (by simp[Hv]) (.wrote e1) (RG.wroteL e2 (e3.append (.cons hv .nil))) q
  |_=>exact q.elim
 ·cases x<;>exact q.elim
theorem qriz{r:D->List D->Gp->V3->Prop}{r2:V->List V->Hp->VK->Prop}{to:TE3}(L:LowM X.K r r2)(h:PE X e (tBM X.K "list" r2 (low X.K to) (lowA X.K t))):PE3 X e (eM r to t):=qsz h fun _ _ _ z=>qrhz L z
def qd4z:D->List D->Gp->V3->Prop:=fun x ds G Q=>match x,ds with
 |.obj a,[.int i]=>∃xs k d,G a=some (.lst xs)/\(-(2^63)≤i/\i<2^63)/\seqIndex? i xs.length=some k/\xs[k]?=some d/\Q d (upd3 G a (.lst (xs.eraseIdx k)))
 |_,_=>False
theorem qfkz:LowM K qd4z rPopAt:=fun x vx ds vs G H Q3 Q hx hs RG q k=>by
 rcases ds with _|⟨d,_|⟨d2,ds⟩⟩
 ·cases x<;>exact q.elim
 ·cases x with
  |obj a=>
   cases d with
   |int i=>
    obtain⟨xs,j,y,e1,hb,hk,hy,q⟩:=q;obtain⟨us,e2,e3⟩:=RG a _ e1;obtain⟨v,rfl,hv⟩:=hvs1 hs;obtain⟨w,e4,e5⟩:=e3.get hy;rw[qtz hx,qwz hv];refine⟨a,us,i,j,w,rfl,rfl,e2,hb.1,hb.2,by rw[←e3.length];exact hk,e4,?_⟩;exact k _ _ y _ (e5.ext (.wrote e2)) (.wrote e1) (RG.wroteL e2 (e3.erase j)) q
   |_=>exact q.elim
  |_=>exact q.elim
 ·cases x with
  |obj a=>cases d<;>exact q.elim
  |_=>exact q.elim
def eDct:TE3:=fun _ G Q=>∀p G',New G p .dct G'->Q (.obj p) G'
theorem qrjz:PE3 X (.Dict [] [] pos) eDct:=fun pins s σ H Q I ⟨τ,G,Q3,RS,RG,h,k⟩=>by
 have hf:H s.heap.objs.size=none:=I.hok.fresh (Nat.le_refl _);refine wpAny_Dict_empty ⟨.ref s.heap.objs.size,_,I.laid (a:=s.heap.objs.size) (o:=.ext fun h=>∃o,h.get? s.heap.objs.size=some o/\o.cls=.type "dict") (t':=s.toks) (fun _ _ q=>Heap.get?_push_of_some _ q) (Nat.le_refl _) ?_,rfl,?_⟩
 ·refine⟨⟨_,Heap.get?_push_size _ rfl,rfl⟩,⟨_,Heap.get?_push_size _ rfl⟩,fun h1 h2 ⟨o,e1,e2⟩ kk=>⟨o,kk o e1,e2⟩⟩
 ·exact k _ _ (.obj s.heap.objs.size) (upd3 G s.heap.objs.size .dct) qa0z (.laidG hf) (RG.laidG (g:=.dct) hf qrz) (h _ _ (.mk' (RG.free hf)))
def instD(T:String)(G:Gp):D->Option Bool
 |.non=>some false
 |.bl _=>some (T=="bool" || T=="int")
 |.int _=>some (T=="int")
 |.str _=>some (T=="str")
 |.tup _=>some (T=="tuple")
 |.scr _=>some (T=="list")
 |.dc _=>some (T=="dict")
 |.obj a=>match G a with
  |some (.lst _)=>some (T=="list")
  |some .pen=>some (T=="list")
  |some .dct=>some (T=="dict")
  |some (.gen _)=>none
  |none=>none
def eInst(T:String)(ta:TE3):TE3:=fun τ G Q=>ta τ G fun x G1=>match instD T G1 x with
 |some b=>Q (.bl b) G1
 |none=>False
end
end L3
namespace KasS
open PySem PySem.W PyProof.Rows
structure Ord(n:Nat)(lt:Nat->Nat->Bool):Prop where
 asy:∀a b,a<n->b<n->lt a b=true->lt b a=false
 tra:∀a b c,a<n->b<n->c<n->lt b a=false->lt c b=false->lt c a=false
abbrev g(p:Array Nat)(i:Nat):Nat:=p.getD i 0
structure Va(n:Nat)(p:Array Nat):Prop where
 perm:p.toList.Perm (List.range n)
section
variable {n:Nat} {lt:Nat->Nat->Bool} {cmp:Nat->Nat->(Bool->Shared->Prop)->Shared->Prop} {s:Shared}
theorem Va.size{p:Array Nat}(v:Va n p):p.size=n:=by
 have:=v.perm.length_eq;simpa using this
theorem Va.get{p:Array Nat}(v:Va n p){i:Nat}(hi:i<n):p[i]?=some (g p i):=by
 have h:=v.size;simp[g,Array.getD,h,hi]
theorem Va.inr{p:Array Nat}(v:Va n p){i:Nat}(hi:i<n):g p i<n:=by
 have h:=v.get hi;have hm:g p i∈p.toList:=List.mem_of_getElem? (by rw[Array.getElem?_toList];exact h);have:=v.perm.mem_iff.mp hm;simpa using this
theorem Ord.refl(O:Ord n lt){a:Nat}(ha:a<n):lt a a=false:=by
 cases h:lt a a with
 |false=>rfl
 |true=>
  have:=O.asy a a ha ha h;rw[h] at this;exact this
def So(lt:Nat->Nat->Bool)(p:Array Nat)(k:Nat):Prop:=∀i j,i≤j->j<k->lt (g p j) (g p i)=false
def Ni(lt:Nat->Nat->Bool)(p:Array Nat)(k:Nat):Prop:=∀i j,i≤j->j<k->lt (g p i) (g p j)=false
def Eq'(lt:Nat->Nat->Bool)(p:Array Nat)(lo hi:Nat):Prop:=∀i j,lo≤i->i<hi->lo≤j->j<hi->lt (g p i) (g p j)=false
theorem So.one(O:Ord n lt){p:Array Nat}(v:Va n p)(hn:1≤n):So lt p 1:=fun i j h1 h2=>by
 have e1:i=0:=by omega
 have e2:j=0:=by omega
 rw[e1,e2];exact O.refl (v.inr (by omega))
theorem So.next(O:Ord n lt){p:Array Nat}(v:Va n p){a:Nat}(h1:1≤a)(ha:a<n)(S:So lt p a)(h:lt (g p a) (g p (a-1))=false):So lt p (a+1):=fun i j hij hj=>by
 by_cases hja:j<a
 ·exact S i j hij hja
 ·have e:j=a:=by omega
  subst e;by_cases hij':i=j
  ·rw[hij'];exact O.refl (v.inr ha)
  ·exact O.tra (g p i) (g p (j-1)) (g p j) (v.inr (by omega)) (v.inr (by omega)) (v.inr ha) (S i (j-1) (by omega) (by omega)) h
theorem Ni.next(O:Ord n lt){p:Array Nat}(v:Va n p){a:Nat}(h1:1≤a)(ha:a<n)(S:Ni lt p a)(h:lt (g p (a-1)) (g p a)=false):Ni lt p (a+1):=fun i j hij hj=>by
 by_cases hja:j<a
 ·exact S i j hij hja
 ·have e:j=a:=by omega
  subst e;by_cases hij':i=j
  ·rw[hij'];exact O.refl (v.inr ha)
  ·exact O.tra (g p j) (g p (j-1)) (g p i) (v.inr ha) (v.inr (by omega)) (v.inr (by omega)) h (S i (j-1) (by omega) (by omega))
theorem qbtz{p:Array Nat}(v:Va n p)(i j:Nat):Va n (kas_rev p i j):=⟨(mirror_perm p i j _).toList.trans v.perm⟩
theorem qd5z{p:Array Nat}(v:Va n p){lo hi k:Nat}(hh:hi≤n)(hk:k<n):g (kas_rev p lo hi) k=if lo≤k/\k<hi then g p (lo+hi-1-k) else g p k:=by
 have h1:=getElem?_mirror_all (xs:=p) (i:=lo) (j:=hi) (by rw[v.size];exact hh) k;have h2:=(qbtz v lo hi).get hk;have h3:(kas_rev p lo hi)[k]?=_:=h1;rw[h2] at h3;by_cases hc:lo≤k/\k<hi
 ·rw[if_pos hc] at h3 ⊢;rw[v.get (by omega)] at h3;exact Option.some.inj h3
 ·rw[if_neg hc] at h3 ⊢;rw[v.get hk] at h3;exact Option.some.inj h3
theorem qflz{p:Array Nat}(v:Va n p){lo hi k:Nat}(hh:hi≤k)(hk:k≤n)(S:Ni lt p k)(e:Eq' lt p lo hi):Ni lt (kas_rev p lo hi) k:=fun i j hij hj=>by
 rw[qd5z v (by omega) (show i<n by omega),qd5z v (by omega) (show j<n by omega)];by_cases hi':lo≤i/\i<hi
 ·rw[if_pos hi'];by_cases hj':lo≤j/\j<hi
  ·rw[if_pos hj'];exact e _ _ (by omega) (by omega) (by omega) (by omega)
  ·rw[if_neg hj'];exact S _ _ (by omega) hj
 ·rw[if_neg hi'];by_cases hj':lo≤j/\j<hi
  ·rw[if_pos hj'];exact S _ _ (by omega) (by omega)
  ·rw[if_neg hj'];exact S _ _ hij hj
theorem qrkz{p:Array Nat}(v:Va n p){k:Nat}(hk:k≤n)(S:Ni lt p k):So lt (kas_rev p 0 k) k:=fun i j hij hj=>by
 rw[qd5z v hk (show i<n by omega),qd5z v hk (show j<n by omega),if_pos (by omega),if_pos (by omega)];exact S _ _ (by omega) (by omega)
variable (O:Ord n lt) (hc:∀i j,i<n->j<n->∀(C:Bool->Shared->Prop) (s:Shared),C (lt i j) s->cmp i j C s)
include O hc
theorem qfmz{p:Array Nat}(v:Va n p){G:Nat->Shared->Prop}:∀(f a:Nat),1≤a->a+f≤n->So lt p a->(∀m,a≤m->m≤a+f->So lt p m->(m=a+f∨lt (g p m) (g p (m-1))=true)->G m s)->(kas_asc p f a).kasWp cmp G s
 |0,a,_,_,S,h=>h a (Nat.le_refl _) (by omega) S (.inl (by omega))
 |f+1,a,h1,h2,S,h=>by
  show cmp _ _ _ s;refine hc _ _ (v.inr (by omega)) (v.inr (by omega)) _ s ?_;cases hb:lt (g p a) (g p (a-1)) with
  |true=>
   ((try dsimp only);rw[if_pos rfl])
   exact h a (Nat.le_refl _) (by omega) S (.inr hb)
  |false=>
   ((try dsimp only);rw[if_neg Bool.false_ne_true])
   exact qfmz v f (a+1) (by omega) (by omega) (S.next O v h1 (by omega) hb) fun m q1 q2 q3 q4=>h m (by omega) (by omega) q3 (by
    rcases q4 with q4|q4
    ·exact .inl (by omega)
    ·exact .inr q4)
theorem qd6z{G:Array Nat×Nat×Nat->Shared->Prop}:∀(f:Nat) (p:Array Nat) (a q:Nat),Va n p->q+1≤a->a+f≤n->Ni lt p a->Eq' lt p (a-(q+1)) a ->
  (∀p' m q',Va n p'->a≤m->m≤a+f->q'+1≤m->Ni lt p' m->Eq' lt p' (m-(q'+1)) m->G (p',m,q') s)->(kas_desc f p a q).kasWp cmp G s
 |0,p,a,q,v,h1,h2,S,e,h=>h p a q v (Nat.le_refl _) (by omega) h1 S e
 |f+1,p,a,q,v,h1,h2,S,e,h=>by
  show cmp _ _ _ s;refine hc _ _ (v.inr (by omega)) (v.inr (by omega)) _ s ?_;have one:∀{p':Array Nat},Va n p'->Eq' lt p' (a+1-(0+1)) (a+1):=fun {p'} v' i j i1 i2 j1 j2=>by
   have e1:i=a:=by omega
   have e2:j=a:=by omega
   rw[e1,e2];exact O.refl (v'.inr (by omega))
  cases hb:lt (g p a) (g p (a-1)) with
  |true=>
   ((try dsimp only);rw[if_pos rfl])
   have S':=S.next O v (by omega) (by omega) (O.asy _ _ (v.inr (by omega)) (v.inr (by omega)) hb)
   by_cases hq:q > 0
   ·rw[if_pos hq];exact qd6z f _ (a+1) 0 (qbtz v _ _) (by omega) (by omega) (qflz v (by omega) (by omega) S' e) (one (qbtz v _ _)) fun p' m q' r1 r2 r3 r4 r5 r6=>h p' m q' r1 (by omega) (by omega) r4 r5 r6
   ·rw[if_neg hq];exact qd6z f _ (a+1) 0 v (by omega) (by omega) S' (one v) fun p' m q' r1 r2 r3 r4 r5 r6=>h p' m q' r1 (by omega) (by omega) r4 r5 r6
  |false=>
   ((try dsimp only);rw[if_neg Bool.false_ne_true])
   show cmp _ _ _ s;refine hc _ _ (v.inr (by omega)) (v.inr (by omega)) _ s ?_;cases hd:lt (g p (a-1)) (g p a) with
   |true=>
    ((try dsimp only);rw[if_pos rfl])
    exact h p a q v (Nat.le_refl _) (by omega) h1 S e
   |false=>
    ((try dsimp only);rw[if_neg Bool.false_ne_true])
    refine qd6z f _ (a+1) (q+1) v (by omega) (by omega) (S.next O v (by omega) (by omega) hd) (fun i j i1 i2 j1 j2=>?_) fun p' m q' r1 r2 r3 r4 r5 r6=>h p' m q' r1 (by omega) (by omega) r4 r5 r6
    have L:∀k,k<n->g p k<n:=fun k hk=>v.inr hk;by_cases hi:i=a
    ·by_cases hj:j=a
     ·rw[hi,hj];exact O.refl (L _ (by omega))
     ·rw[hi];exact O.tra (g p j) (g p (a-1)) (g p a) (L _ (by omega)) (L _ (by omega)) (L _ (by omega)) (e (a-1) j (by omega) (by omega) (by omega) (by omega)) hb
    ·by_cases hj:j=a
     ·rw[hj];exact O.tra (g p a) (g p (a-1)) (g p i) (L _ (by omega)) (L _ (by omega)) (L _ (by omega)) hd (e i (a-1) (by omega) (by omega) (by omega) (by omega))
     ·exact e i j (by omega) (by omega) (by omega) (by omega)
theorem qioz{p:Array Nat}(v:Va n p){a:Nat}{G:Nat×Array Nat->Shared->Prop}(h1:1≤a)(h2:a≤n)(S:Ni lt p a)(h:∀m p',Va n p'->1≤m->m≤n->So lt p' m->G (m,p') s):(kas_tail3 a n p).kasWp cmp G s:=by
 unfold kas_tail3;rw[KasT.kasWp_bind];exact qfmz O hc (qbtz v 0 a) (n-a) a h1 (by omega) (qrkz v h2 S) fun m q1 q2 q3 _=>h m _ (qbtz v 0 a) (by omega) (by omega) q3
theorem qipz{p:Array Nat}(v:Va n p){a:Nat}{G:Nat×Array Nat->Shared->Prop}(h1:1≤a)(h2:a+1≤n)(S:Ni lt p (a+1))(h:∀m p',Va n p'->1≤m->m≤n->So lt p' m->G (m,p') s):(kas_descPart a n p).kasWp cmp G s:=by
 unfold kas_descPart;rw[KasT.kasWp_bind];refine qd6z O hc (n-(a+1)) p (a+1) 0 v (by omega) (by omega) S (fun i j i1 i2 j1 j2=>?_) fun p' m q' r1 r2 r3 r4 r5 r6=>?_
 ·have e1:i=a:=by omega
  have e2:j=a:=by omega
  rw[e1,e2];exact O.refl (v.inr (by omega))
 ·dsimp only;by_cases hq:q' > 0
  ·rw[if_pos hq];exact qioz O hc (qbtz r1 _ _) (by omega) (by omega) (qflz r1 (Nat.le_refl _) (by omega) r5 r6) h
  ·rw[if_neg hq];exact qioz O hc r1 (by omega) (by omega) r5 h
theorem qrlz{p:Array Nat}(v:Va n p){G:Nat×Array Nat->Shared->Prop}(hn:1≤n)(h:∀m p',Va n p'->1≤m->m≤n->So lt p' m->G (m,p') s):(kas_count n p).kasWp cmp G s:=by
 unfold kas_count;rw[KasT.kasWp_bind];refine qfmz O hc v (n-1) 1 (Nat.le_refl _) (by omega) (So.one O v hn) fun a q1 q2 q3 q4=>?_;have L:∀k,k<n->g p k<n:=fun k hk=>v.inr hk;by_cases e1:(a==n)=true
 ·rw[if_pos e1];exact h a p v q1 (by omega) q3
 ·rw[if_neg e1];have hne:a≠n:=fun z=>e1 (by rw[z];exact beq_self_eq_true _);have hlt:lt (g p a) (g p (a-1))=true:=by
   rcases q4 with q4|q4
   ·omega
   ·exact q4
  have hle:=O.asy _ _ (L a (by omega)) (L (a-1) (by omega)) hlt;by_cases e2:a > 1
  ·rw[if_pos e2];show cmp _ _ _ s;refine hc _ _ (v.inr (by omega)) (v.inr (by omega)) _ s ?_;cases hb:lt (g p 0) (g p (a-1)) with
   |true=>
    ((try dsimp only);rw[if_pos rfl])
    exact h a p v q1 (by omega) q3
   |false=>
    ((try dsimp only);rw[if_neg Bool.false_ne_true])
    -- all of the run are alike
    have eqv:Eq' lt p 0 a:=fun i j i1 i2 j1 j2=>by
     have h1:lt (g p i) (g p 0)=false:=q3 0 i (by omega) i2;have h2:lt (g p (a-1)) (g p j)=false:=q3 j (a-1) (by omega) (by omega);have h3:lt (g p 0) (g p j)=false:=O.tra _ _ _ (L j (by omega)) (L (a-1) (by omega)) (L 0 (by omega)) h2 hb;have h4:lt (g p (a-1)) (g p i)=false:=q3 i (a-1) (by omega) (by omega);exact O.tra _ _ _ (L j (by omega)) (L 0 (by omega)) (L i (by omega)) h3 h1
    have ni:Ni lt p (a+1):=Ni.next O v (by omega) (by omega) (fun i j hij hj=>eqv i j (by omega) (by omega) (by omega) hj) hle
    exact qipz O hc (qbtz v _ _) (by omega) (by omega) (qflz v (by omega) (by omega) ni eqv) h
  ·rw[if_neg e2];have ea:a=1:=by omega
   subst ea;refine qipz O hc v (Nat.le_refl _) (by omega) (Ni.next O v (by omega) (by omega) (fun i j hij hj=>?_) hle) h
   have e3:i=0:=by omega
   have e4:j=0:=by omega
   rw[e3,e4];exact O.refl (L 0 (by omega))
theorem qfnz{p:Array Nat}(v:Va n p){k:Nat}(hk:k<n)(S:So lt p k){G:Nat->Shared->Prop}:∀(f l r:Nat),l≤r->r≤k->r-l≤f->(∀i,i<l->lt (g p k) (g p i)=false)->(∀i,r≤i->i<k->lt (g p k) (g p i)=true) ->
  (∀l,l≤k->(∀i,i<l->lt (g p k) (g p i)=false)->(∀i,l≤i->i<k->lt (g p k) (g p i)=true)->G l s)->(kas_place p k f l r).kasWp cmp G s
 |0,l,r,h1,h2,h3,h4,h5,h=>by
  have e:l=r:=by omega
  subst e;exact h l h2 h4 h5
 |f+1,l,r,h1,h2,h3,h4,h5,h=>by
  unfold kas_place;by_cases hlr:l≥r
  ·rw[if_pos hlr];have e:l=r:=by omega
   subst e;exact h l h2 h4 h5
  ·rw[if_neg hlr];show cmp _ _ _ s;refine hc _ _ (v.inr hk) (v.inr (by omega)) _ s ?_;have L:∀k,k<n->g p k<n:=fun k hk=>v.inr hk;cases hb:lt (g p k) (g p ((l+r) / 2)) with
   |true=>
    ((try dsimp only);rw[if_pos rfl])
    refine qfnz v hk S f l ((l+r) / 2) (by omega) (by omega) (by omega) h4 (fun i i1 i2=>?_) h;by_cases hri:r≤i
    ·exact h5 i hri i2
    ·cases hx:lt (g p k) (g p i) with
     |true=>rfl
     |false=>
      have h6:lt (g p i) (g p ((l+r) / 2))=false:=S _ _ i1 i2;have:=O.tra _ _ _ (L ((l+r) / 2) (by omega)) (L i (by omega)) (L k hk) h6 hx;rw[hb] at this;exact this.symm
   |false=>
    ((try dsimp only);rw[if_neg Bool.false_ne_true])
    refine qfnz v hk S f ((l+r) / 2+1) r (by omega) h2 (by omega) (fun i hi=>?_) h5 h;exact O.tra _ _ _ (L i (by omega)) (L ((l+r) / 2) (by omega)) (L k hk) (S i ((l+r) / 2) (by omega) (by omega)) hb
theorem qiqz{G:Array Nat->Shared->Prop}:∀(f:Nat) (p:Array Nat) (k:Nat),Va n p->k+f=n->So lt p k->(∀p',Va n p'->So lt p' n->G p' s)->(kas_bin f p k).kasWp cmp G s
 | 0,p,k,v,hk,S,h=>h p v (by
  have e:k=n:=by omega
  rw[←e];exact S)
 |f+1,p,k,v,hk,S,h=>by
  show ((kas_place p k k 0 k).bind fun l=>kas_bin f (bubble p k (k-l)) (k+1)).kasWp cmp G s;rw[KasT.kasWp_bind];refine qfnz O hc v (by omega) S k 0 k (by omega) (Nat.le_refl _) (by omega) (fun i hi=>by omega) (fun i i1 i2=>by omega) fun l hl q1 q2=>?_;have v':Va n (bubble p k (k-l)):=⟨(bubble_perm p k (k-l)).toList.trans v.perm⟩;have L:∀k,k<n->g p k<n:=fun k hk=>v.inr hk;have bg:∀i,i<n->g (bubble p k (k-l)) i=if i=l then g p k else if l<i/\i≤k then g p (i-1) else g p i:=fun i hi=>by
   have h1:=getElem?_bubble (xs:=p) (src:=k) (by rw[v.size];omega) (k-l) (by omega) i;rw[v'.get hi,show k-(k-l)=l by omega] at h1;by_cases c1:i=l
   ·rw[if_pos c1] at h1 ⊢;rw[v.get (by omega)] at h1;exact Option.some.inj h1
   ·rw[if_neg c1] at h1 ⊢;by_cases c2:l<i/\i≤k
    ·rw[if_pos c2] at h1 ⊢;rw[v.get (by omega)] at h1;exact Option.some.inj h1
    ·rw[if_neg c2] at h1 ⊢;rw[v.get hi] at h1;exact Option.some.inj h1
  refine qiqz f _ (k+1) v' (by omega) (fun i j hij hj=>?_) h;rw[bg i (by omega),bg j (by omega)];by_cases ci:i=l
  ·rw[if_pos ci];by_cases cj:j=l
   ·rw[if_pos cj];exact O.refl (L k (by omega))
   ·rw[if_neg cj,if_pos (by omega)];exact O.asy _ _ (L k (by omega)) (L _ (by omega)) (q2 (j-1) (by omega) (by omega))
  ·rw[if_neg ci];by_cases cj:j=l
   ·rw[if_pos cj,if_neg (by omega)];exact q1 i (by omega)
   ·rw[if_neg cj];by_cases c3:l<i/\i≤k
    ·rw[if_pos c3,if_pos (by omega)];exact S (i-1) (j-1) (by omega) (by omega)
    ·rw[if_neg c3];by_cases c4:l<j/\j≤k
     ·rw[if_pos c4];exact S i (j-1) (by omega) (by omega)
     ·rw[if_neg c4];exact S i j hij (by omega)
theorem qrmz{G:Array Nat->Shared->Prop}(hn:1≤n)(h:∀p,Va n p->So lt p n->G p s):(kas_sort n).kasWp cmp G s:=by
 unfold kas_sort;rw[KasT.kasWp_bind];have v0:Va n (List.toArray (List.range n)):=⟨by simp⟩;refine qrlz O hc v0 hn fun m p' v m1 m2 S=>?_;dsimp only;by_cases hm:m<n
 ·rw[if_pos hm];have e:max m 1=m:=by omega
  rw[e];exact qiqz O hc (n-m) p' m v (by omega) S h
 ·rw[if_neg hm];have e:m=n:=by omega
  subst e;exact h p' v S
end
end KasS
namespace SetP
open PySem PySem.SetTable
def Masky(m:Nat):Prop:=m=7∨m=31∨m=127
def adv(m:Nat)(p:Probe):Probe:=
 if p.more > 0 then { p with j:=p.j+1,more:=p.more-1 } else
 { p with j:=(leap m p.i p.perturb).1,more:=runEnd m (leap m p.i p.perturb).1-(leap m p.i p.perturb).1,i:=(leap m p.i p.perturb).1,perturb:=(leap m p.i p.perturb).2 }
def rs(m:Nat)(q:Nat×Nat):Probe:={ j:=q.1,more:=runEnd m q.1-q.1,i:=q.1,perturb:=q.2,dummy:=none }
def sta(m:Nat)(h:Int):Probe:=rs m (bits h%(m+1),bits h)
def sq(m:Nat)(h:Int):Nat->Probe
 |0=>sta m h
 |k+1=>adv m (sq m h k)
def rn(m:Nat)(h:Int):Nat->Nat×Nat
 |0=>(bits h%(m+1),bits h)
 |r+1=>leap m (rn m h r).1 (rn m h r).2
theorem qirz(m:Nat)(h:Int):∀k,(sq m h k).dummy=none
 |0=>rfl
 |k+1=>by
  show (adv m (sq m h k)).dummy=none;have ih:=qirz m h k;unfold adv;split<;>simpa using ih
theorem qrnz(m i:Nat):runEnd m i-i≤9:=by
 unfold runEnd;split<;>omega
theorem qfoz(m:Nat)(h:Int)(n:Nat)(q:Nat×Nat)(e:sq m h n=rs m q):∀d,d≤runEnd m q.1-q.1->sq m h (n+d)={ j:=q.1+d,more:=runEnd m q.1-q.1-d,i:=q.1,perturb:=q.2,dummy:=none }
 |0,_=>by rw[Nat.add_zero,e];rfl
 |d+1,hd=>by
  have ih:=qfoz m h n q e d (by omega);show adv m (sq m h (n+d))=_;rw[ih];unfold adv;rw[if_pos (show runEnd m q.1-q.1-d > 0 by omega)];simp only[Probe.mk.injEq,and_true,true_and];omega
theorem qisz(m:Nat)(h:Int)(n:Nat)(q:Nat×Nat)(e:sq m h n=rs m q):sq m h (n+(runEnd m q.1-q.1)+1)=rs m (leap m q.1 q.2):=by
 show adv m (sq m h (n+(runEnd m q.1-q.1)))=_;rw[qfoz m h n q e _ (Nat.le_refl _)];unfold adv;rw[if_neg (by simp)];rfl
theorem qitz(m:Nat)(h:Int):∀r,∃n,n≤10*r/\sq m h n=rs m (rn m h r)
 |0=>⟨0,by omega,rfl⟩
 |r+1=>by
  obtain⟨n,hn,e⟩:=qitz m h r;have:=qrnz m (rn m h r).1;exact⟨n+(runEnd m (rn m h r).1-(rn m h r).1)+1,by omega,qisz m h n _ e⟩
theorem qroz(h:Int):bits h<2^64:=by
 unfold bits;have h1:h%(2^64:Int)<2^64:=Int.emod_lt_of_pos _ (by decide);have h2:0≤h%(2^64:Int):=Int.emod_nonneg _ (by decide);omega
theorem qiuz(m:Nat)(h:Int):∀r,(rn m h r).2=bits h / 32^r
 |0=>by simp[rn]
 |r+1=>by
  show (rn m h r).2 / 32=_;rw[qiuz m h r,Nat.div_div_eq_div_mul,Nat.pow_succ]
theorem qrpz(m:Nat)(h:Int)(r:Nat)(hr:13≤r):(rn m h r).2=0:=by
 rw[qiuz];have h1:=qroz h;have h2:(32:Nat)^13≤32^r:=Nat.pow_le_pow_right (by decide) hr;have h3:(2:Nat)^64<32^13:=by decide
 exact Nat.div_eq_of_lt (by omega)
def fl(m x:Nat):Nat:=(x*5+1)%(m+1)
def it(m:Nat):Nat->Nat->Nat
 |0,x=>x
 |n+1,x=>fl m (it m n x)
theorem qcwz(m:Nat)(a:Nat):∀b x,it m (b+a) x=it m b (it m a x)
 |0,x=>by rw[Nat.zero_add];rfl
 |b+1,x=>by
  rw[show b+1+a=(b+a)+1 by omega];show fl m (it m (b+a) x)=fl m (it m b (it m a x));rw[qcwz m a b x]
theorem qfpz(m:Nat)(h:Int):∀n,(rn m h (13+n)).1=it m n (rn m h 13).1
 |0=>rfl
 |n+1=>by
  show ((rn m h (13+n)).1*5+1+(rn m h (13+n)).2 / 32)%(m+1)=fl m (it m n (rn m h 13).1);rw[qrpz m h (13+n) (by omega),qfpz m h n];rfl
theorem qfqz(m:Nat)(h:Int):∀r,(rn m h r).1<m+1
 |0=>Nat.mod_lt _ (Nat.succ_pos _)
 |r+1=>Nat.mod_lt _ (Nat.succ_pos _)
def orb(m:Nat):Nat->Nat->List Nat
 |0,_=>[]
 |n+1,x=>x::orb m n (fl m x)
theorem qd7z(m:Nat):∀(n x y:Nat),y∈orb m n x->∃k,k<n/\y=it m k x
 |0,_,_,h=>by cases h
 |n+1,x,y,h=>by
  rcases List.mem_cons.mp h with e|e
  ·exact⟨0,by omega,e⟩
  ·obtain⟨k,hk,e⟩:=qd7z m n (fl m x) y e;refine⟨k+1,by omega,?_⟩;rw[qcwz m 1 k x];exact e
theorem orb7:((List.range 8).all fun x=>(orb 7 8 0).contains x)=true:=by decide +kernel
theorem orb31:((List.range 32).all fun x=>(orb 31 32 0).contains x)=true:=by decide +kernel
theorem orb127:((List.range 128).all fun x=>(orb 127 128 0).contains x)=true:=by decide +kernel
theorem back7:it 7 8 0=0:=by decide +kernel
theorem back31:it 31 32 0=0:=by decide +kernel
theorem back127:it 127 128 0=0:=by decide +kernel
theorem orbit{m:Nat}(hm:Masky m){x:Nat}(hx:x<m+1):∃k,k<m+1/\x=it m k 0:=by
 rcases hm with rfl|rfl|rfl
 ·have:=List.all_eq_true.mp orb7 x (List.mem_range.mpr hx);exact qd7z 7 8 0 x (by simpa using this)
 ·have:=List.all_eq_true.mp orb31 x (List.mem_range.mpr hx);exact qd7z 31 32 0 x (by simpa using this)
 ·have:=List.all_eq_true.mp orb127 x (List.mem_range.mpr hx);exact qd7z 127 128 0 x (by simpa using this)
theorem back{m:Nat}(hm:Masky m):it m (m+1) 0=0:=by
 rcases hm with rfl|rfl|rfl
 ·exact back7
 ·exact back31
 ·exact back127
theorem period{m:Nat}(hm:Masky m){x y:Nat}(hx:x<m+1)(hy:y<m+1):∃n,n≤m/\it m n x=y:=by
 obtain⟨a,ha,ea⟩:=orbit hm hx;obtain⟨b,hb,eb⟩:=orbit hm hy;by_cases hab:a≤b
 ·refine⟨b-a,by omega,?_⟩;rw[ea,←qcwz,eb];congr 1;omega
 ·refine⟨m+1-a+b,by omega,?_⟩;rw[ea,←qcwz,eb,show m+1-a+b+a=b+(m+1) by omega,qcwz,back hm]
theorem comes{m:Nat}(hm:Masky m)(h:Int){e:Nat}(he:e≤m):∃k,k≤10*m+130/\(sq m h k).j=e:=by
 obtain⟨n,hn,en⟩:=period hm (qfqz m h 13) (show e<m+1 by omega);obtain⟨k,hk,ek⟩:=qitz m h (13+n);refine⟨k,by omega,?_⟩;rw[ek];show (rn m h (13+n)).1=e;rw[qfpz,en]
theorem qfrz{xs:Array Nat}{j:Nat}(hr:xs.toList.Pairwise (· < ·)):∀(fuel lo hi:Nat),hi-lo≤fuel->lo≤hi->hi≤xs.size->(∀i x,i<lo->xs[i]?=some x->x<j)->(∀i x,hi≤i->xs[i]?=some x->j≤x) ->
  below.go xs j fuel lo hi≤xs.size/\(∀i x,i<below.go xs j fuel lo hi->xs[i]?=some x->x<j)/\(∀i x,below.go xs j fuel lo hi≤i->xs[i]?=some x->j≤x)
 |0,lo,hi,hf,hl,hs,h1,h2=>by
  have e:lo=hi:=by omega
  subst e;exact⟨hs,h1,h2⟩
 |fuel+1,lo,hi,hf,hl,hs,h1,h2=>by
  unfold below.go;by_cases hlt:lo<hi
  ·rw[if_pos hlt];dsimp only;have hmid:(lo+hi) / 2<xs.size:=by omega
   have hg:xs.getD ((lo+hi) / 2) j=xs[(lo+hi) / 2]:=by simp[Array.getD,hmid]
   rw[hg];have pw:∀a b x y,a<b->xs[a]?=some x->xs[b]?=some y->x<y:=fun a b x y hab ea eb=>by
    have ha':a<xs.toList.length:=by
     have:=(Array.getElem?_eq_some_iff.mp ea).1;simpa using this
    have hb':b<xs.toList.length:=by
     have:=(Array.getElem?_eq_some_iff.mp eb).1;simpa using this
    have:=List.pairwise_iff_getElem.mp hr a b ha' hb' hab;obtain⟨_,e1⟩:=Array.getElem?_eq_some_iff.mp ea;obtain⟨_,e2⟩:=Array.getElem?_eq_some_iff.mp eb;simpa [e1,e2] using this
   have em:xs[(lo+hi) / 2]?=some xs[(lo+hi) / 2]:=by simp[hmid]
   by_cases hc:xs[(lo+hi) / 2]<j
   ·rw[if_pos hc];refine qfrz hr fuel _ hi (by omega) (by omega) hs (fun i x hi' e=>?_) h2;by_cases hi2:i=(lo+hi) / 2
    ·subst hi2;rw[em] at e;cases e;exact hc
    ·exact Nat.lt_trans (pw i _ x _ (by omega) e em) hc
   ·rw[if_neg hc];refine qfrz hr fuel lo _ (by omega) (by omega) (by omega) h1 (fun i x hi' e=>?_);by_cases hi2:i=(lo+hi) / 2
    ·subst hi2;rw[em] at e;cases e;omega
    ·have:=pw _ i _ x (by omega) em e;omega
  ·rw[if_neg hlt];have e:lo=hi:=by omega
   subst e;exact⟨hs,h1,h2⟩
theorem qd8z{xs:Array Nat}{j:Nat}(hr:xs.toList.Pairwise (· < ·)):below xs j≤xs.size/\(∀i x,i<below xs j->xs[i]?=some x->x<j)/\(∀i x,below xs j≤i->xs[i]?=some x->j≤x):=
 qfrz hr xs.size 0 xs.size (by omega) (by omega) (by omega) (fun i _ h=>by omega) fun i x h e=>by
  have:=(Array.getElem?_eq_some_iff.mp e).1;omega
theorem below_at{xs:Array Nat}{j i:Nat}(hr:xs.toList.Pairwise (· < ·))(e:xs[i]?=some j):below xs j=i:=by
 obtain⟨h0,h1,h2⟩:=qd8z (j:=j) hr;have hi:=(Array.getElem?_eq_some_iff.mp e).1;by_cases hlt:i<below xs j
 ·exact absurd (h1 i j hlt e) (Nat.lt_irrefl _)
 ·by_cases hgt:below xs j<i
  ·have hb:below xs j<xs.size:=by omega
   have eb:xs[below xs j]?=some xs[below xs j]:=by simp[hb]
   have q1:=h2 _ _ (Nat.le_refl _) eb;have pw:=List.pairwise_iff_getElem.mp hr (below xs j) i (by simpa using hb) (by simpa using hi) hgt;obtain⟨_,e1⟩:=Array.getElem?_eq_some_iff.mp e;simp[e1] at pw;omega
  ·omega
end SetP
namespace SetP
open PySem PySem.SetTable
structure Tab(t:SetTable)(hs:List Int):Prop where
 mask:Masky t.mask
 size:t.place.size=hs.length
 rise:t.place.toList.Pairwise (· < ·)
 bound:∀j∈t.place.toList,j≤t.mask
 nodum:t.dummies = #[]
 room:hs.length*5<t.mask*3
 reach:∀j h,(j,h)∈t.place.toList.zip hs->∃k,(sq t.mask h k).j=j/\∀k',k' < k->(sq t.mask h k').j∈t.place.toList
theorem qivz{t:SetTable}{j i:Nat}(hr:t.place.toList.Pairwise (· < ·))(e:t.place[i]?=some j):t.slot j=.live i:=by
 unfold slot;dsimp only;rw[below_at hr e,e];simp
theorem qrqz{t:SetTable}{j:Nat}(hd:t.dummies = #[])(e:j∉t.place.toList):t.slot j=.empty:=by
 unfold slot;dsimp only;have h1:¬(t.place[below t.place j]?==some j)=true:=by
  intro h;have h':t.place[below t.place j]?=some j:=by simpa using h
  exact e (by
   rw[←Array.getElem?_toList] at h';exact List.mem_of_getElem? h')
 rw[if_neg h1];have h2:has t.dummies j=false:=by
  rw[hd];rfl
 rw[h2];rfl
theorem qfsz:∀(n:Nat) (L:List Nat),(∀e,e<n->e∈L)->n≤L.length
 |0,_,_=>Nat.zero_le _
 |n+1,L,h=>by
  have h1:=h n (Nat.lt_succ_self n);have h2:=qfsz n (L.erase n) fun e he=>(List.mem_erase_of_ne (by omega)).mpr (h e (by omega));have h3:=List.length_erase_of_mem h1;have h4:=List.length_pos_of_mem h1;omega
theorem qrrz{t:SetTable}{hs:List Int}(T:Tab t hs)(h:Int):∃ke,ke≤10*t.mask+130/\(sq t.mask h ke).j∉t.place.toList/\∀k,k<ke->(sq t.mask h k).j∈t.place.toList:=by
 -- some slot is empty
 have hex:∃e,e≤t.mask/\e∉t.place.toList:=by
  refine Classical.byContradiction fun hn=>?_;have hall:∀e,e≤t.mask->e∈t.place.toList:=fun e he=>Classical.byContradiction fun q=>hn ⟨e,he,q⟩;have hl:=qfsz (t.mask+1) t.place.toList fun e he=>hall e (by omega);have e1:t.place.toList.length=t.place.size:=by simp
  have:=T.size;have:=T.room;omega
 obtain⟨e,he,ne⟩:=hex;obtain⟨k,hk,ek⟩:=comes T.mask h he;have hP:∃k,(sq t.mask h k).j∉t.place.toList:=⟨k,by rw[ek];exact ne⟩
 -- the least one
 have least:∀n,(∃k,k≤n/\(sq t.mask h k).j∉t.place.toList)->∃ke,ke≤n/\(sq t.mask h ke).j∉t.place.toList/\∀k,k<ke->(sq t.mask h k).j∈t.place.toList:=by
  intro n
  induction n with
  |zero=>
   rintro⟨k,hk,q⟩;have:k=0:=by omega
   subst this;exact⟨0,Nat.le_refl _,q,fun k hk=>by omega⟩
  |succ n ih=>
   rintro⟨k,hk,q⟩;by_cases hp:∃k,k≤n/\(sq t.mask h k).j∉t.place.toList
   ·obtain⟨ke,h1,h2,h3⟩:=ih hp;exact⟨ke,by omega,h2,h3⟩
   ·have hk':k=n+1:=by
     refine Classical.byContradiction fun z=>hp ⟨k,by omega,q⟩
    subst hk';exact⟨n+1,Nat.le_refl _,q,fun k' hk'=>Classical.byContradiction fun z=>hp ⟨k',by omega,z⟩⟩
 obtain⟨ke,h1,h2,h3⟩:=least k ⟨k,Nat.le_refl _,by rw[ek];exact ne⟩;exact⟨ke,by omega,h2,h3⟩
inductive Meets(t:SetTable)(hashAt:Nat->Int)(h:Int)(n ke:Nat):Met->Prop where
 |cand {k i:Nat} (h1:n≤k) (h2:k<ke) (h3:t.place[i]?=some (sq t.mask h k).j) (h4:hashAt i=h) (h5:∀k' i',n≤k'->k' < k->t.place[i']?=some (sq t.mask h k').j->hashAt i'≠h):
   Meets t hashAt h n ke (.candidate (sq t.mask h k).j i (sq t.mask h (k+1)))
 |free (h1:n≤ke) (h5:∀k' i',n≤k'->k' < ke->t.place[i']?=some (sq t.mask h k').j->hashAt i'≠h):Meets t hashAt h n ke (.empty (sq t.mask h ke).j none)
theorem qiwz{t:SetTable}{hashAt:Nat->Int}{h:Int}{ke:Nat}(hr:t.place.toList.Pairwise (· < ·))(hd:t.dummies = #[])(he:(sq t.mask h ke).j∉t.place.toList)(hl:∀k,k<ke->(sq t.mask h k).j∈t.place.toList):
  ∀(fuel n:Nat),n≤ke->ke-n<fuel->∃met,probe.go t hashAt h fuel (sq t.mask h n)=some met/\Meets t hashAt h n ke met
 |0,n,_,hf=>by omega
 |fuel+1,n,hn,hf=>by
  unfold probe.go;by_cases hlast:n=ke
  ·subst hlast;rw[qrqz hd he,qirz];exact⟨_,rfl,.free (Nat.le_refl _) fun k' i' h1 h2=>by omega⟩
  ·have hmem:=hl n (by omega);obtain⟨i,hi⟩:=List.getElem?_of_mem hmem;have hi':t.place[i]?=some (sq t.mask h n).j:=by rw[←Array.getElem?_toList];exact hi
   rw[qivz hr hi'];dsimp only;by_cases hh:hashAt i=h
   ·rw[if_pos (by simpa using hh)];exact⟨_,rfl,.cand (Nat.le_refl _) (by omega) hi' hh fun k' i' h1 h2=>by omega⟩
   ·rw[if_neg (by simpa using hh)];obtain⟨met,e,m⟩:=qiwz (hashAt:=hashAt) hr hd he hl fuel (n+1) (by omega) (by omega);refine⟨met,e,?_⟩;have one:∀i',t.place[i']?=some (sq t.mask h n).j->hashAt i'≠h:=fun i' e'=>by
     have e1:=below_at hr hi';have e2:=below_at hr e';have:i'=i:=by omega
     rw[this];exact hh
    cases m with
    |cand h1 h2 h3 h4 h5=>
     refine .cand (by omega) h2 h3 h4 fun k' i' q1 q2 q3=>?_;by_cases hk:k'=n
     ·subst hk;exact one i' q3
     ·exact h5 k' i' (by omega) q2 q3
    |free h1 h5=>
     refine .free (by omega) fun k' i' q1 q2 q3=>?_;by_cases hk:k'=n
     ·subst hk;exact one i' q3
     ·exact h5 k' i' (by omega) q2 q3
theorem qrsz{t:SetTable}{hs:List Int}(T:Tab t hs){hashAt:Nat->Int}{h:Int}{ke n:Nat}(hk:ke≤10*t.mask+130)(he:(sq t.mask h ke).j∉t.place.toList)(hl:∀k,k<ke->(sq t.mask h k).j∈t.place.toList)(hn:n≤ke):
  ∃met,t.probe hashAt h (sq t.mask h n)=some met/\Meets t hashAt h n ke met:=by
 unfold probe;exact qiwz T.rise T.nodum he hl _ n hn (by unfold turns;omega)
theorem qbuz{α:Type}(xs:Array α)(p:Nat)(x:α):(insertAt xs p x).toList=xs.toList.take p++x::xs.toList.drop p:=by
 unfold insertAt;have e:(xs.extract p xs.size).toList=xs.toList.drop p:=by
  rw[Array.toList_extract];simp[List.extract];exact List.take_of_length_le (by simp)
 simp[Array.toList_extract,List.extract];exact List.take_of_length_le (by simp)
theorem qixz{α β:Type}:∀(p:Nat) (xs:List α) (ys:List β) (x:α) (y:β),xs.length=ys.length->((xs.take p++x::xs.drop p).zip (ys.take p++y::ys.drop p)).Perm ((x,y)::xs.zip ys)
 |0,xs,ys,x,y,_=>by simp
 |p+1,[],ys,x,y,h=>by
  have:ys=[]:=List.length_eq_zero_iff.mp (by simpa using h.symm);subst this;simp
 |p+1,a::xs,[],x,y,h=>by simp at h
 |p+1,a::xs,b::ys,x,y,h=>by
  have ih:=qixz p xs ys x y (by simpa using h);simp only[List.take_succ_cons,List.drop_succ_cons,List.cons_append,List.zip_cons_cons];exact (List.Perm.cons (a,b) ih).trans (List.Perm.swap _ _ _)
theorem qcaz{α:Type}(p:Nat)(xs:List α)(x:α):(xs.take p++x::xs.drop p).Perm (x::xs):=by
 have:=List.perm_middle (a:=x) (l₁:=xs.take p) (l₂:=xs.drop p);rw[List.take_append_drop] at this;exact this
theorem qrtz{t:SetTable}{j:Nat}(hd:t.dummies = #[]):t.put j=({ t with place:=insertAt t.place (below t.place j) j,dummies:=#[]},below t.place j):=by
 unfold put;dsimp only;have h2:has t.dummies j=false:=by
  rw[hd];rfl
 rw[h2];simp[hd]
structure TabR(t:SetTable)(hs:List Int):Prop where
 mask:Masky t.mask
 size:t.place.size=hs.length
 rise:t.place.toList.Pairwise (· < ·)
 bound:∀j∈t.place.toList,j≤t.mask
 nodum:t.dummies = #[]
 fit:hs.length≤t.mask
 reach:∀j h,(j,h)∈t.place.toList.zip hs->∃k,(sq t.mask h k).j=j/\∀k',k' < k->(sq t.mask h k').j∈t.place.toList
theorem qiyz{m:Nat}(hm:Masky m)(h:Int):∀k,(sq m h k).j≤m/\(sq m h k).j+(sq m h k).more≤m:=by
 have hrun:∀i,i≤m->runEnd m i≤m:=fun i hi=>by
  unfold runEnd;split<;>omega
 have hrs:∀q:Nat×Nat,q.1≤m->(rs m q).j≤m/\(rs m q).j+(rs m q).more≤m:=fun q hq=>by
  have:=hrun q.1 hq;have h2:q.1≤runEnd m q.1:=by unfold runEnd;split<;>omega
  show q.1≤m/\q.1+(runEnd m q.1-q.1)≤m;omega
 intro k
 induction k with
 |zero=>exact hrs _ (by show bits h%(m+1)≤m;have:bits h%(m+1)<m+1:=Nat.mod_lt (bits h) (Nat.succ_pos m);omega)
 |succ k ih=>
  show (adv m (sq m h k)).j≤m/\(adv m (sq m h k)).j+(adv m (sq m h k)).more≤m;unfold adv;by_cases hc:(sq m h k).more > 0
  ·rw[if_pos hc];show (sq m h k).j+1≤m/\(sq m h k).j+1+((sq m h k).more-1)≤m;omega
  ·rw[if_neg hc];have hlt:(leap m (sq m h k).i (sq m h k).perturb).1≤m:=by
    show ((sq m h k).i*5+1+(sq m h k).perturb / 32)%(m+1)≤m;have:((sq m h k).i*5+1+(sq m h k).perturb / 32)%(m+1)<m+1:=Nat.mod_lt _ (Nat.succ_pos m);omega
   exact hrs (leap m (sq m h k).i (sq m h k).perturb) hlt
theorem Tab.put{t:SetTable}{hs:List Int}(T:Tab t hs){h:Int}{ke:Nat}(he:(sq t.mask h ke).j∉t.place.toList)(hl:∀k,k<ke->(sq t.mask h k).j∈t.place.toList):
  TabR { t with place:=insertAt t.place (below t.place (sq t.mask h ke).j) (sq t.mask h ke).j,dummies:=#[]} (hs.take (below t.place (sq t.mask h ke).j)++h::hs.drop (below t.place (sq t.mask h ke).j)):=by
 obtain⟨b0,b1,b2⟩:=qd8z (j:=(sq t.mask h ke).j) T.rise;have hlen:t.place.toList.length=hs.length:=by simpa using T.size
 have hmem:∀x,x∈(insertAt t.place (below t.place (sq t.mask h ke).j) (sq t.mask h ke).j).toList↔x=(sq t.mask h ke).j∨x∈t.place.toList:=fun x=>by
  rw[qbuz,(qcaz _ t.place.toList _).mem_iff,List.mem_cons]
 refine⟨T.mask,?_,?_,fun j hj=>?_,rfl,?_,fun j h' hj=>?_⟩
 ·show (insertAt t.place (below t.place (sq t.mask h ke).j) (sq t.mask h ke).j).size=_;have e1:(insertAt t.place (below t.place (sq t.mask h ke).j) (sq t.mask h ke).j).size=(insertAt t.place (below t.place (sq t.mask h ke).j) (sq t.mask h ke).j).toList.length:=by simp
  rw[e1,qbuz,(qcaz _ t.place.toList _).length_eq,(qcaz _ hs _).length_eq];simp only[List.length_cons];omega
 ·show (insertAt t.place (below t.place (sq t.mask h ke).j) (sq t.mask h ke).j).toList.Pairwise (· < ·);rw[qbuz];refine List.pairwise_append.mpr ⟨T.rise.sublist (List.take_sublist _ _),List.pairwise_cons.mpr ⟨fun x hx=>?_,T.rise.sublist (List.drop_sublist _ _)⟩,fun a ha b hb=>?_⟩
  ·obtain⟨i,hi⟩:=List.getElem?_of_mem hx;rw[List.getElem?_drop] at hi;have q:=b2 (below t.place (sq t.mask h ke).j+i) x (by omega) (by rw[←Array.getElem?_toList];exact hi);have ne:x≠(sq t.mask h ke).j:=fun e=>he (e▸List.mem_of_getElem? hi);omega
  ·obtain⟨i,hi⟩:=List.getElem?_of_mem ha;have hil:i<below t.place (sq t.mask h ke).j:=by
    have:=(List.getElem?_eq_some_iff.mp hi).1;rw[List.length_take] at this;omega
   rw[List.getElem?_take_of_lt hil] at hi;have qa:=b1 i a hil (by rw[←Array.getElem?_toList];exact hi);rcases List.mem_cons.mp hb with e|hb
   ·rw[e];exact qa
   ·obtain⟨i2,hi2⟩:=List.getElem?_of_mem hb;rw[List.getElem?_drop] at hi2;have q:=b2 (below t.place (sq t.mask h ke).j+i2) b (by omega) (by rw[←Array.getElem?_toList];exact hi2);omega
 ·rcases (hmem j).mp hj with e|e
  ·rw[e];exact (qiyz T.mask h ke).1
  ·exact T.bound j e
 ·rw[(qcaz _ hs _).length_eq];have:=T.room;rcases T.mask with e|e|e<;>(simp only[List.length_cons];show _≤t.mask;omega)
 ·have hp:(j,h')∈(t.place.toList.take (below t.place (sq t.mask h ke).j)++(sq t.mask h ke).j::t.place.toList.drop (below t.place (sq t.mask h ke).j)).zip
    (hs.take (below t.place (sq t.mask h ke).j)++h::hs.drop (below t.place (sq t.mask h ke).j)):=by
   rw[←qbuz];exact hj
  rw[(qixz _ _ _ _ _ hlen).mem_iff] at hp;rcases List.mem_cons.mp hp with e|e
  ·cases e;exact⟨ke,rfl,fun k' hk'=>(hmem _).mpr (.inr (hl k' hk'))⟩
  ·obtain⟨k,e1,e2⟩:=T.reach j h' e;exact⟨k,e1,fun k' hk'=>(hmem _).mpr (.inr (e2 k' hk'))⟩
theorem TabR.tab{t:SetTable}{hs:List Int}(T:TabR t hs)(h:t.tooFull=false):Tab t hs:=by
 refine⟨T.mask,T.size,T.rise,T.bound,T.nodum,?_,T.reach⟩;have h':¬(t.fill*5≥t.mask*3):=by simpa [tooFull] using h
 have e:t.fill=hs.length:=by
  unfold fill;rw[T.size,T.nodum];rfl
 rw[e] at h';omega
end SetP
namespace SetP
open PySem PySem.SetTable
def Taken(ow:Array (Option Nat))(j:Nat):Prop:=∃k,ow[j]?=some (some k)
theorem qftz{ow:Array (Option Nat)}{j:Nat}(hj:j<ow.size):(ow.getD j (some 0)).isNone=true↔¬Taken ow j:=by
 have e:ow.getD j (some 0)=ow[j]:=by simp[Array.getD,hj]
 rw[e];unfold Taken;rw[Array.getElem?_eq_getElem hj];cases ow[j] with
 |none=>simp
 |some k=>simp
theorem qizz{m:Nat}(hm:Masky m){h:Int}{ow:Array (Option Nat)}(hs:ow.size=m+1):∀(fuel r n:Nat),sq m h n=rs m (rn m h r)->(∀k,k<n->Taken ow (sq m h k).j) ->
  (∃r',r≤r'/\r' < r+fuel/\¬Taken ow (rn m h r').1)->∃ke,layClean.free m ow fuel (rn m h r).1 (rn m h r).2=some (sq m h ke).j/\¬Taken ow (sq m h ke).j/\∀k,k<ke->Taken ow (sq m h k).j
 |0,r,n,_,_,hx=>by
  obtain⟨r',h1,h2,_⟩:=hx;omega
 |fuel+1,r,n,hn,hk,hx=>by
  have hi:=qfqz m h r;have hre:runEnd m (rn m h r).1≤m:=by unfold runEnd;split<;>omega
  have hre2:(rn m h r).1≤runEnd m (rn m h r).1:=by unfold runEnd;split<;>omega
  have at_d:∀d,d≤runEnd m (rn m h r).1-(rn m h r).1->(sq m h (n+d)).j=(rn m h r).1+d:=fun d hd=>by
   rw[qfoz m h n _ hn d hd]
  unfold layClean.free;cases hf:(List.range (runEnd m (rn m h r).1+1-(rn m h r).1)).find? (fun k=>(ow.getD ((rn m h r).1+k) (some 0)).isNone) with
  |some k=>
   obtain⟨p1,p2,p3⟩:=List.find?_range_eq_some.mp hf;have hkr:=List.mem_range.mp p2;refine⟨n+k,?_,?_,fun k' hk'=>?_⟩
   ·rw[at_d k (by omega)]
   ·rw[at_d k (by omega)];exact (qftz (by omega)).mp p1
   ·by_cases hlt:k' < n
    ·exact hk k' hlt
    ·obtain⟨d,rfl⟩:∃d,k'=n+d:=⟨k' - n,by omega⟩;rw[at_d d (by omega)];have q:=p3 d (by omega);refine Classical.byContradiction fun z=>?_;rw[(qftz (by omega)).mpr z] at q;cases q
  |none=>
   have hnone:=List.find?_eq_none.mp hf;have occ:∀d,d≤runEnd m (rn m h r).1-(rn m h r).1->Taken ow ((rn m h r).1+d):=fun d hd=>
    Classical.byContradiction fun z=>hnone d (List.mem_range.mpr (by omega)) ((qftz (by omega)).mpr z)
   refine qizz hm hs fuel (r+1) (n+(runEnd m (rn m h r).1-(rn m h r).1)+1) (qisz m h n _ hn) (fun k hk'=>?_) ?_
   ·by_cases hlt:k<n
    ·exact hk k hlt
    ·obtain⟨d,rfl⟩:∃d,k=n+d:=⟨k-n,by omega⟩;rw[at_d d (by omega)];exact occ d (by omega)
   ·obtain⟨r',h1,h2,h3⟩:=hx;refine⟨r',?_,by omega,h3⟩;have:r'≠r:=fun e=>h3 (by
     rw[e];have:=occ 0 (Nat.zero_le _);simpa using this)
    omega
structure Own(m:Nat)(ow:Array (Option Nat))(l:List Int):Prop where
 size:ow.size=m+1
 all:∀(k:Nat),k<l.length->∃j:Nat,ow[j]?=some (some k)
 one:∀(j j' k:Nat),ow[j]?=some (some k)->ow[j']?=some (some k)->j=j'
 reach:∀(j k:Nat),ow[j]?=some (some k)->∃h,l[k]?=some h/\∃n,(sq m h n).j=j/\∀n',n' < n->Taken ow (sq m h n').j
theorem Own.nil(m:Nat):Own m (Array.replicate (m+1) none) []:=by
 have hno:∀(j k:Nat),¬(Array.replicate (m+1) (none:Option Nat))[j]?=some (some k):=fun j k e=>by
  rw[Array.getElem?_replicate] at e;split at e<;>simp at e
 exact⟨by simp,fun k hk=>by simp at hk,fun j j' k e=>absurd e (hno j k),fun j k e=>absurd e (hno j k)⟩
theorem Own.room{m:Nat}{ow:Array (Option Nat)}{l:List Int}(O:Own m ow l)(hl:l.length≤m):∃e,e≤m/\¬Taken ow e:=by
 refine Classical.byContradiction fun hn=>?_;have hall:∀e,e≤m->Taken ow e:=fun e he=>Classical.byContradiction fun q=>hn ⟨e,he,q⟩;obtain⟨g,hg⟩:∃g:Nat->Nat,∀k,k<l.length->ow[g k]?=some (some k):=by
  refine⟨fun k=>if q:k<l.length then (O.all k q).choose else 0,fun k hk=>?_⟩;dsimp only;rw[dif_pos hk];exact (O.all k hk).choose_spec
 have hlen:=qfsz (m+1) ((List.range l.length).map g) fun e he=>by
  obtain⟨k,hk⟩:=hall e (by omega);obtain⟨h,e1,_⟩:=O.reach e k hk;have hkl:=(List.getElem?_eq_some_iff.mp e1).1;exact List.mem_map.mpr ⟨k,List.mem_range.mpr hkl,O.one _ _ k (hg k hkl) hk⟩
 simp at hlen;omega
theorem Own.add{m:Nat}(hm:Masky m){ow:Array (Option Nat)}{l:List Int}{h:Int}(O:Own m ow l)(hl:l.length≤m):
  ∃j,layClean.free m ow (turns m) (bits h%(m+1)) (bits h)=some j/\Own m (ow.setIfInBounds j (some l.length)) (l++[h]):=by
 obtain⟨e,he,ne⟩:=O.room hl;obtain⟨n0,hn0,en0⟩:=period hm (qfqz m h 13) (show e<m+1 by omega);obtain⟨ke,h1,h2,h3⟩:=qizz hm (h:=h) O.size (turns m) 0 0 rfl (fun k hk=>by omega) ⟨13+n0,by omega,by unfold turns;omega,by rw[qfpz,en0];exact ne⟩;refine⟨(sq m h ke).j,h1,?_⟩;have hj:(sq m h ke).j<ow.size:=by
  have:=(qiyz hm h ke).1;rw[O.size];omega
 have hget:∀j:Nat,(ow.setIfInBounds (sq m h ke).j (some l.length))[j]?=if (sq m h ke).j=j then some (some l.length) else ow[j]?:=fun j=>by
  rw[Array.getElem?_setIfInBounds];by_cases e:(sq m h ke).j=j
  ·rw[if_pos e,if_pos e,if_pos (by omega)]
  ·rw[if_neg e,if_neg e]
 have tk:∀j,Taken ow j->Taken (ow.setIfInBounds (sq m h ke).j (some l.length)) j:=fun j ⟨k,hk⟩=>by
  unfold Taken;rw[hget];by_cases e:(sq m h ke).j=j
  ·exact⟨_,if_pos e⟩
  ·exact⟨k,by rw[if_neg e];exact hk⟩
 have lt_of:∀j k:Nat,ow[j]?=some (some k)->k<l.length:=fun j k e=>by
  obtain⟨h',e1,_⟩:=O.reach j k e;exact (List.getElem?_eq_some_iff.mp e1).1
 refine⟨by rw[Array.size_setIfInBounds];exact O.size,fun k hk=>?_,fun j j' k q q'=>?_,fun j k q=>?_⟩
 ·rw[List.length_append,List.length_singleton] at hk;by_cases hkl:k<l.length
  ·obtain⟨j,hj'⟩:=O.all k hkl;refine⟨j,?_⟩;rw[hget,if_neg (fun e=>h2 ⟨k,by rw[e];exact hj'⟩)];exact hj'
  ·have:k=l.length:=by omega
   exact⟨(sq m h ke).j,by rw[hget,if_pos rfl,this]⟩
 ·rw[hget] at q q';by_cases e:(sq m h ke).j=j
  ·rw[if_pos e] at q;by_cases e':(sq m h ke).j=j'
   ·omega
   ·rw[if_neg e'] at q';cases q;exact absurd (lt_of _ _ q') (Nat.lt_irrefl _)
  ·rw[if_neg e] at q;by_cases e':(sq m h ke).j=j'
   ·rw[if_pos e'] at q';cases q';exact absurd (lt_of _ _ q) (Nat.lt_irrefl _)
   ·rw[if_neg e'] at q';exact O.one j j' k q q'
 ·rw[hget] at q;by_cases e:(sq m h ke).j=j
  ·rw[if_pos e] at q;cases q;exact⟨h,by simp,ke,e,fun n' hn'=>tk _ (h3 n' hn')⟩
  ·rw[if_neg e] at q;obtain⟨h',e1,n,e2,e3⟩:=O.reach j k q;exact⟨h',by rw[List.getElem?_append_left (lt_of j k q)];exact e1,n,e2,fun n' hn'=>tk _ (e3 n' hn')⟩
theorem qi0z{m:Nat}(hm:Masky m):∀(l' l:List Int) (ow:Array (Option Nat)),Own m ow l->l.length+l'.length≤m+1 ->
  ∃ow',(l'.foldl (fun (acc:Option (Array (Option Nat)×Nat)) h=>do
   let (owner,k) ←acc
   let j ←layClean.free m owner (turns m) (bits h%(m+1)) (bits h)
   pure (owner.setIfInBounds j (some k),k+1)) (some (ow,l.length)))=some (ow',(l++l').length)/\Own m ow' (l++l')
 |[],l,ow,O,_=>⟨ow,by simp,by simpa using O⟩
 |h::l',l,ow,O,hl=>by
  rw[List.length_cons] at hl
  obtain⟨j,e,O'⟩:=O.add hm (h:=h) (by omega)
  obtain⟨ow',e2,O2⟩:=qi0z hm l' (l++[h]) _ O' (by simp;omega)
  refine⟨ow',?_,by simpa using O2⟩
  rw[List.foldl_cons]
  have hs:(do
   let (owner,k) ←(some (ow,l.length):Option (Array (Option Nat)×Nat))
   let j ←layClean.free m owner (turns m) (bits h%(m+1)) (bits h)
   pure (owner.setIfInBounds j (some k),k+1))=some (ow.setIfInBounds j (some l.length),(l++[h]).length):=by
   show (do
    let j ←layClean.free m ow (turns m) (bits h%(m+1)) (bits h)
    pure (ow.setIfInBounds j (some l.length),l.length+1))=_
   rw[e]
   simp
  rw[hs,e2]
  simp
theorem qfuz{α:Type}:∀l:List α,((List.range l.length).filterMap fun k=>l[k]?)=l
 |[]=>rfl
 |a::l=>by
  rw[List.length_cons,List.range_succ_eq_map,List.filterMap_cons_some (b:=a) (by simp),List.filterMap_map];have ih:=qfuz l;congr 1
theorem qruz{α:Type}(xs:Array α):((List.range xs.size).filterMap fun k=>xs[k]?)=xs.toList:=by
 have:=qfuz xs.toList;simpa using this
theorem qrvz{m finger moves:Nat}{led plain:Bool}(hm:Masky m)(hs:Array Int)(hl:hs.size*5<m*3):
  ∃t order,laid m finger moves led plain hs=some (t,order)/\t.mask=m/\t.led=led/\t.plain=plain/\t.finger=finger/\order.toList.Perm (List.range hs.size)/\Tab t (order.toList.filterMap fun k=>hs[k]?):=by
 obtain⟨ow,e,O⟩:=qi0z hm hs.toList [] _ (Own.nil m) (by simp;omega);rw[List.nil_append] at e O;have hlc:layClean m hs=some ow:=by
  unfold layClean;rw[←Array.foldl_toList];have e':=congrArg (Option.map fun x:Array (Option Nat)×Nat=>x.1) e;exact e'
 have hmem:∀j k,(j,k)∈((List.range (m+1)).filterMap fun j=>(ow.getD j none).map (j,·))↔ow[j]?=some (some k):=fun j k=>by
  rw[List.mem_filterMap];constructor
  ·rintro⟨a,ha,q⟩;have ha':=List.mem_range.mp ha;cases ho:ow.getD a none with
   |none=>rw[ho] at q;cases q
   |some k'=>
    rw[ho] at q;cases q;have:ow.getD j none=ow[j]'(by rw[O.size];exact ha'):=by simp[Array.getD,O.size,ha']
    rw[this] at ho;rw[Array.getElem?_eq_getElem (by rw[O.size];exact ha'),ho]
  ·intro q;have hj:=(Array.getElem?_eq_some_iff.mp q).1;rw[O.size] at hj;refine⟨j,List.mem_range.mpr hj,?_⟩;have:ow.getD j none=some k:=by
    rw[Array.getD_eq_getD_getElem?,q];rfl
   rw[this];rfl
 generalize hL:((List.range (m+1)).filterMap fun j=>(ow.getD j none).map (j,·))=L at hmem;have rise:L.Pairwise fun a b=>a.1<b.1:=by
  rw[←hL];refine List.Pairwise.filterMap _ (fun a a' hlt b hb b' hb'=>?_) (List.pairwise_lt_range (n:=m+1));cases ho:ow.getD a none with
  |none=>rw[ho] at hb;cases hb
  |some k=>
   rw[ho] at hb;cases hb;cases ho':ow.getD a' none with
   |none=>rw[ho'] at hb';cases hb'
   |some k'=>
    rw[ho'] at hb';cases hb';exact hlt
 have nd:(L.map (·.2)).Nodup:=by
  refine List.Pairwise.map _ (R:=fun a b=>a.2≠b.2) (fun _ _ z=>z) ?_;refine List.Pairwise.imp_of_mem (fun {a b} ha hb hab=>?_) rise;intro q;obtain⟨j,k⟩:=a;obtain⟨j',k'⟩:=b;have ea:=(hmem j k).mp ha;have eb:=(hmem j' k').mp hb;have hab':j<j':=hab;have q':k=k':=q;subst q';have:=O.one j j' k ea eb;omega
 have hperm:(L.map (·.2)).Perm (List.range hs.size):=by
  refine (List.perm_ext_iff_of_nodup nd List.nodup_range).mpr fun k=>?_;rw[List.mem_map,List.mem_range];constructor
  ·rintro⟨⟨j,k'⟩,hjk,rfl⟩;obtain⟨h,e1,_⟩:=O.reach j k' ((hmem j k').mp hjk);have:=(List.getElem?_eq_some_iff.mp e1).1;simpa using this
  ·intro hk;obtain⟨j,ej⟩:=O.all k (by simpa using hk);exact⟨(j,k),(hmem j k).mpr ej,rfl⟩
 -- the hashes in the slots' order
 have hzip:∀j h,(j,h)∈(L.map (·.1)).zip ((L.map (·.2)).filterMap fun k=>hs[k]?)->∃k,(j,k)∈L/\hs[k]?=some h:=by
  have hall:∀p∈L,∃h,hs[p.2]?=some h:=fun p hp=>by
   obtain⟨h,e1,_⟩:=O.reach p.1 p.2 ((hmem p.1 p.2).mp hp);exact⟨h,by rw[←Array.getElem?_toList];exact e1⟩
  clear hmem rise nd hperm hL
  induction L with
  |nil=>intro j h q;cases q
  |cons p L ih=>
   intro j h q;obtain⟨h0,e0⟩:=hall p List.mem_cons_self;rw[List.map_cons,List.map_cons,List.filterMap_cons_some e0,List.zip_cons_cons] at q;rcases List.mem_cons.mp q with q|q
   ·cases q;exact⟨p.2,List.mem_cons_self,e0⟩
   ·obtain⟨k,q1,q2⟩:=ih (fun p hp=>hall p (List.mem_cons_of_mem _ hp)) j h q;exact⟨k,List.mem_cons_of_mem _ q1,q2⟩
 have hlenL:((L.map (·.2)).filterMap fun k=>hs[k]?).length=L.length:=by
  have h1:=(hperm.filterMap fun k=>hs[k]?).length_eq;rw[qruz] at h1;have h3:=hperm.length_eq;rw[List.length_map,List.length_range] at h3;rw[h1,h3];simp
 refine⟨_,_,by unfold laid;rw[hlc];rfl,rfl,rfl,rfl,rfl,?_,?_⟩
 ·rw[hL];exact hperm
 ·rw[hL];have hlen:L.length=hs.size:=by
   have:=hperm.length_eq;simpa using this
  refine⟨hm,?_,?_,fun j hj=>?_,rfl,?_,fun j h hj=>?_⟩
  ·rw[hlenL];simp
  ·exact List.Pairwise.map _ (fun _ _ z=>z) rise
  ·obtain⟨⟨j',k⟩,hp,rfl⟩:=List.mem_map.mp hj;have:=(Array.getElem?_eq_some_iff.mp ((hmem j' k).mp hp)).1;rw[O.size] at this;show j'≤m;omega
  ·rw[hlenL,hlen];exact hl
  ·obtain⟨k,q1,q2⟩:=hzip j h hj;obtain⟨h',e1,n,e2,e3⟩:=O.reach j k ((hmem j k).mp q1);have eh:h'=h:=by
    rw[Array.getElem?_toList,q2] at e1;exact (Option.some.inj e1).symm
   subst eh;refine⟨n,e2,fun n' hn'=>?_⟩;obtain⟨k',hk'⟩:=e3 n' hn';exact List.mem_map.mpr ⟨(_,k'),(hmem _ k').mpr hk',rfl⟩
end SetP
namespace SetM
open PySem SetP
section
variable {prog:Program} {w:World} {A:Around} {E:Value->Shared->Prop} {s:Shared}
abbrev hk(prog:Program)(w:World)(ks:List Int):Int:=tupleKeyHash (intKind prog w) ks
abbrev IsK(prog:Program)(w:World)(h:Heap)(ks:List Int)(a:Addr):Prop:=IsTupleKey (intKind prog w) h ks a
def ent(prog:Program)(w:World)(p:List Int×Addr):Int×Value:=(hk prog w p.1,.ref p.2)
structure SetAt(prog:Program)(w:World)(h:Heap)(a:Addr)(o:Obj)(es:Array (Int×Value))(ep:Nat)(t:SetTable)(xs:List (List Int×Addr)):Prop where
 at_:h.get? a=some o
 ex:o.ExactSet
 dat:o.data=.set es ep t
 ents:es.toList=xs.map (ent prog w)
 keys:∀p∈xs,IsK prog w h p.1 p.2
 nd:(xs.map (·.1)).Nodup
 plain:t.plain=true
 led:t.led = !(w.params.followText "set-order")
theorem qcxz{es:Array (Int×Value)}:(es.toList.map (·.1)).length=es.size:=by simp
theorem qbvz{es:Array (Int×Value)}{t:SetTable}(T:TabR t (es.toList.map (·.1))):t.fits es.size=true:=by
 unfold SetTable.fits;have h1:=T.size;rw[qcxz] at h1;have h2:=T.fit;rw[qcxz] at h2;have h3:t.fill=es.size:=by
  unfold SetTable.fill;rw[h1,T.nodum];rfl
 rw[h3,h1];simp;exact h2
theorem Tab.r{t:SetTable}{hs:List Int}(T:Tab t hs):TabR t hs:=by
 refine⟨T.mask,T.size,T.rise,T.bound,T.nodum,?_,T.reach⟩;have:=T.room;omega
theorem qrwz{t:SetTable}(h:Masky t.mask):t.gaveWay=false:=by
 unfold SetTable.gaveWay;rcases h with e|e|e<;>rw[e]<;>rfl
theorem qrxz(n:Nat){v:Value}(h:carriedByValue v=true):ofAClassStatement n v=pure false:=by
 cases v with
 |ref a=>simp[carriedByValue] at h
 |_=>first|rfl|(cases n<;>rfl)
theorem qi1z{ks:List Int}{a:Addr}{Q:Bool->Shared->Prop}(hx:IsK prog w s.heap ks a)(h:Q false s):wpAny (model prog w) A (ofAClassStatement 8 (.ref a)) Q E s:=by
 have hT:=hx.typeIs;obtain⟨o,items,n,ho,hc,hd,hi⟩:=hx;unfold ofAClassStatement;refine wpAny_bind (wpAny_typeOf hT ?_);dsimp only;rw[if_pos (by decide)];refine wpAny_bind (wpAny_pure ?_);rw[if_neg (by decide)];refine wpAny_bind (wpAny_seqItems ho hd ?_);dsimp only;refine wpAny_bind ?_;rw[←Array.forIn_toList];refine wpAny_forIn_list _ (fun rest r s'=>r.1=none/\s'=s/\∀v∈rest,carriedByValue v=true) _ ?_ ?_ _ _ ⟨rfl,rfl,hi.byValue⟩
 ·rintro v rest r s' ⟨hr,rfl,hall⟩;rw[qrxz _ (hall v List.mem_cons_self)];refine wpAny_bind (wpAny_pure ?_);rw[if_neg Bool.false_ne_true];exact wpAny_pure ⟨rfl,rfl,fun u hu'=>hall u (List.mem_cons_of_mem _ hu')⟩
 ·rintro⟨r1,r2⟩ s' ⟨hr,rfl,_⟩;simp only at hr;subst hr;exact wpAny_pure h
theorem qryz{ks:List Int}{a:Addr}{Q:Bool->Shared->Prop}(hx:IsK prog w s.heap ks a)(l:List Value)(hl:∀v∈l,∃k y,v=.ref y/\IsK prog w s.heap k y)(h:Q false s):
  wpAny (model prog w) A (searchCouldBeSeen (.ref a) l) Q E s:=by
 unfold searchCouldBeSeen;refine wpAny_bind ?_;refine wpAny_forIn_list _ (fun rest r s'=>r.1=none/\s'=s/\∀v∈rest,∃k y,v=.ref y/\IsK prog w s.heap k y) _ ?_ ?_ _ _ ⟨rfl,rfl,hl⟩
 ·rintro v rest r s' ⟨hr,rfl,hall⟩;obtain⟨k,y,rfl,hy⟩:=hall v List.mem_cons_self;have hrest:∀v∈rest,∃k y,v=Value.ref y/\IsK prog w s'.heap k y:=fun v hv=>hall v (List.mem_cons_of_mem _ hv);dsimp only;by_cases hc:((a==y)||(carriedByValue (.ref a)&&carriedByValue (.ref y)))=true
  ·rw[if_pos hc];exact wpAny_pure ⟨rfl,rfl,hrest⟩
  ·rw[if_neg hc];refine wpAny_bind (wpAny_eqIsQuiet_tuple hx ?_);rw[if_neg (by decide)];refine wpAny_bind (wpAny_eqIsQuiet_tuple hy ?_);rw[if_neg (by decide)];refine wpAny_bind (qi1z hx ?_);rw[if_neg Bool.false_ne_true];refine wpAny_bind (qi1z hy ?_);rw[if_neg Bool.false_ne_true];exact wpAny_pure ⟨rfl,rfl,hrest⟩
 ·rintro⟨r1,r2⟩ s' ⟨hr,rfl,_⟩;simp only at hr;subst hr;exact wpAny_pure h
theorem qrzz{ks:List Int}{a:Addr}{Q:Bool->Shared->Prop}(hx:IsK prog w s.heap ks a)(h:Q true s):wpAny (model prog w) A (hashByValue 8 (.ref a)) Q E s:=by
 have hT:=hx.typeIs;obtain⟨o,items,n,ho,hc,hd,hi⟩:=hx;unfold hashByValue;refine wpAny_bind (wpAny_specialOf hT F.slot_tuple_hash.lookup ?_);dsimp only;refine wpAny_bind (wpAny_seqItems ho hd ?_);refine wpAny_bind ?_;show wpAny _ _ (forIn items _ _) _ _ s;rw[←Array.forIn_toList];refine wpAny_forIn_list _ (fun rest r s'=>r.1=none/\s'=s/\∃l,ItemsAre (intKind prog w) l rest) _ ?_ ?_ _ _ ⟨rfl,rfl,ks,hi⟩
 ·rintro v rest r s' ⟨hr,rfl,l,hl⟩;cases hl with
  |@cons k v' _ _ h1 h2=>
   obtain⟨tk,rfl⟩:=Value.isInt_shape (k:=k) h1;have e:hashByValue 7 (.int k tk)=pure true:=by rfl
   rw[e];refine wpAny_bind (wpAny_pure ?_);rw[if_neg (by decide)];exact wpAny_pure ⟨rfl,rfl,_,h2⟩
 ·rintro⟨r1,r2⟩ s' ⟨hr,rfl,_⟩;simp only at hr;subst hr;exact wpAny_pure h
theorem qr0z{es:Array (Int×Value)}{xs:List (List Int×Addr)}(he:es.toList=xs.map (ent prog w)){i:Nat}(hi:i<es.size):∃p,xs[i]?=some p/\es[i]?=some (ent prog w p):=by
 have hl:xs.length=es.size:=by
  have:=congrArg List.length he;simpa using this.symm
 obtain⟨p,hp⟩:∃p,xs[i]?=some p:=⟨xs[i]'(by omega),List.getElem?_eq_getElem (by omega)⟩;refine⟨p,hp,?_⟩;rw[←Array.getElem?_toList,he,List.getElem?_map,hp];rfl
theorem qi2z{a:Addr}{o:Obj}{es:Array (Int×Value)}{ep:Nat}{t:SetTable}{xs:List (List Int×Addr)}(S:SetAt prog w s.heap a o es ep t xs)(T:Tab t (es.toList.map (·.1)))(hu:A.units<cLine)
  {ks:List Int} {x:Addr} (hx:IsK prog w s.heap ks x) {ke:Nat} (hke:ke≤10*t.mask+130) (hemp:(sq t.mask (hk prog w ks) ke).j∉t.place.toList) (hliv:∀k,k<ke->(sq t.mask (hk prog w ks) k).j∈t.place.toList)
  {Q:SetFound->Shared->Prop} (hin:ks∈xs.map (·.1)->Q (.there none) s) (hout:ks∉xs.map (·.1)->Q (.free (sq t.mask (hk prog w ks) ke).j false) s):
  ∀(fuel n:Nat) (stand:Option SetTable.Probe),stand.getD (t.probeStart (hk prog w ks))=sq t.mask (hk prog w ks) n->n≤ke->ke-n<fuel ->
   (∀(k' i':Nat) p,k' < n->t.place[i']?=some (sq t.mask (hk prog w ks) k').j->xs[i']?=some p->p.1≠ks) ->
   wpAny (model prog w) A (setSearchFrom a (.ref x) (hk prog w ks) true fuel stand) Q E s
 |0,n,stand,_,_,hf,_=>by omega
 |fuel+1,n,stand,hst,hn,hf,hprev=>by
  have hsz:t.place.size=es.size:=by
   have:=T.size
   rw[qcxz] at this
   exact this
  have hfit:=qbvz (Tab.r T)
  have hal:∀(i:Nat) (p:List Int×Addr),xs[i]?=some p->((es[i]?).map fun z:Int×Value=>z.1).getD 0=hk prog w p.1:=fun i p hp=>by
   rw[←Array.getElem?_toList,S.ents,List.getElem?_map,hp]
   rfl
  unfold setSearchFrom
  refine wpAny_bind (wpAny_setState_of S.at_ S.dat hfit ?_)
  dsimp only
  rw[qrwz T.mask,if_neg Bool.false_ne_true,hst]
  obtain⟨met,e,m⟩:=qrsz T (hashAt:=fun i=>((es[i]?).map fun z:Int×Value=>z.1).getD 0) hke hemp hliv hn
  erw [e]
  dsimp only
  cases m with
  |free h1 h5=>
   dsimp only
   refine wpAny_pure (hout fun hmem=>?_)
   obtain⟨p,hp,rfl⟩:=List.mem_map.mp hmem
   obtain⟨i,hi⟩:=List.getElem?_of_mem hp
   have hil:i<es.size:=by
    have h1:=(List.getElem?_eq_some_iff.mp hi).1
    have h2:=congrArg List.length S.ents
    simp at h2
    omega
   have hj:∃j,t.place[i]?=some j:=⟨t.place[i]'(by omega),by simp⟩
   obtain⟨j,hj⟩:=hj
   have hz:(j,hk prog w p.1)∈t.place.toList.zip (es.toList.map (·.1)):=by
    refine List.mem_of_getElem? (i:=i) ?_
    rw[List.getElem?_zip_eq_some]
    refine⟨by rw[Array.getElem?_toList];exact hj,?_⟩
    rw[S.ents,List.map_map,List.getElem?_map,hi]
    rfl
   obtain⟨k,hk1,hk2⟩:=T.reach _ _ hz
   have hkke:k<ke:=by
    refine Classical.byContradiction fun z=>hemp ?_
    by_cases q:k=ke
    ·rw[←q,hk1]
     exact List.mem_of_getElem? (by rw[Array.getElem?_toList];exact hj)
    ·exact hk2 ke (by omega)
   rw[←hk1] at hj
   by_cases hkn:k<n
   ·exact hprev k i p hkn hj hi rfl
   ·exact h5 k i (by omega) hkke hj (hal i p hi)
  |@cand k i h1 h2 h3 h4 h5=>
   dsimp only
   have hil:i<es.size:=by
    have:=(Array.getElem?_eq_some_iff.mp h3).1
    omega
   obtain⟨p,hp,hesi⟩:=qr0z S.ents hil
   have hyk:=S.keys p (List.mem_of_getElem? hp)
   have hpk:p∈xs:=List.mem_of_getElem? hp
   have go:wpAny (model prog w) A (do
     let some (_,y):=es[i]? | unsupported "internal:set-entry"
     let equal ←holding [y] (eqBool y (.ref x))
     let (es',_,t') ←setState a
     if true&&equal then return .there none
     let some same:=t'.sameMemory t.moves t.mask|unsupported "set.changed-during-lookup:is-the-new-block-at-the-old-address"
     let still ←match (if same then t'.slot (sq t.mask (hk prog w ks) k).j else .empty) with
      |.live i'=>match es'[i']? with
       |some (_,y')=>do pure (if ←isSame y' y then some i' else none)
       |none=>pure none
      |_=>pure none
     match still with
     |none=>rule "set.search.anew";setSearchFrom a (.ref x) (hk prog w ks) true fuel none
     | some i'=>if equal then return .there (some i') else setSearchFrom a (.ref x) (hk prog w ks) true fuel (some (sq t.mask (hk prog w ks) (k+1)))) Q E s:=by
    rw[hesi]
    dsimp only[ent]
    refine wpAny_bind (wpAny_holding (wpAny_eqBool_tuple hu hyk hx ?_))
    refine wpAny_bind (wpAny_setState_of S.at_ S.dat hfit ?_)
    dsimp only
    by_cases heq:p.1=ks
    ·rw[decide_eq_true heq,if_pos (by decide)]
     exact wpAny_pure (hin (List.mem_map.mpr ⟨p,hpk,heq⟩))
    ·rw[decide_eq_false heq,if_neg (by decide)]
     have hsm:t.sameMemory t.moves t.mask=some true:=by unfold SetTable.sameMemory;simp
     rw[hsm]
     dsimp only
     rw[if_pos rfl,qivz T.rise h3]
     dsimp only
     rw[hesi]
     dsimp only[ent]
     refine wpAny_bind (wpAny_isSame_ref_self ?_)
     rw[if_pos rfl]
     refine wpAny_bind (wpAny_pure ?_)
     dsimp only
     rw[if_neg Bool.false_ne_true]
     refine qi2z S T hu hx hke hemp hliv hin hout fuel (k+1) _ rfl (by omega) (by omega) fun k' i' p' hk' hpl hp'=>?_
     by_cases hkn:k' < n
     ·exact hprev k' i' p' hkn hpl hp'
     ·by_cases hkk:k'=k
      ·subst hkk
       have e1:=below_at T.rise h3
       have e2:=below_at T.rise hpl
       have:i'=i:=by omega
       subst this
       rw[hp] at hp'
       cases hp'
       exact heq
      ·intro he
       exact h5 k' i' (by omega) (by omega) hpl (by rw[hal i' p' hp',he])
   by_cases hled:t.led=true
   ·rw[hled]
    rw[if_neg (by decide)]
    exact go
   ·have hled':t.led=false:=by simpa using hled
    rw[hled']
    rw[if_pos (by decide)]
    refine wpAny_bind (qryz hx _ (fun v hv=>?_) ?_)
    ·obtain⟨e0,he0,rfl⟩:=List.mem_map.mp hv
     have he1:e0∈es.toList:=by
      have:=Array.mem_toList_iff.mp he0
      exact Array.mem_toList_iff.mpr (Array.mem_filter.mp this).1
     rw[S.ents] at he1
     obtain⟨p0,hp0,rfl⟩:=List.mem_map.mp he1
     exact⟨p0.1,p0.2,rfl,S.keys p0 hp0⟩
    ·rw[if_neg Bool.false_ne_true]
     exact go
end
end SetM
namespace SetM
open PySem SetP
section
variable {prog:Program} {w:World} {A:Around} {E:Value->Shared->Prop} {s:Shared}
def SetOn(prog:Program)(w:World)(h:Heap)(a:Addr)(xs:List (List Int×Addr)):Prop:=
 ∃o es ep t,SetAt prog w h a o es ep t xs/\Tab t (es.toList.map (·.1))
theorem qd9z{h h':Heap}{a y:Addr}{ks:List Int}{o:Obj}{es:Array (Int×Value)}{ep:Nat}{t:SetTable}(ho:h.get? a=some o)(hd:o.data=.set es ep t)(sb:Heap.SameBut a h h')(hy:IsK prog w h ks y):IsK prog w h' ks y:=by
 obtain⟨oy,items,n,hoy,hc,hdy,hi⟩:=hy;have ne:y≠a:=by
  intro e;subst e;rw[ho] at hoy;cases hoy;rw[hd] at hdy;cases hdy
 exact⟨oy,items,n,(sb.2 y ne).trans hoy,hc,hdy,hi⟩
theorem qi3z{h:Heap}{a:Addr}{o:Obj}{es es':Array (Int×Value)}{ep:Nat}{t t':SetTable}(ho:h.get? a=some o)(hd:o.data=.set es ep t):
  (h.update a (Obj.putSet es' t')).get? a=some { o with data:=.set es' (ep+1) t' }:=by
 have q:=Heap.get?_update_self (Obj.putSet es' t') ho (by rw[putSet_of es' t' hd];rfl);rw[putSet_of es' t' hd] at q;exact q
theorem qr1z:∀n,n<8->5≤n->SetTable.sizeAbove (SetTable.grown n)=32:=by decide +kernel
theorem qr2z:∀n,n<32->19≤n->SetTable.sizeAbove (SetTable.grown n)=128:=by decide +kernel
theorem qr3z{t:SetTable}{hs:List Int}(T:TabR t hs)(hf:t.tooFull=true)(h64:hs.length≤64):∃m,SetTable.sizeAbove (SetTable.grown hs.length)=m+1/\Masky m/\hs.length*5<m*3/\m+1≤128:=by
 have hfill:t.fill=hs.length:=by
  unfold SetTable.fill;rw[T.size,T.nodum];rfl
 have h':hs.length*5≥t.mask*3:=by
  unfold SetTable.tooFull at hf;rw[hfill] at hf;simpa using hf
 have hfit:=T.fit;rcases T.mask with e|e|e
 ·rw[e] at h' hfit;exact⟨31,qr1z _ (by omega) (by omega),.inr (.inl rfl),by omega,by omega⟩
 ·rw[e] at h' hfit;exact⟨127,qr2z _ (by omega) (by omega),.inr (.inr rfl),by omega,by omega⟩
 ·rw[e] at h';omega
theorem qr4z{α β:Type}(f:α->β)(l:List α)(o:List Nat):(o.filterMap fun k=>(l.map f)[k]?)=(o.filterMap fun k=>l[k]?).map f:=by
 rw[List.map_filterMap];congr 1;funext k;rw[List.getElem?_map]
theorem qr5z{a:Addr}{o:Obj}{es:Array (Int×Value)}{ep:Nat}{t:SetTable}{xs:List (List Int×Addr)}(S:SetAt prog w s.heap a o es ep t xs)(T:TabR t (es.toList.map (·.1)))(hf:t.tooFull=true)(h64:es.size≤64)
  {Q:Unit->Shared->Prop} (h:∀h' xs',Heap.SameBut a s.heap h'->SetOn prog w h' a xs'->xs'.Perm xs->Q () { s with heap:=h' }):
  wpAny (model prog w) A (setRelay a (SetTable.grown es.size)) Q E s:=by
 have hsz:(es.toList.map (·.1)).length=es.size:=qcxz
 obtain⟨m,hm1,hm2,hm3,hm4⟩:=qr3z T hf (by rw[hsz];exact h64)
 rw[hsz] at hm1 hm3
 unfold setRelay
 refine wpAny_bind (wpAny_setState_of S.at_ S.dat (qbvz T) ?_)
 dsimp only
 rw[hm1,if_neg (by rw[sizeLine_eq];omega)]
 obtain⟨t2,order,e2,em,el,ep2,ef,hperm,T2⟩:=qrvz (finger:=t.finger) (moves:=t.movedTo m) (led:=t.led) (plain:=t.plain) hm2 (es.map (·.1)) (by simpa using hm3)
 have erel:t.relaid (es.map (·.1)) (SetTable.grown es.size)=some (t2,order):=by
  unfold SetTable.relaid
  rw[hm1,Nat.add_sub_cancel]
  exact e2
 have hosz:(es.map (·.1)).size=es.size:=by simp
 rw[hosz] at hperm
 have hes2:(order.filterMap (es[·]?)).toList=(order.toList.filterMap fun k=>xs[k]?).map (ent prog w):=by
  rw[Array.toList_filterMap,←qr4z,←S.ents]
  congr 1
  funext k
  rw[Array.getElem?_toList]
 have hxl:xs.length=es.size:=by
  have:=congrArg List.length S.ents
  simpa using this.symm
 have hxp:(order.toList.filterMap fun k=>xs[k]?).Perm xs:=by
  have:=hperm.filterMap fun k=>xs[k]?
  rw[←hxl,qfuz] at this
  exact this
 have hsz2:(order.filterMap (es[·]?)).size=es.size:=by
  have:=congrArg List.length hes2
  simp only[List.length_map] at this
  rw[hxp.length_eq,hxl] at this
  rw[←Array.length_toList]
  exact this
 refine wpAny_bind ?_
 show wpAny _ _ (do
  let some (t,order):=t.relaid (es.map (·.1)) (SetTable.grown es.size)|unsupported "internal:set-table-without-room"
  let es':=order.filterMap (es[·]?)
  if es'.size != es.size then unsupported "internal:set-table-lost-an-element"
  pure (es',t)) _ _ _
 rw[erel]
 dsimp only
 rw[hsz2,if_neg (by simp)]
 refine wpAny_pure ?_
 dsimp only
 refine wpAny_storeSet_of S.at_ S.dat ?_ (by rw[hsz2,sizeLine_eq];omega)
 have sb:=Heap.SameBut.update s.heap a (Obj.putSet (order.filterMap (es[·]?)) t2)
 refine h _ _ sb ⟨_,_,_,_,⟨qi3z S.at_ S.dat,⟨S.ex.1,S.ex.2.1,S.ex.2.2⟩,rfl,hes2,fun p hp=>qd9z S.at_ S.dat sb (S.keys p (hxp.mem_iff.mp hp)),?_,ep2.trans S.plain,el.trans S.led⟩,?_⟩ hxp
 ·exact (hxp.map _).nodup_iff.mpr S.nd
 ·have eT:(order.filterMap (es[·]?)).toList.map (·.1)=order.toList.filterMap fun k=>(es.map (·.1))[k]?:=by
   rw[Array.toList_filterMap,List.map_filterMap]
   congr 1
   funext k
   simp
  rw[eT]
  exact T2
theorem qr6z{a:Addr}{xs:List (List Int×Addr)}(S:SetOn prog w s.heap a xs)(h64:xs.length<64)(hu:A.units<cLine){ks:List Int}{x:Addr}(hx:IsK prog w s.heap ks x)
  {Q:Bool->Shared->Prop} (h:∀b h' tk xs',s.toks≤tk->Heap.SameBut a s.heap h'->SetOn prog w h' a xs'->(ks∈xs.map (·.1)->xs'.Perm xs)->(ks∉xs.map (·.1)->xs'.Perm ((ks,x)::xs))->Q b { s with heap:=h',toks:=tk }):
  wpAny (model prog w) A (setAdd a (.ref x)) Q E s:=by
 obtain⟨o,es,ep,t,S,T⟩:=S;have hxl:xs.length=es.size:=by
  have:=congrArg List.length S.ents;simpa using this.symm
 unfold setAdd;refine wpAny_holding (wpAny_bind (wpAny_pyHash_tuple hu hx ?_));unfold setAddHashed;refine wpAny_holding ?_;have hend:∀b h' xs',Heap.SameBut a s.heap h'->SetOn prog w h' a xs'->(ks∈xs.map (·.1)->xs'.Perm xs)->(ks∉xs.map (·.1)->xs'.Perm ((ks,x)::xs))->Q b { s with heap:=h',toks:=s.toks+(ks.length+1)}:=
  fun b h' xs' q1 q2 q3 q4=>h b h' _ xs' (Nat.le_add_right _ _) q1 q2 q3 q4
 obtain⟨ke,hke,hemp,hliv⟩:=qrrz T (hk prog w ks);unfold setAddHashedIn;refine wpAny_bind (wpAny_setState_of (s:={ s with toks:=s.toks+(ks.length+1)}) S.at_ S.dat (qbvz (Tab.r T)) ?_);dsimp only;rw[show byScan (.ref x) es=false from rfl,if_neg Bool.false_ne_true];refine wpAny_bind ?_;unfold setSearch;refine qi2z (s:={ s with toks:=s.toks+(ks.length+1)}) S T hu hx hke hemp hliv (fun hin=>?_) (fun hout=>?_) 100000 0 none rfl (Nat.zero_le _) (by rcases T.mask with e|e|e<;>rw[e] at hke<;>omega) fun k' i' p hk'=>absurd hk' (Nat.not_lt_zero _)
 ·dsimp only;exact wpAny_pure (hend false s.heap xs (.refl _ _) ⟨o,es,ep,t,S,T⟩ (fun _=>.refl _) fun z=>absurd hin z)
 ·dsimp only;refine wpAny_bind (wpAny_setState_of (s:={ s with toks:=s.toks+(ks.length+1)}) S.at_ S.dat (qbvz (Tab.r T)) ?_);dsimp only;rw[qrtz T.nodum];dsimp only;rw[S.plain,if_pos rfl];refine wpAny_bind (qrzz (s:={ s with toks:=s.toks+(ks.length+1)}) hx ?_);rw[if_pos rfl];have TR:=T.put hemp hliv;generalize hp:SetTable.below t.place (sq t.mask (hk prog w ks) ke).j=p at TR ⊢;have hes1:(SetTable.insertAt es p (hk prog w ks,Value.ref x)).toList=(xs.take p++(ks,x)::xs.drop p).map (ent prog w):=by
   rw[qbuz,S.ents,List.map_append,List.map_cons,List.map_take,List.map_drop];rfl
  have hhs:(SetTable.insertAt es p (hk prog w ks,Value.ref x)).toList.map (·.1)=(es.toList.map (·.1)).take p++hk prog w ks::(es.toList.map (·.1)).drop p:=by
   rw[qbuz,List.map_append,List.map_cons,List.map_take,List.map_drop]
  have hsz1:(SetTable.insertAt es p (hk prog w ks,Value.ref x)).size=es.size+1:=by
   rw[←Array.length_toList,qbuz,(qcaz p es.toList _).length_eq,List.length_cons,Array.length_toList]
  rw[←hhs] at TR;refine wpAny_bind (wpAny_storeSet_of (s:={ s with toks:=s.toks+(ks.length+1)}) S.at_ S.dat ?_ (by rw[hsz1,sizeLine_eq];omega));have sb:=Heap.SameBut.update s.heap a (Obj.putSet (SetTable.insertAt es p (hk prog w ks,Value.ref x)) { t with place:=SetTable.insertAt t.place p (sq t.mask (hk prog w ks) ke).j,dummies:=#[],plain:=true });have hpx:(xs.take p++(ks,x)::xs.drop p).Perm ((ks,x)::xs):=qcaz p xs _;have S1:SetAt prog w (s.heap.update a (Obj.putSet (SetTable.insertAt es p (hk prog w ks,Value.ref x)) { t with place:=SetTable.insertAt t.place p (sq t.mask (hk prog w ks) ke).j,dummies:=#[],plain:=true })) a { o with data:=.set (SetTable.insertAt es p (hk prog w ks,Value.ref x)) (ep+1) { t with place:=SetTable.insertAt t.place p (sq t.mask (hk prog w ks) ke).j,dummies:=#[],plain:=true }} (SetTable.insertAt es p (hk prog w ks,Value.ref x)) (ep+1)
    { t with place:=SetTable.insertAt t.place p (sq t.mask (hk prog w ks) ke).j,dummies:=#[],plain:=true } (xs.take p++(ks,x)::xs.drop p):=by
   refine⟨qi3z S.at_ S.dat,⟨S.ex.1,S.ex.2.1,S.ex.2.2⟩,rfl,hes1,fun q hq=>?_,?_,rfl,S.led⟩
   ·rcases List.mem_cons.mp (hpx.mem_iff.mp hq) with e|e
    ·rw[e];exact qd9z S.at_ S.dat sb hx
    ·exact qd9z S.at_ S.dat sb (S.keys q e)
   ·refine (hpx.map _).nodup_iff.mpr ?_;rw[List.map_cons,List.nodup_cons];exact⟨hout,S.nd⟩
  have TR':TabR { t with place:=SetTable.insertAt t.place p (sq t.mask (hk prog w ks) ke).j,dummies:=#[],plain:=true } ((SetTable.insertAt es p (hk prog w ks,Value.ref x)).toList.map (·.1)):=
   ⟨TR.mask,TR.size,TR.rise,TR.bound,TR.nodum,TR.fit,TR.reach⟩
  by_cases hfull:({ t with place:=SetTable.insertAt t.place p (sq t.mask (hk prog w ks) ke).j,dummies:=#[],plain:=true }:SetTable).tooFull=true
  ·rw[hfull,if_pos (by decide)];refine wpAny_bind ?_;rw[←hsz1];refine qr5z (s:={ s with heap:=s.heap.update a _,toks:=s.toks+(ks.length+1)}) S1 TR' hfull (by rw[hsz1];omega) fun h' xs' sb' S2 pm=>?_;exact wpAny_pure (hend true h' xs' (sb.trans sb') S2 (fun z=>absurd z hout) fun _=>pm.trans hpx)
  ·have hfull':({ t with place:=SetTable.insertAt t.place p (sq t.mask (hk prog w ks) ke).j,dummies:=#[],plain:=true }:SetTable).tooFull=false:=by simpa using hfull
   rw[hfull',if_neg (by decide)];exact wpAny_pure (hend true _ _ sb ⟨_,_,_,_,S1,TR'.tab hfull'⟩ (fun z=>absurd z hout) fun _=>hpx)
end
end SetM
namespace SetM
open PySem SetP
theorem slot_sit_next:Slot "set_iterator" "__next__" "set_iterator.__next__":=
 .of (owner:="set_iterator") (n:="__next__")
  (by rw[typeLookup_type,builtinLookup_eq_fast];kernel_rfl)
  (by decide +kernel) (by decide +kernel) (by decide +kernel)
  (by first|exact .inl (by decide +kernel)|exact .inr (by decide +kernel))
  (by rw[isSubtype_type];kernel_rfl)
theorem qi4z:Slot "set_iterator" "__iter__" "set_iterator.__iter__":=
 .of (owner:="set_iterator") (n:="__iter__")
  (by rw[typeLookup_type,builtinLookup_eq_fast];kernel_rfl)
  (by decide +kernel) (by decide +kernel) (by decide +kernel)
  (by first|exact .inl (by decide +kernel)|exact .inr (by decide +kernel))
  (by rw[isSubtype_type];kernel_rfl)
theorem qi5z:entryFor table "set_iterator.__next__" = some Builtin.«set_iterator.__next__»:=entryFor_of_tree (by kernel_rfl)
theorem qr7z:entryFor table "set.__iter__" = some Builtin.«frozenset.__iter__»:=
 entryFor_alias (id':="frozenset.__iter__") (by rw[fastTable_eq_tree];kernel_rfl) (by decide +kernel) (by decide +kernel) (by rw[fastTable_eq_tree];kernel_rfl)
theorem qi6z:Manifest.owners.lookup (String.ofList ['r','o','t','a','r','e','t','i','_','t','e','s'].reverse)=some Manifest.sig_set_iterator:=by kernel_rfl
theorem qi7z(a:Value):argsOk "set_iterator.__next__" ⟨[a],[]⟩:=by
 unfold argsOk;rw[signature?_of (id:="set_iterator.__next__") (n:=['_','_','t','x','e','n','_','_']) (o:=['r','o','t','a','r','e','t','i','_','t','e','s']) (by kernel_rfl) qi6z]
 kernel_rfl
theorem qi8z{α:Type}(next:Nat->Nat):∀(fuel k:Nat) (left:List α) (out:Array α),left.length≤fuel->(pickOrder.go next fuel k left out).toList.Perm (out.toList++left)
 |0,k,left,out,h=>by
  have:left=[]:=List.length_eq_zero_iff.mp (by omega);subst this;show out.toList.Perm (out.toList++[]);rw[List.append_nil]
 |fuel+1,k,left,out,h=>by
  unfold pickOrder.go;cases hl:left[next k%left.length]? with
  |none=>
   have:left=[]:=by
    cases left with
    |nil=>rfl
    |cons a l=>
     have:=Nat.mod_lt (next k) (show 0<(a::l).length by simp)
     rw[List.getElem?_eq_getElem this] at hl;cases hl
   subst this;show out.toList.Perm (out.toList++[]);rw[List.append_nil]
  |some x=>
   have hlt:=(List.getElem?_eq_some_iff.mp hl).1;have ih:=qi8z next fuel (k+1) (left.eraseIdx (next k%left.length)) (out.push x) (by rw[List.length_eraseIdx];split<;>omega)
   refine ih.trans ?_;rw[Array.toList_push,List.append_assoc];refine List.Perm.append_left _ ?_;obtain⟨_,e⟩:=List.getElem?_eq_some_iff.mp hl;rw[←e,List.eraseIdx_eq_take_drop_succ];have q:=List.perm_middle (a:=left[next k%left.length]) (l₁:=left.take (next k%left.length)) (l₂:=left.drop (next k%left.length+1))
   rw[List.getElem_cons_drop,List.take_append_drop] at q;exact q.symm
theorem qr8z{α:Type}(next:Nat->Nat)(xs:Array α):(pickOrder next xs).toList.Perm xs.toList:=by
 have:=qi8z next xs.size 0 xs.toList #[] (by simp)
 unfold pickOrder;simpa using this
def byText(w:World):Bool:=w.params.followText "set-order"
def walkL(w:World)(a:Addr)(ep:Nat)(es:Array (Int×Value)):List (Int×Value):=if byText w then (pickOrder (w.params.setOrder a ep) es).toList else es.toList
theorem walkL_perm(w:World)(a:Addr)(ep:Nat)(es:Array (Int×Value)):(walkL w a ep es).Perm es.toList:=by
 unfold walkL;split
 ·exact qr8z _ _
 ·exact .refl _
def IsSit(h:Heap)(it a:Addr)(slot i n ep:Nat):Prop:=h.get? it=some { cls:=.type "set_iterator",data:=.fields #[rawInt slot,rawInt i,.ref a,rawInt n,rawInt ep]}
def SlotOk(w:World)(t:SetTable)(slot i:Nat):Prop:=byText w=true∨SetTable.below t.place slot=i
section
variable {prog:Program} {w:World} {A:Around} {E:Value->Shared->Prop} {s:Shared}
theorem qfvz{Q:Bool->Shared->Prop}(h:Q (byText w) s):wpAny (model prog w) A setsByText Q E s:=by
 unfold setsByText;exact wpAny_bind (wpAny_askSetting (wpAny_pure h))
theorem qr9z{a:Addr}{o:Obj}{es:Array (Int×Value)}{ep:Nat}{t:SetTable}{xs:List (List Int×Addr)}(S:SetAt prog w s.heap a o es ep t xs)(T:Tab t (es.toList.map (·.1)))
  {Q:Value->Shared->Prop} (h:Q (.ref s.heap.objs.size) { s with heap:=s.heap.push { cls:=.type "set_iterator",data:=.fields #[rawInt (0:Nat),rawInt (0:Nat),.ref a,rawInt es.size,rawInt ep]}}):
  wpAny (model prog w) A (pyIter (.ref a)) Q E s:=by
 have hT:s.TypeIs (.ref a) "set":=⟨o,S.at_,S.ex.1⟩;have hfit:=qbvz (Tab.r T);refine wpAny_pyIter_slot hT F.slot_set_iter (wpAny_call_entry F.slot_set_iter hT qr7z ?_ (F.args_set_iter_1 _));unfold Builtin.«frozenset.__iter__»;show wpAny _ _ (Builtin.Frozenset.slot0 "__iter__" ⟨[.ref a],[]⟩ >>= _) _ _ s;refine wpAny_bind (m:=Builtin.Frozenset.slot0 "__iter__" ⟨[.ref a],[]⟩) (wpAny_of_eq (a:=a) rfl ?_);unfold Builtin.Frozenset.sizeOf setEntries;refine wpAny_bind (wpAny_bind (wpAny_bind (wpAny_setState_of S.at_ S.dat hfit (wpAny_pure (wpAny_pure ?_)))));unfold setDrawn;refine wpAny_bind (wpAny_bind (wpAny_setState_of S.at_ S.dat hfit ?_));refine wpAny_bind (qfvz (wpAny_pure ?_));have hnd:(!byText w&&(!t.plain&&decide (es.size > 1)))=false:=by rw[S.plain];simp
 show wpAny _ _ (if (!byText w&&(!t.plain&&decide (es.size > 1)))=true then _ else _) _ _ s;rw[hnd,if_neg Bool.false_ne_true];refine wpAny_bind (wpAny_pure ?_);refine wpAny_bind (wpAny_setEpoch_of S.at_ S.dat hfit ?_);refine wpAny_bind ?_;unfold newFields;refine wpAny_newObj_type ?_;refine wpAny_pure ⟨_,rfl,"set_iterator",_,⟨_,Heap.get?_push_size _ rfl,rfl⟩,slot_sit_next.lookup,h⟩
theorem qi9z{a:Addr}{o:Obj}{es:Array (Int×Value)}{ep:Nat}{t:SetTable}{xs:List (List Int×Addr)}(S:SetAt prog w s.heap a o es ep t xs)(T:Tab t (es.toList.map (·.1))){slot i:Nat}(hsl:SlotOk w t slot i)
  {Q:Option (Value×Nat)->Shared->Prop} (h1:∀p slot',(walkL w a ep es)[i]?=some p->SlotOk w t slot' (i+1)->Q (some (p.2,slot')) s) (h2:(walkL w a ep es)[i]?=none->Q none s):
  wpAny (model prog w) A (setNext a slot i ep) Q E s:=by
 have hfit:=qbvz (Tab.r T);have hsz:t.place.size=es.size:=by
  have:=T.size;rw[qcxz] at this;exact this
 unfold setNext;refine wpAny_bind (wpAny_setState_of S.at_ S.dat hfit ?_);dsimp only;refine wpAny_bind (qfvz ?_);unfold walkL at h1 h2;cases hbt:byText w with
 |true=>
  rw[hbt] at h1 h2;rw[if_pos rfl];simp only[if_true,Array.getElem?_toList] at h1 h2;rw[if_neg (by simp)];unfold setWalk;refine wpAny_bind (wpAny_bind (wpAny_setState_of S.at_ S.dat hfit ?_));dsimp only;refine wpAny_bind (qfvz ?_);rw[hbt,if_pos rfl];refine wpAny_bind (wpAny_askSetting (wpAny_pure ?_));refine wpAny_pure ?_;show Q (Option.map (fun e=>(e.snd,slot)) (pickOrder (w.params.setOrder a ep) es)[i]?) s;cases hp:(pickOrder (w.params.setOrder a ep) es)[i]? with
  |none=>exact h2 hp
  |some p=>exact h1 p slot hp (.inl hbt)
 |false=>
  rw[hbt] at h1 h2;rw[if_neg Bool.false_ne_true];simp only[Bool.false_eq_true,if_false,Array.getElem?_toList] at h1 h2;have hled:t.led=true:=by
   rw[S.led];show (!byText w)=true;rw[hbt];rfl
  have hb:SetTable.below t.place slot=i:=by
   rcases hsl with z|z
   ·rw[hbt] at z;cases z
   ·exact z
  have hnd:(!t.plain&&decide (es.size > 1))=false:=by rw[S.plain];simp
  show wpAny _ _ (if (!t.plain&&decide (es.size > 1))=true then _ else _) _ _ s;rw[hnd,if_neg Bool.false_ne_true];refine wpAny_bind ?_;show wpAny _ _ (if (!t.led && !es.isEmpty)=true then _ else _) _ _ s;rw[hled,if_neg (by simp)];refine wpAny_pure ?_;rw[hb];cases hp:es[i]? with
  |none=>
   refine wpAny_pure ?_;have hpl:t.place[i]?=none:=by
    have:=Array.getElem?_eq_none_iff.mp hp;exact Array.getElem?_eq_none_iff.mpr (by omega)
   exact h2 hp
  |some p=>
   have hil:=(Array.getElem?_eq_some_iff.mp hp).1;have hj:t.place[i]?=some (t.place[i]'(by omega)):=by simp[hsz,hil]
   rw[hj];obtain⟨ph,pv⟩:=p;refine wpAny_pure (h1 (ph,pv) _ hp (.inr ?_))
   -- the next place
   obtain⟨b0,b1,b2⟩:=qd8z (j:=t.place[i]'(by omega)+1) T.rise;refine Classical.byContradiction fun hne=>?_;by_cases hlt:SetTable.below t.place (t.place[i]'(by omega)+1)≤i
   ·have:=b2 i _ hlt hj;omega
   ·have hgt:i+1<SetTable.below t.place (t.place[i]'(by omega)+1):=by omega
    have hi1:i+1<t.place.size:=by omega
    have e1:t.place[i+1]?=some (t.place[i+1]):=by simp[hi1]
    have q:=b1 (i+1) _ hgt e1;have pw:=List.pairwise_iff_getElem.mp T.rise i (i+1) (by simp;omega) (by simpa using hi1) (Nat.lt_succ_self i);simp at pw;omega
theorem qfwz{it a:Addr}{slot i n ep:Nat}(hit:IsSit s.heap it a slot i n ep):s.TypeIs (.ref it) "set_iterator":=⟨_,hit,rfl⟩
theorem qjaz{a it:Addr}{o:Obj}{es:Array (Int×Value)}{ep:Nat}{t:SetTable}{xs:List (List Int×Addr)}(S:SetAt prog w s.heap a o es ep t xs)(T:Tab t (es.toList.map (·.1))){slot i:Nat}(hit:IsSit s.heap it a slot i es.size ep)
  {P:PySem.Fin->Shared->Prop} (h:wpAny (model prog w) A (do
   match ←setNext a slot i ep with
   |some (x,next)=>
    setField (.ref it) 0 (rawInt next)
    setField (.ref it) 1 (rawInt ((i:Int)+1))
    ret x
   | none=>setField (.ref it) 2 .none;raiseNew (←newExc (.type "StopIteration") [])) P E s):
  wpAny (model prog w) A (Builtin.«set_iterator.__next__» ⟨[.ref it],[]⟩) P E s:=by
 have hfit:=qbvz (Tab.r T);unfold Builtin.«set_iterator.__next__»;refine wpAny_bind (m:=slotArgs "__next__" 0 ⟨[.ref it],[]⟩) (wpAny_of_eq (a:=(.ref it,[])) rfl ?_);refine wpAny_bind (wpAny_fieldsOf hit rfl ?_);dsimp only[rawInt];unfold setEntries;refine wpAny_bind (wpAny_bind (wpAny_setState_of S.at_ S.dat hfit (wpAny_pure ?_)));rw[if_neg (by simp)];exact h
theorem qsaz{a it:Addr}{o:Obj}{es:Array (Int×Value)}{ep:Nat}{t:SetTable}{xs:List (List Int×Addr)}(S:SetAt prog w s.heap a o es ep t xs)(T:Tab t (es.toList.map (·.1))){slot i:Nat}(hsl:SlotOk w t slot i)(hit:IsSit s.heap it a slot i es.size ep)
  {p:Int×Value} (hp:(walkL w a ep es)[i]?=some p) {Q:Option Value->Shared->Prop}
  (h:∀h' slot',IsSit h' it a slot' (i+1) es.size ep->SlotOk w t slot' (i+1)->Heap.SameBut it s.heap h'->Q (some p.2) { s with heap:=h' }):wpAny (model prog w) A (pyNext (.ref it)) Q E s:=by
 have hT:=qfwz hit;unfold pyNext;refine wpAny_bind (wpAny_attempt (wpAny_callSpecial?_slot (name:=Str.ofString "__next__") hT slot_sit_next
  (wpAny_call_entry slot_sit_next hT qi5z (qjaz S T hit (wpAny_bind (qi9z S T hsl (fun q slot' hq hs'=>?_) fun hn=>?_))) (qi7z _))))
 ·rw[hp] at hq;cases hq;dsimp only;refine wpAny_bind (wpAny_setField_rec hit (by simp) fun h1 e1 sb1=>?_);refine wpAny_bind (wpAny_setField_rec (s:={ s with heap:=h1 }) e1 (by simp) fun h2 e2 sb2=>?_)
  refine wpAny_pure ⟨_,rfl,wpAny_pure (h h2 slot' ?_ hs' (sb1.trans sb2))⟩;unfold IsSit;rw[e2];rfl
 ·rw[hp] at hn;cases hn
theorem qsbz{a it:Addr}{o:Obj}{es:Array (Int×Value)}{ep:Nat}{t:SetTable}{xs:List (List Int×Addr)}(hh:A.handled=none)(S:SetAt prog w s.heap a o es ep t xs)(T:Tab t (es.toList.map (·.1))){slot i:Nat}(hsl:SlotOk w t slot i)(hit:IsSit s.heap it a slot i es.size ep)
  (hp:(walkL w a ep es)[i]?=none) {Q:Option Value->Shared->Prop}
  (h:∀h',Heap.ExtBut it s.heap h'->Q none { s with heap:=h' }):wpAny (model prog w) A (pyNext (.ref it)) Q E s:=by
 have hT:=qfwz hit;unfold pyNext;refine wpAny_bind (wpAny_attempt (wpAny_callSpecial?_slot (name:=Str.ofString "__next__") hT slot_sit_next
  (wpAny_call_entry slot_sit_next hT qi5z (qjaz S T hit (wpAny_bind (qi9z S T hsl (fun q slot' hq hs'=>?_) fun hn=>?_))) (qi7z _))))
 ·rw[hp] at hq;cases hq
 ·dsimp only;refine wpAny_bind (wpAny_setField_rec hit (by simp) fun h1 e1 sb1=>?_);refine wpAny_bind ?_;simp only[newExc,newTuple];refine wpAny_bind (wpAny_newObj_type ?_ (by size_fits));refine wpAny_bind (m:=firstArgMember _ _) (wpAny_of_eq (a:=Value.none) (by first|rfl|(simp only[firstArgMember];rfl)) ?_)
  refine wpAny_newObj_type ?_ (by size_fits);simp only[raiseNew];refine wpAny_bind (wpAny_handled ?_);rw[show A.in1.handled=none from hh];refine wpAny_bind (wpAny_pure (wpAny_throw ?_));refine wpAny_bind (wpAny_isInstance (T:="StopIteration") (b:=true) ⟨_,Heap.get?_push_size _ rfl,rfl⟩ isSubtype_stop ?_);refine wpAny_pure (h _ fun b ob hb e=>?_);exact Heap.get?_push_of_some _ (Heap.get?_push_of_some _ ((sb1.2 b hb).trans e))
end
end SetM
namespace SetM
open PySem SetP
section
variable {prog:Program} {w:World} {A:Around} {E:Value->Shared->Prop} {s:Shared}
theorem SetAt.kept{h h':Heap}{a:Addr}{o:Obj}{es:Array (Int×Value)}{ep:Nat}{t:SetTable}{xs:List (List Int×Addr)}(S:SetAt prog w h a o es ep t xs)
  (k:∀b∈a::xs.map (·.2),∀ob,h.get? b=some ob->h'.get? b=some ob):SetAt prog w h' a o es ep t xs:=by
 refine⟨k a List.mem_cons_self _ S.at_,S.ex,S.dat,S.ents,fun p hp=>?_,S.nd,S.plain,S.led⟩;obtain⟨oy,items,n,ho,r⟩:=S.keys p hp;exact⟨oy,items,n,k _ (List.mem_cons_of_mem _ (List.mem_map.mpr ⟨p,hp,rfl⟩)) _ ho,r⟩
theorem SetAt.ne_sit{h:Heap}{a it:Addr}{o:Obj}{es:Array (Int×Value)}{ep ep':Nat}{t:SetTable}{xs:List (List Int×Addr)}{slot i n:Nat}{b:Addr}(S:SetAt prog w h a o es ep t xs)(hit:IsSit h it b slot i n ep'):
  ∀c∈a::xs.map (·.2),c≠it:=fun c hc e=>by
 subst e;unfold IsSit at hit;rcases List.mem_cons.mp hc with e|e
 ·rw[e,S.at_] at hit;cases hit;have:=S.dat;cases this
 ·obtain⟨p,hp,rfl⟩:=List.mem_map.mp e;obtain⟨oy,items,k,ho,hc,hd,_⟩:=S.keys p hp;rw[ho] at hit;cases hit;cases hd
theorem qscz(hh:A.handled=none){a it:Addr}{o:Obj}{es:Array (Int×Value)}{ep:Nat}{t:SetTable}{xs:List (List Int×Addr)}(T:Tab t (es.toList.map (·.1))):
  Walks prog w A it (it::a::xs.map (·.2)) [it] es.size (fun i v=>∃p,(walkL w a ep es)[i]?=some p/\v=p.2)
   (fun i h=>∃slot,IsSit h it a slot i es.size ep/\SlotOk w t slot i/\SetAt prog w h a o es ep t xs) where
 sub:=fun b hb=>by
  have:b=it:=by simpa using hb
  simp[this]
 frame:=fun i h h' ⟨slot,h1,h2,h3⟩ k=>⟨slot,k it List.mem_cons_self _ h1,h2,h3.kept fun b hb ob e=>k b (List.mem_cons_of_mem _ hb) ob e⟩
 item:=fun i s Q E hi ⟨slot,h1,h2,h3⟩ hQ=>by
  have hlen:(walkL w a ep es).length=es.size:=by rw[(walkL_perm w a ep es).length_eq];simp
  have hp:(walkL w a ep es)[i]?=some ((walkL w a ep es)[i]'(by omega)):=List.getElem?_eq_getElem (by omega);refine qsaz h3 T h2 h1 hp fun h' slot' q1 q2 sb=>?_;refine hQ _ h' s.toks ⟨_,hp,rfl⟩ ⟨slot',q1,q2,h3.kept fun b hb ob e=>(sb.2 b (h3.ne_sit h1 b hb)).trans e⟩ fun b ob hb e=>?_;exact (sb.2 b (by simpa using hb)).trans e
 done:=fun s Q E ⟨slot,h1,h2,h3⟩ hQ=>by
  have hlen:(walkL w a ep es).length=es.size:=by rw[(walkL_perm w a ep es).length_eq];simp
  refine qsbz hh h3 T h2 h1 (List.getElem?_eq_none_iff.mpr (by omega)) fun h' q=>?_;exact hQ h' s.toks fun b ob hb e=>q b ob (by simpa using hb) e
 self:=fun i s Q E ⟨slot,h1,h2,h3⟩ h=>by
  have hT:=qfwz h1;refine wpAny_pyIter_slot hT qi4z (wpAny_call_entry qi4z hT (b:=Builtin.«dict_keyiterator.__iter__») ?_ ?_ ?_)
  ·exact entryFor_alias (id':="dict_keyiterator.__iter__") (by kernel_rfl) (by decide +kernel) (by decide +kernel) (by kernel_rfl)
  ·show wpAny _ _ (ret (.ref it)) _ _ s;exact wpAny_pure ⟨_,rfl,"set_iterator",_,hT,slot_sit_next.lookup,h⟩
  ·unfold argsOk;rw[signature?_of (id:="set_iterator.__iter__") (n:=['_','_','r','e','t','i','_','_']) (o:=['r','o','t','a','r','e','t','i','_','t','e','s']) (by kernel_rfl) qi6z]
   kernel_rfl
theorem wp_collect_set(hh:A.handled=none){a:Addr}{o:Obj}{es:Array (Int×Value)}{ep:Nat}{t:SetTable}{xs:List (List Int×Addr)}(S:SetAt prog w s.heap a o es ep t xs)(T:Tab t (es.toList.map (·.1)))(h64:es.size≤64)
  {Q:List Value->Shared->Prop} (h:∀s',Moved [] (fun x y=>y=x) s s'->Q ((walkL w a ep es).map (·.2)) s'):wpAny (model prog w) A (collect (.ref a)) Q E s:=by
 have hT:s.TypeIs (.ref a) "set":=⟨o,S.at_,S.ex.1⟩;have hal:a<s.heap.objs.size:=Heap.lt_size S.at_;unfold collect;refine wpAny_bind (wpAny_runValue (codeAny_builtin F.entry_proto_collect ?_));rw[Around.under_plainId F.plain_proto_collect _];show wpAny _ A.in1 (newList [] >>= fun q=>again (.builtin "list.__iadd__" ⟨[q,.ref a],[]⟩)) _ _ s;refine wpAny_bind (wpAny_newObj_type ?_);refine wpAny_pure ⟨plainId_quiet F.plain_list_iadd _,codeAny_builtin F.entry_list_iadd ?_⟩;rw[Around.under_plainId F.plain_list_iadd _];show wpAny _ A.in1 (Builtin.List.listExtendWith (.ref s.heap.objs.size) (.ref a) (.ref s.heap.objs.size)) _ _ _;unfold Builtin.List.listExtendWith;have S1:SetAt prog w (s.heap.push { cls:=.type "list",data:=.seq ([]:List Value).toArray }) a o es ep t xs:=S.kept fun b _ ob e=>Heap.get?_push_of_some _ e;have hT1:Shared.TypeIs { s with heap:=s.heap.push { cls:=.type "list",data:=.seq ([]:List Value).toArray }} (.ref a) "set":=⟨o,S1.at_,S.ex.1⟩;refine wpAny_bind (wpAny_typeOf hT1 ?_);have ne:s.heap.objs.size≠a:=Nat.ne_of_gt hal;have e1:Builtin.List.listSameRef (.ref s.heap.objs.size) (.ref a)=false:=by simp[Builtin.List.listSameRef,ne]
 rw[if_neg (by rw[e1];decide)];refine wpAny_bind (qr9z (s:={ s with heap:=s.heap.push { cls:=.type "list",data:=.seq ([]:List Value).toArray }}) S1 T ?_);have S2:=S1.kept (h':=(s.heap.push { cls:=.type "list",data:=.seq ([]:List Value).toArray }).push { cls:=.type "set_iterator",data:=.fields #[rawInt (0:Nat),rawInt (0:Nat),.ref a,rawInt es.size,rawInt ep]}) fun b _ ob e=>Heap.get?_push_of_some _ e;have hit:IsSit ((s.heap.push { cls:=.type "list",data:=.seq ([]:List Value).toArray }).push { cls:=.type "set_iterator",data:=.fields #[rawInt (0:Nat),rawInt (0:Nat),.ref a,rawInt es.size,rawInt ep]})
   (s.heap.push { cls:=.type "list",data:=.seq ([]:List Value).toArray }).objs.size a 0 0 es.size ep:=Heap.get?_push_size _ rfl
 have hS0:((s.heap.push { cls:=.type "list",data:=.seq ([]:List Value).toArray }).push { cls:=.type "set_iterator",data:=.fields #[rawInt (0:Nat),rawInt (0:Nat),.ref a,rawInt es.size,rawInt ep]}).get? s.heap.objs.size
   = some { cls:=.type "list",data:=.seq ([]:List Value).toArray }:=Heap.get?_push_of_some _ (Heap.get?_push_size _ rfl)
 have keep0:∀b ob,s.heap.get? b=some ob->((s.heap.push { cls:=.type "list",data:=.seq ([]:List Value).toArray }).push { cls:=.type "set_iterator",data:=.fields #[rawInt (0:Nat),rawInt (0:Nat),.ref a,rawInt es.size,rawInt ep]}).get? b=some ob:=
  fun b ob e=>Heap.get?_push_of_some _ (Heap.get?_push_of_some _ e)
 have hI:(s.heap.push { cls:=.type "list",data:=.seq ([]:List Value).toArray }).objs.size=s.heap.objs.size+1:=Heap.size_push ..;generalize (s.heap.push { cls:=.type "list",data:=.seq ([]:List Value).toArray }).objs.size=it at hI hit ⊢;generalize ((s.heap.push { cls:=.type "list",data:=.seq ([]:List Value).toArray }).push { cls:=.type "set_iterator",data:=.fields #[rawInt (0:Nat),rawInt (0:Nat),.ref a,rawInt es.size,rawInt ep]})=hp at S2 hit hS0 keep0 ⊢;refine wpAny_bind (wpAny_holding ?_);have hT2:Shared.TypeIs { s with heap:=hp } (.ref a) "set":=⟨o,S2.at_,S.ex.1⟩;unfold Builtin.List.listLengthHint;refine wpAny_bind (wpAny_specialOf hT2 F.slot_set_len.lookup ?_);generalize hid:("set.__len__":String)=id0;dsimp only;rw[show splitId id0=some ("set","__len__") from by subst hid;decide +kernel];subst hid;dsimp only;refine wpAny_bind (wpAny_isInstance (b:=true) hT2 (by rw[isSubtype_type];kernel_rfl) ?_)
 rw[if_neg (by decide)];show wpAny _ A.in1 (typeOf (.ref a) >>= _) _ _ _;refine wpAny_bind (wpAny_typeOf hT2 (wpAny_pure ?_));show wpAny _ A.in1 (rule "list.extend.makes-room" >>= fun _=>Builtin.List.listTouch (.ref s.heap.objs.size) >>= fun _=>again (.builtin "list.extend.loop" ⟨[.ref s.heap.objs.size,.ref it,.ref s.heap.objs.size],[]⟩)) _ _ _;refine wpAny_bind (wpAny_rule (wpAny_bind ?_));show wpAny _ A.in1 (updateSeq s.heap.objs.size (·.push .none) >>= fun _=>updateSeq s.heap.objs.size (·.pop)) _ _ _;refine wpAny_bind (wpAny_updateSeq (s:={ s with heap:=hp }) hS0 rfl ?_);have q1:=Heap.get?_update_self (Obj.mapSeq (·.push Value.none)) hS0 rfl;refine wpAny_updateSeq (s:={ s with heap:=hp.update s.heap.objs.size (Obj.mapSeq (·.push Value.none))}) q1 rfl ?_;have q2:=Heap.get?_update_self (Obj.mapSeq (·.pop)) q1 rfl;have oth:∀b ob,b≠s.heap.objs.size->hp.get? b=some ob->((hp.update s.heap.objs.size (Obj.mapSeq (·.push Value.none))).update s.heap.objs.size (Obj.mapSeq (·.pop))).get? b=some ob:=
  fun b ob hb e=>(Heap.get?_update_other _ _ (Ne.symm hb)).trans ((Heap.get?_update_other _ _ (Ne.symm hb)).trans e)
 have q3:∃c,((hp.update s.heap.objs.size (Obj.mapSeq (·.push Value.none))).update s.heap.objs.size (Obj.mapSeq (·.pop))).get? s.heap.objs.size=some { cls:=.type "list",dict:=none,data:=.seq #[] c,slots:=#[]}:=⟨_,q2⟩;clear q2;generalize (hp.update s.heap.objs.size (Obj.mapSeq (·.push Value.none))).update s.heap.objs.size (Obj.mapSeq (·.pop))=hp2 at q3 oth ⊢;obtain⟨c0,q2⟩:=q3;have hfp:∀b∈it::a::xs.map (·.2),b≠s.heap.objs.size:=fun b hb e=>by
  rcases List.mem_cons.mp hb with z|z
  ·omega
  ·have hlt:b<s.heap.objs.size:=by
    rcases List.mem_cons.mp z with z|z
    ·rw[z];exact hal
    ·obtain⟨p,hp',rfl⟩:=List.mem_map.mp z;obtain⟨oy,_,_,ho,_⟩:=S.keys p hp';exact Heap.lt_size ho
   omega
 have W:=(qscz (prog:=prog) (w:=w) (A:=A.in1) (by simpa using hh) (it:=it) (a:=a) (o:=o) (ep:=ep) (xs:=xs) T).toS;refine wpAny_pure ⟨plainId_quiet F.plain_extend_loop _,codeAny_extend_loopS W (by rw[sizeLine_eq];omega) _ (fun hm=>hfp _ hm rfl) _ es.size 0 _ _ _ rfl (Nat.zero_le _) ?_ q2 (ItemsOf.nil _) fun s' acc' c' hm hS' hacc=>?_⟩
 ·refine⟨0,oth _ _ (hfp _ List.mem_cons_self) hit,?_,S2.kept fun b hb ob e=>oth b ob (hfp b (List.mem_cons_of_mem _ hb)) e⟩;by_cases hb:byText w=true
  ·exact .inl hb
  ·refine .inr ?_;obtain⟨b0,b1,b2⟩:=qd8z (j:=0) T.rise;refine Classical.byContradiction fun hne=>?_;have hpos:0<SetTable.below t.place 0:=by omega
   have h0:0<t.place.size:=by omega
   have:=b1 0 (t.place[0]) hpos (by simp[h0]);omega
 ·show wpAny _ A (load s.heap.objs.size >>= _) _ _ s';refine wpAny_bind (wpAny_load hS' ?_);refine wpAny_pure ?_;have hlen:(walkL w a ep es).length=es.size:=by rw[(walkL_perm w a ep es).length_eq];simp
  have eacc:acc'.toList=(walkL w a ep es).map (·.2):=by
   refine List.ext_getElem? fun i=>?_;rw[List.getElem?_map,Array.getElem?_toList];cases ha:acc'[i]? with
   |none=>
    have h1:=Array.getElem?_eq_none_iff.mp ha;rw[hacc.1] at h1;rw[List.getElem?_eq_none_iff.mpr (by omega)];rfl
   |some v=>
    obtain⟨p,e1,e2⟩:=hacc.2 i v ha;rw[e1,e2];rfl
  show Q acc'.toList s';rw[eacc];refine h s' ⟨fun b ob _ e=>?_,hm.gens,hm.drawn,hm.os,?_⟩
  ·have hlt:=Heap.lt_size e;refine hm.heap b ob ?_ (oth b ob (Nat.ne_of_lt hlt) (keep0 b ob e));intro z;rcases List.mem_cons.mp z with z|z
   ·rw[z] at hlt;exact Nat.lt_irrefl _ hlt
   ·have:b=it:=by simpa using z
    rw[this,hI] at hlt;exact Nat.lt_irrefl _ (Nat.lt_of_succ_lt hlt)
  ·exact hm.toks
end
end SetM
namespace SetM
open PySem SetP
section
variable {prog:Program} {w:World} {A:Around} {E:Value->Shared->Prop} {s:Shared}
def freshSet(w:World):Obj:={ cls:=.type "set",dict:=none,data:=.set #[] 0 (.fresh 0 0 (!(byText w)))}
theorem qjbz(a:Value){Q₁:Value->Shared->Prop}(h:Q₁ (.ref s.heap.objs.size) { s with heap:=s.heap.push (freshSet w)}):
  codeAny (model prog w) A (.call (.builtin "set.__new__") ⟨[.type "set",a],[]⟩) (wants Q₁ E) s:=by
 refine codeAny_of_tree ?_;show wpAny _ A.in1 (checkBuiltinCall "set.__new__" ⟨[.type "set",a],[]⟩ >>= fun _=>again (.builtin "set.__new__" ⟨[.type "set",a],[]⟩)) _ _ s;refine wpAny_bind (wpAny_of_eq (F.newCall_set_1 a) (wpAny_pure ⟨plainId_quiet F.plain_set_new _,codeAny_builtin F.entry_set_new ?_⟩));rw[Around.under_plainId F.plain_set_new _];unfold Builtin.«set.__new__» Builtin.Frozenset.newClass;have hsub:=sub_set_self;obtain⟨hp,g,d,tk,os⟩:=s;dsimp only;wp_walk;refine wpAny_askSetting (wpAny_pure ?_);dsimp only;simp only[newObj];refine wpAny_bind (wpAny_alloc (wpAny_pure ?_));exact wpAny_pure h
theorem qjcz(led:Bool):Tab (SetTable.fresh 0 0 led) []:=
 ⟨.inl rfl,rfl,List.Pairwise.nil,(fun j hj=>(nomatch hj)),rfl,(by show 0*5<7*3;decide),(fun j h hj=>(nomatch hj))⟩
structure Ded(ps xs:List (List Int×Addr)):Prop where
 sub:∀p∈xs,p∈ps
 all:∀p∈ps,p.1∈xs.map (·.1)
 len:xs.length≤ps.length
theorem Ded.add{ps xs xs':List (List Int×Addr)}{p:List Int×Addr}(d:Ded ps xs)(h1:p.1∈xs.map (·.1)->xs'.Perm xs)(h2:p.1∉xs.map (·.1)->xs'.Perm (p::xs)):Ded (ps++[p]) xs':=by
 by_cases hm:p.1∈xs.map (·.1)
 ·have pm:=h1 hm;refine⟨fun q hq=>List.mem_append_left _ (d.sub q (pm.mem_iff.mp hq)),fun q hq=>?_,?_⟩
  ·rw[(pm.map _).mem_iff];rcases List.mem_append.mp hq with hq|hq
   ·exact d.all q hq
   ·have:q=p:=by simpa using hq
    rw[this];exact hm
  ·rw[pm.length_eq,List.length_append];have:=d.len;omega
 ·have pm:=h2 hm;refine⟨fun q hq=>?_,fun q hq=>?_,?_⟩
  ·rcases List.mem_cons.mp (pm.mem_iff.mp hq) with e|e
   ·exact List.mem_append_right _ (by simp[e])
   ·exact List.mem_append_left _ (d.sub q e)
  ·rw[(pm.map _).mem_iff,List.map_cons];rcases List.mem_append.mp hq with hq|hq
   ·exact List.mem_cons_of_mem _ (d.all q hq)
   ·have:q=p:=by simpa using hq
    rw[this];exact List.mem_cons_self
  ·rw[pm.length_eq,List.length_append,List.length_cons,List.length_singleton];have:=d.len;omega
theorem qjdz{I:Addr}{fp:List Addr}{n:Nat}{P:Nat->Value->Prop}{St:Nat->Heap->Prop}(W:Walks prog w A.in1 I fp [I] n P St)(S:Addr)(hSf:S∉fp)(ps:List (List Int×Addr))(hps:ps.length=n)(hn:n≤60)
  (hu:A.in1.units<cLine) (hval:∀(i:Nat) v,P i v->∃p,ps[i]?=some p/\v=.ref p.2) (hpf:∀p∈ps,p.2≠I/\p.2≠S) {R:Result->Shared->Prop}:
  ∀(k i:Nat) (s:Shared) (xs:List (List Int×Addr)),n-i=k->i≤n->St i s.heap->SetOn prog w s.heap S xs->Ded (ps.take i) xs->(∀p∈ps,IsK prog w s.heap p.1 p.2) ->
   (∀h' tk xs',(∀b ob,b≠S->b≠I->s.heap.get? b=some ob->h'.get? b=some ob)->SetOn prog w h' S xs'->Ded ps xs'->R (.ok (.ret .none)) { s with heap:=h',toks:=tk }) ->
   codeAny (model prog w) A (.builtin "set.update.loop" ⟨[.ref S,.ref I],[]⟩) R s:=by
 have hSI:S≠I:=fun e=>hSf (W.sub _ (by rw[e];simp));have on_kept:∀{h h':Heap} {xs:List (List Int×Addr)},SetOn prog w h S xs->(∀p∈xs,p∈ps)->(∀b ob,b≠I->h.get? b=some ob->h'.get? b=some ob)->SetOn prog w h' S xs:=fun {h h' xs} ⟨o,es,ep,t,q,T⟩ sub kp=>
  ⟨o,es,ep,t,q.kept fun b hb ob e=>kp b ob (by
   rcases List.mem_cons.mp hb with z|z
   ·rw[z];exact hSI
   ·obtain⟨p,hp,rfl⟩:=List.mem_map.mp z;exact (hpf p (sub p hp)).1) e,T⟩
 intro k
 induction k with
 |zero=>
  intro i s xs hk hi hst hS hd hkeys hR;have hin:i=n:=by omega
  subst hin;refine codeAny_builtin PyProof.Rows.F.entry_set_update_loop ?_;rw[Around.under_plainId PyProof.Rows.F.plain_set_update_loop _];show wpAny _ A.in1 (pyNext (.ref I) >>= _) _ _ s;refine wpAny_bind (W.done s _ _ hst fun h' tk kp=>?_);show wpAny _ A.in1 (ret Value.none) _ _ _;have hd':Ded ps xs:=by
   rw[←hps,List.take_length] at hd;exact hd
  exact wpAny_pure (hR h' tk xs (fun b ob _ hb e=>kp b ob (by simpa using hb) e) (on_kept hS hd'.sub fun b ob hb e=>kp b ob (by simpa using hb) e) hd')
 |succ k ih=>
  intro i s xs hk hi hst hS hd hkeys hR;have hlt:i<n:=by omega
  refine codeAny_builtin PyProof.Rows.F.entry_set_update_loop ?_;rw[Around.under_plainId PyProof.Rows.F.plain_set_update_loop _];show wpAny _ A.in1 (pyNext (.ref I) >>= _) _ _ s;refine wpAny_bind (W.item i s _ _ hlt hst fun v h1 tk1 hP hst1 kp1=>?_);obtain⟨p,hp,rfl⟩:=hval i v hP;have hpm:p∈ps:=List.mem_of_getElem? hp;have kp1':∀b ob,b≠I->s.heap.get? b=some ob->h1.get? b=some ob:=fun b ob hb e=>kp1 b ob (by simpa using hb) e;have key1:∀q∈ps,IsK prog w h1 q.1 q.2:=fun q hq=>by
   obtain⟨oy,items,m,ho,r⟩:=hkeys q hq;exact⟨oy,items,m,kp1' _ _ (hpf q hq).1 ho,r⟩
  have sub0:∀q∈xs,q∈ps:=fun q hq=>List.mem_of_mem_take (hd.sub q hq);have hS1:=on_kept hS sub0 kp1';show wpAny _ A.in1 (holding [Value.ref p.2] (setAdd S (.ref p.2)) >>= _) _ _ _;have hlen:xs.length<64:=by
   have h1:=hd.len;rw[List.length_take] at h1;omega
  refine wpAny_bind (wpAny_holding (qr6z (s:={ s with heap:=h1,toks:=tk1 }) hS1 hlen hu (key1 p hpm) fun b h2 tk2 xs2 _ sb hS2 q1 q2=>?_));have hd2:Ded (ps.take (i+1)) xs2:=by
   rw[List.take_add_one,hp];exact hd.add q1 q2
  obtain⟨oS,_,_,_,SS,_⟩:=hS1;refine wpAny_pure ⟨plainId_quiet PyProof.Rows.F.plain_set_update_loop _,ih (i+1) _ xs2 (by omega) hlt (W.frame _ _ _ hst1 fun c hc ob e=>(sb.2 c (fun z=>hSf (z▸hc))).trans e) hS2 hd2 (fun q hq=>qd9z SS.at_ SS.dat sb (key1 q hq)) fun h' tk xs' kp' a1 a2=>?_⟩;exact hR h' tk xs' (fun c ob c1 c2 e=>kp' c ob c1 c2 ((sb.2 c c1).trans (kp1' c ob c2 e))) a1 a2
set_option maxHeartbeats 6400000 in
theorem call_set_tups{l:Addr}{vs:List Value}{ps:List (List Int×Addr)}{Q:Value->Shared->Prop}(hh:A.handled=none)(hl:s.heap.IsList l vs.toArray)(hv:vs=ps.map fun p=>Value.ref p.2)(hk:∀p∈ps,IsK prog w s.heap p.1 p.2)(hn:ps.length≤60)
  (hu:A.units+4<cLine)
  (h:∀h' tk xs,(∀b ob,s.heap.get? b=some ob->h'.get? b=some ob)->SetOn prog w h' s.heap.objs.size xs->Ded ps xs->Q (.ref s.heap.objs.size) { s with heap:=h',toks:=tk }):
  wpAny (model prog w) A (call (.type "set") [.ref l]) Q E s:=by
 obtain⟨c,tl,hmro⟩:=F.called_set.mro;have hmade:=F.called_set.made;have hsub:=F.called_set.sub;refine wpAny_call (codeAny_of_tree ?_);show wpAny _ _ (callAny (.type "set") _) _ _ _;refine wpAny_pure ⟨Code.quiet_builtin _ (by decide +kernel),codeAny_builtin F.entry_type_call ?_⟩;rw[Around.under_plain (weight_type_call_type "set" [.ref l] []) rfl];have h1:=F.called_set.notType;have h2:=F.called_set.canCreate;have hct:=F.typeCall_set_1 (.ref l)
 repeat (any_goals (first|assumption|wp_step))
 refine codeAny_mono (qjbz (.ref l) (E:=E) (Q₁:=fun obj s₁=>obj=.ref s.heap.objs.size/\s₁={ s with heap:=s.heap.push (freshSet w)}) ⟨rfl,rfl⟩) fun r s₁ hr=>?_;cases r with
 |error e=>exact hr
 |ok fl=>
  cases fl with
  |ret obj=>
   obtain⟨rfl,rfl⟩:=hr;have hS:(s.heap.push (freshSet w)).get? s.heap.objs.size=some (freshSet w):=Heap.get?_push_size _ rfl;have hT:Shared.TypeIs { s with heap:=s.heap.push (freshSet w)} (.ref s.heap.objs.size) "set":=⟨_,hS,rfl⟩;have hli:=F.called_set.init.lookup;have hbi:=F.called_set.init.bind (.ref s.heap.objs.size)
   repeat (any_goals (first|assumption|wp_step))
   refine codeAny_mono (codeAny_call_builtin (R:=wants (fun r s₂=>r=.none/\∃h' tk xs,s₂={ s with heap:=h',toks:=tk }/\(∀b ob,s.heap.get? b=some ob->h'.get? b=some ob)/\SetOn prog w h' s.heap.objs.size xs/\Ded ps xs) E)
    F.called_set.init.plain F.entry_set_init (check_set_init_1 hT ?_)) fun r₂ s₂ hr₂=>?_
   ·obtain⟨ol,hol,hcl,nl,hdl⟩:=hl;obtain⟨ocls,odict,odata,oslots⟩:=ol;simp only at hcl hdl;subst hcl;subst hdl;have hol':(s.heap.push (freshSet w)).get? l=some { cls:=.type "list",dict:=odict,data:=.seq vs.toArray nl,slots:=oslots }:=Heap.get?_push_of_some _ hol;have hsls:=F.sub_list_set;have hslf:=F.sub_list_frozenset;have hne:(Value.type "list" == Value.type "dict")=false:=by decide
    have hl1:(s.heap.push (freshSet w)).IsList l vs.toArray:=⟨_,hol',rfl,nl,rfl⟩;have hS2:(s.heap.push (freshSet w)).get? s.heap.objs.size=some { cls:=.type "set",dict:=none,data:=.set #[] 0 (.fresh 0 0 (!(byText w)))}:=hS;unfold Builtin.«set.__init__» noKeywords Builtin.Frozenset.updateFrom;generalize hPI:pyIter=PI;wp_walk;subst hPI;refine wpAny_pyIter_list hl1 ?_;refine wpAny_bind (wpAny_runValue ?_);have hlS:l<s.heap.objs.size:=Heap.lt_size hol;have hh3:A.in1.in1.in1.handled=none:=by simp[hh]
    have hu3:A.in1.in1.in1.units<cLine:=by
     show A.units+1+1+1<cLine;omega
    have hsz:(s.heap.push (freshSet w)).objs.size=s.heap.objs.size+1:=Heap.size_push ..;have hneI:l≠(s.heap.push (freshSet w)).objs.size:=by
     rw[hsz];exact Nat.ne_of_lt (Nat.lt_succ_of_lt hlS)
    have hSf:s.heap.objs.size∉[(s.heap.push (freshSet w)).objs.size,l]:=by
     rw[hsz];intro z;rcases List.mem_cons.mp z with z|z
     ·exact absurd z (Nat.ne_of_lt (Nat.lt_succ_self _))
     ·have:s.heap.objs.size=l:=by simpa using z
      exact absurd this (Nat.ne_of_gt hlS)
    have hlen:vs.toArray.size=ps.length:=by rw[hv];simp
    refine qjdz (Walks.list hh3 _ l hneI vs.toArray) s.heap.objs.size hSf ps hlen.symm (by rw[hlen];exact hn) hu3 (fun i v e=>?_) (fun p hp=>?_) (vs.toArray.size-0) 0 _ [] rfl (Nat.zero_le _)
     ⟨⟨_,Heap.get?_push_size _ rfl,rfl,rfl⟩,hl1.push _⟩ ?hS0 ⟨(fun p hp=>(nomatch hp)),(fun p hp=>by rw[List.take_zero] at hp;cases hp),Nat.zero_le _⟩ (fun p hp=>?_) ?hR
    case hS0=>
     refine⟨_,#[],0,_,⟨Heap.get?_push_of_some _ hS2,⟨rfl,rfl,rfl⟩,rfl,rfl,(fun p hp=>(nomatch hp)),List.nodup_nil,rfl,rfl⟩,qjcz _⟩
    case hR=>
     intro h' tk xs q1 q2 q3;refine wpAny_pure ?_;show wpAny _ _ (ret Value.none) _ _ _;refine wpAny_pure ⟨rfl,h',tk,xs,rfl,fun b ob e=>?_,q2,q3⟩;have hb:=Heap.lt_size e;refine q1 b ob (Nat.ne_of_lt hb) ?_ (Heap.get?_push_of_some _ (Heap.get?_push_of_some _ e));rw[hsz];exact Nat.ne_of_lt (Nat.lt_succ_of_lt hb)
    ·rw[hv,List.getElem?_toArray,List.getElem?_map] at e;cases hp:ps[i]? with
     |none=>rw[hp] at e;cases e
     |some p=>rw[hp] at e;exact⟨p,rfl,(Option.some.inj e).symm⟩
    ·obtain⟨oy,_,_,ho,_⟩:=hk p hp;have hb:=Heap.lt_size ho;rw[hsz];exact⟨Nat.ne_of_lt (Nat.lt_succ_of_lt hb),Nat.ne_of_lt hb⟩
    ·obtain⟨oy,items,m,ho,r⟩:=hk p hp;exact⟨oy,items,m,Heap.get?_push_of_some _ (Heap.get?_push_of_some _ ho),r⟩
   ·cases r₂ with
    |error e=>exact hr₂
    |ok fl₂=>
     cases fl₂ with
     |ret r=>
      obtain⟨rfl,h',tk,xs,rfl,q1,q2,q3⟩:=hr₂
      repeat (any_goals (first|assumption|wp_step))
      exact h _ _ _ q1 q2 q3
     |_=>exact hr₂.elim
  |_=>exact hr.elim
end
end SetM
namespace SortV
open PySem PySem.W PyProof.Rows SetM KasS
def lx:List Int->List Int->Bool
 |[],[]=>false
 |[],_::_=>true
 |_::_,[]=>false
 |x::xs,y::ys=>if x=y then lx xs ys else decide (x<y)
theorem qjez:∀{x y:List Int},lx x y=true->lx y x=false
 |[],[],h=>by cases h
 |[],_::_,_=>rfl
 |_::_,[],h=>by cases h
 |x::xs,y::ys,h=>by
  unfold lx at h ⊢;by_cases e:x=y
  ·rw[if_pos e] at h;rw[if_pos e.symm];exact qjez h
  ·rw[if_neg e] at h;rw[if_neg (Ne.symm e)];have:=of_decide_eq_true h;exact decide_eq_false (by omega)
theorem qjfz:∀{a b c:List Int},lx b a=false->lx c b=false->lx c a=false
 |[],b,[],_,_=>rfl
 |[],[],c::cs,_,h=>h
 |[],b::bs,c::cs,h,_=>rfl
 |a::as,[],c,h,_=>by cases h
 |a::as,b::bs,[],_,h=>by cases h
 |a::as,b::bs,c::cs,h1,h2=>by
  unfold lx at h1 h2 ⊢;by_cases e1:b=a
  ·rw[if_pos e1] at h1;by_cases e2:c=b
   ·rw[if_pos e2] at h2;rw[if_pos (e2.trans e1)];exact qjfz h1 h2
   ·rw[if_neg e2] at h2;have:=of_decide_eq_false h2;by_cases e3:c=a
    ·omega
    ·rw[if_neg e3];exact decide_eq_false (by omega)
  ·rw[if_neg e1] at h1;have:=of_decide_eq_false h1;by_cases e2:c=b
   ·rw[if_neg (by omega)];exact decide_eq_false (by omega)
   ·rw[if_neg e2] at h2;have:=of_decide_eq_false h2;by_cases e3:c=a
    ·omega
    ·rw[if_neg e3];exact decide_eq_false (by omega)
section
variable {prog:Program} {w:World} {A:Around} {E:Value->Shared->Prop} {s:Shared}
theorem qsdz{Q:Bool->Shared->Prop}:∀(xs ys:List Int) (us vs:List Value) (i:Nat) (fin:Bool),ItemsAre (intKind prog w) xs us->ItemsAre (intKind prog w) ys vs ->
  (fin=decide (us.length<vs.length)∨∃n m,fin=decide (n+us.length<n+vs.length)/\m=n)->Q (lx xs ys) s->KatLex prog w A true fin Q (us.zip vs) i s:=by
 intro xs
 induction xs with
 |nil=>
  intro ys us vs i fin h1 h2 hf h;cases h1;cases h2 with
  |nil=>
   have:fin=false:=by
    rcases hf with hf|⟨n,m,hf,_⟩<;>simp at hf<;>exact hf
   rw[this];exact kat_nil h
  |cons h3 h4=>
   have:fin=true:=by
    rcases hf with hf|⟨n,m,hf,_⟩<;>rw[hf]<;>simp
   rw[this];exact kat_nil h
 |cons x xs ih=>
  intro ys us vs i fin h1 h2 hf h;cases h1 with
  |cons h1 h1'=>
  cases h2 with
  |nil=>
   have:fin=false:=by
    rcases hf with hf|⟨n,m,hf,_⟩<;>rw[hf]<;>simp
   rw[this];exact kat_nil h
  |cons h3 h4=>
   obtain⟨t,rfl⟩:=Value.isInt_shape h1;obtain⟨t',rfl⟩:=Value.isInt_shape h3;refine kat_cons (wpAny_eqBool_int ?_);unfold lx at h;rename_i _ y ys _;by_cases e:x=y
   ·rw[if_pos e] at h;have:(x==y)=true:=by simpa using e
    rw[this];refine kat_yes (ih ys _ _ (i+1) fin h1' h4 (.inr ?_) h);rcases hf with hf|⟨n,m,hf,_⟩
    ·exact⟨1,1,by rw[hf];simp[Nat.add_comm],rfl⟩
    ·exact⟨n+1,n+1,by rw[hf];congr 1;simp only[List.length_cons];apply propext;omega,rfl⟩
   ·rw[if_neg e] at h;have:(x==y)=false:=by simpa using e
    rw[this];refine kat_no ?_;by_cases hi:i=0
    ·subst hi;exact oneLt_int h
    ·have hb:(true&&i==0)=false:=by simp[hi]
     rw[hb];exact kat_one _ _ (lt_int h)
theorem qsez{Q:Bool->Shared->Prop}{x y:List Int}{a b:Addr}(hx:IsK prog w s.heap x a)(hy:IsK prog w s.heap y b)(h:Q (lx x y) s):wpAny (model prog w) A (keyLt' (tuples' true) (.ref a) (.ref b)) Q E s:=by
 obtain⟨o,its,n,ho,_,hd,hi⟩:=hx;obtain⟨o',its',n',ho',_,hd',hi'⟩:=hy;exact kat_lt ho hd ho' hd' (qsdz x y its.toList its'.toList 0 _ hi hi' (.inl (by simp)) h)
def plt(ps:List (List Int×Addr))(i j:Nat):Bool:=lx ((ps.getD i ([],0)).1) ((ps.getD j ([],0)).1)
theorem qsfz(ps:List (List Int×Addr))(n:Nat):Ord n (plt ps):=⟨fun a b _ _ h=>qjez h,fun a b c _ _ _ h1 h2=>qjfz h1 h2⟩
def cmpP(n:Nat)(lt:Nat->Nat->Bool)(i j:Nat)(C:Bool->Shared->Prop)(s:Shared):Prop:=i<n/\j<n/\C (lt i j) s
theorem conv{α:Type}{n:Nat}{lt:Nat->Nat->Bool}{κ:SortKind}{vs:List Value}{Q:α->Shared->Prop}(ha:∀i j,i<n->j<n->∀C:Bool->Shared->Prop,C (lt i j) s->kas_ask prog w A κ vs i j C s):
  ∀t:KasT α,t.kasWp (cmpP n lt) Q s->t.kasWp (kas_ask prog w A κ vs) Q s
 |.ret a,h=>h
 |.ask i j k,h=>by
  obtain⟨h1,h2,h3⟩:=h;exact ha i j h1 h2 _ (conv ha (k (lt i j)) h3)
theorem qfxz{ps:List (List Int×Addr)}{i:Nat}(hi:i<ps.length):(ps.map fun p=>Value.ref p.2).getD i Value.none=.ref (ps.getD i ([],0)).2:=by
 simp[List.getD,hi]
theorem getD_mem{ps:List (List Int×Addr)}{i:Nat}(hi:i<ps.length):ps.getD i ([],0)∈ps:=by
 simp[List.getD,hi]
theorem qsgz{ps:List (List Int×Addr)}(hk:∀p∈ps,IsK prog w s.heap p.1 p.2):∀i j,i<ps.length->j<ps.length->∀C:Bool->Shared->Prop,C (plt ps i j) s->kas_ask prog w A (tuples' true) (ps.map fun p=>Value.ref p.2) i j C s:=fun i j hi hj C h=>by
 unfold kas_ask;rw[qfxz hi,qfxz hj];exact qsez (hk _ (getD_mem hi)) (hk _ (getD_mem hj)) h
theorem qjgz{h:Heap}:∀{ps:List (List Int×Addr)},(∀p∈ps,IsK prog w h p.1 p.2/\p.1≠[])->∃fs,KatTups h (ps.map fun p=>Value.ref p.2) fs/\fs.length=ps.length/\∀v∈fs,∃i t,v=.int i t
 |[],_=>⟨[],.nil,rfl,fun v hv=>nomatch hv⟩
 |p::ps,hk=>by
  obtain⟨fs,h1,h2,h3⟩:=qjgz (ps:=ps) fun q hq=>hk q (List.mem_cons_of_mem _ hq);obtain⟨⟨o,its,n,ho,hc,hd,hi⟩,hne⟩:=hk p List.mem_cons_self;obtain⟨ks,a⟩:=p;cases ks with
  |nil=>exact absurd rfl hne
  |cons k ks=>
   obtain⟨its⟩:=its;cases hi with
   |cons h4 h5=>
    rename_i v vs;obtain⟨t,e⟩:=Value.isInt_shape h4;refine⟨v::fs,KatTups.cons ho hc hd (by simp) h1,by simp[h2],fun u hu=>?_⟩;rcases List.mem_cons.mp hu with q|q
    ·exact⟨k,t,q.trans e⟩
    ·exact h3 u q
theorem qshz{ps:List (List Int×Addr)}(hne:ps≠[])(hk:∀p∈ps,IsK prog w s.heap p.1 p.2/\p.1≠[]){Q:SortKind->Shared->Prop}(h:Q (tuples' true) s):wpAny (model prog w) A (keyKind' (ps.map fun p=>Value.ref p.2).toArray) Q E s:=by
 obtain⟨fs,h1,h2,h3⟩:=qjgz hk;have hl:0<fs.length:=by
  rw[h2];exact List.length_pos_iff.mpr hne
 refine kat_kind (T:=.type "int") h1 hl (fun v hv=>?_) rfl h;obtain⟨i,t,rfl⟩:=h3 v hv;exact .now
structure Srt(ps qs:List (List Int×Addr)):Prop where
 perm:qs.Perm ps
 rise:qs.Pairwise fun x y=>lx y.1 x.1=false
theorem qsiz{ps:List (List Int×Addr)}{p:Array Nat}(v:Va ps.length p)(S:So (plt ps) p ps.length):Srt ps (p.toList.map fun i=>ps.getD i ([],0)):=by
 refine⟨?_,?_⟩
 ·refine (v.perm.map _).trans ?_;have:(List.range ps.length).map (fun i=>ps.getD i ([],0))=ps:=by
   refine List.ext_getElem? fun i=>?_;by_cases hi:i<ps.length
   ·simp[List.getElem?_map,List.getElem?_range hi,List.getD,hi]
   ·rw[List.getElem?_eq_none_iff.mpr (by simpa using hi),List.getElem?_eq_none_iff.mpr (by omega)]
  rw[this]
 ·rw[List.pairwise_map,List.pairwise_iff_getElem];intro i j hi hj hij;have hs:=v.size;have h1:i<ps.length:=by rw[←hs];simpa using hi
  have h2:j<ps.length:=by rw[←hs];simpa using hj
  have e1:p.toList[i]=g p i:=by
   have:=v.get h1;simp[g,Array.getD,hs,h1]
  have e2:p.toList[j]=g p j:=by simp[g,Array.getD,hs,h2]
  rw[e1,e2];exact S i j (Nat.le_of_lt hij) h2
theorem qsjz{ps:List (List Int×Addr)}{p:Array Nat}(v:Va ps.length p):(p.toList.map fun i=>(ps.map fun q=>Value.ref q.2).getD i Value.none)=(p.toList.map fun i=>ps.getD i ([],0)).map fun q=>Value.ref q.2:=by
 rw[List.map_map];refine List.map_congr_left fun i hi=>?_;have:i<ps.length:=by
  have:=v.perm.mem_iff.mp hi;simpa using this
 exact qfxz this
theorem qskz{h h':Heap}{ks:List Int}{a b:Addr}{its:Array Value}{n:Nat}(hb:h.get? b=some (seqObj "list" its n))(keep:∀c o,c≠b->h.get? c=some o->h'.get? c=some o)(hk:IsK prog w h ks a):IsK prog w h' ks a:=by
 obtain⟨o,it,m,ho,hc,hd,hi⟩:=hk;refine⟨o,it,m,keep a o (fun e=>?_) ho,hc,hd,hi⟩;rw[e,hb] at ho;cases ho;injection hc with hc
 exact absurd hc (by decide)
theorem qslz{a:Addr}{n:Nat}{ps:List (List Int×Addr)}{P:PySem.Fin->Shared->Prop}(ho:s.heap.get? a=some (seqObj "list" (ps.map fun p=>Value.ref p.2).toArray n))(hk:∀p∈ps,IsK prog w s.heap p.1 p.2/\p.1≠[])(h2:2≤ps.length)(h64:ps.length<64)
  (h:∀qs h' c,Srt ps qs->h'.get? a=some (seqObj "list" (qs.map fun p=>Value.ref p.2).toArray c)->(∀b o,b≠a->s.heap.get? b=some o->h'.get? b=some o)->P (.done (.ret .none)) { s with heap:=h' }):
  wpAny (model prog w) A (Builtin.«list.sort» ⟨[.ref a],[]⟩) P E s:=by
 have ha:a<s.heap.objs.size:=Heap.lt_size ho;have s1:=Heap.SameBut.update s.heap a (Obj.mapSeq fun _=>(#[]:Array Value));obtain⟨e1,ho1⟩:∃e1,(s.heap.update a (Obj.mapSeq fun _=>(#[]:Array Value))).get? a=some (seqObj "list" #[] e1):=⟨_,get?_update_seq ho fun _=>#[]⟩;generalize hvs:(ps.map fun p=>Value.ref p.2)=vs at ho;have hlen:vs.length=ps.length:=by rw[←hvs,List.length_map]
 have hu3:∀b o,b≠a->s.heap.get? b=some o->(((s.heap.update a (Obj.mapSeq fun _=>(#[]:Array Value))).push (seqObj "tuple" vs.toArray 0)).push (seqObj "list" #[] 0)).get? b=some o:=fun b o hb e=>
  Heap.get?_push_of_some _ (Heap.get?_push_of_some _ ((s1.2 b hb).trans e))
 have ho3:(((s.heap.update a (Obj.mapSeq fun _=>(#[]:Array Value))).push (seqObj "tuple" vs.toArray 0)).push (seqObj "list" #[] 0)).get? a=some (seqObj "list" #[] e1):=Heap.get?_push_of_some _ (Heap.get?_push_of_some _ ho1);rw[list_sort_plain];refine wpAny_bind (listItems_at ho rfl ?_);refine wpAny_bind (listUpdate_at ho rfl ?_ (by rw[List.size_toArray,sizeLine_eq];omega) (Nat.zero_le _));refine wpAny_bind (seqEpoch_at ho1 rfl ?_);refine wpAny_bind (wpAny_newTuple ?_ (by show vs.length≤_;rw[sizeLine_eq];omega));refine wpAny_bind (wpAny_newList ?_ (Nat.zero_le _));refine wpAny_holding ?_;show wpAny (model prog w) A _ P E { s with heap:=((s.heap.update a (Obj.mapSeq fun _=>(#[]:Array Value))).push (seqObj "tuple" vs.toArray 0)).push (seqObj "list" #[] 0)};generalize ((s.heap.update a (Obj.mapSeq fun _=>(#[]:Array Value))).push (seqObj "tuple" vs.toArray 0)).push (seqObj "list" #[] 0)=h3 at hu3 ho3 ⊢;have hk3:∀p∈ps,IsK prog w h3 p.1 p.2/\p.1≠[]:=fun p hp=>⟨qskz ho hu3 (hk p hp).1,(hk p hp).2⟩;dsimp only;have hn2:¬vs.toArray.size<2:=by rw[List.size_toArray];omega
 rw[if_neg hn2,if_neg hn2];have hne:ps≠[]:=fun z=>by rw[z] at h2;simp at h2
 refine wpAny_bind ?_;rw[←hvs];refine qshz (s:={ s with heap:=h3 }) hne hk3 ?_;have hsort:(kas_sort vs.length).kasWp (kas_ask prog w A (tuples' true) (ps.map fun p=>Value.ref p.2)) (fun p s'=>s'={ s with heap:=h3 }/\Va ps.length p/\So (plt ps) p ps.length) { s with heap:=h3 }:=by
  refine conv (lt:=plt ps) (n:=ps.length) (qsgz (s:={ s with heap:=h3 }) fun p hp=>(hk3 p hp).1) _ ?_
  rw[hlen];exact qrmz (qsfz ps ps.length) (fun i j hi hj C s' hC=>⟨hi,hj,hC⟩) (by omega) fun p v S=>⟨rfl,v,S⟩
 have hsort:(kas_sort (ps.map fun p=>Value.ref p.2).length).kasWp (kas_ask prog w A (tuples' true) (ps.map fun p=>Value.ref p.2)) (fun p s'=>s'={ s with heap:=h3 }/\Va ps.length p/\So (plt ps) p ps.length) { s with heap:=h3 }:=by
  rw[hlen] at hsort;rw[List.length_map];exact hsort
 refine wpAny_bind (wpAny_mono (kat_run (Q:=fun st' s'=>∃p:Array Nat,p.size=(ps.map fun p=>Value.ref p.2).length/\arrOf st'=p.map (kas_item ((ps.map fun p=>Value.ref p.2).toArray.zip (ps.map fun p=>Value.ref p.2).toArray))/\failedOf st'=none/\s'={ s with heap:=h3 }/\Va ps.length p/\So (plt ps) p ps.length)
  rfl (by rw[List.length_map];exact h2) (by rw[List.length_map];exact h64) (fun p' st' s' a1 a2 a3 a4=>⟨p',a1,a2,a3,a4⟩) hsort) ?_ fun _ _ e=>e)
 rintro⟨⟨⟩,st'⟩ s' ⟨p,hp,har,hf,rfl,va,so⟩;dsimp only;have hout:=kat_snds rfl har;rw[qsjz va] at hout;have hS:=qsiz va so;generalize (p.toList.map fun i=>ps.getD i ([],0))=qs at hout hS;have hsz:(List.toArray (qs.map fun q=>Value.ref q.2)).size=ps.length:=by rw[List.size_toArray,List.length_map,hS.perm.length_eq]
 rw[hout];have s2:=Heap.SameBut.update h3 a (Obj.mapSeq fun _=>List.toArray (qs.map fun q=>Value.ref q.2));obtain⟨c2,hc2⟩:∃c2,(h3.update a (Obj.mapSeq fun _=>List.toArray (qs.map fun q=>Value.ref q.2))).get? a=some (seqObj "list" (List.toArray (qs.map fun q=>Value.ref q.2)) c2):=⟨_,get?_update_seq ho3 fun _=>List.toArray (qs.map fun q=>Value.ref q.2)⟩;refine wpAny_bind (seqEpoch_at ho3 rfl ?_);refine wpAny_bind (listUpdate_at ho3 rfl ?_ (Nat.zero_le _) (Nat.le_trans (Nat.le_of_eq hsz) (by rw[sizeLine_eq];omega)));rw[hf];simp only[bne_self_eq_false,Bool.false_eq_true,if_false];exact wpAny_pure (h qs _ c2 hS hc2 fun b o hb e=>(s2.2 b hb).trans (hu3 b o hb e))
theorem qsmz{a:Addr}{n:Nat}{vs:List Value}{P:PySem.Fin->Shared->Prop}(ho:s.heap.get? a=some (seqObj "list" vs.toArray n))(h2:vs.length<2)
  (h:∀h' c,h'.get? a=some (seqObj "list" vs.toArray c)->(∀b o,b≠a->s.heap.get? b=some o->h'.get? b=some o)->P (.done (.ret .none)) { s with heap:=h' }):
  wpAny (model prog w) A (Builtin.«list.sort» ⟨[.ref a],[]⟩) P E s:=by
 have s1:=Heap.SameBut.update s.heap a (Obj.mapSeq fun _=>(#[]:Array Value));obtain⟨e1,ho1⟩:∃e1,(s.heap.update a (Obj.mapSeq fun _=>(#[]:Array Value))).get? a=some (seqObj "list" #[] e1):=⟨_,get?_update_seq ho fun _=>#[]⟩;have hu3:∀b o,b≠a->s.heap.get? b=some o->(((s.heap.update a (Obj.mapSeq fun _=>(#[]:Array Value))).push (seqObj "tuple" vs.toArray 0)).push (seqObj "list" #[] 0)).get? b=some o:=fun b o hb e=>
  Heap.get?_push_of_some _ (Heap.get?_push_of_some _ ((s1.2 b hb).trans e))
 have ho3:(((s.heap.update a (Obj.mapSeq fun _=>(#[]:Array Value))).push (seqObj "tuple" vs.toArray 0)).push (seqObj "list" #[] 0)).get? a=some (seqObj "list" #[] e1):=Heap.get?_push_of_some _ (Heap.get?_push_of_some _ ho1);rw[list_sort_plain];refine wpAny_bind (listItems_at ho rfl ?_);refine wpAny_bind (listUpdate_at ho rfl ?_ (by rw[List.size_toArray,sizeLine_eq];omega) (Nat.zero_le _));refine wpAny_bind (seqEpoch_at ho1 rfl ?_);refine wpAny_bind (wpAny_newTuple ?_ (by show vs.length≤_;rw[sizeLine_eq];omega));refine wpAny_bind (wpAny_newList ?_ (Nat.zero_le _));refine wpAny_holding ?_;show wpAny (model prog w) A _ P E { s with heap:=((s.heap.update a (Obj.mapSeq fun _=>(#[]:Array Value))).push (seqObj "tuple" vs.toArray 0)).push (seqObj "list" #[] 0)};generalize ((s.heap.update a (Obj.mapSeq fun _=>(#[]:Array Value))).push (seqObj "tuple" vs.toArray 0)).push (seqObj "list" #[] 0)=h3 at hu3 ho3 ⊢;dsimp only;have hn2:vs.toArray.size<2:=by rw[List.size_toArray];omega
 rw[if_pos hn2,if_pos hn2];refine wpAny_bind (wpAny_pure ?_);rw[StateT.run_pure];refine wpAny_bind (wpAny_pure ?_);dsimp only;have hout:(arrOf (SortSt.mk' general' (vs.toArray.zip vs.toArray) #[] 7 none)).map (·.2)=vs.toArray:=by
  show (vs.toArray.zip vs.toArray).map (·.2)=vs.toArray;refine Array.ext (by simp) fun i h1 h2=>?_;simp
 rw[hout];have s2:=Heap.SameBut.update h3 a (Obj.mapSeq fun _=>vs.toArray);obtain⟨c2,hc2⟩:∃c2,(h3.update a (Obj.mapSeq fun _=>vs.toArray)).get? a=some (seqObj "list" vs.toArray c2):=⟨_,get?_update_seq ho3 fun _=>vs.toArray⟩;refine wpAny_bind (seqEpoch_at ho3 rfl ?_);refine wpAny_bind (listUpdate_at ho3 rfl ?_ (Nat.zero_le _) (by rw[List.size_toArray,sizeLine_eq];omega));simp only[bne_self_eq_false,Bool.false_eq_true,if_false];exact wpAny_pure (h _ c2 hc2 fun b o hb e=>(s2.2 b hb).trans (hu3 b o hb e))
theorem qsnz{h h':Heap}{ks:List Int}{a:Addr}(keep:∀c o,h.get? c=some o->h'.get? c=some o)(hk:IsK prog w h ks a):IsK prog w h' ks a:=by
 obtain⟨o,it,m,ho,r⟩:=hk;exact⟨o,it,m,keep a o ho,r⟩
theorem sorted_of{l:Addr}{ps:List (List Int×Addr)}{Q:Value->Shared->Prop}(hk:∀p∈ps,IsK prog w s.heap p.1 p.2/\p.1≠[])(h64:ps.length<64)
  (hcol:∀(R:List Value->Shared->Prop),(∀s',Moved [] (fun x y=>y=x) s s'->R (ps.map fun p=>Value.ref p.2) s')->wpAny (model prog w) A.in1 (collect (.ref l)) R E s)
  (h:∀qs s' c D,Srt ps qs->s.heap.get? D=none->s'.heap.get? D=some (seqObj "list" (qs.map fun p=>Value.ref p.2).toArray c)->Moved [] (fun x y=>y=x) s s'->Q (.ref D) s'):
  wpAny (model prog w) A (call (.builtin "sorted") [.ref l]) Q E s:=by
 refine Calls.call_function_entry kind_sorted plain_sorted entry_sorted (args_sorted1 _) ?_;unfold Builtin.«sorted»;refine wpAny_bind (m:=checkCount "sorted" 1 1 _) (wpAny_pure ?_);refine wpAny_bind (hcol _ fun s1 hm=>?_);refine wpAny_bind (wpAny_newList ?_ (by rw[List.length_map,sizeLine_eq];omega));have hoL:(s1.heap.push (seqObj "list" (ps.map fun p=>Value.ref p.2).toArray 0)).get? s1.heap.objs.size=some (seqObj "list" (ps.map fun p=>Value.ref p.2).toArray 0):=Heap.get?_push_size _ rfl;have keep0:∀b o,s.heap.get? b=some o->s1.heap.get? b=some o:=fun b o e=>hm.heap b o (fun z=>nomatch z) e;have hfr:s.heap.get? s1.heap.objs.size=none:=by
  cases hz:s.heap.get? s1.heap.objs.size with
  |none=>rfl
  |some o=>exact absurd (Heap.lt_size (keep0 _ _ hz)) (Nat.lt_irrefl _)
 have keep:∀b o,s.heap.get? b=some o->(s1.heap.push (seqObj "list" (ps.map fun p=>Value.ref p.2).toArray 0)).get? b=some o:=fun b o e=>Heap.get?_push_of_some _ (keep0 b o e);show wpAny _ _ _ _ _ { s1 with heap:=s1.heap.push (seqObj "list" (ps.map fun p=>Value.ref p.2).toArray 0)};refine wpAny_bind (wpAny_holding (wpAny_call_entry slot_list_sort ⟨_,hoL,rfl⟩ entry_list_sort ?body (args_list_sort _)));have fin:∀qs h' c,Srt ps qs->h'.get? s1.heap.objs.size=some (seqObj "list" (qs.map fun p=>Value.ref p.2).toArray c)->(∀b o,b≠s1.heap.objs.size->(s1.heap.push (seqObj "list" (ps.map fun p=>Value.ref p.2).toArray 0)).get? b=some o->h'.get? b=some o)->Q (.ref s1.heap.objs.size) { s1 with heap:=h' }:=fun qs h' c hS e kk=>
  h qs _ c _ hS hfr e ⟨fun b o _ e1=>kk b o (Nat.ne_of_lt (Heap.lt_size (keep0 b o e1))) (keep b o e1),hm.gens,hm.drawn,hm.os,hm.toks⟩
 case body=>
  by_cases h2:2≤ps.length
  ·refine qslz (s:={ s1 with heap:=s1.heap.push (seqObj "list" (ps.map fun p=>Value.ref p.2).toArray 0)}) hoL (fun p hp=>⟨qsnz keep (hk p hp).1,(hk p hp).2⟩) h2 h64 fun qs h' c hS e kk=>?_;exact⟨_,rfl,wpAny_pure ⟨_,rfl,fin qs h' c hS e kk⟩⟩
  ·refine qsmz (s:={ s1 with heap:=s1.heap.push (seqObj "list" (ps.map fun p=>Value.ref p.2).toArray 0)}) hoL (by rw[List.length_map];omega) fun h' c e kk=>?_;have hS:Srt ps ps:=⟨.refl _,by
    rcases ps with _|⟨x,_|⟨y,r⟩⟩
    ·exact .nil
    ·exact List.pairwise_singleton _ _
    ·simp at h2⟩
   exact⟨_,rfl,wpAny_pure ⟨_,rfl,fin ps h' c hS e kk⟩⟩
end
end SortV
namespace L3
open PySem PySem.Spec PyProof.Rows L2
structure Kit(T:String):Prop where
 non:∀K,PySem.W.kitOne K (.type "NoneType") (.type T)=some false
 bl:∀K,PySem.W.kitOne K (.type "bool") (.type T)=some (T=="bool" || T=="int")
 int:∀K,PySem.W.kitOne K (.type "int") (.type T)=some (T=="int")
 str:∀K,PySem.W.kitOne K (.type "str") (.type T)=some (T=="str")
 tup:∀K,PySem.W.kitOne K (.type "tuple") (.type T)=some (T=="tuple")
 lst:∀K,PySem.W.kitOne K (.type "list") (.type T)=some (T=="list")
 dct:∀K,PySem.W.kitOne K (.type "dict") (.type T)=some (T=="dict")
theorem qjhz:Kit "int":=⟨fun _=>rfl,fun _=>rfl,fun _=>rfl,fun _=>rfl,fun _=>rfl,fun _=>rfl,fun _=>rfl⟩
theorem qjiz:Kit "bool":=⟨fun _=>rfl,fun _=>rfl,fun _=>rfl,fun _=>rfl,fun _=>rfl,fun _=>rfl,fun _=>rfl⟩
theorem kit_tuple:Kit "tuple":=⟨fun _=>rfl,fun _=>rfl,fun _=>rfl,fun _=>rfl,fun _=>rfl,fun _=>rfl,fun _=>rfl⟩
theorem qsoz:Kit "list":=⟨fun _=>rfl,fun _=>rfl,fun _=>rfl,fun _=>rfl,fun _=>rfl,fun _=>rfl,fun _=>rfl⟩
section
variable {X:Cx} {a e:Expr} {es:List Expr} {ta:TE3} {t:TA3} {pos p p2:Pos}
theorem qspz{T:String}(k:Kit T):CallR X (.builtin "isinstance") (fun vs H Q=>∃d v G b,vs=[v,.ty T]/\Hv X.K H d v/\RepG X.K G H/\instD T G d=some b/\Q (.bl b) H):=by
 intro pins s σ H vs us Q I r h;obtain⟨d,v,G,b,rfl,hd,RG,hb,q⟩:=h;obtain⟨u,c,rfl,ru,rc⟩:=vals2 r;cases (show c=Value.type T from rc);have fin:∀tk,EP X pins σ Q (.bool b) { s with toks:=tk }:=fun tk=>⟨.bl b,H,I.tok tk,rfl,q⟩
 cases d with
 |non=>
  unfold Hv at hd;subst hd;cases (show u=Value.none from ru);cases hb;exact PySem.W.kia_one PySem.W.kitx_none I.kIn True.intro (k.non _) (fun z=>nomatch z) fin
 |bl y=>
  rw[qbrz hd] at ru;cases (show u=Value.bool y from ru);cases hb;exact PySem.W.kia_one PySem.W.kitx_bool I.kIn True.intro (k.bl _) (fun z=>nomatch z) fin
 |int y=>
  rw[qwz hd] at ru;obtain⟨t,rfl⟩:=(show ∃t,u=Value.int y t from ru);cases hb;exact PySem.W.kia_one PySem.W.kitx_int I.kIn True.intro (k.int _) (fun z=>nomatch z) fin
 |str y=>
  unfold Hv at hd;subst hd;obtain⟨t,rfl⟩:=(show ∃t,u=Value.str y t from ru);cases hb;exact PySem.W.kia_one PySem.W.kitx_str I.kIn True.intro (k.str _) (fun z=>nomatch z) fin
 |tup ds=>
  obtain⟨x,xs,rfl,e1,_⟩:=q9z hd;cases (show u=Value.ref x from ru);cases hb;obtain⟨its,_,⟨o,h1,h2,_⟩,_⟩:=I.tuple e1;exact PySem.W.kia_one PySem.W.kitx_tuple I.kIn ⟨o,h1,h2⟩ (k.tup _) (fun z=>nomatch z) fin
 |scr ds=>
  obtain⟨x,xs,rfl,e1,_⟩:=qbfz hd;cases (show u=Value.ref x from ru);cases hb;obtain⟨its,_,p1,_⟩:=I.list e1.l;obtain⟨o,h1,h2,_⟩:=p1.isList;exact PySem.W.kia_one PySem.W.kitx_list I.kIn ⟨o,h1,h2⟩ (k.lst _) (fun z=>nomatch z) fin
 |dc x=>
  unfold Hv at hd;obtain⟨rfl,ob,φ,e1,c⟩:=hd;cases (show u=Value.ref x from ru);cases hb;obtain⟨h1,_⟩:=I.hok x _ e1;exact PySem.W.kia_one PySem.W.kitx_dict I.kIn ⟨ob,h1,c⟩ (k.dct _) (fun z=>nomatch z) fin
 |obj x=>
  rw[qtz hd] at ru;cases (show u=Value.ref x from ru);unfold instD at hb;cases hG:G x with
  |none=>simp[hG] at hb
  |some o=>
   have hl:∀xs,H x=some (.lst xs)->∃o,s.heap.get? x=some o/\o.cls=.type "list":=fun xs e=>by
    obtain⟨_,_,n,_,h1⟩:=(show ObjOk X.prog X.w H s.heap x (.lst xs) from I.hok x _ e);exact⟨_,h1,rfl⟩
   cases o with
   |lst ds=>
    simp only[hG] at hb;cases hb;obtain⟨vs,e1,_⟩:=RG x _ hG;obtain⟨o,h1,h2⟩:=hl _ e1;exact PySem.W.kia_one PySem.W.kitx_list I.kIn ⟨o,h1,h2⟩ (k.lst _) (fun z=>nomatch z) fin
   |pen=>
    simp only[hG] at hb;cases hb;obtain⟨_,_,_,e1,_⟩:=RG x _ hG;obtain⟨o,h1,h2⟩:=hl _ e1;exact PySem.W.kia_one PySem.W.kitx_list I.kIn ⟨o,h1,h2⟩ (k.lst _) (fun z=>nomatch z) fin
   |gen R=>simp[hG] at hb
   |dct=>
    simp only[hG] at hb;cases hb;have e1:H x=some (.ext fun h=>∃o,h.get? x=some o/\o.cls=.type "dict"):=RG x _ hG;obtain⟨⟨o,h1,h2⟩,_⟩:=(show ObjOk X.prog X.w H s.heap x _ from I.hok x _ e1);exact PySem.W.kia_one PySem.W.kitx_dict I.kIn ⟨o,h1,h2⟩ (k.dct _) (fun z=>nomatch z) fin
theorem qsqz{T:String}{TS:Str}(k:Kit T)(hv:bootBuiltins TS=some (.type T))(ha:PE3 X a ta)(hm:X.mg "isinstance" = none)(hm2:X.mg TS=none)(hgT:Gl X TS)(hnT:TS≠"__name__")(hdT:(TS==("__debug__":Str))=false)(hg:Gl X "isinstance":=by rfl)
  (he:notStar a=true:=by rfl):
  PE3 X (.Call (.Name "isinstance" p) [a,.Name TS p2] [] pos) (eInst T ta):=
 qsz (qarz (qspz k) hg hm rfl (qaoz ha (qaoz (qhhz (v:=.ty T) hgT hm2 hv rfl hnT hdT) qbez (qjz rfl)) (qjz he)) (he:=qjz he) (hpl:=qyz rfl)) fun σ H Q ⟨τ,G,Q3,RS,RG,h,k⟩=>by
  refine⟨τ,G,_,RS,RG,h,fun v H1 d G1 h1 S1 R1 q1=>?_⟩;cases hb:instD T G1 d with
  |none=>rw[hb] at q1;exact q1.elim
  |some b=>
   rw[hb] at q1;exact⟨d,v,G1,b,rfl,h1,R1,hb,k _ H1 (.bl b) G1 q5z S1 R1 q1⟩
end
def tupI(ns:List Int):D:=.tup (ns.map D.int)
section
variable {P:Program} {w:World} {H:Hp} {h:Heap} {a:Addr} {o:HO}
theorem qsrz(x:ObjOk P w H h a o):∃o,h.get? a=some o:=by
 cases o with
 |lst xs=>obtain⟨_,_,_,_,e⟩:=x;exact⟨_,e⟩
 |tup xs=>obtain⟨_,_,_,o,e,_⟩:=x;exact⟨_,e⟩
 |dK kvs=>obtain⟨_,_,_,_,o,_,_,e,_⟩:=x;exact⟨_,e⟩
 |dT kvs=>obtain⟨_,_,_,_,o,_,_,e,_⟩:=x;exact⟨_,e⟩
 |set S n=>obtain⟨o,_,_,_,e,_⟩:=x;exact⟨_,e⟩
 |ins C dx fs=>obtain⟨_,_,_,e,_⟩:=x;exact⟨_,e⟩
 |own y=>obtain⟨_,e⟩:=x;exact⟨_,e⟩
 |xd fs=>obtain⟨_,⟨_,_,_,e,_⟩,_⟩:=x;exact⟨_,e⟩
 |rng lo hi=>obtain⟨_,_,_,e⟩:=x;exact⟨_,e⟩
 |frz ob u=>obtain⟨e,_⟩:=x;exact⟨_,e⟩
 |tbl ps=>exact⟨_,(show h.get? a=some _ from x)⟩
 |met f y=>exact⟨_,(show h.get? a=some _ from x)⟩
 |ext φ=>obtain⟨_,⟨_,e⟩,_⟩:=x;exact⟨_,e⟩
end
section
variable {X:Cx} {pins:List (Addr×Obj)} {σ:L2.St} {H:Hp} {s:Shared}
theorem Inv.freeN(I:Inv X pins σ H s){a:Addr}(hn:s.heap.get? a=none):H a=none:=by
 cases e:H a with
 |none=>rfl
 |some o=>
  obtain⟨ob,h⟩:=qsrz (I.hok a o e);rw[hn] at h;cases h
theorem Inv.laidN{a:Addr}{o:HO}{t':Nat}{h':Heap}(I:Inv X pins σ H s)(k:∀b u,s.heap.get? b=some u->h'.get? b=some u)(hn:s.heap.get? a=none)(new:ObjOk X.prog X.w (upd H a o) h' a o):
  Inv X pins σ (upd H a o) { s with heap:=h',toks:=t' }:=by
 have hH:=Inv.freeN I hn;have ne:∀b u,s.heap.get? b=some u->b≠a:=fun b u e z=>by rw[z,hn] at e;cases e
 refine I.un ⟨fun b u q _ _ _=>k b u q,fun b u q _ _ _=>⟨u.slots,k b u q⟩,fun b u q n _=>by rw[qiz (ne b u q)];exact n,fun b u q _=>⟨u,k b u q⟩,fun b xs q=>by rw[qiz (qaez q hH)];exact q,
  fun b u xs q=>by rw[qiz (qaez q hH)];exact q,fun b ps q=>⟨#[],by rw[qiz (qaez q hH),q];simp⟩⟩ fun b u e=>?_
 by_cases hb:b=a
 ·subst hb;rw[qrz] at e;cases e;exact new
 ·rw[qiz hb] at e;exact (I.hok b u e).stay (fun c v _ q=>k c v q) (fun c q=>by rw[qiz (qaez q hH)];exact q) fun c xs q=>by rw[qiz (qaez q hH)];exact q
theorem qjjz{ns:List Int}:∀{us:List Value},Vals (ns.map V.int) us->ItemsAre (intKind X.prog X.w) ns us:=by
 induction ns with
 |nil=>intro us r;cases r;exact .nil
 |cons n ns ih=>
  intro us r;cases r with
  |cons r1 r2=>
   obtain⟨t,rfl⟩:=(show ∃t,_=Value.int n t from r1);exact .cons (by show Value.isInt n (.int n t)=true;simp[Value.isInt]) (ih r2)
theorem qeaz(I:Inv X pins σ H s):∀{nss:List (List Int)} {vs:List V} {us:List Value},Hvs X.K H (nss.map tupI) vs->Vals vs us ->
  ∃ps:List (List Int×Addr),ps.map (·.1)=nss/\vs=ps.map (fun p=>.ref p.2)/\us=ps.map (fun p=>Value.ref p.2)/\∀p∈ps,SqT X.K H p.2 (p.1.map V.int)/\SetM.IsK X.prog X.w s.heap p.1 p.2
 |[],vs,us,h,r=>by
  cases h.inv0;cases r;exact⟨[],rfl,rfl,rfl,fun p hp=>nomatch hp⟩
 |ns::nss,vs,us,h,r=>by
  obtain⟨v,vr,rfl,q1,q2⟩:=h.inv;cases r with
  |cons r1 r2=>
   obtain⟨ps,e1,e2,e3,e4⟩:=qeaz I q2 r2;obtain⟨a,ws,rfl,z1,z2⟩:=q9z q1;have hw:ws=ns.map V.int:=by
    refine qb7z z2 ?_;clear z2 z1 q1 h e1 e2 e3 e4 q2 r2 r1
    induction ns with
    |nil=>rfl
    |cons n ns ih=>simp[intsOf,ih]
   subst hw;cases (show _=Value.ref a from r1);obtain⟨its,rv,⟨o,h1,h2,n,h3⟩,_⟩:=I.tuple z1;refine⟨(ns,a)::ps,by simp[e1],by simp[e2],by simp[e3],fun p hp=>?_⟩;rcases List.mem_cons.mp hp with rfl|hp
   ·exact⟨z1,o,its.toArray,n,h1,h2,h3,qjjz rv⟩
   ·exact e4 p hp
theorem qfyz{K:PySem.W.Frag}{H:Hp}:∀{qs:List (List Int×Addr)},(∀p∈qs,SqT K H p.2 (p.1.map V.int))->Hvs K H ((qs.map (·.1)).map tupI) (qs.map fun p=>.ref p.2)
 |[],_=>.nil
 |q::qs,h=>.cons (qa1z (h q List.mem_cons_self) (Hvs.ints _)) (qfyz fun p hp=>h p (List.mem_cons_of_mem _ hp))
theorem qjkz:∀(qs:List (List Int×Addr)),Vals (qs.map fun p=>V.ref p.2) (qs.map fun p=>Value.ref p.2)
 |[]=>.nil
 |q::qs=>.cons rfl (qjkz qs)
def RiseL(nss:List (List Int)):Prop:=nss.Pairwise fun x y=>SortV.lx y x=false
theorem qjlz{Q:VK}(I:Inv X pins σ H s){ps qs:List (List Int×Addr)}{s':Shared}{c:Nat}{D':Addr}(hz:ps.length<64)(hS:SortV.Srt ps qs)(hn:s.heap.get? D'=none)(hD:s'.heap.get? D'=some (seqObj "list" (qs.map fun p=>Value.ref p.2).toArray c))
  (hm:Moved [] (fun x y=>y=x) s s') (q:H D'=none->Q (.ref D') (upd H D' (.lst (qs.map fun p=>.ref p.2)))):EP X pins σ Q (.ref D') s':=by
 have e:s'={ s with heap:=s'.heap,toks:=s'.toks }:=by
  cases s';cases s;have h1:=hm.gens;have h2:=hm.drawn;have h3:=hm.os;simp only at h1 h2 h3;subst h1 h2 h3;rfl
 rw[e];refine⟨.ref D',_,Inv.laidN I (o:=.lst (qs.map fun p=>.ref p.2)) (fun b u z=>hm.heap b u (fun y=>nomatch y) z) hn ?_,rfl,q (Inv.freeN I hn)⟩;refine⟨?_,_,c,qjkz qs,hD⟩;rw[List.length_map,hS.perm.length_eq,sizeLine_eq];omega
theorem qssz(hc:X.calm=true)(hu:X.A.units+64<cLine):CallR X (.builtin "sorted") (fun vs H Q=>∃(a:Addr) (xs:List V) (nss:List (List Int)),vs=[.ref a]/\SqL X.K H a xs/\Hvs X.K H (nss.map tupI) xs/\nss.length<64/\(∀ns∈nss,ns≠[]) ∧
  ∀(p:Addr) (mss:List (List Int)) (ys:List V),H p=none->mss.Perm nss->RiseL mss->Hvs X.K H (mss.map tupI) ys->Q (.ref p) (upd H p (.lst ys))):=by
 intro pins s σ H vs us Q I r h;obtain⟨a,xs,nss,rfl,hl,hv,hz,hne,q⟩:=h;obtain⟨u,rfl,ru⟩:=vals1 r;cases ru;obtain⟨its,rv,pl,_⟩:=I.list hl;obtain⟨ps,e1,e2,e3,e4⟩:=qeaz I hv rv;subst e3;have hlen:ps.length=nss.length:=by rw[←e1,List.length_map]
 refine SortV.sorted_of (ps:=ps) (fun p hp=>⟨(e4 p hp).2,hne _ (by rw[←e1];exact List.mem_map.mpr ⟨p,hp,rfl⟩)⟩) (by omega) (fun R hR=>?_) fun qs s' c D' hS hn hD hm=>?_
 ·refine collect_list pl.isList (hR _ ⟨fun b o _ e=>?_,rfl,rfl,rfl,Nat.le_refl _⟩) (by rw[List.length_map,sizeLine_eq];omega);have hlt:=Heap.lt_size e;show ((s.heap.push (seqObj "list" #[] 0)).update s.heap.objs.size _).get? b=some o;rw[Heap.get?_update_other _ _ (Nat.ne_of_gt hlt)];exact Heap.get?_push_of_some _ e
 ·refine qjlz I (by omega) hS hn hD hm fun hf=>?_;refine q _ (qs.map (·.1)) _ hf (by rw[←e1];exact hS.perm.map _) ?_ (qfyz fun p hp=>(e4 p (hS.perm.mem_iff.mp hp)).1);exact List.pairwise_map.mpr hS.rise
end
end L3
namespace L3
open PySem PySem.Spec PyProof.Rows L2
def setφ(P:Program)(w:World)(b:Addr)(zs:List (List Int×Addr)):Heap->Prop:=fun h=>∃o es ep t,h.get? b=some o/\o.ExactSet/\o.data=.set es ep t/\es.toList=zs.map (SetM.ent P w)/\(zs.map (·.1)).Nodup/\t.plain=true ∧
 t.led=(!(w.params.followText "set-order"))/\SetP.Tab t (es.toList.map (·.1))
theorem qstz{α β:Type}{f:α->β}{l l':List β}(h:l.Perm l'):∀{zs:List α},l'=zs.map f->∃zs':List α,zs'.Perm zs/\l=zs'.map f:=by
 induction h with
 |nil=>
  intro zs e;have:zs=[]:=by simpa using e.symm
  subst this;exact⟨[],.nil,rfl⟩
 |cons x _ ih=>
  intro zs e;cases zs with
  |nil=>cases e
  |cons z zs=>
   simp only[List.map_cons,List.cons.injEq] at e;obtain⟨zs',h1,h2⟩:=ih e.2;exact⟨z::zs',h1.cons z,by simp[e.1,h2]⟩
 |swap x y l=>
  intro zs e;rcases zs with _|⟨z,_|⟨z2,zs⟩⟩
  ·cases e
  ·simp at e
  ·simp only[List.map_cons,List.cons.injEq] at e;exact⟨z2::z::zs,.swap _ _ _,by simp[e.1,e.2.1,e.2.2]⟩
 |trans _ _ ih1 ih2=>
  intro zs e;obtain⟨z2,h1,h2⟩:=ih2 e;obtain⟨z1,h3,h4⟩:=ih1 h2;exact⟨z1,h3.trans h1,h4⟩
section
variable {X:Cx}
theorem qjmz(hc:X.calm=true)(hu:X.A.units+64<cLine):CallR X (.type "set") (fun vs H Q=>∃(a:Addr) (xs:List V) (nss:List (List Int)),vs=[.ref a]/\SqL X.K H a xs/\Hvs X.K H (nss.map tupI) xs/\nss.length≤60 ∧
  ∀(b:Addr) (zs:List (List Int×Addr)),H b=none->(∀p∈zs,SqT X.K H p.2 (p.1.map V.int))->(∀ns,ns∈zs.map (·.1)↔ns∈nss)->(zs.map (·.1)).Nodup->zs.length≤nss.length->Q (.ref b) (upd H b (.ext (setφ X.prog X.w b zs)))):=by
 intro pins s σ H vs us Q I r h;obtain⟨a,xs,nss,rfl,hl,hv,hz,q⟩:=h;obtain⟨u,rfl,ru⟩:=vals1 r;cases ru;obtain⟨its,rv,pl,_⟩:=I.list hl;obtain⟨ps,e1,e2,e3,e4⟩:=qeaz I hv rv;subst e3;have hlen:ps.length=nss.length:=by rw[←e1,List.length_map]
 refine SetM.call_set_tups (ps:=ps) (I.ok.hd hc) pl.isList rfl (fun p hp=>(e4 p hp).2) (by omega) (by omega) fun h' tk zs kk hS hD=>?_;obtain⟨o,es,ep,t,S,T⟩:=hS;refine⟨.ref s.heap.objs.size,_,I.laid (o:=.ext (setφ X.prog X.w s.heap.objs.size zs)) kk (Nat.le_refl _) ?_,rfl,q _ zs (I.hok.fresh (Nat.le_refl _)) (fun p hp=>(e4 p (hD.sub p hp)).1) (fun ns=>?_) S.nd ?_⟩
 ·refine⟨⟨o,es,ep,t,S.at_,S.ex,S.dat,S.ents,S.nd,S.plain,S.led,T⟩,⟨o,S.at_⟩,fun h1 h2 ⟨o',es',ep',t',y1,y⟩ kk2=>⟨o',es',ep',t',kk2 _ y1,y⟩⟩
 ·rw[←e1];constructor
  ·intro hm;obtain⟨p,hp,rfl⟩:=List.mem_map.mp hm;exact List.mem_map.mpr ⟨p,hD.sub p hp,rfl⟩
  ·intro hm;obtain⟨p,hp,rfl⟩:=List.mem_map.mp hm;exact hD.all p hp
 ·rw[←hlen];exact hD.len
theorem qjnz(hc:X.calm=true)(hu:X.A.units+64<cLine):CallR X (.builtin "sorted") (fun vs H Q=>∃(b:Addr) (zs:List (List Int×Addr)),vs=[.ref b]/\H b=some (.ext (setφ X.prog X.w b zs))/\(∀p∈zs,SqT X.K H p.2 (p.1.map V.int))/\zs.length≤60/\(∀p∈zs,p.1≠[]) ∧
  ∀(p:Addr) (mss:List (List Int)) (ys:List V),H p=none->mss.Perm (zs.map (·.1))->RiseL mss->Hvs X.K H (mss.map tupI) ys->Q (.ref p) (upd H p (.lst ys))):=by
 intro pins s σ H vs us Q I r h;obtain⟨b,zs,rfl,hb,hk,hz,hne,q⟩:=h;obtain⟨u,rfl,ru⟩:=vals1 r;cases ru;obtain⟨⟨o,es,ep,t,y1,y2,y3,y4,y5,y6,y7,T⟩,_⟩:=(show ObjOk X.prog X.w H s.heap b _ from I.hok b _ hb);have hK:∀p∈zs,SetM.IsK X.prog X.w s.heap p.1 p.2:=fun p hp=>by
  obtain⟨its,rv,⟨o,h1,h2,n,h3⟩,_⟩:=I.tuple (hk p hp);exact⟨o,its.toArray,n,h1,h2,h3,qjjz rv⟩
 have S:SetM.SetAt X.prog X.w s.heap b o es ep t zs:=⟨y1,y2,y3,y4,hK,y5,y6,y7⟩;obtain⟨zs',p1,p2⟩:=qstz (SetM.walkL_perm X.w b ep es) y4;have hsz:es.size=zs.length:=by
  have:es.toList.length=zs.length:=by rw[y4,List.length_map]
  simpa using this
 refine SortV.sorted_of (ps:=zs') (fun p hp=>⟨hK p (p1.mem_iff.mp hp),hne p (p1.mem_iff.mp hp)⟩) (by rw[p1.length_eq];omega) (fun R hR=>?_) fun qs s' c D' hS hn hD hm=>?_
 ·refine SetM.wp_collect_set (by have:=I.ok.hd hc;simpa using this) S T (by omega) fun s' hm=>?_;have:=hR s' hm;rw[p2,List.map_map];exact this
 ·refine qjlz I (by rw[p1.length_eq];omega) hS hn hD hm fun hf=>?_;refine q _ (qs.map (·.1)) _ hf ((hS.perm.map _).trans (p1.map _)) ?_ (qfyz fun p hp=>hk p (p1.mem_iff.mp (hS.perm.mem_iff.mp hp)));exact List.pairwise_map.mpr hS.rise
end
section
variable {X:Cx} {K:PySem.W.Frag} {e:Expr} {es:List Expr} {t:TA3} {ta:TE3} {pos p p' pos':Pos}
def qbwz:C3:=fun ds G Q=>match ds with
 |[.obj a]=>∃nss:List (List Int),G a=some (.lst (nss.map tupI))/\nss.length<64/\(∀ns∈nss,ns≠[])/\∀(p:Addr) (mss:List (List Int)) (G':Gp),New G p (.lst (mss.map tupI)) G'->mss.Perm nss->RiseL mss->Q (.obj p) G'
 |_=>False
theorem qsuz:LowC K qbwz (fun vs H Q=>∃(a:Addr) (xs:List V) (nss:List (List Int)),vs=[.ref a]/\SqL K H a xs/\Hvs K H (nss.map tupI) xs/\nss.length<64/\(∀ns∈nss,ns≠[]) ∧
  ∀(p:Addr) (mss:List (List Int)) (ys:List V),H p=none->mss.Perm nss->RiseL mss->Hvs K H (mss.map tupI) ys->Q (.ref p) (upd H p (.lst ys))):=fun ds vs G H Q3 Q h RG q k=>by
 rcases ds with _|⟨d,_|⟨d2,ds⟩⟩
 ·exact q.elim
 ·obtain⟨v,rfl,hv⟩:=hvs1 h;cases d with
  |obj a=>
   obtain⟨nss,e1,hz,hne,q⟩:=q;obtain⟨xs,e2,e3⟩:=RG a _ e1;rw[qtz hv];exact⟨a,xs,nss,rfl,.of e2,e3,hz,hne,fun p mss ys hp h1 h2 h3=>k _ _ (.obj p) _ qa0z (.laidG hp) (RG.newL hp h3) (q p mss _ (.mk' (RG.free hp)) h1 h2)⟩
  |_=>exact q.elim
 ·cases d<;>exact q.elim
theorem qsvz(hu:X.A.units+64<cLine)(hm:X.mg "sorted" = none)(ha:PA3 X (e::es) t)(hc:X.calm=true:=by rfl)(hg:Gl X "sorted":=by rfl)(he:notStar e=true:=by rfl)(hpl:es.all notStar=true:=by rfl):
  PE3 X (.Call (.Name "sorted" p) (e::es) [] pos) (eCB qbwz t):=e_cb qsuz (qarz (qssz hc hu) hg hm rfl ha (he:=qjz he) (hpl:=qyz hpl))
def eSortSet(ta:TE3):TE3:=fun τ G Q=>ta τ G fun x G1=>match x with
 |.obj a=>∃nss:List (List Int),G1 a=some (.lst (nss.map tupI))/\nss.length≤60/\(∀ns∈nss,ns≠[])/\∀(p:Addr) (mss:List (List Int)) (G':Gp),New G1 p (.lst (mss.map tupI)) G'->(∀ns,ns∈mss↔ns∈nss)->mss.Nodup->RiseL mss->mss.length≤nss.length->Q (.obj p) G'
 |_=>False
theorem qswz(hu:X.A.units+64<cLine)(ha:PE3 X e ta)(hm:X.mg "sorted" = none)(hm2:X.mg "set" = none)(hc:X.calm=true:=by rfl)(hg:Gl X "sorted":=by rfl)(hg2:Gl X "set":=by rfl)(he2:notStar e=true:=by rfl):
  PE3 X (.Call (.Name "sorted" p) [.Call (.Name "set" p') [e] [] pos'] [] pos) (eSortSet ta):=
 qsz (qarz (qjnz hc hu) hg hm rfl (qaoz (qcrz (qjmz hc hu) hg2 hm2 rfl (qaoz ha qbez (qjz he2)) (he:=qjz he2) (hpl:=qyz rfl)) qbez (qjz rfl)) (he:=qjz rfl) (hpl:=qyz rfl)) fun σ H Q ⟨τ,G,Q3,RS,RG,h,k⟩=>by
  refine⟨τ,G,_,RS,RG,h,fun v H1 d G1 h1 S1 R1 q1=>?_⟩;cases d with
  |obj a=>
   obtain⟨nss,e1,hz,hne,q⟩:=q1;obtain⟨xs,e2,e3⟩:=R1 a _ e1;rw[qtz h1];refine⟨a,xs,nss,rfl,.of e2,e3,hz,fun b zs hb hk hmem hnd hlen=>?_⟩;have E2:Ext H1 (upd H1 b (.ext (setφ X.prog X.w b zs))):=.laid hb;refine⟨b,zs,rfl,qrz,fun p hp=>SqT.ext E2 (hk p hp),by omega,fun p hp=>hne _ ((hmem _).mp (List.mem_map.mpr ⟨p,hp,rfl⟩)),fun p mss ys hp hpm hr hv=>?_⟩;have R2:RepG X.K G1 (upd H1 b (.ext (setφ X.prog X.w b zs))):=R1.laid hb;refine k _ _ (.obj p) _ qa0z ((S1.trans (.laid hb)).trans (.laidG hp)) (R2.newL hp hv) (q p mss _ (.mk' (R2.free hp)) (fun ns=>?_) ?_ hr ?_)
   ·rw[hpm.mem_iff];exact hmem ns
   ·exact hpm.nodup_iff.mpr hnd
   ·rw[hpm.length_eq,List.length_map];exact hlen
  |_=>exact q1.elim
def blsOf:List D->Option (List Bool)
 |[]=>some []
 |.bl b::r=>(blsOf r).map (b::·)
 |_::_=>none
theorem qebz{H:Hp}:∀{ds:List D} {vs:List V} {bs:List Bool},Hvs K H ds vs->blsOf ds=some bs->vs=bs.map V.bl
 |[],vs,ns,h,e=>by
  cases e;exact h.inv0
 |d::ds,vs,ns,h,e=>by
  cases d with
  |bl i=>
   obtain⟨v,r,rfl,z1,z2⟩:=h.inv;unfold blsOf at e;cases hm:blsOf ds with
   |none=>rw[hm] at e;cases e
   |some ms=>
    rw[hm] at e;cases e;rw[qbrz z1,qebz z2 hm];rfl
  |_=>cases e
theorem qjoz:∀{bs:List Bool} {us:List Value},Vals (bs.map V.bl) us->us=bs.map Value.bool
 |[],_,.nil=>rfl
 |b::bs,_,.cons r rr=>by
  rw[(show _=Value.bool b from r),qjoz rr];rfl
theorem range_all(bs:List Bool):(List.range bs.length).all (fun i=>bs.getD i false)=bs.all id:=by
 rw[Bool.eq_iff_iff];simp only[List.all_eq_true,List.mem_range,id_eq];constructor
 ·intro h b hb;obtain⟨i,hi,rfl⟩:=List.mem_iff_getElem.mp hb;have:=h i hi;simpa [List.getD,hi] using this
 ·intro h i hi;have:=h bs[i] (List.getElem_mem hi);simpa [List.getD,hi] using this
theorem qsxz(hc:X.calm=true){pins:List (Addr×Obj)}{s:Shared}{σ:L2.St}{H:Hp}{a:Addr}{xs:List V}{E:Value->Shared->Prop}(I:Inv X pins σ H s)(hl:SqL X.K H a xs){Q:Value->Shared->Prop}
  (q:∀(its:List Value) (I':Addr),Vals xs its->WalksS X.prog X.w X.A.in1 I' [I',a] [I'] (fun x y=>y=x) its.length (fun i v=>its[i]?=some v) (fun i s=>s.heap.IsListIter I' a i/\s.heap.IsList a its.toArray) ->
   (s.heap.push { cls:=.type "list_iterator",data:=.fields #[.ref a,.int 0 0]}).IsListIter I' a 0->(s.heap.push { cls:=.type "list_iterator",data:=.fields #[.ref a,.int 0 0]}).IsList a its.toArray ->
   (∀b∈[I',a],b<(s.heap.push { cls:=.type "list_iterator",data:=.fields #[.ref a,.int 0 0]}).objs.size) ->
   (∀s',Moved [I'] (fun x y=>y=x) { s with heap:=s.heap.push { cls:=.type "list_iterator",data:=.fields #[.ref a,.int 0 0]}} s'->Inv X pins σ H s')->Q (.ref I') { s with heap:=s.heap.push { cls:=.type "list_iterator",data:=.fields #[.ref a,.int 0 0]}}):
  wpAny (model X.prog X.w) X.A.in1 (pyIter (.ref a)) Q E s:=by
 obtain⟨its,rv,pl,_⟩:=I.list hl;have hla:a<s.heap.objs.size:=by
  obtain⟨o,h1,_⟩:=pl.isList;exact Heap.lt_size h1
 refine wpAny_pyIter_list pl.isList ?_;have hW:=(Walks.list (prog:=X.prog) (w:=X.w) (A:=X.A.in1) (by have:=I.ok.hd hc;simpa using this) s.heap.objs.size a (Nat.ne_of_lt hla) its.toArray).toS;refine q its s.heap.objs.size rv (by simpa using hW) ⟨_,Heap.get?_push_size _ rfl,rfl,rfl⟩ ?_ ?_ fun s' hm=>?_
 ·obtain⟨o,h1,h2⟩:=pl.isList;exact⟨o,Heap.get?_push_of_some _ h1,h2⟩
 ·intro b hb;rw[size_push'];rcases List.mem_cons.mp hb with e|e
  ·rw[e];exact Nat.lt_succ_self _
  ·have:b=a:=by simpa using e
   rw[this];exact Nat.lt_succ_of_lt hla
 ·have e:s'={ s with heap:=s'.heap,toks:=s'.toks }:=by
   cases s';cases s;have h1:=hm.gens;have h2:=hm.drawn;have h3:=hm.os;simp only at h1 h2 h3;subst h1 h2 h3;rfl
  rw[e];exact I.kept fun b u z=>hm.heap b u (fun y=>by
   have:b=s.heap.objs.size:=by simpa using y
   exact absurd (this▸Heap.lt_size z) (Nat.lt_irrefl _)) (Heap.get?_push_of_some _ z)
theorem qsyz(hc:X.calm=true):CallR X (.builtin "all") (fun vs H Q=>∃(a:Addr) (bs:List Bool),vs=[.ref a]/\SqL X.K H a (bs.map V.bl)/\Q (.bl (bs.all id)) H):=by
 intro pins s σ H vs us Q I r h;obtain⟨a,bs,rfl,hl,q⟩:=h;obtain⟨u,rfl,ru⟩:=vals1 r;cases ru;refine call_all_walkS (qsxz hc I hl fun its I' rv W h1 h2 h3 back=>⟨I',_,_,_,_,_,_,fun i=>bs.getD i false,rfl,W,⟨h1,h2⟩,?_,fun s' hm=>?_⟩)
 ·intro i v s' Q' E' hv hq;have hx:=qjoz rv;subst hx;rw[List.getElem?_map] at hv;cases hb:bs[i]? with
  |none=>rw[hb] at hv;cases hv
  |some b=>
   rw[hb] at hv;cases hv;have:bs.getD i false=b:=by simp[List.getD,hb]
   dsimp only at hq;rw[this] at hq;exact wpAny_truthy_bool hq
 ·have:its.length=bs.length:=by rw[←rv.length,List.length_map]
  rw[this,range_all];exact⟨.bl (bs.all id),H,back s' hm,rfl,q⟩
def qbiz:C3:=fun ds G Q=>match ds with
 |[.obj a]=>∃xs bs,G a=some (.lst xs)/\blsOf xs=some bs/\Q (.bl (bs.all id)) G
 |_=>False
theorem qszz:LowC K qbiz (fun vs H Q=>∃(a:Addr) (bs:List Bool),vs=[.ref a]/\SqL K H a (bs.map V.bl)/\Q (.bl (bs.all id)) H):=fun ds vs G H Q3 Q h RG q k=>by
 rcases ds with _|⟨d,_|⟨d2,ds⟩⟩
 ·exact q.elim
 ·obtain⟨v,rfl,hv⟩:=hvs1 h;cases d with
  |obj a=>
   obtain⟨xs,bs,e1,e2,q⟩:=q;obtain⟨ys,e3,e4⟩:=RG a _ e1;rw[qtz hv];rw[qebz e4 e2] at e3;exact⟨a,bs,rfl,.of e3,k _ H _ G q5z (.refl H G) RG q⟩
  |_=>exact q.elim
 ·cases d<;>exact q.elim
theorem qs0z(hu:X.A.units+64<cLine)(hm:X.mg "all" = none)(ha:PA3 X (e::es) t)(hc:X.calm=true:=by rfl)(hg:Gl X "all":=by rfl)(he:notStar e=true:=by rfl)(hpl:es.all notStar=true:=by rfl):
  PE3 X (.Call (.Name "all" p) (e::es) [] pos) (eCB qbiz t):=e_cb qszz (qarz (qsyz hc) hg hm rfl ha (he:=qjz he) (hpl:=qyz hpl))
end
end L3
namespace L3
open PySem PySem.Spec PyProof.Rows L2
section
variable {prog:Program} {w:World} {A:Around} {E:Value->Shared->Prop} {s:Shared}
theorem qs1z(lo hi i:Int):(Builtin.Range.rangePlace? lo hi 1 i).isSome=(decide (lo≤i)&&decide (i<hi)):=by
 unfold Builtin.Range.rangePlace?;dsimp only;rw[if_pos (c:=(1:Int) > 0) (by decide),Int.emod_one];cases (decide (lo≤i)&&decide (i<hi))<;>rfl
theorem qjpz{r:Addr}{lo hi i:Int}{t u v tk:Tok}{Q:Bool->Shared->Prop}(hr:s.heap.get? r=some { cls:=.type "range",data:=.fields #[.int lo t,.int hi u,.int 1 v]})(h:Q (decide (lo≤i)&&decide (i<hi)) s):
  wpAny (model prog w) A (contains (.ref r) (.int i tk)) Q E s:=by
 have hT:s.TypeIs (.ref r) "range":=⟨_,hr,rfl⟩;refine wpAny_contains_slot hT PySem.F.slot_range_contains (wpAny_call_entry PySem.F.slot_range_contains hT PySem.F.entry_range_contains ?_ (PySem.F.args_range_contains_2 _ _));show wpAny _ _ (Builtin.Range.rangeFields (.ref r) >>= _) _ _ s;unfold Builtin.Range.rangeFields;refine wpAny_bind (wpAny_bind (wpAny_field hr rfl (x:=.int lo t) rfl (wpAny_bind (wpAny_pure (wpAny_bind (wpAny_field hr rfl (x:=.int hi u) rfl (wpAny_bind (wpAny_pure (wpAny_bind (wpAny_field hr rfl (x:=.int 1 v) rfl (wpAny_bind (wpAny_pure (wpAny_pure ?_)))))))))))));show wpAny _ _ (pure (Fin.done (Flow.ret (Value.bool (Builtin.Range.rangePlace? lo hi 1 i).isSome)))) _ _ s;rw[qs1z];exact wpAny_pure ⟨_,rfl,wpAny_truthy_bool h⟩
end
section
variable {X:Cx} {a b c:Expr} {ta:TE} {tb:TA} {op:CmpOp} {p pos pos':Pos}
def inB(neg:Bool)(lo hi i:Int):Bool:=if neg then !(decide (lo≤i)&&decide (i<hi)) else (decide (lo≤i)&&decide (i<hi))
def tInR1(neg:Bool)(ta:TE)(tb:TA):TE:=fun σ H Q=>ta σ H fun x H1=>tb σ H1 fun vs H2=>∃i hi,x=.int i/\vs=[.int hi]/\Q (.bl (inB neg 0 hi i)) H2
def tInR2(neg:Bool)(ta:TE)(tb:TA):TE:=fun σ H Q=>ta σ H fun x H1=>tb σ H1 fun vs H2=>∃i lo hi,x=.int i/\vs=[.int lo,.int hi]/\Q (.bl (inB neg lo hi i)) H2
def opR(neg:Bool):CmpOp:=if neg then .NotIn else .In
theorem qs2z{pins:List (Addr×Obj)}{s:Shared}{σ:L2.St}{H:Hp}{Q:VK}{i lo hi:Int}{t u v tk:Tok}{tks:Nat}(I:L2.Inv X pins σ H s)(q:Q (.bl (decide (lo≤i)&&decide (i<hi))) H):
  wpAny (model X.prog X.w) X.A (compareOp .In (.int i tk) (.ref s.heap.objs.size)) (EP X pins σ Q) X.xe { s with heap:=s.heap.push { cls:=.type "range",data:=.fields #[.int lo t,.int hi u,.int 1 v]},toks:=tks }:=by
 show wpAny _ _ (contains (.ref s.heap.objs.size) (.int i tk) >>= fun b=>pure (Value.bool b)) _ _ _;refine wpAny_bind (qjpz (Heap.get?_push_size _ rfl) (wpAny_pure ⟨.bl _,H,I.kept fun b ob q=>Heap.get?_push_of_some _ q,rfl,q⟩))
theorem qs3z{pins:List (Addr×Obj)}{s:Shared}{σ:L2.St}{H:Hp}{Q:VK}{i lo hi:Int}{t u v tk:Tok}{tks:Nat}(I:L2.Inv X pins σ H s)(q:Q (.bl (!(decide (lo≤i)&&decide (i<hi)))) H):
  wpAny (model X.prog X.w) X.A (compareOp .NotIn (.int i tk) (.ref s.heap.objs.size)) (EP X pins σ Q) X.xe { s with heap:=s.heap.push { cls:=.type "range",data:=.fields #[.int lo t,.int hi u,.int 1 v]},toks:=tks }:=by
 show wpAny _ _ (contains (.ref s.heap.objs.size) (.int i tk) >>= fun b=>pure (Value.bool (!b))) _ _ _;refine wpAny_bind (qjpz (Heap.get?_push_size _ rfl) (wpAny_pure ⟨.bl _,H,I.kept fun b ob q=>Heap.get?_push_of_some _ q,rfl,q⟩))
theorem qjqz{neg:Bool}{pins:List (Addr×Obj)}{s:Shared}{σ:L2.St}{H:Hp}{Q:VK}{i lo hi:Int}{t u v tk:Tok}{tks:Nat}(I:L2.Inv X pins σ H s)(q:Q (.bl (inB neg lo hi i)) H):
  wpAny (model X.prog X.w) X.A (compareOp (opR neg) (.int i tk) (.ref s.heap.objs.size)) (EP X pins σ Q) X.xe { s with heap:=s.heap.push { cls:=.type "range",data:=.fields #[.int lo t,.int hi u,.int 1 v]},toks:=tks }:=by
 cases neg with
 |false=>exact qs2z I q
 |true=>exact qs3z I q
theorem qs4z{neg:Bool}(hg:Gl X "range")(hm:X.mg "range" = none)(ha:PE X a ta)(hb:PA X [b] tb)(hs:starEach [b] X.env=[(false,eval b X.env)]):PC X (opR neg) a (.Call (.Name "range" p) [b] [] pos) (tInR1 neg ta tb):=by
 intro pins s σ H Q I h;refine thn (ha pins s σ H _ I h) fun v s1 ⟨x,H1,I1,r1,q1⟩=>?_;refine Call_ (qaxz I1 hg hm boot_range (PyProof.Rows.callWith_type1 (thn (hb pos pins s1 σ H1 _ I1 q1) fun us s2 ⟨vs,H2,I2,r2,q2⟩=>?_) hs rfl));obtain⟨i,hi,rfl,rfl,q⟩:=q2;obtain⟨tk,rfl⟩:=r1;cases r2 with
 |cons r rr=>
  cases rr;obtain⟨t,rfl⟩:=r;exact call_range_1 (qjqz I2 q)
theorem qs5z{neg:Bool}(hg:Gl X "range")(hm:X.mg "range" = none)(ha:PE X a ta)(hb:PA X [b,c] tb)(hs:starEach [b,c] X.env=[(false,eval b X.env),(false,eval c X.env)])(hs2:starEach [c] X.env=[(false,eval c X.env)]):PC X (opR neg) a (.Call (.Name "range" p) [b,c] [] pos) (tInR2 neg ta tb):=by
 intro pins s σ H Q I h;refine thn (ha pins s σ H _ I h) fun v s1 ⟨x,H1,I1,r1,q1⟩=>?_;refine Call_ (qaxz I1 hg hm boot_range (PyProof.Rows.callWith_type1 (thn (hb pos pins s1 σ H1 _ I1 q1) fun us s2 ⟨vs,H2,I2,r2,q2⟩=>?_) (by rw[hs,hs2]) (by rw[hs2];rfl)));obtain⟨i,lo,hi,rfl,rfl,q⟩:=q2;obtain⟨tk,rfl⟩:=r1;cases r2 with
 |cons r rr=>
  cases rr with
  |cons r' rr=>
   cases rr;obtain⟨t,rfl⟩:=r;obtain⟨t',rfl⟩:=r';exact call_range_2 (qjqz I2 q)
end
section
variable {X:Cx} {a b c:Expr} {ta:TE3} {tb:TA3} {p pos pos':Pos}
def eInRng1(neg:Bool)(ta:TE3)(tb:TA3):TE3:=fun τ G Q=>ta τ G fun x G1=>tb τ G1 fun ds G2=>match x,ds with
 |.int i,[.int hi]=>Q (.bl (inB neg 0 hi i)) G2
 |_,_=>False
def eInRng2(neg:Bool)(ta:TE3)(tb:TA3):TE3:=fun τ G Q=>ta τ G fun x G1=>tb τ G1 fun ds G2=>match x,ds with
 |.int i,[.int lo,.int hi]=>Q (.bl (inB neg lo hi i)) G2
 |_,_=>False
theorem qs6z{neg:Bool}{σ:L2.St}{H:Hp}{Q:VK}(h:low X.K (eInRng1 neg ta tb) σ H Q):tInR1 neg (low X.K ta) (lowA X.K tb) σ H Q:=by
 obtain⟨τ,G,Q3,RS,RG,h,k⟩:=h;refine⟨τ,G,_,RS,RG,h,fun v1 H1 d1 G1 h1 S1 R1 q1=>?_⟩;refine⟨τ,G1,_,RS.ext (S1.ext RG),R1,q1,fun vs H2 ds G2 h2 S2 R2 q2=>?_⟩;rcases ds with _|⟨d,_|⟨d2,ds⟩⟩
 ·cases d1<;>exact q2.elim
 ·cases d1 with
  |int i=>
   cases d with
   |int j=>
    obtain⟨v,r,rfl,z1,z2⟩:=h2.inv;cases z2.inv0;unfold Hv at z1 h1;exact⟨i,j,h1,by rw[z1],k _ _ _ _ q5z (S1.trans S2) R2 q2⟩
   |_=>exact q2.elim
  |_=>exact q2.elim
 ·cases d1 with
  |int i=>cases d<;>exact q2.elim
  |_=>exact q2.elim
theorem qs7z{neg:Bool}{σ:L2.St}{H:Hp}{Q:VK}(h:low X.K (eInRng2 neg ta tb) σ H Q):tInR2 neg (low X.K ta) (lowA X.K tb) σ H Q:=by
 obtain⟨τ,G,Q3,RS,RG,h,k⟩:=h;refine⟨τ,G,_,RS,RG,h,fun v1 H1 d1 G1 h1 S1 R1 q1=>?_⟩;refine⟨τ,G1,_,RS.ext (S1.ext RG),R1,q1,fun vs H2 ds G2 h2 S2 R2 q2=>?_⟩;rcases ds with _|⟨d,_|⟨d2,_|⟨d3,ds⟩⟩⟩
 ·cases d1<;>exact q2.elim
 ·cases d1 with
  |int i=>cases d<;>exact q2.elim
  |_=>exact q2.elim
 ·cases d1 with
  |int i=>
   cases d with
   |int lo=>
    cases d2 with
    |int hi=>
     obtain⟨v,r,rfl,z1,z2⟩:=h2.inv;obtain⟨v',r',rfl,z3,z4⟩:=z2.inv;cases z4.inv0;unfold Hv at z1 z3 h1;exact⟨i,lo,hi,h1,by rw[z1,z3],k _ _ _ _ q5z (S1.trans S2) R2 q2⟩
    |_=>exact q2.elim
   |_=>exact q2.elim
  |_=>exact q2.elim
 ·cases d1 with
  |int i=>
   cases d with
   |int lo=>cases d2<;>exact q2.elim
   |_=>exact q2.elim
  |_=>exact q2.elim
theorem qs8z(ha:PE3 X a ta)(hm:X.mg "range" = none)(hb:PA3 X [b] tb)(hg:Gl X "range":=by rfl)(hs:notStar b=true:=by rfl):PE3 X (.Compare a [.In] [.Call (.Name "range" p) [b] [] pos'] pos) (eInRng1 false ta tb):=
 qsz (qhiz (op:=.In) (qs4z (neg:=false) hg hm ha hb (qjz hs)) rfl) fun _ _ _ h=>qs6z h
theorem qs9z(ha:PE3 X a ta)(hm:X.mg "range" = none)(hb:PA3 X [b,c] tb)(hg:Gl X "range":=by rfl)(hs:notStar b=true:=by rfl)(hs2:notStar c=true:=by rfl):PE3 X (.Compare a [.In] [.Call (.Name "range" p) [b,c] [] pos'] pos) (eInRng2 false ta tb):=
 qsz (qhiz (op:=.In) (qs5z (neg:=false) hg hm ha hb (by rw[qjz hs,qjz hs2];rfl) (qjz hs2)) rfl) fun _ _ _ h=>qs7z h
end
end L3
namespace L3
open PySem PySem.Spec PyProof.Rows L2
open Sem (wp)
def Ik(k:Bool)(h:Heap)(jt a:Addr)(i:Nat):Prop:=match k with
 |true=>h.IsListIter jt a i
 |false=>h.IsTupleIter jt a i
def Sk(k:Bool)(h:Heap)(a:Addr)(xs:Array Value):Prop:=match k with
 |true=>h.IsList a xs
 |false=>h.IsTuple a xs
theorem Ik.of{k:Bool}{h h':Heap}{jt a:Addr}{i:Nat}(x:Ik k h jt a i)(f:∀o,h.get? jt=some o->h'.get? jt=some o):Ik k h' jt a i:=by
 cases k<;>(obtain⟨o,e,r⟩:=x;exact⟨o,f o e,r⟩)
theorem Sk.of{k:Bool}{h h':Heap}{a:Addr}{xs:Array Value}(x:Sk k h a xs)(f:∀o,h.get? a=some o->h'.get? a=some o):Sk k h' a xs:=by
 cases k<;>(obtain⟨o,e,r⟩:=x;exact⟨o,f o e,r⟩)
theorem Ik.obj{k:Bool}{h:Heap}{jt a:Addr}{i:Nat}(x:Ik k h jt a i):∃o,h.get? jt=some o/\∀v,o.data≠.cell v:=by
 cases k<;>(obtain⟨o,e,c,d⟩:=x;exact⟨o,e,fun v z=>by rw[d] at z;cases z⟩)
section
variable {P:Program} {w:World} {A:Around} {E:Value->Shared->Prop} {s:Shared}
theorem nextK{k:Bool}{jt a:Addr}{i:Nat}{xs:Array Value}{u:Value}{Q:Value->Shared->Prop}(hi:Ik k s.heap jt a i)(ha:Sk k s.heap a xs)(hx:xs[i]?=some u)
  (q:∀h',Ik k h' jt a (i+1)->Heap.SameBut jt s.heap h'->Q u { s with heap:=h' }):wpAny (model P w) A (Builtin.SmallTypes.nextOf (.ref jt)) Q E s:=by
 cases k with
 |true=>exact wpAny_nextOf_list_item hi ha hx q
 |false=>
  have hi:s.heap.IsTupleIter jt a i:=hi;obtain⟨o,e1,c1,d1⟩:=id hi;obtain⟨oa,e2,c2,n2,d2⟩:=(show s.heap.IsTuple a xs from ha);unfold Builtin.SmallTypes.nextOf;refine wpAny_bind (wpAny_callSpecial?_slot (name:=Str.ofString "__next__") hi.typeIs F.slot_tuple_iterator_next (wpAny_call_entry F.slot_tuple_iterator_next hi.typeIs F.entry_tuple_iterator_next ?_ (F.args_tuple_iterator_next_1 _)));show wpAny _ _ (field (.ref jt) 0 >>= _) _ _ s;refine wpAny_bind (wpAny_field e1 d1 (x:=.ref a) rfl ?_);show wpAny _ _ (if (Value.ref a==Value.none)=true then _ else _) _ _ s;rw[if_neg (show ¬((Value.ref a==Value.none)=true) from Bool.false_ne_true)];show wpAny _ _ (field (.ref jt) 1 >>= _) _ _ s;refine wpAny_bind (wpAny_field e1 d1 (x:=.int i 0) rfl ?_);show wpAny _ _ (seqItems? (.ref a) >>= _) _ _ s;refine wpAny_bind (wpAny_seqItems e2 d2 ?_);simp only[hx,Int.toNat_natCast];refine wpAny_bind (wpAny_setField e1 d1 (by simp) (wpAny_pure ⟨u,rfl,wpAny_pure (q _ ?_ (Heap.SameBut.update ..))⟩));exact⟨_,Heap.get?_update_self _ e1 (Obj.isFreed_of_fields (Obj.data_mapFields d1 _)),(Obj.cls_mapFields ..).trans c1,by rw[Obj.data_mapFields d1];simp[rawInt]⟩
theorem qecz{k:Bool}{jt a:Addr}{i:Nat}{xs:Array Value}{Q:Value->Shared->Prop}(hh:A.handled=none)(hi:Ik k s.heap jt a i)(ha:Sk k s.heap a xs)(hx:xs[i]?=none)
  (q:∀h' e,Heap.ExtBut jt s.heap h'->(∃o,h'.get? e=some o/\o.cls=.type "StopIteration")->E (.ref e) { s with heap:=h' }):wpAny (model P w) A (Builtin.SmallTypes.nextOf (.ref jt)) Q E s:=by
 cases k with
 |true=>exact wpAny_nextOf_list_end hh hi ha hx q
 |false=>
  have hi:s.heap.IsTupleIter jt a i:=hi;obtain⟨o,e1,c1,d1⟩:=id hi;obtain⟨oa,e2,c2,n2,d2⟩:=(show s.heap.IsTuple a xs from ha);unfold Builtin.SmallTypes.nextOf;refine wpAny_bind (wpAny_callSpecial?_slot (name:=Str.ofString "__next__") hi.typeIs F.slot_tuple_iterator_next (wpAny_call_entry F.slot_tuple_iterator_next hi.typeIs F.entry_tuple_iterator_next ?_ (F.args_tuple_iterator_next_1 _)));show wpAny _ _ (field (.ref jt) 0 >>= _) _ _ s;refine wpAny_bind (wpAny_field e1 d1 (x:=.ref a) rfl ?_);show wpAny _ _ (if (Value.ref a==Value.none)=true then _ else _) _ _ s;rw[if_neg (show ¬((Value.ref a==Value.none)=true) from Bool.false_ne_true)];show wpAny _ _ (field (.ref jt) 1 >>= _) _ _ s;refine wpAny_bind (wpAny_field e1 d1 (x:=.int i 0) rfl ?_);show wpAny _ _ (seqItems? (.ref a) >>= _) _ _ s;refine wpAny_bind (wpAny_seqItems e2 d2 ?_);simp only[hx,Int.toNat_natCast];refine wpAny_bind (wpAny_rule (wpAny_bind (wpAny_setField e1 d1 (by simp) ?_)));show wpAny _ _ (newExc (.type "StopIteration") [] >>= _) _ _ ({ s with heap:=_ }:Shared);refine wpAny_bind ?_;simp only[newTuple,newExc];refine wpAny_bind (wpAny_newObj_type ?_ (by size_fits));refine wpAny_bind (m:=firstArgMember _ _) (wpAny_of_eq (a:=Value.none) (by first|(simp only[firstArgMember];rfl)|rfl) ?_)
  refine wpAny_newObj_type ?_ (by size_fits);simp only[raiseNew];refine wpAny_bind (wpAny_handled ?_)
  first|rw[hh]|rw[show A.in1.handled=none from hh]
  refine wpAny_bind (wpAny_pure (wpAny_throw ?_));exact q _ _ (((Heap.SameBut.update ..).extBut.push _).push _) ⟨_,Heap.get?_push_size _ rfl,rfl⟩
theorem zipK{k1 k2:Bool}{zz ti ot j1 j2 a1 a2:Addr}{m n:Nat}{xs ys:Array Value}{u v c d:Value}{Q:Value->Shared->Prop}(D:ZipApart zz ti ot j1 j2 a1 a2)
  (Z:IsZip s.heap zz ti ot .none) (Ti:IsPair s.heap ti (.ref j1) (.ref j2)) (To:IsPair s.heap ot c d) (g1:Ik k1 s.heap j1 a1 m) (g2:Ik k2 s.heap j2 a2 n) (s1:Sk k1 s.heap a1 xs) (s2:Sk k2 s.heap a2 ys) (hu:xs[m]?=some u) (hv:ys[n]?=some v)
  (q:∀h',IsZip h' zz ti ot (rawInt s.heap.objs.size)->IsPair h' ot u v->Ik k1 h' j1 a1 (m+1)->Ik k2 h' j2 a2 (n+1)->IsPair h' s.heap.objs.size u v ->
   (∀b o,b≠zz->b≠ot->b≠j1->b≠j2->s.heap.get? b=some o->h'.get? b=some o)->Q (.ref s.heap.objs.size) { s with heap:=h' }):
  wpAny (model P w) A (Builtin.«zip.__next__» ⟨[.ref zz],[]⟩) (fun fin s'=>∃r,fin=.done (.ret r)/\Q r s') E s:=by
 show wpAny _ _ (field (.ref zz) 2 >>= _) _ _ _;refine wpAny_bind (wpAny_field Z rfl (x:=.bool false) rfl ?_);show wpAny _ _ (field (.ref zz) 3 >>= _) _ _ _;refine wpAny_bind (wpAny_field Z rfl (x:=.ref ti) rfl ?_);refine wpAny_bind (wpAny_seqItems Ti rfl ?_);show wpAny _ _ (Builtin.SmallTypes.ownedTupleIsFree (.ref zz) >>= _) _ _ _;refine wpAny_bind ?_;unfold Builtin.SmallTypes.ownedTupleIsFree;refine wpAny_bind (wpAny_field Z rfl (x:=.none) rfl (wpAny_pure ?_));simp only[if_true];refine wpAny_bind (wpAny_rule ?_);refine wpAny_bind (wpAny_field Z rfl (x:=.ref ot) rfl ?_);refine wpAny_bind (wpAny_setField_rec Z (by simp) fun w1 Z1 b1=>?_)
 replace Z1:IsZip w1 zz ti ot .ellipsis:=Z1
 refine wpAny_bind ?_
 (simp only[List.zipIdx_nil,List.zipIdx_cons,List.forIn_nil,List.forIn_cons])
 have k1_:∀b o,b≠zz->s.heap.get? b=some o->w1.get? b=some o:=fun b o h e=>b1.extBut b o h e;refine wpAny_bind (wpAny_bind (wpAny_onRaise ?_));show wpAny _ _ (Builtin.SmallTypes.nextOf (.ref j1) >>= _) _ _ _;refine wpAny_bind (nextK (g1.of fun o e=>k1_ _ o D.i1z e) (s1.of fun o e=>k1_ _ o D.l1z e) hu fun w2 J1 b2=>wpAny_pure ?_);have k2_:∀b o,b≠zz->b≠j1->s.heap.get? b=some o->w2.get? b=some o:=fun b o h h2 e=>b2.extBut b o h2 (k1_ b o h e);have To2:IsPair w2 ot c d:=k2_ _ _ D.TOz D.TOi1 To;refine wpAny_bind (wpAny_seqItems To2 rfl ?_);refine wpAny_bind (wpAny_updateSeq_pair To2 fun w3 To3 b3=>?_)
 replace To3:IsPair w3 ot u d:=To3
 have k3_:∀b o,b≠zz->b≠j1->b≠ot->s.heap.get? b=some o->w3.get? b=some o:=fun b o h h2 h3 e=>b3.extBut b o h3 (k2_ b o h h2 e);refine wpAny_bind (wpAny_letGo (wpAny_pure ?_));refine wpAny_bind (wpAny_bind (wpAny_onRaise ?_));show wpAny _ _ (Builtin.SmallTypes.nextOf (.ref j2) >>= _) _ _ _;refine wpAny_bind (nextK (g2.of fun o e=>k3_ _ o D.i2z D.i12.symm D.TOi2.symm e) (s2.of fun o e=>k3_ _ o D.l2z D.l2i1 D.l2TO e) hv fun w4 J2 b4=>wpAny_pure ?_);have To4:IsPair w4 ot u d:=b4.extBut _ _ D.TOi2 To3;refine wpAny_bind (wpAny_seqItems To4 rfl ?_);refine wpAny_bind (wpAny_updateSeq_pair To4 fun w5 To5 b5=>?_)
 replace To5:IsPair w5 ot u v:=To5
 refine wpAny_bind (wpAny_letGo (wpAny_pure (wpAny_pure ?_)));refine wpAny_bind (wpAny_seqItems To5 rfl ?_);refine wpAny_bind (wpAny_newTuple ?_);have sz:w5.objs.size=s.heap.objs.size:=by rw[b5.1,b4.1,b3.1,b2.1,b1.1]
 have Z5:IsZip w5 zz ti ot .ellipsis:=b5.extBut _ _ D.TOz.symm (b4.extBut _ _ D.i2z.symm (b3.extBut _ _ D.TOz.symm (b2.extBut _ _ D.i1z.symm Z1)));have k5_:∀b o,b≠zz->b≠ot->b≠j1->b≠j2->s.heap.get? b=some o->w5.get? b=some o:=fun b o c1 c2 c3 c4 e=>b5.extBut _ _ c2 (b4.extBut _ _ c4 (k3_ b o c1 c3 c2 e));have L1:Ik k1 w5 j1 a1 (m+1):=J1.of fun o e=>b5.extBut _ _ D.TOi1.symm (b4.extBut _ _ D.i12 (b3.extBut _ _ D.TOi1.symm e));have L2:Ik k2 w5 j2 a2 (n+1):=J2.of fun o e=>b5.extBut _ _ D.TOi2.symm e;have lz:zz<w5.objs.size:=Heap.lt_size Z5;show wpAny _ _ (Builtin.SmallTypes.ownedTupleHandOut (.ref zz) (.ref w5.objs.size) >>= _) _ _ _;refine wpAny_bind ?_;unfold Builtin.SmallTypes.ownedTupleHandOut;have Z6:IsZip (w5.push { cls:=.type "tuple",data:=.seq #[u,v]}) zz ti ot .ellipsis:=Heap.get?_push_of_some _ Z5;refine wpAny_bind (wpAny_setField_rec Z6 (by simp) fun w7 Z7 b7=>?_)
 replace Z7:IsZip w7 zz ti ot (rawInt w5.objs.size):=Z7
 refine wpAny_setField_rec Z7 (by simp) fun w8 Z8 b8=>?_
 replace Z8:IsZip w8 zz ti ot (rawInt w5.objs.size):=Z8
 have up:∀b o,b≠zz->w5.get? b=some o->w8.get? b=some o:=fun b o c1 e=>b8.extBut _ _ c1 (b7.extBut _ _ c1 (Heap.get?_push_of_some _ e));have T8:IsPair w8 w5.objs.size u v:=b8.extBut _ _ (Nat.ne_of_gt lz) (b7.extBut _ _ (Nat.ne_of_gt lz) (Heap.get?_push_size _ rfl));rw[sz] at Z8 T8;refine wpAny_pure ⟨_,rfl,?_⟩;show Q (.ref w5.objs.size) _;rw[sz];exact q w8 Z8 (up _ _ D.TOz To5) (L1.of fun o e=>up _ o D.i1z e) (L2.of fun o e=>up _ o D.i2z e) T8 fun b o c1 c2 c3 c4 e=>up b o c1 (k5_ b o c1 c2 c3 c4 e)
theorem qtaz{k1 k2:Bool}{zz ti ot j1 j2 a1 a2:Addr}{m n:Nat}{xs ys:Array Value}{c d:Value}{Q:Fin->Shared->Prop}(hh:A.handled=none)(D:ZipApart zz ti ot j1 j2 a1 a2)
  (Z:IsZip s.heap zz ti ot .none) (Ti:IsPair s.heap ti (.ref j1) (.ref j2)) (To:IsPair s.heap ot c d) (g1:Ik k1 s.heap j1 a1 m) (g2:Ik k2 s.heap j2 a2 n) (s1:Sk k1 s.heap a1 xs) (s2:Sk k2 s.heap a2 ys) (he:xs[m]?=none∨ys[n]?=none)
  (q:∀h' e,(∀b o,b≠zz->b≠ot->b≠j1->b≠j2->s.heap.get? b=some o->h'.get? b=some o)->(∃o,h'.get? e=some o/\o.cls=.type "StopIteration")->E (.ref e) { s with heap:=h' }):
  wpAny (model P w) A (Builtin.«zip.__next__» ⟨[.ref zz],[]⟩) Q E s:=by
 show wpAny _ _ (field (.ref zz) 2 >>= _) _ _ _;refine wpAny_bind (wpAny_field Z rfl (x:=.bool false) rfl ?_);show wpAny _ _ (field (.ref zz) 3 >>= _) _ _ _;refine wpAny_bind (wpAny_field Z rfl (x:=.ref ti) rfl ?_);refine wpAny_bind (wpAny_seqItems Ti rfl ?_);show wpAny _ _ (Builtin.SmallTypes.ownedTupleIsFree (.ref zz) >>= _) _ _ _;refine wpAny_bind ?_;unfold Builtin.SmallTypes.ownedTupleIsFree;refine wpAny_bind (wpAny_field Z rfl (x:=.none) rfl (wpAny_pure ?_));simp only[if_true];refine wpAny_bind (wpAny_rule ?_);refine wpAny_bind (wpAny_field Z rfl (x:=.ref ot) rfl ?_);refine wpAny_bind (wpAny_setField_rec Z (by simp) fun w1 Z1 b1=>?_)
 replace Z1:IsZip w1 zz ti ot .ellipsis:=Z1
 refine wpAny_bind ?_
 (simp only[List.zipIdx_nil,List.zipIdx_cons,List.forIn_nil,List.forIn_cons])
 have k1_:∀b o,b≠zz->s.heap.get? b=some o->w1.get? b=some o:=fun b o h e=>b1.extBut b o h e;refine wpAny_bind (wpAny_bind (wpAny_onRaise ?_));show wpAny _ _ (Builtin.SmallTypes.nextOf (.ref j1) >>= _) _ _ _;cases hx:xs[m]? with
 |none=>
  refine wpAny_bind (qecz hh (g1.of fun o e=>k1_ _ o D.i1z e) (s1.of fun o e=>k1_ _ o D.l1z e) hx fun w2 e b2 hs=>?_);obtain⟨oe,e1,e2⟩:=hs;have Z2:IsZip w2 zz ti ot .ellipsis:=b2 _ _ D.i1z.symm Z1;have ez:e≠zz:=fun x=>by
   subst x;rw[Z2] at e1;cases e1;simp at e2
  exact wpAny_setField_rec Z2 (by simp) fun w3 _ b3=>q w3 e (fun b o c1 _ c3 _ x=>b3.extBut _ _ c1 (b2 _ _ c3 (k1_ b o c1 x))) ⟨oe,b3.extBut _ _ ez e1,e2⟩
 |some u=>
  have hy:ys[n]?=none:=by
   rcases he with h|h
   ·rw[hx] at h;cases h
   ·exact h
  refine wpAny_bind (nextK (g1.of fun o e=>k1_ _ o D.i1z e) (s1.of fun o e=>k1_ _ o D.l1z e) hx fun w2 J1 b2=>wpAny_pure ?_);have k2_:∀b o,b≠zz->b≠j1->s.heap.get? b=some o->w2.get? b=some o:=fun b o h h2 e=>b2.extBut b o h2 (k1_ b o h e);have To2:IsPair w2 ot c d:=k2_ _ _ D.TOz D.TOi1 To;refine wpAny_bind (wpAny_seqItems To2 rfl ?_);refine wpAny_bind (wpAny_updateSeq_pair To2 fun w3 To3 b3=>?_);have k3_:∀b o,b≠zz->b≠j1->b≠ot->s.heap.get? b=some o->w3.get? b=some o:=fun b o h h2 h3 e=>b3.extBut b o h3 (k2_ b o h h2 e);refine wpAny_bind (wpAny_letGo (wpAny_pure ?_));refine wpAny_bind (wpAny_bind (wpAny_onRaise ?_));show wpAny _ _ (Builtin.SmallTypes.nextOf (.ref j2) >>= _) _ _ _;refine wpAny_bind (qecz hh (g2.of fun o e=>k3_ _ o D.i2z D.i12.symm D.TOi2.symm e) (s2.of fun o e=>k3_ _ o D.l2z D.l2i1 D.l2TO e) hy fun w4 e b4 hs=>?_);obtain⟨oe,e1,e2⟩:=hs;have Z4:IsZip w4 zz ti ot .ellipsis:=b4 _ _ D.i2z.symm (b3.extBut _ _ D.TOz.symm (b2.extBut _ _ D.i1z.symm Z1));have ez:e≠zz:=fun x=>by
   subst x;rw[Z4] at e1;cases e1;simp at e2
  exact wpAny_setField_rec Z4 (by simp) fun w5 _ b5=>q w5 e (fun b o c1 c2 c3 c4 x=>b5.extBut _ _ c1 (b4 _ _ c4 (k3_ b o c1 c3 c2 x))) ⟨oe,b5.extBut _ _ ez e1,e2⟩
end
end L3
namespace L3
open PySem PySem.Spec PyProof.Rows L2
open Sem (wp)
section
variable {X:Cx} {pins:List (Addr×Obj)} {σ:L2.St} {H:Hp} {s:Shared}
theorem turnedL{h':Heap}{t':Nat}{fp:List Addr}(I:L2.Inv X pins σ H s)(k:∀b o,b∉fp->s.heap.get? b=some o->h'.get? b=some o)(hf:∀b∈fp,FpOk X pins H b):L2.Inv X pins σ H { s with heap:=h',toks:=t' }:=by
 have nit:∀b u,H b=some u->b∉fp:=fun b u e z=>by rw[(hf b z).1] at e;cases e
 refine I.step (g':=s.gens) (d':=s.drawn) (ch:=fp) (fun b hb=>?_) (fun b o _ _ hc e _=>k b o hc e) (fun b o _ _ hc e _=>⟨o.slots,k b o hc e⟩) (fun _ _ _ _ n=>n) (fun b o hc e=>⟨o,k b o hc e⟩) (fun _ _ e=>e) (fun _ _ _ e=>e) (fun b ps e=>⟨#[],by rw[e];simp⟩) (fun m hm=>?_) (fun b u e=>?_) I.bare
 ·obtain⟨f0,f1,f2,f3,f4,f5⟩:=hf b hb;exact⟨f3,f1,f4,f5⟩
 ·obtain⟨o,es,ep,ho,r⟩:=hm;exact⟨o,es,ep,k _ o (fun z=>(hf _ z).2.1 rfl) ho,r⟩
 ·refine (I.hok b u e).stay (fun c v hc q=>k c v ?_ q) (fun _ q=>q) fun _ _ q=>q;rcases hc with z|z
  ·rw[z];exact nit b u e
  ·exact nit c _ z
def SqK(K:PySem.W.Frag)(k:Bool)(H:Hp)(a:Addr)(xs:List V):Prop:=match k with
 |true=>SqL K H a xs
 |false=>SqT K H a xs
theorem SqK.heap{k:Bool}{a:Addr}{xs:List V}(I:L2.Inv X pins σ H s)(h:SqK X.K k H a xs):∃its,Vals xs its/\Sk k s.heap a its.toArray:=by
 cases k with
 |true=>
  obtain⟨its,rv,p,hz⟩:=I.list (show SqL X.K H a xs from h);exact⟨its,rv,p.isList⟩
 |false=>
  obtain⟨its,rv,p,hz⟩:=I.tuple (show SqT X.K H a xs from h);exact⟨its,rv,p⟩
theorem SqK.inj{k:Bool}{a:Addr}{xs ys:List V}(I:L2.Inv X pins σ H s)(h:SqK X.K k H a xs)(h':SqK X.K k H a ys):xs=ys:=by
 cases k with
 |true=>exact I.list_inj (show SqL X.K H a xs from h) (show SqL X.K H a ys from h')
 |false=>exact I.tuple_inj (show SqT X.K H a xs from h) (show SqT X.K H a ys from h')
theorem SqK.apart{k:Bool}{a b:Addr}{xs:List V}(I:L2.Inv X pins σ H s)(h:SqK X.K k H a xs)(f:FpOk X pins H b):a≠b:=by
 intro z;subst z;have hb:(∃u,H a=some u)∨∃o,X.K.lookup a=some o:=by
  cases k <;>
  ·rcases h with (h|⟨o,h⟩)|⟨o,_,_,h,_⟩
   ·exact .inl ⟨_,h⟩
   ·exact .inl ⟨_,h⟩
   ·exact .inr ⟨_,h⟩
 rcases hb with⟨u,e⟩|⟨o,e⟩
 ·rw[f.1] at e;cases e
 ·have e2:=I.mod.kin a o e;rcases f.2.2.2.1 with q|q
  ·exact I.ok.noex a o e2 q
  ·exact absurd (Nat.lt_of_lt_of_le (Heap.lt_size (I.ok.bs a o e2).1) q) (Nat.lt_irrefl _)
end
def Itz(K:PySem.W.Frag)(k1 k2:Bool)(a1 a2:Addr):It:=
 ⟨fun i H=>∃xs ys x y,(SqK K k1 H a1 xs/\xs[i]?=some x)/\SqK K k2 H a2 ys/\ys[i]?=some y,
  fun i H x H'=>∃T u v,x=.ref T/\H T=none/\H'=upd H T (.tup [u,v])/\(∀xs,SqK K k1 H a1 xs->xs[i]?=some u)/\∀ys,SqK K k2 H a2 ys->ys[i]?=some v,
  fun i H=>∃xs ys,SqK K k1 H a1 xs/\SqK K k2 H a2 ys/\(xs.length≤i∨ys.length≤i)⟩
theorem zap{zz ti ot j1 j2 a1 a2:Addr}(h:[zz,ti,ot,j1,j2].Nodup)(h1:∀b∈[zz,ti,ot,j1,j2],a1≠b)(h2:∀b∈[zz,ti,ot,j1,j2],a2≠b):ZipApart zz ti ot j1 j2 a1 a2:=by
 simp only[List.nodup_cons,List.mem_cons,not_or,List.not_mem_nil,not_false_eq_true,List.nodup_nil,and_true] at h;obtain⟨⟨n1,n2,n3,n4⟩,⟨n5,n6,n7⟩,⟨n8,n9⟩,n10⟩:=h;exact⟨Ne.symm n1,Ne.symm n2,Ne.symm n3,Ne.symm n4,n5,n6,n7,n8,n9,n10,h1 _ (by simp),h1 _ (by simp),h1 _ (by simp),h1 _ (by simp),h2 _ (by simp),h2 _ (by simp),h2 _ (by simp),h2 _ (by simp)⟩
theorem qtbz{P:Program}{w:World}{K:PySem.W.Frag}{es:List Expr}{n0:Nat}{ps:Pos}(k1 k2:Bool)(a1 a2 zz ti ot j1 j2:Addr)(hd:[zz,ti,ot,j1,j2].Nodup):
  Turn P w K (.Tuple es n0 ps) (Itz K k1 k2 a1 a2) [zz,ti,ot,j1,j2] zz (fun i h=>IsZip h zz ti ot .none/\IsPair h ti (.ref j1) (.ref j2)/\(∃c d,IsPair h ot c d)/\Ik k1 h j1 a1 i/\Ik k2 h j2 a2 i) where
 mem:=by simp
 obj:=fun i h st b hb=>by
  obtain⟨Z,Ti,⟨c,d,To⟩,g1,g2⟩:=st;simp only[List.mem_cons,List.not_mem_nil,or_false] at hb;rcases hb with rfl|rfl|rfl|rfl|rfl
  ·exact⟨_,Z,fun v z=>by cases (show Data.fields _=Data.cell v from z)⟩
  ·exact⟨_,Ti,fun v z=>by cases (show Data.seq _ _=Data.cell v from z)⟩
  ·exact⟨_,To,fun v z=>by cases (show Data.seq _ _=Data.cell v from z)⟩
  ·exact g1.obj
  ·exact g2.obj
 keep:=fun i h h' st k=>by
  obtain⟨Z,Ti,⟨c,d,To⟩,g1,g2⟩:=st;exact⟨k _ (by simp) _ Z,k _ (by simp) _ Ti,⟨c,d,k _ (by simp) _ To⟩,g1.of fun o e=>k _ (by simp) _ e,g2.of fun o e=>k _ (by simp) _ e⟩
 item:=by
  intro X hP hw hK hc i pins s σ H E I hf st hg;subst hP hw hK;obtain⟨Z,Ti,⟨c,d,To⟩,g1,g2⟩:=st;obtain⟨xs,ys,x,y,⟨q1,hx⟩,q2,hy⟩:=hg;obtain⟨its1,rv1,p1⟩:=q1.heap I;obtain⟨its2,rv2,p2⟩:=q2.heap I;obtain⟨u,hu,ru⟩:=rv1.get hx;obtain⟨v,hv,rv⟩:=rv2.get hy;have D:=zap hd (fun b hb=>q1.apart I (hf b hb)) (fun b hb=>q2.apart I (hf b hb));have hT:s.TypeIs (.ref zz) "zip":=⟨_,Z,rfl⟩;unfold pyNext;refine wpAny_bind (wpAny_attempt (wpAny_callSpecial?_slot (name:=Str.ofString "__next__") hT F.slot_zip_next (wpAny_call_entry F.slot_zip_next hT F.entry_zip_next (zipK D Z Ti To g1 g2 p1 p2 (u:=u) (v:=v) (by simpa using hu) (by simpa using hv) fun h' Z' To' g1' g2' T' kp=>?_) (F.args_zip_next_1 _))));refine wpAny_pure ⟨_,rfl,?_⟩;refine wpAny_letOwnedTupleGo_zip Z' fun h2 Z2 b2=>?_;have hn:H s.heap.objs.size=none:=I.hok.fresh (Nat.le_refl _);have I1:L2.Inv X pins σ (upd H s.heap.objs.size (.tup [x,y])) { s with heap:=s.heap.push { cls:=.type "tuple",data:=.seq #[u,v]}}:=I.laid (t':=s.toks) (fun b o e=>Heap.get?_push_of_some _ e) (Nat.le_refl _) ⟨by show 2≤sizeLine;decide,[u,v],.cons ru (.cons rv .nil),⟨_,Heap.get?_push_size _ rfl,rfl,⟨_,rfl⟩,rfl⟩⟩;have lt:∀b∈[zz,ti,ot,j1,j2],b<s.heap.objs.size:=fun b hb=>by
   simp only[List.mem_cons,List.not_mem_nil,or_false] at hb;rcases hb with rfl|rfl|rfl|rfl|rfl
   ·exact Heap.lt_size Z
   ·exact Heap.lt_size Ti
   ·exact Heap.lt_size To
   ·obtain⟨o,e,_⟩:=g1.obj;exact Heap.lt_size e
   ·obtain⟨o,e,_⟩:=g2.obj;exact Heap.lt_size e
  have hf':∀b∈[zz,ti,ot,j1,j2],FpOk X pins (upd H s.heap.objs.size (.tup [x,y])) b:=fun b hb=>⟨by rw[qiz (Nat.ne_of_lt (lt b hb))];exact (hf b hb).1,(hf b hb).2⟩;have I2:L2.Inv X pins σ (upd H s.heap.objs.size (.tup [x,y])) { s with heap:=h2 }:=turnedL (s:={ s with heap:=s.heap.push { cls:=.type "tuple",data:=.seq #[u,v]}}) (t':=s.toks) I1 (fun b o hb e=>by
   simp only[List.mem_cons,List.not_mem_nil,or_false,not_or] at hb;refine b2.extBut b o hb.1 ?_;rcases Heap.get?_push_cases e with⟨rfl,rfl⟩|e
   ·exact T'
   ·exact kp b o hb.1 hb.2.2.1 hb.2.2.2.1 hb.2.2.2.2 e) hf'
  refine⟨.ref s.heap.objs.size,_,I2,rfl,⟨_,x,y,rfl,hn,rfl,fun zs hz=>by rw[hz.inj I q1];exact hx,fun zs hz=>by rw[hz.inj I q2];exact hy⟩,⟨Z2,?_,⟨u,v,?_⟩,g1'.of fun o e=>b2.extBut _ _ D.i1z e,g2'.of fun o e=>b2.extBut _ _ D.i2z e⟩,fun b hb=>(hf' b hb).1⟩
  ·exact b2.extBut _ _ D.TIz (kp _ _ D.TIz D.TITO D.TIi1 D.TIi2 Ti)
  ·exact b2.extBut _ _ D.TOz To'
 done:=by
  intro X hP hw hK hc i pins s σ H E I hf st hg;subst hP hw hK;obtain⟨Z,Ti,⟨c,d,To⟩,g1,g2⟩:=st;obtain⟨xs,ys,q1,q2,hl⟩:=hg;obtain⟨its1,rv1,p1⟩:=q1.heap I;obtain⟨its2,rv2,p2⟩:=q2.heap I;have D:=zap hd (fun b hb=>q1.apart I (hf b hb)) (fun b hb=>q2.apart I (hf b hb));have hT:s.TypeIs (.ref zz) "zip":=⟨_,Z,rfl⟩;have l1:=rv1.length;have l2:=rv2.length;unfold pyNext;refine wpAny_bind (wpAny_attempt (wpAny_callSpecial?_slot (name:=Str.ofString "__next__") hT F.slot_zip_next (wpAny_call_entry F.slot_zip_next hT F.entry_zip_next (qtaz (I.ok.hd hc) D Z Ti To g1 g2 p1 p2 (by
   rcases hl with h|h
   ·exact .inl (by simp;omega)
   ·exact .inr (by simp;omega)) fun h' e kp hs=>?_) (F.args_zip_next_1 _))))
  obtain⟨o,ho,hcl⟩:=hs;refine wpAny_bind (wpAny_isInstance (T:="StopIteration") (b:=true) ⟨o,ho,hcl⟩ isSubtype_stop ?_);refine wpAny_pure ⟨rfl,turnedL (t':=s.toks) I (fun b o hb e=>?_) hf⟩;simp only[List.mem_cons,List.not_mem_nil,or_false,not_or] at hb;exact kp b o hb.1 hb.2.2.1 hb.2.2.2.1 hb.2.2.2.2 e
 self:=fun _ _ _ _ _ st h=>wpAny_pyIter_zip st.1 h
def itO(k:Bool)(a:Addr):Obj:=match k with
 |true=>{ cls:=.type "list_iterator",data:=.fields #[.ref a,.int 0 0]}
 |false=>{ cls:=.type "tuple_iterator",data:=.fields #[.ref a,.int 0 0]}
def zw1(k1:Bool)(h:Heap)(a1:Addr):Heap:=h.push (itO k1 a1)
def zw2(k1 k2:Bool)(h:Heap)(a1 a2:Addr):Heap:=(zw1 k1 h a1).push (itO k2 a2)
def zw3(k1 k2:Bool)(h:Heap)(a1 a2:Addr):Heap:=(zw2 k1 k2 h a1 a2).push { cls:=.type "tuple",data:=.seq #[.ref h.objs.size,.ref (zw1 k1 h a1).objs.size]}
def zw4(k1 k2:Bool)(h:Heap)(a1 a2:Addr):Heap:=(zw3 k1 k2 h a1 a2).push { cls:=.type "tuple",data:=.seq #[.none,.none]}
def zw5(k1 k2:Bool)(h:Heap)(a1 a2:Addr):Heap:=(zw4 k1 k2 h a1 a2).push { cls:=.type "zip",data:=.fields #[.none,.bool false,.bool false,.ref (zw2 k1 k2 h a1 a2).objs.size,.ref (zw3 k1 k2 h a1 a2).objs.size]}
theorem itK{k:Bool}{h:Heap}{jt a:Addr}(e:h.get? jt=some (itO k a)):Ik k h jt a 0:=by
 cases k<;>exact⟨_,e,rfl,rfl⟩
theorem qjrz{k:Bool}{a:Addr}:(itO k a).isFreed=false:=by cases k<;>rfl
theorem qtcz(k1 k2:Bool)(a1 a2:Addr)(xs ys:Array Value):Meets (Builtin.«zip.__new__» ⟨[.type "zip",.ref a1,.ref a2],[]⟩) (fun _ R s=>Sk k1 s.heap a1 xs/\Sk k2 s.heap a2 ys ∧
   R (.ok (.ret (.ref (zw4 k1 k2 s.heap a1 a2).objs.size))) { s with heap:=zw5 k1 k2 s.heap a1 a2 }):=
 .of_wp fun prog w A R s h=>by
  obtain⟨hp,g,d,tk,os⟩:=s;obtain⟨h1,h2,h⟩:=h;have hsub:=sub_zip;cases k1<;>cases k2
  ·have q1:Heap.IsTuple (Shared.heap ⟨hp,g,d,tk,os⟩) a1 xs:=h1;have q2:Heap.IsTuple (Shared.heap ⟨hp.push { cls:=.type "tuple_iterator",data:=.fields #[.ref a1,.int 0 0]},g,d,tk,os⟩) a2 ys:=Heap.IsTuple.push h2 _;wp_walk using wpAny_pyIter_tuple q1,wpAny_pyIter_tuple q2;exact⟨_,rfl,h⟩
  ·have q1:Heap.IsTuple (Shared.heap ⟨hp,g,d,tk,os⟩) a1 xs:=h1;have q2:Heap.IsList (Shared.heap ⟨hp.push { cls:=.type "tuple_iterator",data:=.fields #[.ref a1,.int 0 0]},g,d,tk,os⟩) a2 ys:=Heap.IsList.push h2 _;wp_walk using wpAny_pyIter_tuple q1,wpAny_pyIter_list q2;exact⟨_,rfl,h⟩
  ·have q1:Heap.IsList (Shared.heap ⟨hp,g,d,tk,os⟩) a1 xs:=h1;have q2:Heap.IsTuple (Shared.heap ⟨hp.push { cls:=.type "list_iterator",data:=.fields #[.ref a1,.int 0 0]},g,d,tk,os⟩) a2 ys:=Heap.IsTuple.push h2 _;wp_walk using wpAny_pyIter_list q1,wpAny_pyIter_tuple q2;exact⟨_,rfl,h⟩
  ·have q1:Heap.IsList (Shared.heap ⟨hp,g,d,tk,os⟩) a1 xs:=h1;have q2:Heap.IsList (Shared.heap ⟨hp.push { cls:=.type "list_iterator",data:=.fields #[.ref a1,.int 0 0]},g,d,tk,os⟩) a2 ys:=Heap.IsList.push h2 _;wp_walk using wpAny_pyIter_list q1,wpAny_pyIter_list q2;exact⟨_,rfl,h⟩
theorem qjsz{k1 k2:Bool}{h:Heap}{a1 a2:Addr}:IsZip (zw5 k1 k2 h a1 a2) (h.objs.size+4) (h.objs.size+2) (h.objs.size+3) .none/\IsPair (zw5 k1 k2 h a1 a2) (h.objs.size+2) (.ref h.objs.size) (.ref (h.objs.size+1))/\IsPair (zw5 k1 k2 h a1 a2) (h.objs.size+3) .none .none ∧
  Ik k1 (zw5 k1 k2 h a1 a2) h.objs.size a1 0/\Ik k2 (zw5 k1 k2 h a1 a2) (h.objs.size+1) a2 0/\(zw4 k1 k2 h a1 a2).objs.size=h.objs.size+4/\∀c o,h.get? c=some o->(zw5 k1 k2 h a1 a2).get? c=some o:=by
 have e1:(zw1 k1 h a1).objs.size=h.objs.size+1:=Heap.size_push ..;have e2:(zw2 k1 k2 h a1 a2).objs.size=h.objs.size+2:=(Heap.size_push ..).trans (by rw[e1]);have e3:(zw3 k1 k2 h a1 a2).objs.size=h.objs.size+3:=(Heap.size_push ..).trans (by rw[e2]);have e4:(zw4 k1 k2 h a1 a2).objs.size=h.objs.size+4:=(Heap.size_push ..).trans (by rw[e3]);have u5:∀c o,(zw4 k1 k2 h a1 a2).get? c=some o->(zw5 k1 k2 h a1 a2).get? c=some o:=fun c o e=>Heap.get?_push_of_some _ e;have u4:∀c o,(zw3 k1 k2 h a1 a2).get? c=some o->(zw5 k1 k2 h a1 a2).get? c=some o:=fun c o e=>u5 c o (Heap.get?_push_of_some _ e);have u3:∀c o,(zw2 k1 k2 h a1 a2).get? c=some o->(zw5 k1 k2 h a1 a2).get? c=some o:=fun c o e=>u4 c o (Heap.get?_push_of_some _ e);have u2:∀c o,(zw1 k1 h a1).get? c=some o->(zw5 k1 k2 h a1 a2).get? c=some o:=fun c o e=>u3 c o (Heap.get?_push_of_some _ e);have u1:∀c o,h.get? c=some o->(zw5 k1 k2 h a1 a2).get? c=some o:=fun c o e=>u2 c o (Heap.get?_push_of_some _ e);have g5:(zw5 k1 k2 h a1 a2).get? (zw4 k1 k2 h a1 a2).objs.size=some _:=Heap.get?_push_size _ rfl;have g4:(zw5 k1 k2 h a1 a2).get? (zw3 k1 k2 h a1 a2).objs.size=some _:=u5 _ _ (Heap.get?_push_size _ rfl);have g3:(zw5 k1 k2 h a1 a2).get? (zw2 k1 k2 h a1 a2).objs.size=some _:=u4 _ _ (Heap.get?_push_size _ rfl);have g2:(zw5 k1 k2 h a1 a2).get? (zw1 k1 h a1).objs.size=some (itO k2 a2):=u3 _ _ (Heap.get?_push_size _ qjrz);have g1:(zw5 k1 k2 h a1 a2).get? h.objs.size=some (itO k1 a1):=u2 _ _ (Heap.get?_push_size _ qjrz);rw[e2,e3,e4] at g5;rw[e1,e2] at g3;rw[e3] at g4;rw[e1] at g2;exact⟨g5,g3,g4,itK g1,itK g2,e4,u1⟩
theorem qtdz{P:Program}{w:World}{A:Around}{E:Value->Shared->Prop}{s:Shared}{k1 k2:Bool}{a1 a2:Addr}{xs ys:Array Value}{Q:Value->Shared->Prop}(h1:Sk k1 s.heap a1 xs)(h2:Sk k2 s.heap a2 ys)
  (q:Q (.ref (s.heap.objs.size+4)) { s with heap:=zw5 k1 k2 s.heap a1 a2 }):wpAny (model P w) A (call (.type "zip") [.ref a1,.ref a2]) Q E s:=by
 refine callType_new F.called_zip (by decide) (F.typeCall_zip_2 _ _) (F.newCall_zip_2 _ _) (fun obj=>F.args_object_init_3 obj _ _) F.entry_zip_new (qtcz k1 k2 a1 a2 xs ys) ⟨h1,h2,?_⟩;obtain⟨z1,_,_,_,_,z2,_⟩:=qjsz (k1:=k1) (k2:=k2) (h:=s.heap) (a1:=a1) (a2:=a2);show _/\_;rw[z2];exact⟨⟨_,z1,rfl⟩,q⟩
section
variable {X:Cx} {es:List Expr} {n0:Nat} {ps p pos:Pos}
def jZip(K:PySem.W.Frag)(ta:TA):TI:=fun σ H R=>ta σ H fun vs H1=>∃k1 k2 a1 a2,vs=[.ref a1,.ref a2]/\(∃xs,SqK K k1 H1 a1 xs)/\(∃ys,SqK K k2 H1 a2 ys)/\R (Itz K k1 k2 a1 a2) H1
theorem qtez{a b:Expr}{ta:TA}(hg:Gl X "zip")(hm:X.mg "zip" = none)(ha:PA X [a,b] ta)(hs:starEach [a,b] X.env=[(false,eval a X.env),(false,eval b X.env)]:=by rfl)(hs2:starEach [b] X.env=[(false,eval b X.env)]:=by rfl):
  PI X (.Tuple es n0 ps) (.Call (.Name "zip" p) [a,b] [] pos) (jZip X.K ta):=by
 intro pins s σ H R I h;refine Call_ (qaxz I hg hm boot_zip (PyProof.Rows.callWith_type1 (thn (ha pos pins s σ H _ I h) fun us s1 ⟨vs,H1,I1,r1,q1⟩=>?_) (by rw[hs,hs2]) (by rw[hs2];rfl)));obtain⟨k1,k2,a1,a2,e,⟨xs,q1⟩,⟨ys,q2⟩,q⟩:=q1;subst e;cases r1 with
 |cons r rr=>
  cases rr with
  |cons r' rr=>
   cases rr;cases r;cases r';obtain⟨its1,rv1,p1⟩:=q1.heap I1;obtain⟨its2,rv2,p2⟩:=q2.heap I1;refine qtdz p1 p2 ?_;obtain⟨z1,z2,z3,z4,z5,z6,z7⟩:=qjsz (k1:=k1) (k2:=k2) (h:=s1.heap) (a1:=a1) (a2:=a2);refine wpAny_pyIter_zip (s:={ s1 with heap:=zw5 k1 k2 s1.heap a1 a2 }) z1 ?_
   refine⟨s1.heap.objs.size+4,[s1.heap.objs.size+4,s1.heap.objs.size+2,s1.heap.objs.size+3,s1.heap.objs.size,s1.heap.objs.size+1],_,_,H1,rfl,I1.kept (t':=s1.toks) z7,qtbz k1 k2 a1 a2 _ _ _ _ _ (by simp),⟨z1,z2,⟨_,_,z3⟩,z4,z5⟩,fun b hb=>?_,q⟩;have hb:s1.heap.objs.size≤b:=by
    simp only[List.mem_cons,List.not_mem_nil,or_false] at hb;rcases hb with rfl|rfl|rfl|rfl|rfl
    ·exact Nat.le_add_right _ _
    ·exact Nat.le_add_right _ _
    ·exact Nat.le_add_right _ _
    ·exact Nat.le_refl _
    ·exact Nat.le_add_right _ _
   exact I1.fpOk hb (I1.hok.fresh hb)
def seqD(G:Gp):D->List D->Prop
 |.obj p,ds=>G p=some (.lst ds)
 |.tup es,ds=>ds=es
 |.scr es,ds=>ds=es
 |_,_=>False
def zipD(xs ys:List D):List D:=List.zipWith (fun x y=>.tup [x,y]) xs ys
def iZip(ta:TA3):TI3:=fun τ G R=>ta τ G fun ds G1=>match ds with
 |[x,y]=>∃xs ys,seqD G1 x xs/\seqD G1 y ys/\R ⟨zipD xs ys,fun G=>seqD G x xs/\seqD G y ys⟩ G1
 |_=>False
theorem qfzz{K:PySem.W.Frag}{H:Hp}{x:D}{v:V}(hv:Hv K H x v):∃k,∀H' G' xs,Ext H H'->RepG K G' H'->seqD G' x xs->∃a vs,v=.ref a/\SqK K k H' a vs/\Hvs K H' xs vs:=by
 cases x with
 |obj p=>
  unfold Hv at hv;subst hv;refine⟨true,fun H' G' xs E RG h=>?_⟩;obtain⟨vs,e2,e3⟩:=RG p _ h;exact⟨p,vs,rfl,SqL.of e2,e3⟩
 |tup es=>
  unfold Hv at hv;obtain⟨a,vs,rfl,e2,e3⟩:=hv;refine⟨false,fun H' G' xs E RG h=>?_⟩;cases (show xs=es from h);exact⟨a,vs,rfl,SqT.ext E e2,e3.ext E⟩
 |scr es=>
  unfold Hv at hv;obtain⟨a,vs,rfl,e2,e3⟩:=hv;refine⟨true,fun H' G' xs E RG h=>?_⟩;cases (show xs=es from h);exact⟨a,vs,rfl,(SqF.ext E e2).l,e3.ext E⟩
 |non=>exact⟨true,fun _ _ _ _ _ h=>h.elim⟩
 |bl _=>exact⟨true,fun _ _ _ _ _ h=>h.elim⟩
 |int _=>exact⟨true,fun _ _ _ _ _ h=>h.elim⟩
 |str _=>exact⟨true,fun _ _ _ _ _ h=>h.elim⟩
 |dc _=>exact⟨true,fun _ _ _ _ _ h=>h.elim⟩
theorem qjtz{xs ys:List D}{i:Nat}{d:D}(h:(zipD xs ys)[i]?=some d):∃x y,xs[i]?=some x/\ys[i]?=some y/\d=.tup [x,y]:=by
 unfold zipD at h;rw[List.getElem?_zipWith] at h;cases hx:xs[i]? with
 |none=>rw[hx] at h;cases h
 |some x=>
  cases hy:ys[i]? with
  |none=>rw[hx,hy] at h;cases h
  |some y=>
   rw[hx,hy] at h;cases h;exact⟨x,y,rfl,rfl,rfl⟩
theorem qtfz{a b:Expr}{ta:TA3}(hm:X.mg "zip" = none)(ha:PA3 X [a,b] ta)(hg:Gl X "zip":=by rfl)(hs:notStar a=true:=by rfl)(hs2:notStar b=true:=by rfl):
  PI3 X (.Tuple es n0 ps) (.Call (.Name "zip" p) [a,b] [] pos) (iZip ta):=
 qdvz (qtez hg hm ha (by rw[qjz hs,qjz hs2];rfl) (qjz hs2)) fun σ H R ⟨τ,G,R3,RS,RG,h,k⟩=>⟨τ,G,_,RS,RG,h,fun vs H1 ds G1 h1 S1 R1 q1=>by
  rcases ds with _|⟨d,_|⟨d2,_|⟨d3,ds⟩⟩⟩
  ·exact q1.elim
  ·exact q1.elim
  ·obtain⟨xs,ys,s1,s2,q⟩:=q1;obtain⟨v,r,rfl,z1,z2⟩:=h1.inv;obtain⟨v',r',rfl,z3,z4⟩:=z2.inv;cases z4.inv0;obtain⟨k1,f1⟩:=qfzz z1;obtain⟨k2,f2⟩:=qfzz z3;obtain⟨a1,vs1,rfl,y1,w1⟩:=f1 _ _ _ (Ext.refl _) R1 s1;obtain⟨a2,vs2,rfl,y2,w2⟩:=f2 _ _ _ (Ext.refl _) R1 s2;refine⟨k1,k2,a1,a2,rfl,⟨_,y1⟩,⟨_,y2⟩,k _ _ _ _ ⟨?_,?_⟩ S1 R1 q⟩
   ·intro i d H' G' E' RG' hg hi;obtain⟨x,y,e1,e2,rfl⟩:=qjtz hi;obtain⟨b1,us1,c1,m1,n1⟩:=f1 _ _ _ E' RG' hg.1;obtain⟨b2,us2,c2,m2,n2⟩:=f2 _ _ _ E' RG' hg.2;cases c1;cases c2;obtain⟨u1,o1,o2⟩:=n1.get e1;obtain⟨u2,o3,o4⟩:=n2.get e2;refine⟨⟨_,_,_,_,⟨m1,o1⟩,m2,o3⟩,fun x' H'' hy=>?_⟩;obtain⟨T,u,v,rfl,hn,rfl,t1,t2⟩:=hy;have:=t1 _ m1;rw[o1] at this;cases this;have:=t2 _ m2;rw[o3] at this;cases this;refine⟨?_,.laid hn,RG'.laid hn⟩;unfold Hv;exact⟨T,_,rfl,.of qrz,.cons (o2.ext (.laid hn)) (.cons (o4.ext (.laid hn)) .nil)⟩
   ·intro i H' G' E' RG' hg hi;obtain⟨b1,us1,c1,m1,n1⟩:=f1 _ _ _ E' RG' hg.1;obtain⟨b2,us2,c2,m2,n2⟩:=f2 _ _ _ E' RG' hg.2;cases c1;cases c2;refine⟨_,_,m1,m2,?_⟩;have hi:(zipD xs ys).length≤i:=hi;unfold zipD at hi;rw[List.length_zipWith] at hi;rw[←n1.length,←n2.length];omega
  ·exact q1.elim⟩
end
end L3
namespace L3
open PySem PySem.Spec PyProof.Rows L2
open Sem (wp)
theorem drawsK{P:Program}{w:World}{A:Around}{k:Bool}(hh:A.handled=none)(it a:Addr)(hne:a≠it)(xs:Array Value):
  Draws P w A it [it,a] xs.size (fun i v=>xs[i]?=some v) (fun i h=>Ik k h it a i/\Sk k h a xs) where
 live:=fun _ _ st=>let ⟨o,ho,_⟩:=st.1.obj;⟨o,ho⟩
 frame:=fun _ _ _ st hk=>⟨st.1.of fun o e=>hk it (by simp) o e,st.2.of fun o e=>hk a (by simp) o e⟩
 item:=fun i s Q E hi st hQ=>by
  refine nextK st.1 st.2 (u:=xs[i]) (by simp[hi]) fun h' hit' hs'=>?_;exact hQ _ h' s.toks (by simp[hi]) ⟨hit',st.2.of fun o e=>hs'.extBut a o hne e⟩ hs'
 done:=fun s Q E st hE=>qecz hh st.1 st.2 (by simp) hE
section
variable {P:Program} {w:World} {A:Around} {E:Value->Shared->Prop} {s:Shared}
theorem qtgz{k:Bool}{e it a:Addr}{i:Int}{j:Nat}{xs:Array Value}{old:Value}{Q:Option Value->Shared->Prop}(hh:A.handled=none)(he:IsEnum s.heap e it i old)(hi:Ik k s.heap it a j)(ha:Sk k s.heap a xs)(hx:xs[j]?=none)
  (hQ:∀h',Heap.ExtBut it s.heap h'->Q none { s with heap:=h' }):wpAny (model P w) A (pyNext (.ref e)) Q E s:=by
 have hT:s.TypeIs (.ref e) "enumerate":=⟨_,he,rfl⟩;unfold pyNext;refine wpAny_bind (wpAny_attempt (wpAny_callSpecial?_slot (name:=Str.ofString "__next__") hT F.slot_enumerate_next
  (wpAny_call_entry F.slot_enumerate_next hT F.entry_enumerate_next ?_ (F.args_enumerate_next_1 _))))
 show wpAny _ _ (field (.ref e) 2 >>= _) _ _ _;refine wpAny_bind (wpAny_field he rfl (x:=.ref it) rfl ?_);refine wpAny_bind (qecz (by simpa using hh) hi ha hx fun h' x he' hx'=>?_);obtain⟨o,ho,hc⟩:=hx';refine wpAny_bind (wpAny_isInstance (T:="StopIteration") (b:=true) ⟨o,ho,hc⟩ isSubtype_stop ?_);exact wpAny_pure (hQ _ he')
open AutoSeq1 (wpAny_loadPart') in
theorem qthz(l:Addr)(items:Array Value)(n:Nat)(dct:Option Addr)(sl:Array (Option Value)):
  Meets (Builtin.«enumerate.__new__» ⟨[.type "enumerate",.ref l],[]⟩) (fun _ R s=>s.heap.get? l=some { cls:=.type "tuple",dict:=dct,data:=.seq items n,slots:=sl } ∧
   R (.ok (.ret (.ref (s.heap.push { cls:=.type "tuple_iterator",data:=.fields #[.ref l,.int 0 0]}).objs.size)))
    { s with heap:=(s.heap.push { cls:=.type "tuple_iterator",data:=.fields #[.ref l,.int 0 0]}).push { cls:=.type "enumerate",data:=.fields #[.none,.bool false,.ref s.heap.objs.size,rawInt 0,.none,.none]}}):=
 .of_wp fun prog w A R s h=>by
  obtain⟨hp,g,d,tk,os⟩:=s;obtain⟨hl,h⟩:=h;have hsub:=sub_enumerate;have hL:Heap.IsTuple (Shared.heap ⟨hp,g,d,tk,os⟩) l items:=⟨_,hl,rfl,n,rfl⟩;wp_walk using wpAny_loadPart' hl;refine wpAny_stack_any fun st=>wpAny_pure ?_;split
  ·rename_i c _ _ _ _ _;cases (c==Value.type "enumerate")
   ·wp_walk using wpAny_loadPart' hl,wpAny_pyIter_tuple hL;exact⟨_,rfl,h⟩
   ·wp_walk using wpAny_loadPart' hl,wpAny_pyIter_tuple hL;exact⟨_,rfl,h⟩
  ·wp_walk using wpAny_loadPart' hl,wpAny_pyIter_tuple hL;exact⟨_,rfl,h⟩
theorem qtiz{l:Addr}{items:Array Value}{Q:Value->Shared->Prop}(hL:s.heap.IsTuple l items)
  (h:∀h',IsEnum h' (s.heap.objs.size+1) s.heap.objs.size 0 .none->h'.IsTupleIter s.heap.objs.size l 0->h'.objs.size=s.heap.objs.size+2 ->
   (∀b o,s.heap.get? b=some o->h'.get? b=some o)->Q (.ref (s.heap.objs.size+1)) { s with heap:=h' }):
  wpAny (model P w) A (call (.type "enumerate") [.ref l]) Q E s:=by
 obtain⟨⟨c,dct,dt,sl⟩,hl,hc,n,hd⟩:=hL
 replace hc:c=.type "tuple":=hc
 replace hd:dt=.seq items n:=hd
 subst hc hd;refine callType_new F.called_enumerate (by decide) (F.typeCall_enumerate_1 _) (F.newCall_enumerate_1 _) (fun obj=>F.args_object_init_2 obj _) F.entry_enumerate_new
  (qthz l items n dct sl) ⟨hl,?_⟩
 have hz:(s.heap.push { cls:=.type "tuple_iterator",data:=.fields #[.ref l,.int 0 0]}).objs.size=s.heap.objs.size+1:=Heap.size_push ..;show _/\_;rw[hz];have he:IsEnum ((s.heap.push { cls:=.type "tuple_iterator",data:=.fields #[.ref l,.int 0 0]}).push
   { cls:=.type "enumerate",data:=.fields #[.none,.bool false,.ref s.heap.objs.size,rawInt 0,.none,.none]}) (s.heap.objs.size+1) s.heap.objs.size 0 .none:=by
  have:=Heap.get?_push_size (s.heap.push { cls:=.type "tuple_iterator",data:=.fields #[.ref l,.int 0 0]})
   (o:={ cls:=.type "enumerate",data:=.fields #[.none,.bool false,.ref s.heap.objs.size,rawInt 0,.none,.none]}) rfl
  rw[hz] at this;exact this
 refine⟨⟨_,he,rfl⟩,h _ he ⟨_,Heap.get?_push_of_some _ (Heap.get?_push_size _ rfl),rfl,rfl⟩ (by rw[Heap.size_push,hz]) fun b o x=>Heap.get?_push_of_some _ (Heap.get?_push_of_some _ x)⟩
theorem qtjz{k:Bool}{l:Addr}{items:Array Value}{Q:Value->Shared->Prop}(hL:Sk k s.heap l items)
  (h:∀h',IsEnum h' (s.heap.objs.size+1) s.heap.objs.size 0 .none->Ik k h' s.heap.objs.size l 0->h'.objs.size=s.heap.objs.size+2 ->
   (∀b o,s.heap.get? b=some o->h'.get? b=some o)->Q (.ref (s.heap.objs.size+1)) { s with heap:=h' }):
  wpAny (model P w) A (call (.type "enumerate") [.ref l]) Q E s:=by
 cases k with
 |true=>exact call_enumerate_list hL h
 |false=>exact qtiz hL h
end
def Itn(K:PySem.W.Frag)(k:Bool)(a:Addr):It:=
 ⟨fun i H=>∃xs x,SqK K k H a xs/\xs[i]?=some x,
  fun i H x H'=>∃T u,x=.ref T/\H T=none/\H'=upd H T (.tup [.int i,u])/\∀xs,SqK K k H a xs->xs[i]?=some u,
  fun i H=>∃xs,SqK K k H a xs/\xs.length≤i⟩
theorem qtkz{P:Program}{w:World}{K:PySem.W.Frag}{es:List Expr}{n0:Nat}{ps:Pos}(k:Bool)(a en jt:Addr)(hne:en≠jt):
  Turn P w K (.Tuple es n0 ps) (Itn K k a) [en,jt] en (fun i h=>(∃old,IsEnum h en jt i old)/\Ik k h jt a i) where
 mem:=by simp
 obj:=fun i h st b hb=>by
  obtain⟨⟨old,Z⟩,g⟩:=st;simp only[List.mem_cons,List.not_mem_nil,or_false] at hb;rcases hb with rfl|rfl
  ·exact⟨_,Z,fun v z=>by cases (show Data.fields _=Data.cell v from z)⟩
  ·exact g.obj
 keep:=fun i h h' st k=>⟨let ⟨old,Z⟩:=st.1;⟨old,k _ (by simp) _ Z⟩,st.2.of fun o e=>k _ (by simp) _ e⟩
 item:=by
  intro X hP hw hK hc i pins s σ H E I hf st hg;subst hP hw hK;obtain⟨⟨old,Z⟩,g⟩:=st;obtain⟨xs,x,q1,hx⟩:=hg;obtain⟨its,rv,p⟩:=SqK.heap I q1;obtain⟨u,hu,ru⟩:=rv.get hx;have hi:i<its.toArray.size:=by
   have:=(List.getElem?_eq_some_iff.mp hu).1;simpa using this
  have hja:a≠jt:=SqK.apart I q1 (hf jt (by simp));have hea:a≠en:=SqK.apart I q1 (hf en (by simp));refine wpAny_pyNext_enum_itemD (drawsK (k:=k) (by have:=I.ok.hd hc;simpa using this) jt a hja its.toArray) Z ⟨g,p⟩ hi hne (by simp[hne,hea.symm]) fun x2 h' tk hx2 Z' g' T' sz kp=>⟨_,rfl,?_⟩;have ex:x2=u:=by
   have:its.toArray[i]?=some u:=by simpa using hu
   rw[hx2] at this;exact Option.some.inj this
  subst ex;refine wpAny_letOwnedTupleGo_enum (s:={ s with heap:=h',toks:=tk+1 }) Z' fun h2 Z2 b2=>?_;have hn:H s.heap.objs.size=none:=I.hok.fresh (Nat.le_refl _);have I1:L2.Inv X pins σ (upd H s.heap.objs.size (.tup [.int i,x])) { s with heap:=s.heap.push { cls:=.type "tuple",data:=.seq #[.int i tk,x2]}}:=I.laid (t':=s.toks) (fun b o e=>Heap.get?_push_of_some _ e) (Nat.le_refl _) ⟨by show 2≤sizeLine;decide,[.int i tk,x2],.cons ⟨_,rfl⟩ (.cons ru .nil),⟨_,Heap.get?_push_size _ rfl,rfl,⟨_,rfl⟩,rfl⟩⟩;have lt:∀b∈[en,jt],b<s.heap.objs.size:=fun b hb=>by
   simp only[List.mem_cons,List.not_mem_nil,or_false] at hb;rcases hb with rfl|rfl
   ·exact Heap.lt_size Z
   ·obtain⟨o,e,_⟩:=g.obj;exact Heap.lt_size e
  have hf':∀b∈[en,jt],FpOk X pins (upd H s.heap.objs.size (.tup [.int i,x])) b:=fun b hb=>⟨by rw[qiz (Nat.ne_of_lt (lt b hb))];exact (hf b hb).1,(hf b hb).2⟩;have I2:L2.Inv X pins σ (upd H s.heap.objs.size (.tup [.int i,x])) { s with heap:=h2,toks:=tk+1 }:=turnedL (s:={ s with heap:=s.heap.push { cls:=.type "tuple",data:=.seq #[.int i tk,x2]}}) (t':=tk+1) I1 (fun b o hb e=>by
   simp only[List.mem_cons,List.not_mem_nil,or_false,not_or] at hb;refine b2.extBut b o hb.1 ?_;rcases Heap.get?_push_cases e with⟨rfl,rfl⟩|e
   ·exact T'
   ·exact kp b o hb.1 hb.2 e) hf'
  exact⟨.ref s.heap.objs.size,_,I2,rfl,⟨_,x,rfl,hn,rfl,fun zs hz=>by rw[SqK.inj I hz q1];exact hx⟩,⟨⟨_,Z2⟩,g'.1.of fun o e=>b2.extBut jt o hne.symm e⟩,fun b hb=>(hf' b hb).1⟩
 done:=by
  intro X hP hw hK hc i pins s σ H E I hf st hg;subst hP hw hK;obtain⟨⟨old,Z⟩,g⟩:=st;obtain⟨xs,q1,hl⟩:=hg;obtain⟨its,rv,p⟩:=SqK.heap I q1;have l1:=rv.length;exact qtgz (I.ok.hd hc) Z g p (by simp;omega) fun h' kp=>⟨rfl,turnedL (t':=s.toks) I (fun b o hb e=>by
   simp only[List.mem_cons,List.not_mem_nil,or_false,not_or] at hb;exact kp b o hb.2 e) hf⟩
 self:=fun _ _ _ _ _ st h=>let ⟨⟨_,Z⟩,_⟩:=st;wpAny_pyIter_enum Z h
section
variable {X:Cx} {es:List Expr} {n0:Nat} {ps p pos:Pos}
def jEnum(K:PySem.W.Frag)(ta:TA):TI:=fun σ H R=>ta σ H fun vs H1=>∃k a,vs=[.ref a]/\(∃xs,SqK K k H1 a xs)/\R (Itn K k a) H1
theorem qtlz{a:Expr}{ta:TA}(hg:Gl X "enumerate")(hm:X.mg "enumerate" = none)(ha:PA X [a] ta)(hs:starEach [a] X.env=[(false,eval a X.env)]:=by rfl):PI X (.Tuple es n0 ps) (.Call (.Name "enumerate" p) [a] [] pos) (jEnum X.K ta):=by
 intro pins s σ H R I h;refine Call_ (qaxz I hg hm boot_enumerate (PyProof.Rows.callWith_type1 (thn (ha pos pins s σ H _ I h) fun us s1 ⟨vs,H1,I1,r1,q1⟩=>?_) hs rfl));obtain⟨k,a1,e,⟨xs,q1⟩,q⟩:=q1;subst e;cases r1 with
 |cons r rr=>
  cases rr;cases r;obtain⟨its,rv,p⟩:=SqK.heap I1 q1;refine qtjz p fun h' z1 z2 z3 z4=>?_;refine wpAny_pyIter_enum (s:={ s1 with heap:=h' }) z1 ?_
  refine⟨s1.heap.objs.size+1,[s1.heap.objs.size+1,s1.heap.objs.size],_,_,H1,rfl,I1.kept (t':=s1.toks) z4,qtkz k a1 _ _ (by simp),⟨⟨_,z1⟩,z2⟩,fun b hb=>?_,q⟩;have hb:s1.heap.objs.size≤b:=by
   simp only[List.mem_cons,List.not_mem_nil,or_false] at hb;rcases hb with rfl|rfl
   ·exact Nat.le_add_right _ _
   ·exact Nat.le_refl _
  exact I1.fpOk hb (I1.hok.fresh hb)
def enumD(xs:List D):List D:=zipD (rngL 0 xs.length) xs
def iEnum(ta:TA3):TI3:=fun τ G R=>ta τ G fun ds G1=>match ds with
 |[x]=>∃xs,seqD G1 x xs/\R ⟨enumD xs,fun G=>seqD G x xs⟩ G1
 |_=>False
theorem qtmz{a:Expr}{ta:TA3}(hm:X.mg "enumerate" = none)(ha:PA3 X [a] ta)(hg:Gl X "enumerate":=by rfl)(hs:notStar a=true:=by rfl):
  PI3 X (.Tuple es n0 ps) (.Call (.Name "enumerate" p) [a] [] pos) (iEnum ta):=
 qdvz (qtlz hg hm ha (qjz hs)) fun σ H R ⟨τ,G,R3,RS,RG,h,k⟩=>⟨τ,G,_,RS,RG,h,fun vs H1 ds G1 h1 S1 R1 q1=>by
  rcases ds with _|⟨d,_|⟨d2,ds⟩⟩
  ·exact q1.elim
  ·obtain⟨xs,s1,q⟩:=q1;obtain⟨v,r,rfl,z1,z2⟩:=h1.inv;cases z2.inv0;obtain⟨kk,hsq⟩:=qfzz z1;obtain⟨a1,vs1,rfl,y1,w1⟩:=hsq _ _ _ (Ext.refl _) R1 s1;refine⟨kk,a1,rfl,⟨_,y1⟩,k _ _ _ _ ⟨?_,?_⟩ S1 R1 q⟩
   ·intro i d H' G' E' RG' hg hi;obtain⟨x,y,e1,e2,rfl⟩:=qjtz hi;obtain⟨b1,us1,c1,m1,n1⟩:=hsq _ _ _ E' RG' hg;cases c1;obtain⟨u1,o1,o2⟩:=n1.get e2;obtain⟨_,rfl⟩:=qifz e1;refine⟨⟨_,_,m1,o1⟩,fun x' H'' hy=>?_⟩;obtain⟨T,u,rfl,hn,rfl,t1⟩:=hy;have:=t1 _ m1;rw[o1] at this;cases this;refine⟨?_,.laid hn,RG'.laid hn⟩;unfold Hv;exact⟨T,_,rfl,.of qrz,.cons (by simp[Hv]) (.cons (o2.ext (.laid hn)) .nil)⟩
   ·intro i H' G' E' RG' hg hi;obtain⟨b1,us1,c1,m1,n1⟩:=hsq _ _ _ E' RG' hg;cases c1;refine⟨_,m1,?_⟩;have hi:(enumD xs).length≤i:=hi;unfold enumD zipD at hi;rw[List.length_zipWith,qasz] at hi;rw[←n1.length];omega
  ·exact q1.elim⟩
end
end L3
namespace L3
open PySem PySem.Spec PyProof.Rows L2
open Classical in
noncomputable def eqF (h:Heap) (vs:List Dat.D) (u:Dat.D) (y:Value):Bool:=if q:∃d,d∈vs/\Dat.Hv h d y then (Classical.choose q).eqb u else false
theorem qcyz{h:Heap}{vs:List Dat.D}{u d:Dat.D}{y:Value}(hd:d∈vs)(hy:Dat.Hv h d y):eqF h vs u y=d.eqb u:=by
 unfold eqF;have q:∃d,d∈vs/\Dat.Hv h d y:=⟨d,hd,hy⟩;rw[dif_pos q,Dat.Hv.inj (Classical.choose_spec q).2 hy]
theorem qczz{h:Heap}{vs0:List Dat.D}{u:Dat.D}:∀{vs:List Dat.D} {us:List Value},(∀d∈vs,d∈vs0)->Dat.Hvs h vs us->us.any (eqF h vs0 u)=vs.any fun v=>v.eqb u
 |[],us,_,p=>by
  unfold Dat.Hvs at p;subst p;rfl
 |d::ds,us,hm,p=>by
  unfold Dat.Hvs at p;obtain⟨y,r,rfl,p1,p2⟩:=p;rw[List.any_cons,List.any_cons,qcyz (hm d List.mem_cons_self) p1,qczz (fun d hd=>hm d (List.mem_cons_of_mem _ hd)) p2]
theorem qedz{h:Heap}{y:Value}:∀{vs:List Dat.D} {us:List Value},Dat.Hvs h vs us->y∈us->∃d,d∈vs/\Dat.Hv h d y
 |[],us,p,hy=>by
  unfold Dat.Hvs at p;subst p;cases hy
 |d::ds,us,p,hy=>by
  unfold Dat.Hvs at p;obtain⟨x,r,rfl,p1,p2⟩:=p;rcases List.mem_cons.mp hy with rfl|hy
  ·exact⟨d,List.mem_cons_self,p1⟩
  ·obtain⟨e,h1,h2⟩:=qedz p2 hy;exact⟨e,List.mem_cons_of_mem _ h1,h2⟩
def rIn3(neg:Bool):R3:=fun x y G Q=>∃u vs,toDat G x=some u/\(toDat G y=some (.lst vs)∨toDat G y=some (.tup vs))/\Dat.deps vs≤50/\Q (.bl (if neg then !(vs.any fun v=>v.eqb u) else vs.any fun v=>v.eqb u)) G
section
variable {X:Cx}
theorem inR(hu:X.A.units+64<cLine):CmpR X (compareOp .In) (rIn3 false):=by
 intro pins s σ H G x y vx vy u v Q3 I RG hx hy rx ry ⟨p,vs,e1,e2,hd,h⟩;have dx:=qajz I RG hx rx e1;have fin:EP X pins σ (fun w H'=>∃d G',Hv X.K H' d w/\Step H G H' G'/\RepG X.K G' H'/\Q3 d G') (.bool (vs.any fun v=>v.eqb p)) s:=⟨.bl _,H,I,rfl,.bl _,G,q5z,.refl H G,RG,h⟩;have he:∀(its:List Value),Dat.Hvs s.heap vs its->∀y,y∈its.toArray->SeqAt.EqAt X.A.in1 s y u (eqF s.heap vs p y):=fun its hv y hy=>by
  obtain⟨d,hd',hv'⟩:=qedz hv (by simpa using hy);rw[qcyz hd' hv'];exact Dat.eqAt d p y u _ hv' dx (by
   have:=Dat.dep_mem hd';have h1:X.A.in1.units=X.A.units+1:=rfl;omega)
 rcases e2 with e2|e2
 ·have dy:=qajz I RG hy ry e2;unfold Dat.Hv at dy;obtain⟨a,its,rfl,hl,hv⟩:=dy;refine SeqAt.in_listAt (eqF s.heap vs p) hl (he its hv) ?_;rw[List.any_toArray,qczz (fun d hd=>hd) hv];exact fin
 ·have dy:=qajz I RG hy ry e2;unfold Dat.Hv at dy;obtain⟨a,its,rfl,hl,hv⟩:=dy;refine SeqAt.in_tupleAt (eqF s.heap vs p) hl (he its hv) ?_;rw[List.any_toArray,qczz (fun d hd=>hd) hv];exact fin
theorem ninR(hu:X.A.units+64<cLine):CmpR X (compareOp .NotIn) (rIn3 true):=by
 intro pins s σ H G x y vx vy u v Q3 I RG hx hy rx ry ⟨p,vs,e1,e2,hd,h⟩;have dx:=qajz I RG hx rx e1;have fin:EP X pins σ (fun w H'=>∃d G',Hv X.K H' d w/\Step H G H' G'/\RepG X.K G' H'/\Q3 d G') (.bool (!(vs.any fun v=>v.eqb p))) s:=⟨.bl _,H,I,rfl,.bl _,G,q5z,.refl H G,RG,h⟩;have he:∀(its:List Value),Dat.Hvs s.heap vs its->∀y,y∈its.toArray->SeqAt.EqAt X.A.in1 s y u (eqF s.heap vs p y):=fun its hv y hy=>by
  obtain⟨d,hd',hv'⟩:=qedz hv (by simpa using hy);rw[qcyz hd' hv'];exact Dat.eqAt d p y u _ hv' dx (by
   have:=Dat.dep_mem hd';have h1:X.A.in1.units=X.A.units+1:=rfl;omega)
 rcases e2 with e2|e2
 ·have dy:=qajz I RG hy ry e2;unfold Dat.Hv at dy;obtain⟨a,its,rfl,hl,hv⟩:=dy;refine SeqAt.notIn_listAt (eqF s.heap vs p) hl (he its hv) ?_;rw[List.any_toArray,qczz (fun d hd=>hd) hv];exact fin
 ·have dy:=qajz I RG hy ry e2;unfold Dat.Hv at dy;obtain⟨a,its,rfl,hl,hv⟩:=dy;refine SeqAt.notIn_tupleAt (eqF s.heap vs p) hl (he its hv) ?_;rw[List.any_toArray,qczz (fun d hd=>hd) hv];exact fin
theorem qtnz(hu:X.A.units+64<cLine):OpR X (compareOp .In) (cmpR2 X.K (rIn3 false)):=(inR hu).op
theorem qf0z(hu:X.A.units+64<cLine):OpR X (compareOp .NotIn) (cmpR2 X.K (rIn3 true)):=(ninR hu).op
theorem l_in{K:PySem.W.Frag}:LowR K (rIn3 false) (cmpR2 K (rIn3 false)):=qd0z
theorem qf1z{K:PySem.W.Frag}:LowR K (rIn3 true) (cmpR2 K (rIn3 true)):=qd0z
end
end L3
namespace SetM
open PySem SetP
section
variable {prog:Program} {w:World} {A:Around} {E:Value->Shared->Prop} {s:Shared}
theorem call_set_tupT{l:Addr}{vs:List Value}{ps:List (List Int×Addr)}{Q:Value->Shared->Prop}(hh:A.handled=none)(hl:s.heap.IsTuple l vs.toArray)(hv:vs=ps.map fun p=>Value.ref p.2)(hk:∀p∈ps,IsK prog w s.heap p.1 p.2)(hn:ps.length≤60)
  (hu:A.units+4<cLine)
  (h:∀h' tk xs,(∀b ob,s.heap.get? b=some ob->h'.get? b=some ob)->SetOn prog w h' s.heap.objs.size xs->Ded ps xs->Q (.ref s.heap.objs.size) { s with heap:=h',toks:=tk }):
  wpAny (model prog w) A (call (.type "set") [.ref l]) Q E s:=by
 obtain⟨c,tl,hmro⟩:=F.called_set.mro;have hmade:=F.called_set.made;have hsub:=F.called_set.sub;refine wpAny_call (codeAny_of_tree ?_);show wpAny _ _ (callAny (.type "set") _) _ _ _;refine wpAny_pure ⟨Code.quiet_builtin _ (by decide +kernel),codeAny_builtin F.entry_type_call ?_⟩;rw[Around.under_plain (weight_type_call_type "set" [.ref l] []) rfl];have h1:=F.called_set.notType;have h2:=F.called_set.canCreate;have hct:=F.typeCall_set_1 (.ref l)
 repeat (any_goals (first|assumption|wp_step))
 refine codeAny_mono (qjbz (.ref l) (E:=E) (Q₁:=fun obj s₁=>obj=.ref s.heap.objs.size/\s₁={ s with heap:=s.heap.push (freshSet w)}) ⟨rfl,rfl⟩) fun r s₁ hr=>?_;cases r with
 |error e=>exact hr
 |ok fl=>
  cases fl with
  |ret obj=>
   obtain⟨rfl,rfl⟩:=hr;have hS:(s.heap.push (freshSet w)).get? s.heap.objs.size=some (freshSet w):=Heap.get?_push_size _ rfl;have hT:Shared.TypeIs { s with heap:=s.heap.push (freshSet w)} (.ref s.heap.objs.size) "set":=⟨_,hS,rfl⟩;have hli:=F.called_set.init.lookup;have hbi:=F.called_set.init.bind (.ref s.heap.objs.size)
   repeat (any_goals (first|assumption|wp_step))
   refine codeAny_mono (codeAny_call_builtin (R:=wants (fun r s₂=>r=.none/\∃h' tk xs,s₂={ s with heap:=h',toks:=tk }/\(∀b ob,s.heap.get? b=some ob->h'.get? b=some ob)/\SetOn prog w h' s.heap.objs.size xs/\Ded ps xs) E)
    F.called_set.init.plain F.entry_set_init (check_set_init_1 hT ?_)) fun r₂ s₂ hr₂=>?_
   ·obtain⟨ol,hol,hcl,nl,hdl⟩:=hl;obtain⟨ocls,odict,odata,oslots⟩:=ol;simp only at hcl hdl;subst hcl;subst hdl;have hol':(s.heap.push (freshSet w)).get? l=some { cls:=.type "tuple",dict:=odict,data:=.seq vs.toArray nl,slots:=oslots }:=Heap.get?_push_of_some _ hol;have hsls:=F.sub_tuple_set;have hslf:=F.sub_tuple_frozenset;have hne:(Value.type "tuple" == Value.type "dict")=false:=by decide
    have hl1:(s.heap.push (freshSet w)).IsTuple l vs.toArray:=⟨_,hol',rfl,nl,rfl⟩;have hS2:(s.heap.push (freshSet w)).get? s.heap.objs.size=some { cls:=.type "set",dict:=none,data:=.set #[] 0 (.fresh 0 0 (!(byText w)))}:=hS;unfold Builtin.«set.__init__» noKeywords Builtin.Frozenset.updateFrom;generalize hPI:pyIter=PI;wp_walk;subst hPI;refine wpAny_pyIter_tuple hl1 ?_;refine wpAny_bind (wpAny_runValue ?_);have hlS:l<s.heap.objs.size:=Heap.lt_size hol;have hh3:A.in1.in1.in1.handled=none:=by simp[hh]
    have hu3:A.in1.in1.in1.units<cLine:=by
     show A.units+1+1+1<cLine;omega
    have hsz:(s.heap.push (freshSet w)).objs.size=s.heap.objs.size+1:=Heap.size_push ..;have hneI:l≠(s.heap.push (freshSet w)).objs.size:=by
     rw[hsz];exact Nat.ne_of_lt (Nat.lt_succ_of_lt hlS)
    have hSf:s.heap.objs.size∉[(s.heap.push (freshSet w)).objs.size,l]:=by
     rw[hsz];intro z;rcases List.mem_cons.mp z with z|z
     ·exact absurd z (Nat.ne_of_lt (Nat.lt_succ_self _))
     ·have:s.heap.objs.size=l:=by simpa using z
      exact absurd this (Nat.ne_of_gt hlS)
    have hlen:vs.toArray.size=ps.length:=by rw[hv];simp
    refine qjdz (Walks.tuple hh3 _ l hneI vs.toArray) s.heap.objs.size hSf ps hlen.symm (by rw[hlen];exact hn) hu3 (fun i v e=>?_) (fun p hp=>?_) (vs.toArray.size-0) 0 _ [] rfl (Nat.zero_le _)
     ⟨⟨_,Heap.get?_push_size _ rfl,rfl,rfl⟩,hl1.push _⟩ ?hS0 ⟨(fun p hp=>(nomatch hp)),(fun p hp=>by rw[List.take_zero] at hp;cases hp),Nat.zero_le _⟩ (fun p hp=>?_) ?hR
    case hS0=>
     refine⟨_,#[],0,_,⟨Heap.get?_push_of_some _ hS2,⟨rfl,rfl,rfl⟩,rfl,rfl,(fun p hp=>(nomatch hp)),List.nodup_nil,rfl,rfl⟩,qjcz _⟩
    case hR=>
     intro h' tk xs q1 q2 q3;refine wpAny_pure ?_;show wpAny _ _ (ret Value.none) _ _ _;refine wpAny_pure ⟨rfl,h',tk,xs,rfl,fun b ob e=>?_,q2,q3⟩;have hb:=Heap.lt_size e;refine q1 b ob (Nat.ne_of_lt hb) ?_ (Heap.get?_push_of_some _ (Heap.get?_push_of_some _ e));rw[hsz];exact Nat.ne_of_lt (Nat.lt_succ_of_lt hb)
    ·rw[hv,List.getElem?_toArray,List.getElem?_map] at e;cases hp:ps[i]? with
     |none=>rw[hp] at e;cases e
     |some p=>rw[hp] at e;exact⟨p,rfl,(Option.some.inj e).symm⟩
    ·obtain⟨oy,_,_,ho,_⟩:=hk p hp;have hb:=Heap.lt_size ho;rw[hsz];exact⟨Nat.ne_of_lt (Nat.lt_succ_of_lt hb),Nat.ne_of_lt hb⟩
    ·obtain⟨oy,items,m,ho,r⟩:=hk p hp;exact⟨oy,items,m,Heap.get?_push_of_some _ (Heap.get?_push_of_some _ ho),r⟩
   ·cases r₂ with
    |error e=>exact hr₂
    |ok fl₂=>
     cases fl₂ with
     |ret r=>
      obtain⟨rfl,h',tk,xs,rfl,q1,q2,q3⟩:=hr₂
      repeat (any_goals (first|assumption|wp_step))
      exact h _ _ _ q1 q2 q3
     |_=>exact hr₂.elim
  |_=>exact hr.elim
end
end SetM
namespace L3
open PySem PySem.Spec PyProof.Rows L2
section
variable {X:Cx}
theorem qtoz(hc:X.calm=true)(hu:X.A.units+64<cLine):CallR X (.type "set") (fun vs H Q=>∃(a:Addr) (xs:List V) (nss:List (List Int)),vs=[.ref a]/\SqT X.K H a xs/\Hvs X.K H (nss.map tupI) xs/\nss.length≤60 ∧
  ∀(b:Addr) (zs:List (List Int×Addr)),H b=none->(∀p∈zs,SqT X.K H p.2 (p.1.map V.int))->(∀ns,ns∈zs.map (·.1)↔ns∈nss)->(zs.map (·.1)).Nodup->zs.length≤nss.length->Q (.ref b) (upd H b (.ext (setφ X.prog X.w b zs)))):=by
 intro pins s σ H vs us Q I r h;obtain⟨a,xs,nss,rfl,hl,hv,hz,q⟩:=h;obtain⟨u,rfl,ru⟩:=vals1 r;cases ru;obtain⟨its,rv,pl,_⟩:=I.tuple hl;obtain⟨ps,e1,e2,e3,e4⟩:=qeaz I hv rv;subst e3;have hlen:ps.length=nss.length:=by rw[←e1,List.length_map]
 refine SetM.call_set_tupT (ps:=ps) (I.ok.hd hc) pl rfl (fun p hp=>(e4 p hp).2) (by omega) (by omega) fun h' tk zs kk hS hD=>?_;obtain⟨o,es,ep,t,S,T⟩:=hS;refine⟨.ref s.heap.objs.size,_,I.laid (o:=.ext (setφ X.prog X.w s.heap.objs.size zs)) kk (Nat.le_refl _) ?_,rfl,q _ zs (I.hok.fresh (Nat.le_refl _)) (fun p hp=>(e4 p (hD.sub p hp)).1) (fun ns=>?_) S.nd ?_⟩
 ·refine⟨⟨o,es,ep,t,S.at_,S.ex,S.dat,S.ents,S.nd,S.plain,S.led,T⟩,⟨o,S.at_⟩,fun h1 h2 ⟨o',es',ep',t',y1,y⟩ kk2=>⟨o',es',ep',t',kk2 _ y1,y⟩⟩
 ·rw[←e1];constructor
  ·intro hm;obtain⟨p,hp,rfl⟩:=List.mem_map.mp hm;exact List.mem_map.mpr ⟨p,hD.sub p hp,rfl⟩
  ·intro hm;obtain⟨p,hp,rfl⟩:=List.mem_map.mp hm;exact hD.all p hp
 ·rw[←hlen];exact hD.len
end
end L3
namespace L3
open PySem PySem.Spec PyProof.Rows L2
structure QE(X:Cx)(e:Expr)(t:TE3):Prop where
 of:PE3 X e t
structure QT(X:Cx)(e:Expr)(t:TT3):Prop where
 of:PT3 X e t
structure QW(X:Cx)(e:Expr)(t:TT3):Prop where
 of:PW3 X e t
structure QA(X:Cx)(es:List Expr)(t:TA3):Prop where
 of:PA3 X es t
structure QS(X:Cx)(st:Stmt)(t:TS3):Prop where
 of:PS3 X st t
structure QSs(X:Cx)(st:List Stmt)(t:TS3):Prop where
 of:PSs3 X st t
structure QG(X:Cx)(tg:Expr)(t:TG3):Prop where
 of:PG3 X tg t
structure QGs(X:Cx)(tgs:List Expr)(t:TGs3):Prop where
 of:PGs3 X tgs t
structure QI(X:Cx)(tg iter:Expr)(t:TI3):Prop where
 of:PI3 X tg iter t
structure QO(X:Cx)(e:Option Expr)(t:TO3):Prop where
 of:PO3 X e t
structure QC(X:Cx)(ifs:List Expr)(t:TT3):Prop where
 of:PCt X ifs (lowT X.K t)
section
variable {X:Cx} {a b e c:Expr} {ta tb te:TE3} {tA tB:TT3} {pos:Pos} {es rest:List Expr}
theorem qbz{i:Nat}{x:Str}(h:PE X (.Name x pos) (tVar i)):QE X (.Name x pos) (eVar i):=⟨qpgz (h:=h)⟩
end
section
variable {X:Cx} {a b e c:Expr} {ta tb te:TE3} {tA tB:TT3} {pos:Pos} {es rest:List Expr}
theorem qdz{i:Int}{j}:QE X (.Constant (.int i) j pos) (eC (.int i)):=⟨qphz ⟩
end
section
variable {X:Cx} {a b e c:Expr} {ta tb te:TE3} {tA tB:TT3} {pos:Pos} {es rest:List Expr}
theorem qafz{i:Bool}{j}:QE X (.Constant (.bool i) j pos) (eC (.bl i)):=⟨e_bl ⟩
end
section
variable {X:Cx} {a b e c:Expr} {ta tb te:TE3} {tA tB:TT3} {pos:Pos} {es rest:List Expr}
theorem qbxz{j}:QE X (.Constant .none j pos) (eC .non):=⟨qpiz ⟩
end
section
variable {X:Cx} {a b e c:Expr} {ta tb te:TE3} {tA tB:TT3} {pos:Pos} {es rest:List Expr}
theorem qaaz{x:Str}{j}:QE X (.Constant (.str x) j pos) (eC (.str x)):=⟨qpjz ⟩
end
section
variable {X:Cx} {a b e c:Expr} {ta tb te:TE3} {tA tB:TT3} {pos:Pos} {es rest:List Expr}
theorem qhz{op:Operator}{r:R3}{r2:R2}(L:LowR X.K r r2)(ho:OpR X (binaryOp op) r2)(ha:QE X a ta)(hb:QE X b tb):QE X (.BinOp a op b pos) (eOp r ta tb):=⟨e_op (L:=L) (ho:=ho) (ha:=ha.of) (hb:=hb.of)⟩
end
section
variable {X:Cx} {a b e c:Expr} {ta tb te:TE3} {tA tB:TT3} {pos:Pos} {es rest:List Expr}
theorem qeez{op:CmpOp}{r:R3}{r2:R2}(L:LowR X.K r r2)(ho:OpR X (compareOp op) r2)(ha:QE X a ta)(hb:QE X b tb)(hm:behindInMarks op b=false):QE X (.Compare a [op] [b] pos) (eOp r ta tb):=⟨qpkz (L:=L) (ho:=ho) (ha:=ha.of) (hb:=hb.of) (hm:=hm)⟩
end
section
variable {X:Cx} {a b e c:Expr} {ta tb te:TE3} {tA tB:TT3} {pos:Pos} {es rest:List Expr}
theorem qoz{op:CmpOp}{r:R3}{r2:R2}(L:LowR X.K r r2)(ho:OpR X (compareOp op) r2)(ha:QE X a ta)(hb:QE X b tb)(hm:behindInMarks op b=false):QT X (.Compare a [op] [b] pos) (eTest (eOp r ta tb)):=⟨qplz (L:=L) (ho:=ho) (ha:=ha.of) (hb:=hb.of) (hm:=hm)⟩
end
section
variable {X:Cx} {a b e c:Expr} {ta tb te:TE3} {tA tB:TT3} {pos:Pos} {es rest:List Expr}
theorem qagz(h:QE X a ta)(he:∀whole,isTrue a X.env whole=(do let v ←whole;standAt a.pos;holding [v] (truthy v)):=by intro _;rfl):QT X a (eTest ta):=⟨qpmz (h:=h.of) (he:=he)⟩
end
section
variable {X:Cx} {a b e c:Expr} {ta tb te:TE3} {tA tB:TT3} {pos:Pos} {es rest:List Expr}
theorem qtpz(ha:QE X a ta):QE X (.UnaryOp .USub a pos) (eUn rNeg3 ta):=⟨qppz (ha:=ha.of)⟩
end
section
variable {X:Cx} {a b e c:Expr} {ta tb te:TE3} {tA tB:TT3} {pos:Pos} {es rest:List Expr}
theorem qf2z(ha:QT X a tA):QW X (.BoolOp .And [a] pos) tA:=⟨qpqz (ha:=ha.of)⟩
end
section
variable {X:Cx} {a b e c:Expr} {ta tb te:TE3} {tA tB:TT3} {pos:Pos} {es rest:List Expr}
theorem qa5z(ha:QT X a tA):QW X (.BoolOp .Or [a] pos) tA:=⟨qprz (ha:=ha.of)⟩
end
section
variable {X:Cx} {a b e c:Expr} {ta tb te:TE3} {tA tB:TT3} {pos:Pos} {es rest:List Expr}
theorem qf3z(ha:QT X a tA)(hb:QW X (.BoolOp .And (b::rest) pos) tB):QW X (.BoolOp .And (a::b::rest) pos) (eAnd tA tB):=⟨qpsz (ha:=ha.of) (hb:=hb.of)⟩
end
section
variable {X:Cx} {a b e c:Expr} {ta tb te:TE3} {tA tB:TT3} {pos:Pos} {es rest:List Expr}
theorem qahz(ha:QT X a tA)(hb:QW X (.BoolOp .Or (b::rest) pos) tB):QW X (.BoolOp .Or (a::b::rest) pos) (eOr tA tB):=⟨qptz (ha:=ha.of) (hb:=hb.of)⟩
end
section
variable {X:Cx} {a b e c:Expr} {ta tb te:TE3} {tA tB:TT3} {pos:Pos} {es rest:List Expr}
theorem qakz(h:QW X a tA):QT X a tA:=⟨tt_w (h:=h.of)⟩
end
section
variable {X:Cx} {a b e c:Expr} {ta tb te:TE3} {tA tB:TT3} {pos:Pos} {es rest:List Expr}
theorem qalz(ha:QT X a tA):QT X (.UnaryOp .Not a pos) (eNot tA):=⟨qpuz (ha:=ha.of)⟩
end
section
variable {X:Cx} {a b e c:Expr} {ta tb te:TE3} {tA tB:TT3} {pos:Pos} {es rest:List Expr}
theorem qefz{op}(h:QE X a ta):QE X (.BoolOp op [a] pos) ta:=⟨qpvz (h:=h.of)⟩
end
section
variable {X:Cx} {a b e c:Expr} {ta tb te:TE3} {tA tB:TT3} {pos:Pos} {es rest:List Expr}
theorem qegz(ha:QE X a ta)(hb:QE X (.BoolOp .And (b::rest) pos) tb):QE X (.BoolOp .And (a::b::rest) pos) (eAndV ta tb):=⟨qpwz (ha:=ha.of) (hb:=hb.of)⟩
end
section
variable {X:Cx} {a b e c:Expr} {ta tb te:TE3} {tA tB:TT3} {pos:Pos} {es rest:List Expr}
theorem qjuz(ha:QE X a ta):QE X (.UnaryOp .Not a pos) (eNotV ta):=⟨qpxz (ha:=ha.of)⟩
end
section
variable {X:Cx} {a b e c:Expr} {ta tb te:TE3} {tA tB:TT3} {pos:Pos} {es rest:List Expr}
theorem qcz  : QA X [] aNil:=⟨qpyz ⟩
end
section
variable {X:Cx} {a b e c:Expr} {ta tb te:TE3} {tA tB:TT3} {pos:Pos} {es rest:List Expr}
theorem qaz{tr:TA3}(ha:QE X a ta)(hr:QA X es tr)(hs:notStar a=true:=by rfl):QA X (a::es) (aCons ta tr):=⟨qpzz (ha:=ha.of) (hr:=hr.of) (hs:=hs)⟩
end
section
variable {X:Cx} {a b e c:Expr} {ta tb te:TE3} {tA tB:TT3} {pos:Pos} {es rest:List Expr}
theorem quz{t:TA3}{x1}(h:QA X es t):QE X (.Tuple es x1 pos) (eTup t):=⟨qp0z (h:=h.of)⟩
end
section
variable {X:Cx} {a b e c:Expr} {ta tb te:TE3} {tA tB:TT3} {pos:Pos} {es rest:List Expr}
theorem q4z{t:TA3}(h:QA X es t):QE X (.List es pos) (eLst t):=⟨qp1z (h:=h.of)⟩
end
section
variable {X:Cx} {st:Stmt} {rest:List Stmt} {t u:TS3} {e c:Expr} {te:TE3} {tc:TT3} {pos:Pos}
theorem qxz  : QSs X [] sNext:=⟨qp8z ⟩
end
section
variable {X:Cx} {st:Stmt} {rest:List Stmt} {t u:TS3} {e c:Expr} {te:TE3} {tc:TT3} {pos:Pos}
theorem qfz(h1:QS X st t)(h2:QSs X rest u):QSs X (st::rest) (sSeq t u):=⟨qp9z (h1:=h1.of) (h2:=h2.of)⟩
end
section
variable {X:Cx} {st:Stmt} {rest:List Stmt} {t u:TS3} {e c:Expr} {te:TE3} {tc:TT3} {pos:Pos}
theorem qez(h1:QS X st t):QSs X [st] t:=⟨qqaz (h1:=h1.of)⟩
end
section
variable {X:Cx} {st:Stmt} {rest:List Stmt} {t u:TS3} {e c:Expr} {te:TE3} {tc:TT3} {pos:Pos}
theorem qcbz(he:QE X e te)(hs:swapsWith e none pos.line X.env=pure false:=by rfl):QS X (.Expr e pos) (sDrop te):=⟨qqbz (he:=he.of) (hs:=hs)⟩
end
section
variable {X:Cx} {st:Stmt} {rest:List Stmt} {t u:TS3} {e c:Expr} {te:TE3} {tc:TT3} {pos:Pos}
theorem qlz(he:QE X e te):QS X (.Return (some e) pos) (sRet te):=⟨qqcz (he:=he.of)⟩
end
section
variable {X:Cx} {st:Stmt} {rest:List Stmt} {t u:TS3} {e c:Expr} {te:TE3} {tc:TT3} {pos:Pos}
theorem qvz{a b:List Stmt}(hc:QT X c tc)(ha:QSs X a t)(hb:QSs X b u):QS X (.If c a b pos) (sIf tc t u):=⟨s_if (hc:=hc.of) (ha:=ha.of) (hb:=hb.of)⟩
end
section
variable {X:Cx} {pos:Pos} {e:Expr} {es:List Expr}
theorem qmz{i:Nat}{x:Str}(hN:X.N.Nodup)(hi:X.N[i]?=some x:=by rfl)(hx:Loc X.env.scope x:=by first|exact Or.inl rfl|exact Or.inr rfl)(hf:X.fn x=true∨X.env.scope.names.lookup x=some .local:=by first|exact .inl rfl|exact .inr rfl|assumption):QG X (.Name x pos) (hName i):=⟨qqdz (hN:=hN) (hi:=hi) (hx:=hx) (hf:=hf)⟩
end
section
variable {X:Cx} {pos:Pos} {e:Expr} {es:List Expr}
theorem qc0z  : QGs X [] hNil:=⟨qqez ⟩
end
section
variable {X:Cx} {pos:Pos} {e:Expr} {es:List Expr}
theorem qauz{t:TG3}{u:TGs3}(h1:QG X e t)(h2:QGs X es u)(hs:(assignEach (e::es) X.env).map (·.2)=assign e X.env::(assignEach es X.env).map (·.2):=by rfl):QGs X (e::es) (hCons t u):=⟨qqfz (h1:=h1.of) (h2:=h2.of) (hs:=hs)⟩
end
section
variable {X:Cx} {pos:Pos} {e:Expr} {es:List Expr}
theorem qc1z{k:Nat}{t:TGs3}{n:Nat}(hc:X.calm=true)(h:QGs X es t)(hn:(assignEach es X.env).length=n:=by rfl)(hst:(assignEach es X.env).findIdx? (·.1)=none:=by rfl):QG X (.Tuple es k pos) (hTup n t):=⟨qqgz (hc:=hc) (h:=h.of) (hn:=hn) (hst:=hst)⟩
end
section
variable {X:Cx} {pos:Pos} {e:Expr} {es:List Expr}
theorem qehz{tg:Expr}{te:TE3}{g:TG3}(he:QE X e te)(hg:QG X tg g)(hs:swapsWithSole [tg] e pos.line X.env=pure false:=by rfl)(hw:swappedStores [tg] e X.env=pure none:=by rfl)(h1:(assignEach [tg] X.env).map (·.2)=[assign tg X.env]:=by rfl):QS X (.Assign [tg] e pos) (sAsg te g):=⟨qqhz (he:=he.of) (hg:=hg.of) (hs:=hs) (hw:=hw) (h1:=h1)⟩
end
section
variable {X:Cx} {pos:Pos} {e:Expr} {es:List Expr}
theorem qnz{i:Nat}{x:Str}{te:TE3}{pos':Pos}(hN:X.N.Nodup)(he:QE X e te)(hi:X.N[i]?=some x:=by rfl)(hx:Loc X.env.scope x:=by first|exact Or.inl rfl|exact Or.inr rfl)(hs:swapsWith e (some (.Name x pos')) pos.line X.env=pure false:=by rfl)(hf:X.fn x=true∨X.env.scope.names.lookup x=some .local:=by first|exact .inl rfl|exact .inr rfl|assumption):QS X (.Assign [.Name x pos'] e pos) (sAsg te (hName i)):=⟨qqiz (hN:=hN) (he:=he.of) (hi:=hi) (hx:=hx) (hs:=hs) (hf:=hf)⟩
end
section
variable {X:Cx} {pos:Pos} {e:Expr} {es:List Expr}
theorem qjvz{o i:Expr}{to ti:TE3}(ho:QE X o to)(hi:QE X i ti) (ha:∀v,assign (.Subscript o i pos) X.env v=(do
   let ov ←holding [v] (eval o X.env)
   let iv ←holding [v,ov] (eval i X.env)
   standAt pos
   holding [v,ov,iv] (setItem ov iv v)
   release [v,ov,iv] []):=by intro _;rfl):QG X (.Subscript o i pos) (hSub to ti):=⟨qqkz (ho:=ho.of) (hi:=hi.of) (ha:=ha)⟩
end
section
variable {X:Cx} {pos:Pos} {e:Expr} {es:List Expr}
theorem qtqz{c:Expr}{body:List Stmt}{tc:TT3}{tb:TS3}(hp:PassesOwn (model X.prog X.w) X.A X.env X.xe)(hc:QT X c tc)(hb:QSs X body tb):QS X (.While c body [] pos) (sWhile tc tb):=⟨qqlz (hp:=hp) (hc:=hc.of) (hb:=hb.of)⟩
end
section
variable {X:Cx} {k:Nat} {f:Addr} {fd:FuncData} {ps:List Str} {sp:Sp3} {x:Str} {p pos:Pos} {e:Expr} {es:List Expr} {t:TA3}
theorem qkz(F:FnOk3 X.prog X.w X.K X.mg X.base k f fd ps sp)(hr:Room k X.A)(hm:X.mg x=some (.ref f))(hk:PySem.W.keepIn X.K (.ref f)=true)(hb:Binds X.K fd ps [])(ha:QA X (e::es) t)(hg:Gl X x:=by rfl)(hdb:(x==("__debug__":Str))=false:=by decide)(he:notStar e=true:=by rfl)(hpl:es.all notStar=true:=by rfl):QE X (.Call (.Name x p) (e::es) [] pos) (eCall sp t):=⟨qqmz (F:=F) (hr:=hr) (hm:=hm) (hk:=hk) (hb:=hb) (ha:=ha.of) (hg:=hg) (hdb:=hdb) (he:=he) (hpl:=hpl)⟩
end
section
variable {X:Cx} {tg iter:Expr} {pos p:Pos}
theorem qa6z{l:Expr}{te:TE3}(hl:QE X l te):QI X tg l (iSeq te):=⟨qqnz (hl:=hl.of)⟩
end
section
variable {X:Cx} {tg iter:Expr} {pos p:Pos}
theorem qa7z{a:Expr}{ta:TA3}(hm:X.mg "range" = none)(ha:QA X [a] ta)(hg:Gl X "range":=by rfl)(hs:notStar a=true:=by rfl):QI X tg (.Call (.Name "range" p) [a] [] pos) (iRng1 ta):=⟨qqoz (hm:=hm) (ha:=ha.of) (hg:=hg) (hs:=hs)⟩
end
section
variable {X:Cx} {tg iter:Expr} {pos p:Pos}
theorem qjwz{a b:Expr}{ta:TA3}(hm:X.mg "range" = none)(ha:QA X [a,b] ta)(hg:Gl X "range":=by rfl)(hs:notStar a=true:=by rfl)(hs2:notStar b=true:=by rfl):QI X tg (.Call (.Name "range" p) [a,b] [] pos) (iRng2 ta):=⟨qqpz (hm:=hm) (ha:=ha.of) (hg:=hg) (hs:=hs) (hs2:=hs2)⟩
end
section
variable {X:Cx} {tg iter:Expr} {pos p:Pos}
theorem qbjz{body:List Stmt}{ti:TI3}{g:TG3}{tb:TS3}(hp:PassesOwn (model X.prog X.w) X.A X.env X.xe)(hc:X.calm=true)(hi:QI X tg iter ti)(hg:QG X tg g)(hb:QSs X body tb)(hs:∀x,foldedSetIterable iter X.env x=pure x:=by intro _;rfl):QS X (.For tg iter body [] pos) (sFor ti g tb):=⟨qqqz (hp:=hp) (hc:=hc) (hi:=hi.of) (hg:=hg.of) (hb:=hb.of) (hs:=hs)⟩
end
section
variable {X:Cx} {tg iter:Expr} {pos p:Pos}
theorem qamz  : QC X [] (tNoTest3):=⟨qqrz ⟩
end
section
variable {X:Cx} {tg iter:Expr} {pos p:Pos}
theorem qf4z{c:Expr}{t:TT3}(h:QT X c t):QC X [c] (t):=⟨qqsz (h:=h.of)⟩
end
section
variable {X:Cx} {K:PySem.W.Frag}
theorem qpz{a b:Expr}{ta tb:TE3}{pos:Pos}(ha:QE X a ta)(hb:QE X b tb)(hs:PlainIx b:=by intro _ _;rfl):QE X (.Subscript a b pos) (eOp rIx3 ta tb):=⟨e_ix (ha:=ha.of) (hb:=hb.of) (hs:=hs)⟩
end
section
variable {X:Cx} {K:PySem.W.Frag}
theorem qjxz{es:List Expr}{b:Expr}{ta:TA3}{tb:TE3}{pos pos':Pos}(ha:QA X es ta)(hb:QE X b tb)(hs:PlainIx b:=by intro _ _;rfl):QE X (.Subscript (.List es pos') b pos) (eLstIx ta tb):=⟨qq2z (ha:=ha.of) (hb:=hb.of) (hs:=hs)⟩
end
section
variable {X:Cx} {a b e:Expr} {ta tb:TE3} {pos:Pos}
theorem qf5z  : QO X none oNone:=⟨qq3z ⟩
end
section
variable {X:Cx} {a b e:Expr} {ta tb:TE3} {pos:Pos}
theorem qc2z(h:QE X e ta):QO X (some e) (oSome ta):=⟨qq4z (h:=h.of)⟩
end
section
variable {X:Cx} {a b e:Expr} {ta tb:TE3} {pos:Pos}
theorem qeiz{lo hi:Option Expr}{tl th:TO3}{p2:Pos}(ha:QE X a ta)(hl:QO X lo tl)(hh:QO X hi th):QE X (.Subscript a (.Slice lo hi none p2) pos) (eSl ta tl th):=⟨e_sl (ha:=ha.of) (hl:=hl.of) (hh:=hh.of)⟩
end
section
variable {X:Cx} {K:PySem.W.Frag} {e:Expr} {es:List Expr} {t:TA3} {ta:TE3} {pos p:Pos}
theorem q6z(hu:X.A.units+64<cLine)(hm:X.mg "len" = none)(ha:QA X (e::es) t)(hg:Gl X "len":=by rfl)(he:notStar e=true:=by rfl)(hpl:es.all notStar=true:=by rfl):QE X (.Call (.Name "len" p) (e::es) [] pos) (eCB q1z t):=⟨qq8z (hu:=hu) (hm:=hm) (ha:=ha.of) (hg:=hg) (he:=he) (hpl:=hpl)⟩
end
section
variable {X:Cx} {K:PySem.W.Frag} {e:Expr} {es:List Expr} {t:TA3} {ta:TE3} {pos p:Pos}
theorem qtrz(hu:X.A.units+64<cLine)(hm:X.mg "int" = none)(ha:QA X (e::es) t)(hg:Gl X "int":=by rfl)(he:notStar e=true:=by rfl)(hpl:es.all notStar=true:=by rfl):QE X (.Call (.Name "int" p) (e::es) [] pos) (eCB qd1z t):=⟨qraz (hu:=hu) (hm:=hm) (ha:=ha.of) (hg:=hg) (he:=he) (hpl:=hpl)⟩
end
section
variable {X:Cx} {K:PySem.W.Frag} {e:Expr} {es:List Expr} {t:TA3} {ta:TE3} {pos p:Pos}
theorem qf6z(hu:X.A.units+64<cLine)(hm:X.mg "max" = none)(ha:QA X (e::es) t)(hc:X.calm=true:=by rfl)(hg:Gl X "max":=by rfl)(he:notStar e=true:=by rfl)(hpl:es.all notStar=true:=by rfl):QE X (.Call (.Name "max" p) (e::es) [] pos) (eCB qcuz t):=⟨qrbz (hu:=hu) (hm:=hm) (ha:=ha.of) (hc:=hc) (hg:=hg) (he:=he) (hpl:=hpl)⟩
end
section
variable {X:Cx} {K:PySem.W.Frag} {e:Expr} {es:List Expr} {t:TA3} {ta:TE3} {pos p:Pos}
theorem qtsz(hu:X.A.units+64<cLine)(hm:X.mg "min" = none)(ha:QA X (e::es) t)(hc:X.calm=true:=by rfl)(hg:Gl X "min":=by rfl)(he:notStar e=true:=by rfl)(hpl:es.all notStar=true:=by rfl):QE X (.Call (.Name "min" p) (e::es) [] pos) (eCB qfjz t):=⟨qrcz (hu:=hu) (hm:=hm) (ha:=ha.of) (hc:=hc) (hg:=hg) (he:=he) (hpl:=hpl)⟩
end
section
variable {X:Cx} {K:PySem.W.Frag} {e:Expr} {es:List Expr} {t:TA3} {ta:TE3} {pos p:Pos}
theorem qbyz(hu:X.A.units+64<cLine)(hm:X.mg "tuple" = none)(ha:QA X (e::es) t)(hg:Gl X "tuple":=by rfl)(he:notStar e=true:=by rfl)(hpl:es.all notStar=true:=by rfl):QE X (.Call (.Name "tuple" p) (e::es) [] pos) (eCB qatz t):=⟨qrez (hu:=hu) (hm:=hm) (ha:=ha.of) (hg:=hg) (he:=he) (hpl:=hpl)⟩
end
section
variable {X:Cx} {K:PySem.W.Frag} {e:Expr} {es:List Expr} {t:TA3} {ta:TE3} {pos p:Pos}
theorem qttz(hu:X.A.units+64<cLine)(hm:X.mg "list" = none)(ha:QA X (e::es) t)(hg:Gl X "list":=by rfl)(he:notStar e=true:=by rfl)(hpl:es.all notStar=true:=by rfl):QE X (.Call (.Name "list" p) (e::es) [] pos) (eCB qd2z t):=⟨qrgz (hu:=hu) (hm:=hm) (ha:=ha.of) (hg:=hg) (he:=he) (hpl:=hpl)⟩
end
section
variable {X:Cx} {K:PySem.W.Frag} {e:Expr} {es:List Expr} {t:TA3} {ta:TE3} {pos p:Pos}
theorem qtuz  : QE X (.Dict [] [] pos) eDct:=⟨qrjz ⟩
end
section
variable {X:Cx} {a e:Expr} {es:List Expr} {ta:TE3} {t:TA3} {pos p p2:Pos}
theorem qbkz{T:String}{TS:Str}(k:Kit T)(hv:bootBuiltins TS=some (.type T))(ha:QE X a ta)(hm:X.mg "isinstance" = none)(hm2:X.mg TS=none)(hgT:Gl X TS)(hnT:TS≠"__name__")(hdT:(TS==("__debug__":Str))=false)(hg:Gl X "isinstance":=by rfl)(he:notStar a=true:=by rfl):QE X (.Call (.Name "isinstance" p) [a,.Name TS p2] [] pos) (eInst T ta):=⟨qsqz (k:=k) (hv:=hv) (ha:=ha.of) (hm:=hm) (hm2:=hm2) (hgT:=hgT) (hnT:=hnT) (hdT:=hdT) (hg:=hg) (he:=he)⟩
end
section
variable {X:Cx} {K:PySem.W.Frag} {e:Expr} {es:List Expr} {t:TA3} {ta:TE3} {pos p p' pos':Pos}
theorem qejz(hu:X.A.units+64<cLine)(hm:X.mg "sorted" = none)(ha:QA X (e::es) t)(hc:X.calm=true:=by rfl)(hg:Gl X "sorted":=by rfl)(he:notStar e=true:=by rfl)(hpl:es.all notStar=true:=by rfl):QE X (.Call (.Name "sorted" p) (e::es) [] pos) (eCB qbwz t):=⟨qsvz (hu:=hu) (hm:=hm) (ha:=ha.of) (hc:=hc) (hg:=hg) (he:=he) (hpl:=hpl)⟩
end
section
variable {X:Cx} {K:PySem.W.Frag} {e:Expr} {es:List Expr} {t:TA3} {ta:TE3} {pos p p' pos':Pos}
theorem qjyz(hu:X.A.units+64<cLine)(ha:QE X e ta)(hm:X.mg "sorted" = none)(hm2:X.mg "set" = none)(hc:X.calm=true:=by rfl)(hg:Gl X "sorted":=by rfl)(hg2:Gl X "set":=by rfl)(he2:notStar e=true:=by rfl):QE X (.Call (.Name "sorted" p) [.Call (.Name "set" p') [e] [] pos'] [] pos) (eSortSet ta):=⟨qswz (hu:=hu) (ha:=ha.of) (hm:=hm) (hm2:=hm2) (hc:=hc) (hg:=hg) (hg2:=hg2) (he2:=he2)⟩
end
section
variable {X:Cx} {K:PySem.W.Frag} {e:Expr} {es:List Expr} {t:TA3} {ta:TE3} {pos p p' pos':Pos}
theorem qc3z(hu:X.A.units+64<cLine)(hm:X.mg "all" = none)(ha:QA X (e::es) t)(hc:X.calm=true:=by rfl)(hg:Gl X "all":=by rfl)(he:notStar e=true:=by rfl)(hpl:es.all notStar=true:=by rfl):QE X (.Call (.Name "all" p) (e::es) [] pos) (eCB qbiz t):=⟨qs0z (hu:=hu) (hm:=hm) (ha:=ha.of) (hc:=hc) (hg:=hg) (he:=he) (hpl:=hpl)⟩
end
section
variable {X:Cx} {a b c:Expr} {ta:TE3} {tb:TA3} {p pos pos':Pos}
theorem qtvz(ha:QE X a ta)(hm:X.mg "range" = none)(hb:QA X [b] tb)(hg:Gl X "range":=by rfl)(hs:notStar b=true:=by rfl):QE X (.Compare a [.In] [.Call (.Name "range" p) [b] [] pos'] pos) (eInRng1 false ta tb):=⟨qs8z (ha:=ha.of) (hm:=hm) (hb:=hb.of) (hg:=hg) (hs:=hs)⟩
end
section
variable {X:Cx} {a b c:Expr} {ta:TE3} {tb:TA3} {p pos pos':Pos}
theorem qtwz(ha:QE X a ta)(hm:X.mg "range" = none)(hb:QA X [b,c] tb)(hg:Gl X "range":=by rfl)(hs:notStar b=true:=by rfl)(hs2:notStar c=true:=by rfl):QE X (.Compare a [.In] [.Call (.Name "range" p) [b,c] [] pos'] pos) (eInRng2 false ta tb):=⟨qs9z (ha:=ha.of) (hm:=hm) (hb:=hb.of) (hg:=hg) (hs:=hs) (hs2:=hs2)⟩
end
section
variable {X:Cx} {es:List Expr} {n0:Nat} {ps p pos:Pos}
theorem qtxz{a b:Expr}{ta:TA3}(hm:X.mg "zip" = none)(ha:QA X [a,b] ta)(hg:Gl X "zip":=by rfl)(hs:notStar a=true:=by rfl)(hs2:notStar b=true:=by rfl):QI X (.Tuple es n0 ps) (.Call (.Name "zip" p) [a,b] [] pos) (iZip ta):=⟨qtfz (hm:=hm) (ha:=ha.of) (hg:=hg) (hs:=hs) (hs2:=hs2)⟩
end
section
variable {X:Cx} {es:List Expr} {n0:Nat} {ps p pos:Pos}
theorem qjzz{a:Expr}{ta:TA3}(hm:X.mg "enumerate" = none)(ha:QA X [a] ta)(hg:Gl X "enumerate":=by rfl)(hs:notStar a=true:=by rfl):QI X (.Tuple es n0 ps) (.Call (.Name "enumerate" p) [a] [] pos) (iEnum ta):=⟨qtmz (hm:=hm) (ha:=ha.of) (hg:=hg) (hs:=hs)⟩
end
section
variable {X:Cx} {a b c e o:Expr} {es:List Expr} {ta tb tc te to:TE3} {t:TA3} {pos apos cpos p:Pos}
theorem qtyz{op op':CmpOp}{r r':R3}{r2 r2':R2}(L:LowR X.K r r2)(L':LowR X.K r' r2')(ho:OpR X (compareOp op) r2)(ho':OpR X (compareOp op') r2')(ha:QE X a ta)(hb:QE X b tb)(hc:QE X c tc)(hm:lastMarks [op,op'] [b,c]=false:=by with_unfolding_all rfl):
  QE X (.Compare a [op,op'] [b,c] pos) (eChain r r' ta tb tc):=⟨qpoz (op:=op) (op':=op') L L' (qn7z ho ho' ha.of hb.of hc.of hm)⟩
theorem qa8z{name:Str}{id:String}{r:D->List D->Gp->V3->Prop}{r2:V->List V->Hp->VK->Prop}(L:LowM X.K r r2)(slot:Slot "list" name id)(hty:typeOf (.builtin id)=pure (.type "method_descriptor"))(hm:MtR X id r2)(ho:QE X o to)(ha:QA X (e::es) t)
  (hbase:attributeBase o name X.env (eval o X.env)=eval o X.env:=by rfl)
  (hfew:((backTo cpos (starEach (e::es) X.env)).all (fun x=>!x.1)&&(backToKw cpos (keywordEach [] X.env)).all (fun x=>x.1.isSome)
   && decide ((e::es).length+([]:List Keyword).length+(if ([]:List Keyword).isEmpty then 0 else 1)<30))=true:=by rfl)
  (hline:(apos.endLine==cpos.line)=true:=by rfl) (he:notStar e=true:=by rfl) (hpl:es.all notStar=true:=by rfl):
  QE X (.Call (.Attribute o name apos) (e::es) [] cpos) (eM r to t):=⟨qriz L (qo5z PySem.F.plainAttrs_list slot hty hm ho.of ha.of hbase hfew hline (qjz he) (qyz hpl))⟩
end
section
variable {X:Cx} {tg iter elt:Expr} {ifs:List Expr} {scope:Scope} {own:List Str} {js:List Nat} {ti:TI3} {g:TG3} {tc:TT3} {te:TE3} {pos:Pos}
theorem qapz(hc:X.calm=true)(C:CmpOk X.N X.env.scope scope own js)(hi:QI X tg iter ti)
  (hb:∀s H fp,QG (X.cmp scope own js s H fp) tg g/\QC (X.cmp scope own js s H fp) ifs tc/\QE (X.cmp scope own js s H fp) elt te)
  (hs:∀x,foldedSetIterable iter X.env x=pure x:=by intro _;rfl):QE X (.ListComp elt [⟨tg,iter,ifs,0⟩] scope pos) (eComp own js ti g tc te):=
 ⟨qqtz hc C hi.of (fun s H fp=>⟨(hb s H fp).1.of,(hb s H fp).2.1.of,(hb s H fp).2.2.of⟩) hs⟩
theorem qekz{i:Nat}{y:Str}{py spos:Pos}(hc:X.calm=true)(hN:X.N.Nodup)(C:CmpOk X.N X.env.scope scope own js)(hi:QI X tg iter ti)
  (hb:∀s H fp,QG (X.cmp scope own js s H fp) tg g/\QC (X.cmp scope own js s H fp) ifs tc/\QE (X.cmp scope own js s H fp) elt te) (hy:X.N[i]?=some y:=by rfl) (hyl:X.env.scope.names.lookup y=some .local:=by rfl)
  (hsw:swapsWith (.ListComp elt [⟨tg,iter,ifs,0⟩] scope pos) (some (.Name y py)) spos.line X.env=pure true:=by rfl)
  (hs:∀x,foldedSetIterable iter X.env x=pure x:=by intro _;rfl):QS X (.Assign [.Name y py] (.ListComp elt [⟨tg,iter,ifs,0⟩] scope pos) spos) (sAsg (eComp own js ti g tc te) (hName i)):=
 ⟨qquz hc hN C hi.of (fun s H fp=>⟨(hb s H fp).1.of,(hb s H fp).2.1.of,(hb s H fp).2.2.of⟩) hy hyl hsw hs⟩
end
theorem qfn3{P:Program}{w:World}{K:PySem.W.Frag}{mg:Str->Option Value}{base:Heap}{x qual:Str}{st:Stmt}{f:Addr}{fd:FuncData}{N ps:List Str}{k:Nat}{sp:Sp3}(F:Fun K x qual st f fd)(S:FnScope N ps (defScope st))(hN:ps.length≤N.length)(len:∀ds G Q,sp ds G Q->ds.length=ps.length)(tb:TS3)
  (hbody:∀(cdv:Value) (A:Around) (outer:List Env) (s:Shared) (H:Hp) (E:XK),Room k (A.deeper (envOfC qual (defScope st) s.heap.objs.size f cdv)) ->
   QSs (cxOf CX0 P w K mg base N qual (defScope st) f cdv A outer s H E).nox (defBody st) tb)
  (hrd:∀ds G Q,sp ds G Q->tb (endsOf Q) (start3 N ds) G):FnOk3 P w K mg base (k+1) f fd ps sp:=fn3 F S hN len tb (fun cdv A outer s H E hr=>(hbody cdv A outer s H E hr).of) hrd
end L3
namespace My
open PySem L2 L3
def Known(G:Gp):D->Prop
 |.obj a=>∃o,G a=some o/\o.plain
 |_=>True
def wholeD:D->Bool
 |.int _=>true
 |_=>false
theorem qgz{Q:V3}{d:D}{G:Gp}(h:Q d G):(endsOf Q).rt d G:=⟨G,Sub.refl G,h⟩
theorem qblz{Q:V3}{d:D}{G G':Gp}(s:Sub G G')(h:Q d G):(endsOf Q).rt d G':=⟨G,s,h⟩
theorem qqz{i:Int}(h1:-(10^80)<i)(h2:i<10^80):Big i:=by
 have:i.natAbs<10^80:=by omega
 exact Nat.lt_trans this (by decide)
theorem Sub.updN{G G':Gp}{a:Addr}{o:GO}(s:Sub G G')(h:G a=none):Sub G (upd3 G' a o):=fun b u e=>by
 rw[q8z (fun z=>by rw[z,h] at e;cases e)];exact s b u e
def qbmz:Sp3:=fun ds G Q=>match ds with
 |[d]=>Known G d/\Q (.bl (wholeD d)) G
 |_=>False
def qf7z:TS3:=sRet (eAndV (eInst "int" (eVar 0)) (eNotV (eInst "bool" (eVar 0))))
theorem qj0z{nm:Str}:∀ds G Q,qbmz ds G Q->qf7z (endsOf Q) (start3 [nm] ds) G:=by
 intro ds G Q h;rcases ds with _|⟨d,_|⟨d2,ds⟩⟩
 ·exact h.elim
 ·cases d with
  |int i=>exact⟨fun _=>qgz h.2,nofun⟩
  |bl b=>exact⟨fun _=>qgz h.2,nofun⟩
  |non=>exact⟨nofun,fun _=>qgz h.2⟩
  |str _=>exact⟨nofun,fun _=>qgz h.2⟩
  |tup _=>exact⟨nofun,fun _=>qgz h.2⟩
  |scr _=>exact⟨nofun,fun _=>qgz h.2⟩
  |dc _=>exact⟨nofun,fun _=>qgz h.2⟩
  |obj a=>
   obtain⟨o1,h1,hp⟩:∃o,G a=some o/\o.plain:=h.1;show match instD "int" G (.obj a) with
    |some b=>_
    |none=>_
   cases hG:G a with
   |none=>rw[h1] at hG;cases hG
   |some o=>
    cases o with
    |lst _=>simp only[instD,hG];exact⟨nofun,fun _=>qgz h.2⟩
    |pen=>simp only[instD,hG];exact⟨nofun,fun _=>qgz h.2⟩
    |dct=>simp only[instD,hG];exact⟨nofun,fun _=>qgz h.2⟩
    |gen R=>
     rw[h1] at hG;cases hG;exact hp.elim
 ·exact h.elim
abbrev qtzz:=@qj0z "thing"
abbrev qc4z:=qbmz
abbrev qt0z:=qf7z
abbrev qt1z:=@qj0z "found"
def qc5z:Sp3:=fun ds G Q=>∃(ns:List Int) (k:Nat),ds=[.scr (ns.map .int),.int k]/\∀i:Int,Q (.int i) G
def qj1z:TS3:=sSeq (sIf (eTest (eOp rLtT3 (eVar 1) (eCB q1z (aCons (eVar 0) (aNil))))) (sRet (eOp rIx3 (eVar 0) (eVar 1))) (sNext)) (sRet (eC (.int 0)))
theorem qt2z:∀ds G Q,qc5z ds G Q->qj1z (endsOf Q) (start3 ["script","k"] ds) G:=by
 rintro ds G Q ⟨ns,k,rfl,q⟩;refine⟨fun h=>?_,fun h=>qgz (q 0)⟩;have h':(k:Int)<((ns.map D.int).length:Nat):=of_decide_eq_true h;rw[List.length_map] at h';have hk:k<ns.length:=by omega
 exact⟨.int ns[k],qbpz (by rw[List.getElem?_map,List.getElem?_eq_getElem hk];rfl),qgz (q _)⟩
def qccz:Sp3:=fun ds G Q=>∃n:Int,ds=[.int n]/\0≤n/\∀r:Int,0≤r->r<2147483629->Q (.int r) G
def qj2z:TS3:=sSeq (sAsg (eOp rMod3 (eOp rAdd3 (eVar 0) (eC (.int 7919))) (eC (.int 2147483647))) (hName 0)) (sRet (eOp rMod3 (eOp rAdd3 (eOp rAdd3 (eOp rMul3 (eVar 0) (eVar 0)) (eOp rMul3 (eC (.int 48271)) (eVar 0))) (eC (.int 12345))) (eC (.int 2147483629))))
theorem qt3z:∀ds G Q,qccz ds G Q->qj2z (endsOf Q) (start3 ["seed"] ds) G:=by
 rintro ds G Q ⟨n,rfl,hn,q⟩;have h1:=Int.emod_nonneg (n+7919) (show (2147483647:Int)≠0 by decide);have h2:=Int.emod_lt_of_pos (n+7919) (show (0:Int)<2147483647 by decide);have hb:Big ((n+7919)%2147483647):=qqz (by omega) (by omega);refine⟨(by decide:(0:Int)<2147483647),⟨hb,hb⟩,⟨qqz (by decide) (by decide),hb⟩,(by decide:(0:Int)<2147483629),qgz (q _ ?_ ?_)⟩
 ·exact Int.emod_nonneg _ (by decide)
 ·exact Int.emod_lt_of_pos _ (by decide)
def qelz:Sp3:=fun ds G Q=>∃(p:Addr) (m i j k:Int),ds=[.obj p,.int m]/\G p=some (.lst [.int i,.int j,.int k])/\PenOk i j k/\0<m/\Big m ∧
 ∀r i' j' k':Int,PenOk i' j' k'->0≤r->r<m->Q (.int r) (upd3 G p (.lst [.int i',.int j',.int k']))
def q7z:Sp3:=fun ds G Q=>∃(p:Addr) (m:Int),ds=[.obj p,.int m]/\G p=some .pen/\(0<m/\Big m)/\∀r:Int,0≤r->r<m->Q (.int r) G
def qj3z:TS3:=sSeq (sIf (eTest (eOp (rEq3 false) (eOp rIx3 (eVar 0) (eC (.int 1))) (eC (.int 1)))) (sSeq (sAsg (eOp rMod3 (eOp rIx3 (eVar 0) (eC (.int 0))) (eVar 1)) (hName 2)) (sSeq (sAsg (eOp rDiv3 (eOp rIx3 (eVar 0) (eC (.int 0))) (eVar 1)) (hSub (eVar 0) (eC (.int 0)))) (sRet (eVar 2)))) (sNext)) (sSeq (sAsg (eCall qccz (aCons (eOp rAdd3 (eCall qccz (aCons (eOp rIx3 (eVar 0) (eC (.int 2))) (aNil))) (eC (.int 7))) (aNil))) (hSub (eVar 0) (eC (.int 2)))) (sRet (eOp rMod3 (eOp rDiv3 (eOp rIx3 (eVar 0) (eC (.int 2))) (eC (.int 64))) (eVar 1))))
theorem qt4z:∀ds G Q,qelz ds G Q->qj3z (endsOf Q) (start3 ["pen","many","found"] ds) G:=by
 rintro ds G Q ⟨p,m,i,j,k,rfl,hp,ok,hm,hb,q⟩;obtain⟨o1,o2,o3⟩:=ok;refine⟨_,_,hp,rfl,_,_,rfl,rfl,Nat.zero_le _,fun _=>?_,fun _=>?_⟩
 ·refine⟨_,_,hp,rfl,hm,_,_,hp,rfl,⟨hm,hb⟩,_,0,hp,rfl,?_⟩;refine qgz (q (i%m) (i / m) j k ⟨?_,o2,o3⟩ ?_ ?_)
  ·exact Int.ediv_nonneg o1 (by omega)
  ·exact Int.emod_nonneg _ (by omega)
  ·exact Int.emod_lt_of_pos _ hm
 ·refine⟨_,_,hp,rfl,_,rfl,o2,fun r h1 h2=>⟨_,rfl,(by omega),fun r' h3 h4=>?_⟩⟩;refine⟨_,2,hp,rfl,_,_,qaiz,rfl,⟨by decide,qqz (by decide) (by decide)⟩,hm,?_⟩;refine qgz (q _ i j r' ⟨o1,h3,by omega⟩ ?_ ?_)
  ·exact Int.emod_nonneg _ (by omega)
  ·exact Int.emod_lt_of_pos _ hm
theorem qt5z{K:PySem.W.Frag}:∀vs H Q E,lowSp K q7z vs H Q E->lowSp K qelz vs H Q E:=by
 rintro vs H Q E ⟨ds,G,Q3,hd,RG,⟨p,m,rfl,hp,hm,q⟩,k⟩;obtain⟨i,j,l,e,ok⟩:=RG p _ hp;refine⟨_,upd3 G p (.lst [.int i,.int j,.int l]),fun d G'=>∃i' j' l',PenOk i' j' l'/\G'=upd3 G p (.lst [.int i',.int j',.int l'])/\Q3 d G,hd,?_,⟨p,m,i,j,l,rfl,qaiz,ok,hm.1,hm.2,fun r i' j' k' ok' h1 h2=>⟨i',j',k',ok',qpdz,q r h1 h2⟩⟩,?_⟩
 ·intro a o ea;by_cases z:a=p
  ·subst z;rw[qaiz] at ea;cases ea;exact⟨_,e,.cons (by simp[Hv]) (.cons (by simp[Hv]) (.cons (by simp[Hv]) .nil))⟩
  ·rw[q8z z] at ea;exact RG a o ea
 ·rintro v H' d G' hv S R ⟨i',j',l',ok',rfl,h3⟩;refine k v H' d G hv ⟨fun a o ea n=>S.fr a o ea ?_,S.trk,fun a n z=>absurd n z⟩ (fun a o ea=>?_) h3
  ·have:a≠p:=fun z=>by rw[z,hp] at n;cases n
   rw[q8z this];exact n
  ·by_cases z:a=p
   ·subst z;rw[hp] at ea;cases ea;obtain⟨ws,e1,e2⟩:=R a _ qaiz;have:=qb7z e2 (ns:=[i',j',l']) rfl;subst this;exact⟨i',j',l',e1,ok'⟩
   ·exact R a o (by rw[q8z z];exact ea)
def qemz:Sp3:=fun ds G Q=>∃c:Int,ds=[.int c]/\∀p i j k G',New G p (.lst [.int i,.int j,.int k]) G'->PenOk i j k->Q (.obj p) G'
def qf8z:Sp3:=fun ds G Q=>∃c:Int,ds=[.int c]/\∀p G',New G p .pen G'->Q (.obj p) G'
def qj4z:TS3:=sSeq (sAsg (eCB qcuz (aCons (eVar 0) (aCons (eOp rSub3 (eC (.int 0)) (eVar 0)) (aNil)))) (hName 1)) (sRet (eLst (aCons (eVar 1) (aCons (eCB qd1z (aCons (eOp rGe3 (eVar 1) (eOp rPow3 (eC (.int 10)) (eC (.int 18)))) (aNil))) (aCons (eOp rMod3 (eVar 1) (eC (.int 1000003))) (aNil))))))
theorem qt6z:∀ds G Q,qemz ds G Q->qj4z (endsOf Q) (start3 ["cell","left"] ds) G:=by
 rintro ds G Q ⟨c,rfl,q⟩;refine⟨⟨by decide,by decide,by decide⟩,(by decide:(0:Int)<1000003),fun p G' hp=>qgz (q p _ _ _ _ hp ⟨?_,?_,?_⟩)⟩
 ·split<;>omega
 ·exact Int.emod_nonneg _ (by decide)
 ·exact Int.lt_trans (Int.emod_lt_of_pos _ (by decide)) (by decide)
theorem qt7z{K:PySem.W.Frag}:∀vs H Q E,lowSp K qf8z vs H Q E->lowSp K qemz vs H Q E:=by
 rintro vs H Q E ⟨ds,G,Q3,hd,RG,⟨c,rfl,q⟩,k⟩;refine⟨_,G,fun d G'=>∃p i j l,PenOk i j l/\New G p (.lst [.int i,.int j,.int l]) G'/\d=.obj p,hd,RG,⟨c,rfl,fun p i j l G' hp ok=>⟨p,i,j,l,ok,hp,rfl⟩⟩,?_⟩;rintro v H' d G' hv S R ⟨p,i,j,l,ok,hp,rfl⟩;refine k v H' _ (upd3 G' p .pen) hv ⟨S.fr,S.trk,fun a n z=>S.new a n ?_⟩ (fun a o ea=>?_) (q p _ ⟨hp.non,Sub.updN hp.sub hp.non,qaiz⟩)
 ·by_cases y:a=p
  ·rw[y,hp.at_];simp
  ·rw[q8z y] at z;exact z
 ·by_cases z:a=p
  ·subst z;rw[qaiz] at ea;cases ea;obtain⟨ws,e1,e2⟩:=R a _ hp.at_;have:=qb7z e2 (ns:=[i,j,l]) rfl;subst this;exact⟨i,j,l,e1,ok⟩
  ·rw[q8z z] at ea;exact R a o ea
abbrev Clk:=Int×Int
def cD(c:Clk):D:=.tup [.int c.1,.int c.2]
def csD(cs:List Clk):D:=.tup (cs.map cD)
def Valid(c:Clk):Prop:=0<c.1/\0≤c.2/\c.2<c.1
theorem line1000{n:Nat}(h:n≤1000):n≤sizeLine:=Nat.le_trans h (by decide)
theorem qabz{α:Type}{guard:Gp->Prop}{g:TG3}{tc:TT3}{te:TE3}{Q:List D->Gp->Prop}(I:S3->Prop)(h:α->D)(pr:α->Bool)(f:α->D){G:Gp}(hg:guard G):∀(xs:List α) (acc:List D) (τ:S3),I τ ->
  (∀x∈xs,∀τ (K1:S3->Gp->Prop) (K2:S3->D->Gp->Prop),I τ->(pr x=true->∀τ2,I τ2->K2 τ2 (f x) G)->(pr x=false->∀τ2,I τ2->K1 τ2 G)->g (h x) τ G fun τ2 G2=>tc τ2 G2 fun b G3=>Br b (te τ2 G3 fun v G4=>K2 τ2 v G4) (K1 τ2 G3)) ->
  Q (acc++(xs.filter pr).map f) G->compGo guard g tc te Q (xs.map h) acc τ G
 |[],acc,τ,_,_,q=>⟨hg,by simpa using q⟩
 |d::ds,acc,τ,hI,hs,q=>by
  refine⟨hg,hs d List.mem_cons_self τ (fun τ2 G3=>compGo guard g tc te Q (ds.map h) acc τ2 G3) (fun τ2 v G4=>compGo guard g tc te Q (ds.map h) (acc++[v]) τ2 G4) hI (fun hp τ2 h2=>?_) fun hp τ2 h2=>?_⟩
  ·refine qabz I h pr f hg ds _ τ2 h2 (fun d' hd=>hs d' (List.mem_cons_of_mem _ hd)) ?_;rw[List.filter_cons_of_pos hp] at q;simpa using q
  ·refine qabz I h pr f hg ds _ τ2 h2 (fun d' hd=>hs d' (List.mem_cons_of_mem _ hd)) ?_;rw[List.filter_cons_of_neg (by rw[hp];simp)] at q;exact q
end My
namespace My
open PySem L2 L3
def cX(c:Clk):Dat.D:=.tup [.int c.1,.int c.2]
theorem qcdz:∀cs:List Clk,toDats0 (cs.map cD)=some (cs.map cX)
 |[]=>rfl
 |c::cs=>by
  show (match toDat0 (cD c) with
   |some x=>match toDats0 (cs.map cD) with
    |some xs=>some (x::xs)
    |none=>none
   | none=>none)=_
  rw[qcdz cs];rfl
theorem qbzz{G:Gp}{a:Addr}{ds:List D}{xs:List Dat.D}(h:G a=some (.lst ds))(e:toDats0 ds=some xs):toDat G (.obj a)=some (.lst xs):=by
 unfold toDat;simp only[h,e]
theorem qc6z:∀cs:List Clk,Dat.deps (cs.map cX)≤1
 |[]=>Nat.zero_le _
 |c::cs=>by
  show max (cX c).dep (Dat.deps (cs.map cX))≤1;have h1:(cX c).dep=1:=rfl;have:=qc6z cs;omega
theorem qj5z(cs:List Clk):(Dat.D.lst (cs.map cX)).dep≤50:=by
 show Dat.deps (cs.map cX)+1≤50;have:=qc6z cs;omega
theorem qj6z(xs:List Dat.D):(Dat.D.lst xs).eqb (.lst [])=xs.isEmpty:=by
 cases xs with
 |nil=>rfl
 |cons x xs=>rfl
theorem qc7z(a b:Clk):(cX a).eqb (cX b)=decide (a=b):=by
 obtain⟨s,r⟩:=a;obtain⟨s',r'⟩:=b;show ((s==s')&&((r==r')&&true))=decide ((s,r)=(s',r'));rw[Bool.eq_iff_iff];simp
theorem qf9z:∀as bs:List Clk,Dat.eqbs (as.map cX) (bs.map cX)=decide (as=bs)
 |[],[]=>rfl
 |[],b::bs=>rfl
 |a::as,[]=>rfl
 |a::as,b::bs=>by
  show ((cX a).eqb (cX b)&&Dat.eqbs (as.map cX) (bs.map cX))=_;rw[qc7z,qf9z as bs,Bool.eq_iff_iff];simp
theorem qj7z{α β:Type}(f:α->β)(xs:List α):(xs.map f).isEmpty=xs.isEmpty:=by cases xs<;>rfl
def rg2(n:Int)(c:Clk):Bool:=(n-c.2)%c.1==0
end My
namespace My
open PySem L2 L3
def cutG{α:Type}(xs:List α)(lo hi:Option Int):List α:=(xs.drop (HT.sIx xs.length 0 lo)).take (HT.sIx xs.length xs.length hi-HT.sIx xs.length 0 lo)
theorem qenz{α:Type}(f:α->D)(xs:List α)(lo hi:Option Int):cut3 (xs.map f) lo hi=(cutG xs lo hi).map f:=by
 unfold cut3 cutG;rw[List.length_map,List.map_take,List.map_drop]
theorem qt8z{α:Type}(xs:List α)(lo hi:Option Int):(cutG xs lo hi).length≤xs.length:=by
 unfold cutG;rw[List.length_take,List.length_drop];omega
theorem qj8z{α:Type}(xs:List α)(k:Nat):cutG xs none (some (k:Int))=xs.take k:=by
 unfold cutG;rw[HT.sIx_none,HT.sIx_nat];simp only[List.drop_zero,Nat.sub_zero];by_cases h:k≤xs.length
 ·rw[Nat.min_eq_left h]
 ·rw[Nat.min_eq_right (by omega),List.take_length,List.take_of_length_le (by omega)]
theorem qt9z{α:Type}(xs:List α)(k:Nat):cutG xs (some (k:Int)) none=xs.drop k:=by
 unfold cutG;rw[HT.sIx_none,HT.sIx_nat];by_cases h:k≤xs.length
 ·rw[Nat.min_eq_left h];exact List.take_of_length_le (by rw[List.length_drop];omega)
 ·rw[Nat.min_eq_right (by omega),List.drop_length,List.drop_eq_nil_of_le (by omega)];simp
def ClOk(M:Int)(cs:List Clk):Prop:=∀c∈cs,Valid c/\c.1≤M
theorem quaz{s r k i:Int}(h:Valid (s,r))(h1:0≤i)(h2:i<k):Valid (s*k,r+s*i):=by
 obtain⟨a,b,c⟩:=h;simp only at a b c;have q:=Int.mul_le_mul_of_nonneg_left (show i≤k-1 by omega) (show 0≤s by omega);rw[Int.mul_sub,Int.mul_one] at q;have q2:=Int.mul_nonneg (show 0≤s by omega) h1;refine⟨?_,?_,?_⟩
 ·exact Int.mul_pos a (by omega)
 ·show 0≤r+s*i;omega
 ·show r+s*i<s*k;omega
theorem qeoz{α:Type}(f:α->D){xs:List α}{r:Int}(h1:0≤r)(h2:r<(xs.length:Nat)):∃x,xs[r.toNat]?=some x/\x∈xs/\atI (xs.map f) r=some (f x):=by
 have hk:r.toNat<xs.length:=by omega
 refine⟨xs[r.toNat],List.getElem?_eq_getElem hk,List.getElem_mem hk,?_⟩;have e:r=((r.toNat:Nat):Int):=by omega
 have q:atI (xs.map f) ((r.toNat:Nat):Int)=some (f xs[r.toNat]):=qbpz (by rw[List.getElem?_map];simp[hk]);rw[←e] at q;exact q
theorem qj9z{ns:List Int}{r:Int}(h1:0≤r)(h2:r<(ns.length:Nat)):∃n,n∈ns/\atI (ns.map D.int) r=some (.int n):=by
 obtain⟨x,_,h3,h4⟩:=qeoz D.int h1 h2;exact⟨x,h3,h4⟩
end My
namespace My
open PySem L2 L3
def toL(c:Clk):List Int:=[c.1,c.2]
theorem qb0z(cs:List Clk):(cs.map toL).map tupI=cs.map cD:=by
 rw[List.map_map];rfl
theorem qgaz{cs:List Clk}:∀{mss:List (List Int)},(∀ns∈mss,ns∈cs.map toL)->∃cs':List Clk,mss=cs'.map toL/\∀c∈cs',c∈cs
 |[],_=>⟨[],rfl,fun c hc=>nomatch hc⟩
 |ns::mss,h=>by
  obtain⟨cs',e,hc⟩:=qgaz (mss:=mss) fun n hn=>h n (List.mem_cons_of_mem _ hn);obtain⟨c,h1,rfl⟩:=List.mem_map.mp (h ns List.mem_cons_self);refine⟨c::cs',by simp[e],fun d hd=>?_⟩;rcases List.mem_cons.mp hd with rfl|hd
  ·exact h1
  ·exact hc d hd
def cLt(a b:Clk):Prop:=a.1<b.1∨(a.1=b.1/\a.2<b.2)
def Rise(cs:List Clk):Prop:=cs.Pairwise cLt
theorem qkaz{a b:Clk}(h:toL a=toL b):a=b:=by
 obtain⟨s,r⟩:=a;obtain⟨s',r'⟩:=b;simp[toL] at h;simp[h]
theorem qubz{a b:Clk}(h:SortV.lx (toL b) (toL a)=false)(hne:a≠b):cLt a b:=by
 obtain⟨s,r⟩:=a;obtain⟨s',r'⟩:=b;unfold toL at h;simp only[SortV.lx] at h;by_cases e:s'=s
 ·rw[if_pos e] at h;by_cases e2:r'=r
  ·exact absurd (by rw[e,e2]) hne
  ·rw[if_neg e2] at h;have:=of_decide_eq_false h;exact .inr ⟨e.symm,by simp only;omega⟩
 ·rw[if_neg e] at h;have:=of_decide_eq_false h;exact .inl (by simp only;omega)
theorem qkbz{cs:List Clk}(h:RiseL (cs.map toL))(nd:(cs.map toL).Nodup):Rise cs:=by
 have h1:=List.pairwise_map.mp h;have h2:=List.pairwise_map.mp nd;exact (h1.and h2).imp fun {a b} q=>qubz q.1 fun z=>q.2 (by rw[z])
theorem Rise.take{cs:List Clk}(h:Rise cs)(n:Nat):Rise (cs.take n):=List.Pairwise.sublist (List.take_sublist n cs) h
theorem qgbz{cs:List Clk}{mss:List (List Int)}(hmem:∀ns,ns∈mss↔ns∈cs.map toL)(nd:mss.Nodup)(hr:RiseL mss)(hl:mss.length≤(cs.map toL).length):
  ∃cs':List Clk,mss=cs'.map toL/\(∀c,c∈cs'↔c∈cs)/\Rise cs'/\cs'.length≤cs.length:=by
 obtain⟨cs',rfl,hc⟩:=qgaz fun ns hn=>(hmem ns).mp hn;refine⟨cs',rfl,fun c=>⟨fun h=>hc c h,fun h=>?_⟩,qkbz hr nd,by simpa using hl⟩;obtain⟨c',h1,h2⟩:=List.mem_map.mp ((hmem (toL c)).mpr (List.mem_map.mpr ⟨c,h,rfl⟩));rw[←qkaz h2];exact h1
theorem qepz{cs:List Clk}:∀ns∈cs.map toL,ns≠[]:=fun ns hn=>by
 obtain⟨c,_,rfl⟩:=List.mem_map.mp hn;simp[toL]
theorem qkcz{G:Gp}{a:Addr}{cs:List Clk}(e:G a=some (.lst (cs.map cD))):G a=some (.lst ((cs.map toL).map tupI)):=by rw[qb0z];exact e
theorem qgcz{r:Int}{n:Nat}(h1:0≤r)(h2:r<(n:Int)):seqIndex? r n=some r.toNat:=by
 unfold seqIndex?;simp only[if_neg (show ¬r<0 by omega)];rw[if_pos (by simp;omega)]
theorem qeqz{α β:Type}(f:α->β):∀(xs:List α) (i:Nat),(xs.map f).eraseIdx i=(xs.eraseIdx i).map f
 |[],_=>rfl
 |_::_,0=>rfl
 |x::xs,i+1=>by simp[qeqz f xs i]
end My
namespace My
open PySem L2 L3
theorem qgdz{guard:Gp->Prop}{g:TG3}{tc:TT3}{te:TE3}{Q:List D->Gp->Prop}(I:List D->List D->S3->Gp->Prop)(hg:∀ds acc τ G,I ds acc τ G->guard G)
  (step:∀d ds acc τ G (K1:S3->Gp->Prop) (K2:S3->D->Gp->Prop),I (d::ds) acc τ G->(∀τ' v G',I ds (acc++[v]) τ' G'->K2 τ' v G')->(∀τ' G',I ds acc τ' G'->K1 τ' G')->g d τ G fun τ2 G2=>tc τ2 G2 fun b G3=>Br b (te τ2 G3 fun v G4=>K2 τ2 v G4) (K1 τ2 G3))
  (hend:∀acc τ G,I [] acc τ G->Q acc G):∀ds acc τ G,I ds acc τ G->compGo guard g tc te Q ds acc τ G
 |[],acc,τ,G,h=>⟨hg _ _ _ _ h,hend _ _ _ h⟩
 |d::ds,acc,τ,G,h=>⟨hg _ _ _ _ h,step d ds acc τ G (fun τ2 G3=>compGo guard g tc te Q ds acc τ2 G3) (fun τ2 v G4=>compGo guard g tc te Q ds (acc++[v]) τ2 G4) h
   (fun τ' v G' q=>qgdz I hg step hend ds _ τ' G' q) fun τ' G' q=>qgdz I hg step hend ds _ τ' G' q⟩
def qcez:Sp3:=fun ds G Q=>∃(p:Addr) (m:Int),ds=[.obj p,.int m]/\G p=some .pen/\(0<m/\m≤1000)/\∀c:Clk,Valid c->c.1≤m->Q (cD c) G
def qucz:TS3:=sRet (eTup (aCons (eVar 2) (aCons (eCall q7z (aCons (eVar 0) (aCons (eVar 2) (aNil)))) (aNil))))
def qkdz:TS3:=sSeq (sAsg (eOp rAdd3 (eC (.int 1)) (eCall q7z (aCons (eVar 0) (aCons (eVar 1) (aNil))))) (hName 2)) qucz
theorem qudz:∀ds G Q,qcez ds G Q->qkdz (endsOf Q) (start3 ["pen","most","step"] ds) G:=by
 rintro ds G Q ⟨p,m,rfl,hp,hm,q⟩;refine⟨p,m,rfl,hp,⟨hm.1,qqz (by omega) (by omega)⟩,fun r h1 h2=>?_⟩;refine⟨p,_,rfl,hp,⟨by omega,qqz (by omega) (by omega)⟩,fun r2 h3 h4=>qgz (q (1+r,r2) ⟨?_,h3,h4⟩ ?_)⟩
 ·show 0<1+r;omega
 ·show 1+r≤m;omega
theorem quez{cs:List Clk}{mss:List (List Int)}(hp:mss.Perm (cs.map toL)):∃cs':List Clk,mss=cs'.map toL/\(∀c∈cs',c∈cs)/\cs'.length=cs.length:=by
 obtain⟨cs',rfl,hc⟩:=qgaz fun ns hn=>hp.mem_iff.mp hn;exact⟨cs',rfl,hc,by simpa using hp.length_eq⟩
def qufz:TS3:=sAsg (eOp rAdd3 (eVar 3) (eComp ["part"] [5,4,6] (iRng1 (aCons (eVar 4) (aNil))) (hName 0) (tNoTest3) (eTup (aCons (eOp rMul3 (eVar 1) (eVar 2)) (aCons (eOp rAdd3 (eVar 3) (eOp rMul3 (eVar 1) (eVar 0))) (aNil)))))) (hName 3)
def qugz:TS3:=sSeq (sIf (eTest (eOp rGt3 (eOp rMul3 (eVar 5) (eVar 4)) (eC (.int 1000)))) (sRet (eCB qbwz (aCons (eOp rAdd3 (eVar 3) (eLst (aCons (eTup (aCons (eVar 5) (aCons (eVar 6) (aNil)))) (aNil)))) (aNil)))) (sNext)) qufz
def qkez:TS3:=sSeq (sAsg (eM qd4z (eVar 3) (aCons (eCall q7z (aCons (eVar 0) (aCons (eCB q1z (aCons (eVar 3) (aNil))) (aNil)))) (aNil))) (hTup 2 (hCons (hName 5) (hCons (hName 6) (hNil))))) qugz
def quhz:TS3:=sSeq (sAsg (eCB qfjz (aCons (eVar 4) (aCons (eCB qcuz (aCons (eC (.int 2)) (aCons (eOp rAdd3 (eOp rSub3 (eVar 2) (eCB q1z (aCons (eVar 3) (aNil)))) (eC (.int 1))) (aNil)))) (aNil)))) (hName 4)) qkez
def qkfz:TS3:=sSeq (sAsg (eLstIx (aCons (eC (.int 2)) (aCons (eC (.int 2)) (aCons (eC (.int 3)) (aCons (eC (.int 2)) (aCons (eC (.int 3)) (aCons (eC (.int 5)) (aNil))))))) (eCall q7z (aCons (eVar 0) (aCons (eC (.int 6)) (aNil))))) (hName 4)) quhz
def qgez:TS3:=sRet (eCB qbwz (aCons (eVar 3) (aNil)))
def quiz:TS3:=sSeq (sWhile (eOr (eTest (eOp rLtT3 (eCB q1z (aCons (eVar 3) (aNil))) (eVar 1))) (eAnd (eTest (eOp rGt3 (eCall q7z (aCons (eVar 0) (aCons (eC (.int 4)) (aNil)))) (eC (.int 0)))) (eTest (eOp rLtT3 (eCB q1z (aCons (eVar 3) (aNil))) (eVar 2))))) (qkfz)) qgez
def qujz:TS3:=sSeq (sAsg (eLst (aCons (eTup (aCons (eC (.int 1)) (aCons (eC (.int 0)) (aNil)))) (aNil))) (hName 3)) quiz
theorem wrote{G G1:Gp}{q:Addr}{o o':GO}(n:New G q o G1):New G q o' (upd3 G1 q o'):=⟨n.non,Sub.updN n.sub n.non,qaiz⟩
end My
namespace My
open PySem L2 L3
def qukz:TS3:=sDrop (eM qcvz (eVar 3) (aCons (eTup (aCons (eVar 6) (aCons (eCall q7z (aCons (eVar 0) (aCons (eVar 6) (aNil)))) (aNil)))) (aNil)))
def qulz:TS3:=sSeq (sAsg (eOp rIx3 (eVar 4) (eCall q7z (aCons (eVar 0) (aCons (eC (.int 7)) (aNil))))) (hName 6)) qukz
def qumz:TS3:=sFor (iRng1 (aCons (eCall q7z (aCons (eVar 0) (aCons (eOp rAdd3 (eVar 1) (eC (.int 1))) (aNil)))) (aNil))) (hName 5) (qulz)
def qunz:TS3:=sSeq (sAsg (eLst (aNil)) (hName 3)) qumz
def qkgz:TS3:=sIf (eTest (eOp (rEq3 false) (eVar 2) (eC (.int 4)))) (sDrop (eM qd4z (eVar 3) (aCons (eCall q7z (aCons (eVar 0) (aCons (eCB q1z (aCons (eVar 3) (aNil))) (aNil)))) (aNil)))) (sNext)
def quoz:TS3:=sSeq (sIf (eTest (eOp (rEq3 false) (eVar 2) (eC (.int 3)))) (sAsg (eOp rAdd3 (eVar 3) (eLst (aCons (eCall qcez (aCons (eVar 0) (aCons (eC (.int 6)) (aNil)))) (aNil)))) (hName 3)) (sNext)) qkgz
def qgfz:TS3:=sRet (eSl (eCB qatz (aCons (eSortSet (eVar 3)) (aNil))) (oNone) (oSome (eVar 1)))
end My
namespace My
open PySem L2 L3
def nD(n:Nat):D:=.int (n:Nat)
theorem filter_all{α:Type}(xs:List α):xs.filter (fun _=>true)=xs:=List.filter_eq_self.mpr fun _ _=>rfl
end My
namespace My
open PySem L2 L3
theorem rg2_iff{c:Clk}{n:Int}:rg2 n c=true↔c.1∣n-c.2:=by
 unfold rg2;rw[beq_iff_eq];exact⟨Int.dvd_of_emod_eq_zero,Int.emod_eq_zero_of_dvd⟩
end My
namespace My
open PySem L2 L3
theorem rng0(n:Nat):rngL 0 n=(List.range n).map nD:=by
 unfold rngL;refine List.map_congr_left fun i _=>?_;show D.int (0+(i:Int))=D.int (i:Int);rw[Int.zero_add]
theorem qkhz{cs:List Clk}{i:Nat}{a:Clk}(h:cs[i]?=some a):atI (cs.map cD) (i:Int)=some (cD a):=qbpz (by rw[List.getElem?_map,h];rfl)
end My
namespace My
open PySem L2 L3
def Known2(G:Gp):D->Prop
 |.tup ds=>∀d∈ds,Known G d
 |.obj a=>∃o,G a=some o/\o.plain
 |_=>True
theorem qerz{G:Gp}{d:D}(h:Known2 G d)(hn:∀ds,d≠.tup ds):instD "tuple" G d=some false:=by
 cases d with
 |obj a=>
  obtain⟨o,hG,hp⟩:∃o,G a=some o/\o.plain:=h;cases o with
  |gen R=>exact hp.elim
  |_=>simp[instD,hG]
 |tup ds=>exact absurd rfl (hn ds)
 |_=>rfl
end My
namespace My
open PySem L2 L3
theorem qkiz(as bs:List Clk):(Dat.D.lst (as.map cX)).eqb (.lst (bs.map cX))=decide (as=bs):=qf9z as bs
theorem qcfz{α:Type}(f:α->Bool):∀xs:List α,blsOf (xs.map fun x=>D.bl (f x))=some (xs.map f)
 |[]=>rfl
 |x::xs=>by
  show Option.map _ (blsOf (xs.map fun x=>D.bl (f x)))=_;rw[qcfz f xs];rfl
theorem all_map{α:Type}(f:α->Bool)(xs:List α):(xs.map f).all id=xs.all f:=by
 induction xs with
 |nil=>rfl
 |cons x xs ih=>simp
end My
namespace My
open PySem L2 L3
def Kn(G:Gp):Nat->D->Prop
 |0,d=>Known G d
 |n+1,.tup ds=>∀d∈ds,Kn G n d
 |_+1,d=>Known G d
def KnD(G:Gp)(d:D):Prop:=∀n,Kn G n d
section
variable {G G':Gp}
theorem KnD.tup{ds:List D}(h:∀d∈ds,KnD G d):KnD G (.tup ds):=fun n=>match n with
 |0=>trivial
 |n+1=>fun d hd=>h d hd n
theorem KnD.int(i:Int):KnD G (.int i):=fun n=>by cases n<;>trivial
theorem KnD.el{ds:List D}{d:D}(h:KnD G (.tup ds))(hd:d∈ds):KnD G d:=fun n=>h (n+1) d hd
theorem KnD.known{d:D}(h:KnD G d):Known G d:=h 0
theorem KnD.known2{d:D}(h:KnD G d):Known2 G d:=by
 cases d with
 |tup ds=>exact fun d hd=>(h.el hd).known
 |obj a=>exact h 0
 |_=>trivial
theorem KnD.clk(c:Clk):KnD G (cD c):=.tup fun d hd=>by
 simp only[List.mem_cons,List.not_mem_nil,or_false] at hd;rcases hd with rfl|rfl
 ·exact .int _
 ·exact .int _
end
def clkV(s r:Int):Bool:=(decide (1≤s)&&decide (s≤1000))&&(decide (0≤r)&&decide (r<s))
def clkB:D->Bool
 |.tup [.int s,.int r]=>clkV s r
 |_=>false
def qkjz:Sp3:=fun ds G Q=>∃d:D,ds=[d]/\KnD G d/\Q (.bl (clkB d)) G
def qupz:TS3:=sRet (eAndV (eChain rLe3 rLe3 (eC (.int 1)) (eOp rIx3 (eVar 0) (eC (.int 0))) (eC (.int 1000))) (eChain rLe3 rLtT3 (eC (.int 0)) (eOp rIx3 (eVar 0) (eC (.int 1))) (eOp rIx3 (eVar 0) (eC (.int 0)))))
def quqz:TS3:=sSeq (sIf (eOr (eNot (eTest (eCall qbmz (aCons (eOp rIx3 (eVar 0) (eC (.int 0))) (aNil))))) (eNot (eTest (eCall qbmz (aCons (eOp rIx3 (eVar 0) (eC (.int 1))) (aNil)))))) (sRet (eC (.bl false))) (sNext)) qupz
def qkkz:TS3:=sSeq (sIf (eOr (eNot (eTest (eInst "tuple" (eVar 0)))) (eTest (eOp (rEq3 true) (eCB q1z (aCons (eVar 0) (aNil))) (eC (.int 2))))) (sRet (eC (.bl false))) (sNext)) quqz
theorem qesz{ds:List D}(h:ds.length≠2):clkB (.tup ds)=false:=by
 unfold clkB;split
 ·rename_i h2;cases h2;exact absurd rfl h
 ·rfl
theorem q1xz:∀ds G Q,qkjz ds G Q->qkkz (endsOf Q) (start3 ["thing"] ds) G:=by
 rintro ds G Q ⟨d,rfl,hk,q⟩;have not_tup:(∀ds,d≠.tup ds)->qkkz (endsOf Q) (start3 ["thing"] [d]) G:=by
  intro hn;have e:clkB d=false:=by
   cases d with
   |tup ds=>exact absurd rfl (hn ds)
   |_=>rfl
  rw[e] at q;show match instD "tuple" G d with
   |some b=>_
   |none=>False
  rw[qerz hk.known2 hn];exact⟨fun _=>⟨fun _=>qgz q,nofun⟩,nofun⟩
 cases d with
 |tup ds=>
  refine⟨nofun,fun _=>⟨_,_,rfl,rfl,Nat.zero_le _,?_⟩⟩;rcases ds with _|⟨a,_|⟨b,_|⟨c,ds⟩⟩⟩
  ·exact⟨fun _=>qgz q,nofun⟩
  ·rw[qesz (by simp)] at q;exact⟨fun _=>qgz q,nofun⟩
  ·refine⟨nofun,fun _=>⟨a,rfl,(hk.el (by simp)).known,?_⟩⟩;have hb:Known G b:=(hk.el (by simp)).known;cases a with
   |int s=>
    refine⟨nofun,fun _=>⟨b,rfl,hb,?_⟩⟩;cases b with
    |int r=>
     have fin:∀v,clkV s r=v->(endsOf Q).rt (.bl v) G:=fun v e=>by
      rw[←e];exact qgz q
     refine⟨nofun,fun _=>⟨_,rfl,⟨fun h1=>⟨fun h2=>⟨_,rfl,fun h3=>⟨_,rfl,fin _ ?_⟩,fun h3=>fin _ ?_⟩,fun h2=>fin _ ?_⟩,fun h1=>⟨nofun,fun _=>fin _ ?_⟩⟩⟩⟩
     ·unfold clkV;rw[h1,h2,h3];rfl
     ·unfold clkV;rw[h1,h2,h3];rfl
     ·unfold clkV;rw[h1,h2];rfl
     ·unfold clkV;rw[h1];rfl
    |_=>exact⟨fun _=>qgz q,nofun⟩
   |_=>exact⟨fun _=>⟨fun _=>qgz q,nofun⟩,nofun⟩
  ·refine⟨fun _=>?_,fun h=>?_⟩
   ·rw[qesz (by simp)] at q;exact qgz q
   have h':(!(((ds.length+1+1+1:Nat):Int)==2))=false:=h;simp at h';omega
 |_=>exact not_tup nofun
def ltC(p:Clk×Clk):Bool:=HT.lexLt (toL p.1) (toL p.2)
def adjA(cs:List Clk):Bool:=(cs.zip (cs.drop 1)).all ltC
def clkOf:D->Clk
 |.tup [.int s,.int r]=>(s,r)
 |_=>(0,0)
def clksB:D->Bool
 |.tup ds=>decide (ds.length≤12)&&(ds.all clkB&&adjA (ds.map clkOf))
 |_=>false
theorem qurz{d:D}(h:clkB d=true):∃c:Clk,d=cD c:=by
 unfold clkB at h;split at h
 ·rename_i s r;exact⟨(s,r),rfl⟩
 ·cases h
theorem qklz:∀{ds:List D},ds.all clkB=true->∃cs:List Clk,ds=cs.map cD
 |[],_=>⟨[],rfl⟩
 |d::ds,h=>by
  rw[List.all_cons,Bool.and_eq_true] at h;obtain⟨c,rfl⟩:=qurz h.1;obtain⟨cs,rfl⟩:=qklz h.2;exact⟨c::cs,rfl⟩
theorem qkmz(cs:List Clk):(cs.map cD).map clkOf=cs:=by
 rw[List.map_map];exact (List.map_congr_left fun c _=>rfl).trans (List.map_id cs)
def qusz:Sp3:=fun ds G Q=>∃d:D,ds=[d]/\KnD G d/\Q (.bl (clksB d)) G
theorem qknz{G:Gp}{te:TE3}{Q:List D->Gp->Prop}{ds:List D}{f:D->Bool}{js:List Nat}{τ:S3}(hl:ds.length≤1000)
  (hs:∀x∈ds,∀y:Option D,∀K:V3,K (.bl (f x)) G->te (set3 (y::js.map fun j=>at3 τ j) 0 x) G K) (q:Q (ds.map fun x=>.bl (f x)) G):compGo (fun _=>True) (hName 0) tNoTest3 te Q ds [] (none::js.map fun j=>at3 τ j) G:=by
 have:=qabz (α:=D) (guard:=fun _=>True) (g:=hName 0) (tc:=tNoTest3) (te:=te) (Q:=Q) (fun τ'=>∃x,τ'=x::js.map fun j=>at3 τ j) (fun x=>x) (fun _=>true) (fun x=>.bl (f x)) (G:=G) trivial ds [] (none::js.map fun j=>at3 τ j) ⟨none,rfl⟩ ?_ ?_
 ·rw[List.map_id'] at this;exact this
 ·rintro x hx τ' K1 K2 ⟨y,rfl⟩ h1 h2;exact⟨fun _=>hs x hx y _ (h1 rfl _ ⟨_,rfl⟩),nofun⟩
 ·rw[filter_all,List.nil_append];exact q
end My
namespace My
open PySem L2 L3
theorem qggz{α β:Type}(f:α->D)(g:β->D):∀(as:List α) (bs:List β),zipD (as.map f) (bs.map g)=(as.zip bs).map fun p=>D.tup [f p.1,g p.2]
 |[],_=>rfl
 |a::as,[]=>rfl
 |a::as,b::bs=>by
  show D.tup [f a,g b]::zipD (as.map f) (bs.map g)=D.tup [f a,g b]::(as.zip bs).map _;rw[qggz f g as bs]
theorem qkoz{β:Type}(g:β->D)(bs:List β):enumD (bs.map g)=((List.range bs.length).zip bs).map fun p=>D.tup [nD p.1,g p.2]:=by
 unfold enumD;rw[List.length_map,rng0];exact qggz nD g _ _
end My
namespace My
open PySem L2 L3
def parts(c:Clk)(k:Nat):List Clk:=(List.range k).map fun t:Nat=>(c.1*(k:Int),c.2+c.1*(t:Int))
theorem qa9z(c:Clk)(k:Nat):(parts c k).length=k:=by simp[parts]
def qb1z:Sp3:=fun ds G Q=>∃(c:Clk) (k:Nat),ds=[cD c,.int k]/\k≤10000/\Big c.1/\∀p G',New G p (.lst ((parts c k).map cD)) G'->Q (.obj p) G'
def tbp(nm:Str):TS3:=sRet (eComp [nm] [0,1] (iRng1 (aCons (eVar 1) (aNil))) (hName 0) (tNoTest3) (eTup (aCons (eOp rMul3 (eOp rIx3 (eVar 1) (eC (.int 0))) (eVar 2)) (aCons (eOp rAdd3 (eOp rIx3 (eVar 1) (eC (.int 1))) (eOp rMul3 (eOp rIx3 (eVar 1) (eC (.int 0))) (eVar 0))) (aNil)))))
theorem qkpz{nm:Str}:∀ds G Q,qb1z ds G Q->tbp nm (endsOf Q) (start3 ["clock","k"] ds) G:=by
 rintro ds G Q ⟨c,k,rfl,hk,hb,q⟩;obtain⟨s,r⟩:=c;have bk:∀t:Nat,t≤10000->Big (t:Int):=fun t ht=>qqz (by omega) (by omega);refine⟨⟨by omega,by omega⟩,?_,?_⟩
 ·show (rngL 0 ((k:Int)).toNat).length≤sizeLine;rw[qasz];exact Nat.le_trans (show ((k:Int)).toNat≤10000 by omega) (by decide)
 show compGo _ _ _ _ _ (rngL 0 ((k:Int)).toNat) _ _ _;rw[Int.toNat_natCast,rng0];refine qabz (fun τ=>∃x,τ=[x,some (cD (s,r)),some (.int k)]) nD (fun _=>true) (fun t:Nat=>cD (s*(k:Int),r+s*(t:Int))) (G:=G) trivial (List.range k) [] _ ⟨none,rfl⟩ ?_ ?_
 ·rintro t hm τ K1 K2 ⟨x,rfl⟩ h1 h2;have ht:t<k:=by simpa using hm
  exact⟨fun _=>⟨_,rfl,⟨hb,bk k hk⟩,_,rfl,_,rfl,⟨hb,bk t (by omega)⟩,h1 rfl _ ⟨_,rfl⟩⟩,nofun⟩
 ·intro p G' n;rw[filter_all,List.nil_append] at n;refine qgz (q p G' ?_);unfold parts;rw[List.map_map];exact n
def qkqz:TS3:=sRet (eComp ["turn"] [0,1] (iRng1 (aCons (eVar 1) (aNil))) (hName 0) (tNoTest3) (eTup (aCons (eOp rMul3 (eOp rIx3 (eVar 1) (eC (.int 0))) (eVar 2)) (aCons (eOp rAdd3 (eOp rIx3 (eVar 1) (eC (.int 1))) (eOp rMul3 (eOp rIx3 (eVar 1) (eC (.int 0))) (eVar 0))) (aNil)))))
theorem qutz:∀ds G Q,qb1z ds G Q->qkqz (endsOf Q) (start3 ["clock","k"] ds) G:=qkpz
abbrev qc8z:=qb1z
def qkrz:TS3:=sRet (eComp ["part"] [0,1] (iRng1 (aCons (eVar 1) (aNil))) (hName 0) (tNoTest3) (eTup (aCons (eOp rMul3 (eOp rIx3 (eVar 1) (eC (.int 0))) (eVar 2)) (aCons (eOp rAdd3 (eOp rIx3 (eVar 1) (eC (.int 1))) (eOp rMul3 (eOp rIx3 (eVar 1) (eC (.int 0))) (eVar 0))) (aNil)))))
theorem quuz:∀ds G Q,qc8z ds G Q->qkrz (endsOf Q) (start3 ["clock","k"] ds) G:=qkpz
end My
namespace My
open PySem L2 L3
theorem qksz{G:Gp}(cs:List Clk):toDat G (csD cs)=some (.tup (cs.map cX)):=by
 show toDat0 (.tup (cs.map cD))=_;rw[toDat0,qcdz]
theorem quvz(zs:List Clk)(c:Clk):(zs.map cX).any (fun v=>v.eqb (cX c))=decide (c∈zs):=by
 rw[List.any_map,Bool.eq_iff_iff,List.any_eq_true,decide_eq_true_iff];constructor
 ·rintro⟨x,hx,h⟩;have h':(cX x).eqb (cX c)=true:=h;rw[qc7z,decide_eq_true_iff] at h';rw[←h'];exact hx
 ·intro h;refine⟨c,h,?_⟩;show (cX c).eqb (cX c)=true;rw[qc7z];simp
end My
namespace My
open PySem L2 L3
def twos(m:Nat):List Nat:=(List.range m).map (· + 2)
theorem twos_mem{m k:Nat}:k∈twos m↔2≤k/\k<m+2:=by
 unfold twos;rw[List.mem_map];constructor
 ·rintro⟨i,hi,rfl⟩;have:=List.mem_range.mp hi;omega
 ·rintro⟨h1,h2⟩;exact⟨k-2,List.mem_range.mpr (by omega),by omega⟩
theorem rng2(m:Nat):rngL 2 m=(twos m).map nD:=by
 unfold rngL twos;rw[List.map_map];refine List.map_congr_left fun i _=>?_;show D.int (2+(i:Int))=D.int ((i+2:Nat):Int);congr 1;omega
end My
namespace My
open PySem L2 L3
theorem qktz:∀ns:List Int,toDats0 (ns.map D.int)=some (ns.map Dat.D.int)
 |[]=>rfl
 |n::ns=>by
  show (match toDat0 (.int n) with
   |some x=>match toDats0 (ns.map D.int) with
    |some xs=>some (x::xs)
    |none=>none
   | none=>none)=_
  rw[qktz ns];rfl
end My
namespace My
open PySem L2 L3
def placeB(n:Nat):D->Bool
 |.int i=>decide (0≤i)&&decide (i<n)
 |_=>false
def qc9z:Sp3:=fun ds G Q=>∃(cs:List Clk) (d:D),ds=[csD cs,d]/\Known G d/\Q (.bl (placeB cs.length d)) G
def qkuz:TS3:=sRet (eAndV (eCall qbmz (aCons (eVar 1) (aNil))) (eChain rLe3 rLtT3 (eC (.int 0)) (eVar 1) (eCB q1z (aCons (eVar 0) (aNil)))))
theorem quwz:∀ds G Q,qc9z ds G Q->qkuz (endsOf Q) (start3 ["things","thing"] ds) G:=by
 rintro ds G Q ⟨cs,d,rfl,hk,q⟩;refine⟨hk,?_⟩;cases d with
 |int i=>
  refine⟨fun _=>⟨fun h=>?_,fun h=>?_⟩,nofun⟩
  ·have h':decide ((0:Int)≤i)=true:=h;have e:placeB cs.length (.int i)=decide (i<(cs.length:Nat)):=by
    show (decide (0≤i)&&decide (i<(cs.length:Nat)))=_;rw[h',Bool.true_and]
   rw[e] at q;show (endsOf Q).rt (.bl (decide (i<((cs.map cD).length:Nat)))) G;rw[List.length_map];exact qgz q
  ·have h':decide ((0:Int)≤i)=false:=h;have e:placeB cs.length (.int i)=false:=by
    show (decide (0≤i)&&decide (i<(cs.length:Nat)))=_;rw[h',Bool.false_and]
   rw[e] at q;exact qgz q
 |_=>exact⟨nofun,fun _=>qgz q⟩
end My
namespace My
open PySem L2 L3
theorem qghz{c p:Clk}{k:Nat}(h:Valid c)(hp:p∈parts c k):Valid p/\p.1=c.1*(k:Int):=by
 obtain⟨t,ht,rfl⟩:=List.mem_map.mp hp;have ht:=List.mem_range.mp ht;exact⟨quaz h (by omega) (by omega),rfl⟩
def rest1(cs:List Clk)(i:Nat):List Clk:=cs.take i++cs.drop (i+1)
end My
namespace L2
open PySem
open Sem (wp)
structure TracedD(base h:Heap)(e T:Addr)(cls:Value)(dx:Option Addr):Prop where
 obj:∃oe vs,h.get? e=some oe/\oe.cls=cls/\oe.dict=dx/\oe.data=.fields vs/\vs[1]?=some (.ref T)/\vs[2]?=some .none
 fresh:base.get? T=none
 ne:T≠e
 ent:∃oT ts,h.get? T=some oT/\oT.data=.fields ts/\ts[3]?=some .none
structure LeftD(base:Heap)(l:List Env)(e T₀:Addr)(cls:Value)(dx:Option Addr)(h h':Heap):Prop where
 stays:base.StaysIn h'
 funs:h'.FunFrames base l
 traced:∃T,TracedD base h' e T cls dx/\h.get? T=none
 keep:∀b o,b≠e->b≠T₀->b∉frs l->h.get? b=some o->h'.get? b=some o
 slot:∀b o,b∈frs l->h.get? b=some o->∃sl,h'.get? b=some { o with slots:=sl }
section
variable {M:Model} {A:Around} {E:Value->Shared->Prop} {s:Shared}
theorem newEntryD{base:Heap}{env:Env}{outer:List Env}{L e:Addr}{oe:Obj}{vs:Array Value}{head:Value}{hadNext:Bool}{Q:Unit->Shared->Prop}
  (hfr:A.frames=some (env::outer)) (hl:s.heap.FunFrames base (env::outer)) (hf:env.frame=some L)
  (he:s.heap.get? e=some oe) (hkb:base.StaysIn s.heap) (hen:base.get? e=none) (hd:oe.data=.fields vs) (hsz:1<vs.size) (h2:vs[2]?=some .none)
  (h:∀h',LeftD base (env::outer) e e oe.cls oe.dict s.heap h'->Q () { s with heap:=h' }):
  wpAny M A (do let a ←frameOf env;let pl ←entryPlaceOf L hadNext;let b ←EntryCells.newEntry head a .none (rawInt L) .none pl;setField (.ref e) 1 b) (fun _ s'=>wpAny M A (setFlight (.ref e) none) Q E s') E s:=by
 have hene:e∉(env::outer).filterMap (·.frame):=fun hm=>by
  obtain⟨_,o,ho,hnf⟩:=hl.mem hm;rw[he] at ho;injection ho with ho;subst ho;exact hnf vs hd
 refine wpAny_bind (wpAny_frameOf_fun hfr hl hf fun h₁ hs₁=>?_);refine wpAny_bind (wpAny_entryPlaceOf fun pl hpl=>?_);unfold EntryCells.newEntry newFields;refine wpAny_bind (wpAny_newObj_type ?_ (hpl.sizeOk5 _ _ _ _ _));have he₁:h₁.get? e=some oe:=(hs₁.2.1 e hene).trans he;have kb₁:base.StaysIn h₁:=fun b o hbo=>(hs₁.2.1 b fun hm=>by rw[(hl.mem hm).1] at hbo;cases hbo).trans (hkb b o hbo);have he₂:=Heap.get?_push_of_some (h:=h₁) { cls:=.type "traceback",dict:=none,data:=.fields ([head,.ref L,.none,rawInt L,.none]++(if pl.isEmpty then List.replicate 6 Value.none else pl)).toArray } he₁;refine wpAny_setField he₂ hd hsz ?_;have hTe:h₁.objs.size≠e:=Nat.ne_of_gt (Heap.lt_size he₁);have hd₃:=Obj.data_mapFields hd (·.setIfInBounds 1 (Value.ref h₁.objs.size));have he₃:=Heap.get?_update_self (Obj.mapFields (·.setIfInBounds 1 (Value.ref h₁.objs.size))) he₂ (Obj.isFreed_of_fields hd₃);have hT₃:=(Heap.get?_update_other (h₁.push { cls:=.type "traceback",dict:=none,data:=.fields ([head,.ref L,.none,rawInt L,.none]++(if pl.isEmpty then List.replicate 6 Value.none else pl)).toArray })
  (Obj.mapFields (·.setIfInBounds 1 (Value.ref h₁.objs.size))) (Ne.symm hTe)).trans (Heap.get?_push_size h₁ rfl)
 unfold setFlight;refine wpAny_bind (wpAny_field he₃ hd₃ (x:=.ref h₁.objs.size) (by simp[hsz]) ?_);rw[if_pos (show (Value.ref h₁.objs.size != Value.none)=true from by simp)];refine wpAny_setField hT₃ rfl (by simp only[List.size_toArray,List.length_append,List.length_cons,List.length_nil]<;>omega) (h _ ?_)
 have keep:∀b o,b≠e->h₁.get? b=some o ->
   (((h₁.push { cls:=.type "traceback",dict:=none,data:=.fields ([head,.ref L,.none,rawInt L,.none]++(if pl.isEmpty then List.replicate 6 Value.none else pl)).toArray }).update e (Obj.mapFields (·.setIfInBounds 1 (Value.ref h₁.objs.size)))).update h₁.objs.size
    (Obj.mapFields (·.setIfInBounds 3 ((none:Option Addr).elim Value.none fun f=>rawInt f)))).get? b=some o:=fun b o hbe hb=>by
  have hbT:h₁.objs.size≠b:=Nat.ne_of_gt (Heap.lt_size hb);rw[Heap.get?_update_other _ _ hbT,Heap.get?_update_other _ _ (Ne.symm hbe)];exact Heap.get?_push_of_some _ hb
 have noRecord:∀b o,s.heap.get? b=some o->(∀vs,o.data≠.fields vs)->b≠e:=fun b o hb hnf q=>by
  rw[q,he] at hb;injection hb with hb;subst hb;exact hnf vs hd
 refine⟨fun b o hbo=>keep b o (fun q=>by rw[q,hen] at hbo;cases hbo) (kb₁ b o hbo),hl.of_keeps fun b o hb hnf=>?_,⟨h₁.objs.size,⟨⟨_,_,?_,Obj.cls_mapFields _ _,?_,hd₃,by simp[hsz],by rw[Array.getElem?_setIfInBounds_ne (by decide)];exact h2⟩,kb₁.fresh,hTe,_,_,Heap.get?_update_self _ hT₃ (Obj.isFreed_of_fields (Obj.data_mapFields rfl _)),Obj.data_mapFields rfl _,by first|(simp;done)|(rcases hpl with rfl|⟨_,_,_,_,_,_,_,rfl⟩<;>simp)⟩,?_⟩,fun b o hbe _ hbf hb=>?_,fun b o hbf hb=>?_⟩
 ·obtain⟨sl,hs⟩:=hs₁.2.2 b o hb;exact⟨_,keep b _ (noRecord b o hb hnf) hs,rfl⟩
 ·rw[Heap.get?_update_other _ _ hTe];exact he₃
 ·obtain⟨c0,d0,dt0,s0⟩:=oe;cases dt0<;>rfl
 ·exact Heap.get?_none_of_le (by rw[hs₁.1];exact Nat.le_refl _)
 ·exact keep b o hbe ((hs₁.2.1 b hbf).trans hb)
 ·obtain⟨sl,hs⟩:=hs₁.2.2 b o hb;refine⟨sl,keep b _ (fun q=>?_) hs⟩;rw[q] at hbf;exact hene hbf
theorem quxz{base:Heap}{env:Env}{outer:List Env}{L e:Addr}{oe:Obj}{vs:Array Value}{Q:Unit->Shared->Prop}
  (hfr:A.frames=some (env::outer)) (hl:s.heap.FunFrames base (env::outer)) (hf:env.frame=some L)
  (he:s.heap.get? e=some oe) (hkb:base.StaysIn s.heap) (hen:base.get? e=none) (hd:oe.data=.fields vs) (h1:vs[1]?=some .none) (h2:vs[2]?=some .none)
  (h:∀h',LeftD base (env::outer) e e oe.cls oe.dict s.heap h'->Q () { s with heap:=h' }):wpAny M A (leaving env (.ref e)) Q E s:=by
 unfold leaving noteFrame;simp only[hf];refine wpAny_bind (wpAny_bind (wpAny_field he hd h1 ?_));rw[if_neg (by decide)];exact newEntryD hfr hl hf he hkb hen hd (Array.getElem?_eq_some_iff.mp h1).1 h2 h
end
end L2
namespace L2
open PySem PySem.Spec PyProof.Rows
def CXE(P:Program)(w:World)(base:Heap):CXT:=fun outer H s E ev s'=>∃(e T C:Addr) (dx:Option Addr) (H':Hp),ev=.ref e/\s'.os=s.os/\AllBare s'.gens/\Un (frs outer) [] H H' s.heap s'.heap/\HOk P w H' s'.heap ∧
 TracedD base s'.heap e T (.ref C) dx/\(H' e=none/\H' T=none)/\base.get? e=none/\(s.heap.get? e=none/\s.heap.get? T=none)/\E (.ref C) dx H'
theorem ObjOk.there{P:Program}{w:World}{H:Hp}{h:Heap}{a:Addr}{o:HO}(x:ObjOk P w H h a o):∃ob,h.get? a=some ob:=by
 cases o with
 |lst xs=>obtain⟨_,_,_,_,e⟩:=x;exact⟨_,e⟩
 |tup xs=>obtain⟨_,_,_,ob,e,_⟩:=x;exact⟨_,e⟩
 |dK kvs=>obtain⟨_,_,_,_,o,_,_,e,_⟩:=x;exact⟨_,e⟩
 |dT kvs=>obtain⟨_,_,_,_,o,_,_,e,_⟩:=x;exact⟨_,e⟩
 |set S n=>obtain⟨o,_,_,_,e,_⟩:=x;exact⟨_,e⟩
 |ins C dx fs=>obtain⟨_,_,_,e,_⟩:=x;exact⟨_,e⟩
 |own y=>exact x
 |xd fs=>obtain⟨_,⟨_,_,_,e,_⟩,_⟩:=x;exact⟨_,e⟩
 |rng lo hi=>obtain⟨_,_,_,e⟩:=x;exact⟨_,e⟩
 |frz ob u=>obtain⟨e,_⟩:=x;exact⟨_,e⟩
 |tbl ps=>exact⟨_,(show h.get? a=some _ from x)⟩
 |met f y=>exact⟨_,(show h.get? a=some _ from x)⟩
 |ext φ=>exact x.2.1
section
variable {X:Cx} {pins:List (Addr×Obj)} {σ:St} {H:Hp} {s:Shared}
theorem Inv.left(I:Inv X pins σ H s)(hex:X.ex=[])(hst:X.stack=X.env::X.outer)(hfr:X.env.frame=some X.env.locals){e T₀:Addr}{cls:Value}{dx:Option Addr}{h':Heap}(L:LeftD X.base X.stack e T₀ cls dx s.heap h')
  (he:X.s₀.heap.get? e=none) (hT:X.s₀.heap.get? T₀=none) (hHe:H e=none) (hHT:H T₀=none):
  Un (frs X.outer) [] X.H₀ H X.s₀.heap h'/\HOk X.prog X.w H h':=by
 have hloc:X.s₀.heap.get? X.env.locals=none:=Heap.get?_none_of_le I.ok.above;have sub:∀b,b∈frs X.stack->b=X.env.locals∨b∈frs X.outer:=fun b hb=>List.mem_cons.mp (I.stkSub b hb);have ne:∀{b c:Addr} {o:Obj},X.s₀.heap.get? b=some o->X.s₀.heap.get? c=none->b≠c:=fun h1 h2 z=>by
  rw[z,h2] at h1;cases h1
 have nox:∀b:Addr,b∉X.ex:=fun b z=>by
  rw[hex] at z;cases z
 have supF:∀b,b∈frs X.outer->b∈frs X.stack:=fun b hb=>by
  rw[hst];unfold frs;rw[List.filterMap_cons,hfr];exact List.mem_cons_of_mem _ hb
 refine⟨⟨fun b o h1 h2 h3 _=>?_,fun b o h1 h2 h3 _=>?_,fun b o h1 h2 _=>I.base.free b o h1 h2 (nox b),fun b o h1 _=>?_,I.base.tups,I.base.frzs,I.base.tbls⟩,fun a o ha=>?_⟩
 ·have k1:=I.base.keep b o h1 h2 h3 (nox b);refine L.keep b o (ne h1 he) (ne h1 hT) (fun z=>?_) k1;rcases sub b z with z|z
  ·exact ne h1 hloc z
  ·exact h3 z
 ·obtain⟨sl,k1⟩:=I.base.slot b o h1 h2 h3 (nox b);obtain⟨sl',k2⟩:=L.slot b _ (supF b h3) k1;exact⟨sl',k2⟩
 ·obtain⟨o',k1⟩:=I.base.there b o h1 (nox b);by_cases hb:b∈frs X.stack
  ·obtain⟨sl,k2⟩:=L.slot b o' hb k1;exact⟨_,k2⟩
  ·exact⟨o',L.keep b o' (ne h1 he) (ne h1 hT) hb k1⟩
 ·refine (I.hok a o ha).stay (fun b u hb q=>?_) (fun _ q=>q) fun _ _ q=>q;have hHb:H b≠none:=by
   rcases hb with rfl|hb
   ·rw[ha];simp
   ·rw[hb];simp
  exact L.keep b u (fun z=>hHb (z▸hHe)) (fun z=>hHb (z▸hHT)) (fun z=>hHb (I.stkFree b z)) q
theorem Inv.fly(I:Inv X pins σ H s)(hex:X.ex=[])(hst:X.stack=X.env::X.outer)(hfr:X.env.frame=some X.env.locals){e C:Addr}{oe:Obj}{vs:Array Value}{E:XK}(he:s.heap.get? e=some oe)(hc:oe.cls=.ref C)(hd:oe.data=.fields vs)(h1:vs[1]?=some .none)(h2:vs[2]?=some .none)
  (h0:X.s₀.heap.get? e=none) (hHe:H e=none) (q:E (.ref C) oe.dict H) {R:Value->Shared->Prop}:
  wpAny (model X.prog X.w) X.A (leaving X.env (.ref e)) (fun _ s'=>CXE X.prog X.w X.base X.outer X.H₀ X.s₀ E (.ref e) s') R s:=by
 have hen:X.base.get? e=none:=by
  cases hq:X.base.get? e with
  |none=>rfl
  |some o=>
   have:=(I.ok.bs e o hq).1;rw[h0] at this;cases this
 refine quxz (base:=X.base) (by rw[I.ok.frames,hst]) (by rw[←hst];exact I.stack) hfr he I.bk hen hd h1 h2 fun h' L=>?_;rw[←hst,hc] at L;obtain⟨u,ok⟩:=I.left hex hst hfr L h0 h0 hHe hHe;obtain⟨T,tr,hT⟩:=L.traced;have hTs:X.s₀.heap.get? T=none:=by
  cases hq:X.s₀.heap.get? T with
  |none=>rfl
  |some o=>
   obtain⟨o',e'⟩:=I.base.there T o hq (by rw[hex];simp);rw[hT] at e';cases e'
 have hHT:H T=none:=by
  cases hq:H T with
  |none=>rfl
  |some o=>
   obtain⟨ob,e'⟩:=ObjOk.there (I.hok T o hq);rw[hT] at e';cases e'
 exact⟨e,T,C,oe.dict,H,rfl,I.os,I.bare,u,ok,tr,⟨hHe,hHT⟩,hen,⟨h0,hTs⟩,q⟩
end
end L2
namespace L2
open PySem PySem.Spec PyProof.Rows
def OwnExc(K:PySem.W.Frag)(C:Addr)(bmB:List Value)(newId:String):Prop:=∀h:Heap,K.In h->∃nm q N bs bm hdct sn sub ab col dd k0 k1 k2 k3 k5 mN,h.get? C=some (excClassObj nm q C N bs bm hdct sn sub ab col dd k0 k1 k2 k3 k5 newId)/\h.Ns N mN/\mN "__init__" = none/\OwnTail h bmB bm
structure Body(X:Cx)(E:XK):Prop where
 ex:X.ex=[]
 st:X.stack=X.env::X.outer
 fr:X.env.frame=some X.env.locals
 xe:∀e s',wpAny (model X.prog X.w) X.A (leaving X.env e) (fun _ s''=>CXE X.prog X.w X.base X.outer X.H₀ X.s₀ E e s'') (fun e' s''=>CXE X.prog X.w X.base X.outer X.H₀ X.s₀ E e' s'') s'->X.xe e s'
theorem quyz{P:Program}{w:World}{K:PySem.W.Frag}{mg:Str->Option Value}{base:Heap}{N:List Str}{qual:Str}{scope:Scope}{f:Addr}{cd:Value}{A:Around}{outer:List Env}{s:Shared}{H:Hp}{E:XK}:
  Body (cxOf (CXE P w base) P w K mg base N qual scope f cd A outer s H E) E:=⟨rfl,rfl,rfl,fun _ _ h=>h⟩
section
variable {X:Cx} {E:XK}
theorem Body.throw(B:Body X E){pins:List (Addr×Obj)}{σ:St}{H:Hp}{s:Shared}{e C:Addr}{oe:Obj}{vs:Array Value}(I:Inv X pins σ H s)(he:s.heap.get? e=some oe)(hc:oe.cls=.ref C)(hd:oe.data=.fields vs)(h1:vs[1]?=some .none)(h2:vs[2]?=some .none)
  (h0:X.s₀.heap.get? e=none) (hHe:H e=none) (q:E (.ref C) oe.dict H):X.xe (.ref e) s:=B.xe _ _ (I.fly B.ex B.st B.fr he hc hd h1 h2 h0 hHe q)
theorem quzz{pins:List (Addr×Obj)}{σ:St}{H:Hp}{s:Shared}(I:Inv X pins σ H s){e:Addr}(h:s.heap.get? e=none):H e=none:=by
 cases hq:H e with
 |none=>rfl
 |some o=>
  obtain⟨ob,e'⟩:=ObjOk.there (I.hok e o hq);rw[h] at e';cases e'
theorem qu0z{pins:List (Addr×Obj)}{σ:St}{H:Hp}{s:Shared}(B:Body X E)(I:Inv X pins σ H s){e:Addr}(h:s.heap.get? e=none):X.s₀.heap.get? e=none:=by
 cases hq:X.s₀.heap.get? e with
 |none=>rfl
 |some o=>
  obtain⟨o',e'⟩:=I.base.there e o hq (by rw[B.ex];simp);rw[h] at e';cases e'
theorem qu1z{x:Str}{C:Addr}{np cpos pos:Pos}{bmB:List Value}{Bn newId initId:String}(B:Body X E)(hc:X.calm=true)(F:ExcBaseFacts Bn newId initId bmB)(O:OwnExc X.K C bmB newId)(hg:Gl X x)(hm:X.mg x=some (.ref C))(hdb:(x==("__debug__":Str))=false:=by decide):
  PS X (.Raise (some (.Call (.Name x np) [] [] cpos)) none pos) (fun _ _ H=>E (.ref C) none H):=by
 intro pins s σ H D I h;obtain⟨nm,q,N,bs,bm,hdct,sn,sub,ab,col,dd,k0,k1,k2,k3,k5,mN,hC,hn,hni,T⟩:=O s.heap I.kIn;refine wpAny_Raise_call_subT (C:=C) (nm:=nm) (q:=q) (N:=N) (bs:=bs) (bm:=bm) (hdct:=hdct) (sn:=sn) (sub:=sub) (ab:=ab) (col:=col) (dd:=dd) (k0:=k0) (k1:=k1) (k2:=k2) (k3:=k3) (k5:=k5)
  F (mN:=mN) (T.hasType F.hasBase) (I.ok.hd hc) rfl hni (qb3z I hg hm ⟨rfl,?_⟩ hdb)
 refine evalArgs_empty ⟨rfl,Nat.zero_le _,hC,hn,T,fun h' e hm'=>?_⟩;obtain⟨t,he,_,_⟩:=hm'.there;have I2:Inv X pins σ H { s with heap:=h' }:=I.kept (t':=s.toks) hm'.keeps;exact B.throw I2 he rfl rfl rfl rfl (qu0z B I hm'.new) (quzz I hm'.new) h
end
end L2
namespace L3
open PySem PySem.Spec PyProof.Rows L2
def vis:HO->Bool
 |.tup _=>true
 |.frz _ (.lst _)=>true
 |.frz _ (.tup _)=>true
 |.frz _ (.xd _)=>true
 |.frz _ (.ext _)=>true
 |_=>false
def hide(H:Hp):Hp:=fun a=>match H a with
 |some o=>if vis o then some o else none
 |none=>none
def joined(H H':Hp):Hp:=fun a=>match H a with
 |some o=>if vis o then H' a else some o
 |none=>H' a
section
variable {P:Program} {w:World} {H H':Hp} {h h':Heap} {a b:Addr} {o:HO} {fs:List Addr}
theorem qgiz(e:H a=none):hide H a=none:=by simp[hide,e]
theorem qcgz(e:H a=some o)(v:vis o=true):hide H a=some o:=by simp[hide,e,v]
theorem qkvz(e:H a=some o)(v:vis o=false):hide H a=none:=by simp[hide,e,v]
theorem qu2z(e:hide H a=some o):H a=some o/\vis o=true:=by
 unfold hide at e;cases q:H a with
 |none=>simp[q] at e
 |some u=>
  simp only[q] at e;cases v:vis u with
  |true=>
   rw[v,if_pos rfl] at e;cases e;exact⟨rfl,v⟩
  |false=>
   rw[v] at e;simp at e
theorem qavz(e:H a=none):joined H H' a=H' a:=by simp[joined,e]
theorem qbaz(e:H a=some o)(v:vis o=true):joined H H' a=H' a:=by simp[joined,e,v]
theorem qacz(e:H a=some o)(v:vis o=false):joined H H' a=some o:=by simp[joined,e,v]
theorem qu3z{H2:Hp}(v:vis o=true)(x:ObjOk P w H h a o):ObjOk P w H2 h a o:=by
 cases o with
 |tup xs=>obtain⟨z,its,r,p⟩:=x;exact⟨z,its,r,p⟩
 |frz ob u=>
  cases u with
  |lst xs=>obtain⟨e,z,its,n,r,p⟩:=x;exact⟨e,z,its,n,r,p⟩
  |tup xs=>obtain⟨e,z,its,r,p⟩:=x;exact⟨e,z,its,r,p⟩
  |xd fs=>obtain⟨e,mA,r,p⟩:=x;exact⟨e,mA,r,p⟩
  |ext φ=>exact x
  |_=>cases v
 |_=>cases v
variable (ok:HOk P w H h) (hfs:∀b∈fs,H b=none) (u:Un fs [] (hide H) H' h h') (ok':HOk P w H' h')
include ok u
theorem qkwz(e:H b=some o)(v:vis o=false):H' b=none:=by
 obtain⟨ob,q⟩:=ObjOk.there (ok b o e);exact u.free b ob q (qkvz e v) (by simp)
theorem qbnz(e:H' b=some o):joined H H' b=some o:=by
 cases q:H b with
 |none=>rw[qavz q];exact e
 |some x=>
  cases v:vis x with
  |true=>rw[qbaz q v];exact e
  |false=>
   rw[qkwz ok u q v] at e;cases e
include hfs ok'
theorem qkxz:Un fs [] H (joined H H') h h'/\HOk P w (joined H H') h':=by
 have kept:∀b x ob,H b=some x->vis x=false->h.get? b=some ob->h'.get? b=some ob:=fun b x ob e v q=>
  u.keep b ob q (qkvz e v) (fun z=>by rw[hfs b z] at e;cases e) (by simp)
 refine⟨⟨fun b ob q n h3 h4=>u.keep b ob q (qgiz n) h3 h4,fun b ob q n h3 h4=>u.slot b ob q (qgiz n) h3 h4,fun b ob q n h3=>by rw[qavz n];exact u.free b ob q (qgiz n) h3,
  fun b ob q h3=>u.there b ob q h3,fun b xs e=>qbnz ok u (u.tups b xs (qcgz e rfl)),fun b ob x e=>?_,fun b ps e=>⟨#[],by rw[Array.append_empty];exact qacz e rfl⟩⟩,fun b x e=>?_⟩
 ·cases v:vis (.frz ob x) with
  |true=>exact qbnz ok u (u.frzs b ob x (qcgz e v))
  |false=>exact qacz e v
 ·have mono:H' b=some x->ObjOk P w (joined H H') h' b x:=fun z=>(ok' b x z).stay (fun _ _ _ q=>q) (fun c q=>qbnz ok u q) (fun c xs q=>qbnz ok u q);cases q:H b with
  |none=>
   rw[qavz q] at e;exact mono e
  |some y=>
   cases v:vis y with
   |true=>
    rw[qbaz q v] at e;exact mono e
   |false=>
    rw[qacz q v] at e;obtain rfl:=Option.some.inj e;refine (ok b _ q).stay (fun c ob hc z=>?_) (fun c z=>qacz z rfl) (fun c xs z=>qbnz ok u (u.tups c xs (qcgz z rfl)));rcases hc with rfl|hc
    ·exact kept _ _ _ q v z
    ·exact kept _ _ _ hc rfl z
end
abbrev noG:Gp:=fun _=>none
def both(G1 G':Gp):Gp:=fun a=>match G1 a with
 |some o=>some o
 |none=>G' a
abbrev E3:=Str->List (Str×Int)->Prop
def ClsN(K:PySem.W.Frag)(x:Str)(C:Addr):Prop:=PySem.W.nsIn K mainGlobals x=some (some (.ref C))
def DictIs(H:Hp)(dx:Option Addr)(fs:List (Str×Int)):Prop:=(dx=none/\fs=[])∨∃d o,dx=some d/\H d=some (.frz o (.xd (fs.map fun p=>(p.1,V.int p.2))))
def lowE(K:PySem.W.Frag)(E:E3):XK:=fun cls dx H=>∃x C fs,cls=.ref C/\ClsN K x C/\E x fs/\DictIs H dx fs
abbrev SpX:=List D->V3->E3->Prop
def lowX(K:PySem.W.Frag)(sp:SpX):Sp:=fun vs H Q E=>∃ds Q3 E',Hvs K H ds vs/\(∀a o,H a=some o->vis o=true)/\sp ds Q3 E'/\(∀v H' d G',Hv K H' d v->Step H noG H' G'->RepG K G' H'->Q3 d G'->Q v H')/\∀cls dx H',lowE K E' cls dx H'->E cls dx H'
abbrev FnX(P:Program)(w:World)(K:PySem.W.Frag)(mg:Str->Option Value)(base:Heap)(k:Nat)(f:Addr)(fd:FuncData)(ps:List Str)(sp:SpX):Prop:=FnOk P w K mg base (CXE P w base) k f fd ps (lowX K sp)
structure Joins(G1 G' G2:Gp):Prop where
 old:Sub G1 G2
 new:Sub G' G2
 out:∀a,G' a≠none->G1 a=none
section
variable {X:Cx} {k:Nat} {f:Addr} {fd:FuncData} {ps:List Str} {sp:SpX} {E:E3} {x:Str} {p pos:Pos} {e:Expr} {es:List Expr} {t:TA3}
theorem qu4z{K:PySem.W.Frag}{P:Program}{w:World}{fs:List Addr}{H H':Hp}{h h':Heap}{G1 G':Gp}{d:D}{v:V}(ok:HOk P w H h)(hfs:∀b∈fs,H b=none)(u:Un fs [] (hide H) H' h h')(ok':HOk P w H' h')
  (R1:RepG K G1 H) (hv:Hv K H' d v) (S:Step (hide H) noG H' G') (R':RepG K G' H'):
  Hv K (joined H H') d v/\Step H G1 (joined H H') (both G1 G')/\RepG K (both G1 G') (joined H H')/\Joins G1 G' (both G1 G'):=by
 have E2:Ext H' (joined H H'):=⟨fun b xs e=>qbnz ok u e,fun b o x e=>qbnz ok u e⟩;have E1:Ext H (joined H H'):=by
  obtain⟨u2,_⟩:=qkxz ok hfs u ok';exact⟨u2.tups,u2.frzs⟩
 have outG:∀a,G' a≠none->H a=none:=fun a n=>by
  have z:hide H a=none:=S.new a rfl n;cases q:H a with
  |none=>rfl
  |some o=>
   cases v:vis o with
   |true=>rw[qcgz q v] at z;cases z
   |false=>
    have:=qkwz ok u q v;cases q':G' a with
    |none=>exact absurd q' n
    |some g=>
     obtain⟨o',z',_⟩:=(R' a g q').mut;rw[this] at z';cases z'
 have out1:∀a,G' a≠none->G1 a=none:=fun a n=>R1.free (outG a n);refine⟨hv.ext E2,⟨fun a o e n=>?_,fun a n=>?_,fun a n q=>?_⟩,fun a g e=>?_,⟨fun a o e=>by simp[both,e],fun a o e=>by simp[both,out1 a (by rw[e];simp),e],out1⟩⟩
 ·cases v:vis o with
  |true=>
   rw[qbaz e v];exact S.fr a o (qcgz e v) rfl
  |false=>exact qacz e v
 ·cases q:H a with
  |none=>exact absurd q n
  |some o=>
   cases v:vis o with
   |true=>
    rw[qbaz q v];exact S.trk a (by rw[qcgz q v];simp)
   |false=>rw[qacz q v];simp
 ·simp only[both,n] at q;exact outG a q
 ·cases q:G1 a with
  |some o=>
   simp only[both,q] at e;cases e;obtain⟨o',z,h1,h2⟩:=(R1 a g q).mut;have hv:vis o'=false:=by
    cases o' with
    |tup xs=>exact absurd rfl (h1 xs)
    |frz ob y=>exact absurd rfl (h2 ob y)
    |_=>rfl
   exact (R1 a g q).ext E1 (by rw[qacz z hv,z])
  |none=>
   simp only[both,q] at e;have hn:=outG a (by rw[e];simp);exact (R' a g e).ext E2 (by rw[qavz hn])
theorem qkyz(G1:Gp):both G1 noG=G1:=by
 funext a;unfold both;cases G1 a<;>rfl
theorem qu5z{H H':Hp}{fs:List Addr}{h h':Heap}(u:Un fs [] (hide H) H' h h'):Step (hide H) noG H' noG:=by
 have fr:∀a o,hide H a=some o->H' a=some o:=fun a o e=>by
  obtain⟨_,v⟩:=qu2z e;cases o with
  |tup xs=>exact u.tups a xs e
  |frz ob y=>exact u.frzs a ob y e
  |_=>cases v
 refine⟨fun a o e _=>fr a o e,fun a n=>?_,fun a _ q=>absurd rfl q⟩;cases q:hide H a with
 |none=>exact absurd q n
 |some o=>rw[fr a o q];simp
def lowE2(K:PySem.W.Frag)(E:E3)(H:Hp)(G:Gp):XK:=fun cls dx H'=>lowE K E cls dx H'/\RepG K G H'/\Step H G H' G
theorem CXE.hid{P:Program}{w:World}{K:PySem.W.Frag}{base:Heap}{outer:List Env}{H:Hp}{s s':Shared}{G1:Gp}{ev:Value}(ok:HOk P w H s.heap)(hfs:∀b∈frs outer,H b=none)(R1:RepG K G1 H)(h:CXE P w base outer (hide H) s (lowE K E) ev s'):
  CXE P w base outer H s (lowE2 K E H G1) ev s':=by
 obtain⟨e,T,C,dx,H',rfl,os,bare,u,ok',tr,⟨hHe,hHT⟩,hen,⟨he0,hT0⟩,x,C',fs,ec,cn,q,dd⟩:=h;obtain⟨u2,ok2⟩:=qkxz ok hfs u ok';obtain⟨_,z2,z3,_⟩:=qu4z (G':=noG) (d:=.non) (v:=.non) ok hfs u ok' R1 (by simp[Hv]) (qu5z u) (fun _ _ e=>nomatch e);rw[qkyz] at z2 z3;have out:∀b,s.heap.get? b=none->H' b=none->joined H H' b=none:=fun b hb hn=>by
  cases hq:H b with
  |none=>rw[qavz hq];exact hn
  |some o=>
   obtain⟨ob,e'⟩:=ObjOk.there (ok b o hq);rw[hb] at e';cases e'
 refine⟨e,T,C,dx,joined H H',rfl,os,bare,u2,ok2,tr,⟨out _ he0 hHe,out _ hT0 hHT⟩,hen,⟨he0,hT0⟩,⟨x,C',fs,ec,cn,q,?_⟩,z3,z2⟩;rcases dd with⟨d1,d2⟩|⟨d,o,d1,d2⟩
 ·exact .inl ⟨d1,d2⟩
 ·exact .inr ⟨d,o,d1,qbnz ok u d2⟩
end
section
variable {P:Program} {w:World} {K:PySem.W.Frag} {mg:Str->Option Value} {base:Heap}
theorem fnX{x qual:Str}{st:Stmt}{f:Addr}{fd:FuncData}{N ps:List Str}{k:Nat}{sp:SpX}(F:Fun K x qual st f fd)(S:FnScope N ps (defScope st))(hN:ps.length≤N.length)(len:∀ds Q E,sp ds Q E->ds.length=ps.length)(tb:E3->TS3)
  (hbody:∀(cdv:Value) (A:Around) (outer:List Env) (s:Shared) (H:Hp) (E:XK) (E':E3),Room k (A.deeper (envOfC qual (defScope st) s.heap.objs.size f cdv))->(∀cls dx H',lowE K E' cls dx H'->E cls dx H') ->
   PSs3 (cxOf (CXE P w base) P w K mg base N qual (defScope st) f cdv A outer s H E) (defBody st) (tb E'))
  (hrd:∀ds Q E,sp ds Q E->tb E (endsOf Q) (start3 N ds) noG):FnX P w K mg base (k+1) f fd ps sp:=by
 obtain⟨oc,od,kV,doc,pm,an,cdv,ct,osl,rfl,lk,hcd⟩:=F.ex;refine qhtz lk hcd S (fun vs H Q E h=>?_) (fun A outer s H vs Q E hr h=>?_)
 ·obtain⟨ds,Q3,E',h1,_,h3,_⟩:=h;rw[←h1.length];exact len _ _ _ h3
 ·obtain⟨ds,Q3,E',h1,h2,h3,h4,h5⟩:=h;refine⟨_,hbody cdv A outer s H E E' hr h5,start3 N ds,noG,endsOf Q3,.start h1 ?_,(fun _ _ e=>nomatch e),hrd _ _ _ h3,⟨?_,?_,?_,?_⟩⟩
  ·rw[←h1.length,len _ _ _ h3];exact hN
  ·exact fun τ σ G' H' a b c ⟨G0,s0,q⟩=>h4 _ H' .non G0 (by simp[Hv]) (b.trans (.sub s0)) (c.sub s0) q
  ·exact fun τ σ G' H' a b c q=>q.elim
  ·exact fun τ σ G' H' a b c q=>q.elim
  ·exact fun d v G' H' a b c ⟨G0,s0,q⟩=>h4 _ H' d G0 a (b.trans (.sub s0)) (c.sub s0) q
end
end L3
namespace L2
open PySem PySem.Spec PyProof.Rows
structure RoomH(k:Nat)(A:Around):Prop where
 dp:A.depth+3*k+5<recursionLimit
 un:A.units+16*k+200<cLine
theorem RoomH.mono{j k:Nat}{A:Around}(r:RoomH k A)(h:j≤k):RoomH j A:=⟨by have:=r.dp;omega,by have:=r.un;omega⟩
theorem RoomH.deeper{k:Nat}{A:Around}(r:RoomH (k+1) A)(env:Env):RoomH k (A.deeper env):=
 ⟨by have:=r.dp;show A.depth+1+3*k+5<_;omega,by have:=r.un;show A.units+3+16*k+200<_;omega⟩
theorem RoomH.depth{k:Nat}{A:Around}(r:RoomH k A):A.depth<recursionLimit:=by have:=r.dp;omega
theorem RoomH.units{k:Nat}{A:Around}(r:RoomH k A):A.units+64<cLine:=by have:=r.un;omega
theorem RoomH.mark{k:Nat}{A:Around}{v:Option Value}(r:RoomH k A):RoomH k (A.mark v):=⟨r.dp,r.un⟩
theorem Room.h{k:Nat}{A:Around}(r:Room k A):RoomH k A:=⟨r.dp,r.un⟩
structure FnOkH(P:Program)(w:World)(K:PySem.W.Frag)(mg:Str->Option Value)(base:Heap)(k:Nat)(f:Addr)(fd:FuncData)(ps:List Str)(sp:Sp):Prop where
 len:∀vs H Q E,sp vs H Q E->vs.length=ps.length
 run:∀(A:Around) (outer:List Env) (s:Shared) (H:Hp) (args:Args) (us:List Value) (vs:List V) (Q:VK) (E:XK),RoomH k A->Env0 P w K mg base A outer s H->BindsTo s fd args (ps.zip us)->Vals vs us->sp vs H Q E ->
  codeAny (model P w) A (.call (.ref f) args) (CR CX0 outer P w H s Q E) s
section
variable {P:Program} {w:World} {K:PySem.W.Frag} {mg:Str->Option Value} {base:Heap} {j k:Nat} {f:Addr} {fd:FuncData} {ps:List Str} {sp:Sp}
theorem FnOkH.mono(F:FnOkH P w K mg base j f fd ps sp)(h:j≤k):FnOkH P w K mg base k f fd ps sp:=⟨F.len,fun A outer s H args us vs Q E hr=>F.run A outer s H args us vs Q E (hr.mono h)⟩
end
def cxH(P:Program)(w:World)(K:PySem.W.Frag)(mg:Str->Option Value)(base:Heap)(N:List Str)(qual:Str)(scope:Scope)(f:Addr)(cd:Value)(A:Around)(outer:List Env)(s:Shared)(H:Hp)(E:XK):Cx:=
 { cxOf CX0 P w K mg base N qual scope f cd A outer s H E with calm:=false,xe:=fun _ _=>False }
section
variable {P:Program} {w:World} {K:PySem.W.Frag} {mg:Str->Option Value} {base:Heap} {N:List Str} {qual:Str} {scope:Scope} {f:Addr} {cd:Value} {A:Around} {outer:List Env} {s s1:Shared} {H H1:Hp} {E:XK} {pins:List (Addr×Obj)} {σ:St}
theorem Inv.loud(I:Inv (cxOf CX0 P w K mg base N qual scope f cd { A with handled:=none } outer s H E) pins σ H1 s1)(hf:A.frames=some outer):Inv (cxH P w K mg base N qual scope f cd A outer s H E) pins σ H1 s1:=by
 obtain⟨ok,a1,a2,a3,a4,a5,a6,a7,a8,a9,a10⟩:=I;obtain⟨o1,o2,o3,o4,o5,o6,o7,o8,_,_,o11,o12,o13,o14,o15,o16,o17,o18⟩:=ok;exact⟨⟨o1,o2,o3,o4,o5,o6,o7,o8,(fun z=>nomatch z),Around.frames_deeper hf,o11,o12,o13,o14,o15,o16,o17,o18⟩,a1,a2,a3,a4,a5,a6,a7,a8,a9,a10⟩
end
theorem qu6z{P:Program}{w:World}{K:PySem.W.Frag}{mg:Str->Option Value}{base:Heap}{k:Nat}{x qual:Str}{st:Stmt}{f:Addr}{fd:FuncData}{N ps:List Str}{sp:Sp}(F:Fun K x qual st f fd)(S:FnScope N ps (defScope st))(len:∀vs H Q E,sp vs H Q E->vs.length=ps.length)
  (hbody:∀(cdv:Value) (A:Around) (outer:List Env) (s:Shared) (H:Hp) (vs:List V) (Q:VK) (E:XK),RoomH k (A.deeper (envOfC qual (defScope st) s.heap.objs.size f cdv))->sp vs H Q E ->
   ∃t,PSs (cxH P w K mg base N qual (defScope st) f cdv A outer s H E) (defBody st) t/\t { nx:=fun _ H'=>Q .non H',rt:=Q } (start N vs) H):
  FnOkH P w K mg base (k+1) f fd ps sp:=by
 obtain⟨oc,od,kV,doc,pm,an,cdv,ct,osl,rfl,lk,hcd⟩:=F.ex;refine⟨len,fun A outer s H args us vs Q E hr e0 hb r hsp=>?_⟩;have hl:=len _ _ _ _ hsp;have KX:K.In s.heap:=e0.mod.kin.keeps fun b o e=>(e0.bs b o e).1;have lim:s.heap.NoLimit:=e0.mod.nolimit.keeps fun b o e=>(e0.bs b o e).1;have hkind:∀y∈ps.zip us,(defScope st).names.lookup y.1=some .local∨((defScope st).names.lookup y.1=some .cell/\((cellsFrom (s.heap.objs.size+1) (defScope st).names []).lookup y.1).isSome=true):=fun⟨n,v⟩ hy=>by
  rcases S.par n (List.of_mem_zip hy).1 with q|q
  ·exact .inl q
  ·exact .inr ⟨q,PySem.W.cellsFrom_some _ _ _ (.inl q)⟩
 refine codeAny_call_function hr.depth (KX _ _ lk) rfl S.co S.gen rfl (PySem.W.codeRec_of KX hcd) (hb _ _ _ _ ?_);refine wpAny_newFunctionEnv_cells S.kind hkind fun env he s1 x=>?_;subst he;refine⟨lim.keeps x.toInCall.keep,codeAny_func ?_⟩;obtain⟨t,ht,hq⟩:=hbody cdv A outer s H vs Q E (hr.deeper _) hsp;have e1:Env0 P w K mg base { A with handled:=none } outer s H:=⟨e0.frames,e0.mod,e0.bs,e0.bsz,e0.funs,e0.frf,e0.hok,e0.bare⟩;have I0:Inv (cxOf CX0 P w K mg base N qual (defScope st) f cdv { A with handled:=none } outer s H E) [] (start N vs) H s1:=qhsz S rfl e1 hl r x;have I:=I0.loud (A:=A) e0.frames;refine wpAny_mono (ht [] s1 (start N vs) H _ I hq) (fun fl s' hs=>?_) fun e s' hs=>hs.elim;have fin:∀{σ':St} {H':Hp} {v:V} {u:Value},Inv (cxH P w K mg base N qual (defScope st) f cdv A outer s H E) [] σ' H' s'->RelV v u->Q v H'->CE outer P w H s Q u s':=
  fun {σ' H' v u} J rv q=>⟨v,H',J.os,J.bare,J.base,J.hok,rv,q⟩
 cases fl with
 |ret u=>
  obtain⟨v,σ',H',J,rv,q⟩:=hs;exact fin J rv q
 |next=>
  obtain⟨σ',H',J,q⟩:=hs;exact fin (v:=V.non) (u:=Value.none) J rfl q
 |brk=>
  obtain⟨_,_,_,q⟩:=hs;exact False.elim q
 |cont=>
  obtain⟨_,_,_,q⟩:=hs;exact False.elim q
section
variable {X:Cx} {k:Nat} {f:Addr} {fd:FuncData} {ps:List Str} {sp:Sp} {E:XK} {x:Str} {p pos:Pos} {e:Expr} {es:List Expr} {t:TA}
theorem qu7z{pins:List (Addr×Obj)}{σ:St}{H:Hp}{s:Shared}{Q:VK}{us:List Value}{vs:List V}(F:FnOkH X.prog X.w X.K X.mg X.base k f fd ps sp)(hr:RoomH k X.A)(hb:Binds X.K fd ps [])
  (I:Inv X pins σ H s) (r:Vals vs us) (h:sp vs H Q E):wpAny (model X.prog X.w) X.A (call (.ref f) us) (EP X pins σ Q) X.xe s:=by
 have hl:(us++[]).length=ps.length:=by rw[List.append_nil,←r.length];exact F.len _ _ _ _ h
 have hb':=hb s us I.kIn hl;rw[List.append_nil] at hb';refine wpAny_call (codeAny_mono (F.run X.A X.stack s H ⟨us,[]⟩ us vs Q E hr I.env0 hb' r h) fun r s' hq=>?_);cases r with
 |error e=>exact False.elim hq
 |ok fl=>
  cases fl with
  |ret u=>exact I.after hq
  |next=>exact False.elim hq
  |brk=>exact False.elim hq
  |cont=>exact False.elim hq
theorem qu8z(F:FnOkH X.prog X.w X.K X.mg X.base k f fd ps sp)(hr:RoomH k X.A)(hg:Gl X x)(hm:X.mg x=some (.ref f))(hk:PySem.W.keepIn X.K (.ref f)=true)(hb:Binds X.K fd ps [])
  (ha:PA X (e::es) t) (hdb:(x==("__debug__":Str))=false:=by decide) (he:starEach (e::es) X.env=(false,eval e X.env)::starEach es X.env:=by rfl) (hpl:(backTo pos (starEach es X.env)).any (·.1)=false:=by rfl):
  PE X (.Call (.Name x p) (e::es) [] pos) (tCall sp [] E t):=by
 intro pins s σ H Q I h;refine wpAny_Call_Name_kw (qb3z I hg hm ?_ hdb);refine PySem.W.callWith_K (h₀:=X.base) I.ok.mod.kin hk (thn (ha pos pins s σ H _ I h) fun us s1 ⟨vs,H1,I1,r,q⟩=>⟨I1.kIn,?_⟩) he hpl;have q':sp (vs++[]) H1 Q E:=q;rw[List.append_nil] at q';exact qu7z F hr hb I1 r q'
end
end L2
namespace L3
open PySem PySem.Spec PyProof.Rows L2
abbrev FnH3(P:Program)(w:World)(K:PySem.W.Frag)(mg:Str->Option Value)(base:Heap)(k:Nat)(f:Addr)(fd:FuncData)(ps:List Str)(sp:Sp3):Prop:=FnOkH P w K mg base k f fd ps (lowSp K sp)
theorem qu9z{X:Cx}{k:Nat}{f:Addr}{fd:FuncData}{ps:List Str}{sp:Sp3}{x:Str}{p pos:Pos}{e:Expr}{es:List Expr}{t:TA3}(F:FnH3 X.prog X.w X.K X.mg X.base k f fd ps sp)(hr:RoomH k X.A)(hm:X.mg x=some (.ref f))(hk:PySem.W.keepIn X.K (.ref f)=true)(hb:Binds X.K fd ps [])(ha:PA3 X (e::es) t)(hg:Gl X x:=by rfl)
  (hdb:(x==("__debug__":Str))=false:=by decide) (he:notStar e=true:=by rfl) (hpl:es.all notStar=true:=by rfl):
  PE3 X (.Call (.Name x p) (e::es) [] pos) (eCall sp t):=qsz (qu8z (E:=E0) F hr hg hm hk hb ha hdb (qjz he) (qyz hpl)) fun σ H Q h=>qiez h
theorem fnH3{P:Program}{w:World}{K:PySem.W.Frag}{mg:Str->Option Value}{base:Heap}{x qual:Str}{st:Stmt}{f:Addr}{fd:FuncData}{N ps:List Str}{k:Nat}{sp:Sp3}(F:Fun K x qual st f fd)(S:FnScope N ps (defScope st))(hN:ps.length≤N.length)(len:∀ds G Q,sp ds G Q->ds.length=ps.length)(tb:TS3)
  (hbody:∀(cdv:Value) (A:Around) (outer:List Env) (s:Shared) (H:Hp) (E:XK),RoomH k (A.deeper (envOfC qual (defScope st) s.heap.objs.size f cdv)) ->
   PSs3 (cxH P w K mg base N qual (defScope st) f cdv A outer s H E) (defBody st) tb)
  (hrd:∀ds G Q,sp ds G Q->tb (endsOf Q) (start3 N ds) G):FnH3 P w K mg base (k+1) f fd ps sp:=by
 refine qu6z F S (fun vs H Q E h=>?_) (fun cdv A outer s H vs Q E hr h=>?_)
 ·obtain⟨ds,G,Q3,h1,h2,h3,h4⟩:=h;rw[←h1.length];exact len _ _ _ h3
 ·obtain⟨ds,G,Q3,h1,h2,h3,h4⟩:=h;refine⟨_,hbody cdv A outer s H E hr,start3 N ds,G,endsOf Q3,.start h1 ?_,h2,hrd _ _ _ h3,⟨?_,?_,?_,?_⟩⟩
  ·rw[←h1.length,len _ _ _ h3];exact hN
  ·exact fun τ σ G' H' a b c ⟨G0,s0,q⟩=>h4 _ H' .non G0 (by simp[Hv]) (b.trans (.sub s0)) (c.sub s0) q
  ·exact fun τ σ G' H' a b c q=>q.elim
  ·exact fun τ σ G' H' a b c q=>q.elim
  ·exact fun d v G' H' a b c ⟨G0,s0,q⟩=>h4 _ H' d G0 a (b.trans (.sub s0)) (c.sub s0) q
end L3
namespace L3
open PySem PySem.Spec PyProof.Rows L2
abbrev XK3:=S3->Gp->E3
abbrev TEX:=XK3->TE3
abbrev TAX:=XK3->TA3
abbrev TSX:=XK3->TS3
def ExcTo(X:Cx)(pins:List (Addr×Obj))(H:Hp)(G:Gp)(KX:XK3)(XE:Value->Shared->Prop):Prop:=
 ∀(σ1:L2.St) (τ1:S3) (H1:Hp) (s1:Shared) (G1:Gp) (ev:Value) (s':Shared),Inv X pins σ1 H1 s1->RepS X.K τ1 σ1 H1->RepG X.K G1 H1->Step H G H1 G1->CXE X.prog X.w X.base X.stack H1 s1 (lowE2 X.K (KX τ1 G1) H1 G1) ev s'->XE ev s'
theorem ExcTo.step{X:Cx}{pins:List (Addr×Obj)}{H H1:Hp}{G G1:Gp}{KX:XK3}{XE:Value->Shared->Prop}(x:ExcTo X pins H G KX XE)(S:Step H G H1 G1):ExcTo X pins H1 G1 KX XE:=
 fun σ1 τ1 H2 s2 G2 ev s' a b c d e=>x σ1 τ1 H2 s2 G2 ev s' a b c (S.trans d) e
def PEX(X:Cx)(e:Expr)(t:TEX):Prop:=
 ∀(pins:List (Addr×Obj)) (s:Shared) (σ:L2.St) (H:Hp) (Q:VK) (XE:Value->Shared->Prop) (τ:S3) (G:Gp) (Q3:V3) (KX:XK3),Inv X pins σ H s->RepS X.K τ σ H->RepG X.K G H->t KX τ G Q3 ->
  (∀v H' d G',Hv X.K H' d v->Step H G H' G'->RepG X.K G' H'->Q3 d G'->Q v H')->ExcTo X pins H G KX XE->wpAny (model X.prog X.w) X.A (eval e X.env) (EP X pins σ Q) XE s
def PAX(X:Cx)(es:List Expr)(t:TAX):Prop:=
 ∀(pos:Pos) (pins:List (Addr×Obj)) (s:Shared) (σ:L2.St) (H:Hp) (Q:List V->Hp->Prop) (XE:Value->Shared->Prop) (τ:S3) (G:Gp) (Q3:List D->Gp->Prop) (KX:XK3),Inv X pins σ H s->RepS X.K τ σ H->RepG X.K G H->t KX τ G Q3 ->
  (∀vs H' ds G',Hvs X.K H' ds vs->Step H G H' G'->RepG X.K G' H'->Q3 ds G'->Q vs H')->ExcTo X pins H G KX XE->wpAny (model X.prog X.w) X.A (spliced (backTo pos (starEach es X.env))) (AP X pins σ Q) XE s
def PSX(X:Cx)(st:List Stmt)(t:TSX):Prop:=
 ∀(pins:List (Addr×Obj)) (s:Shared) (σ:L2.St) (H:Hp) (D2:Ends) (XE:Value->Shared->Prop) (τ:S3) (G:Gp) (D3:Ends3) (KX:XK3),Inv X pins σ H s->RepS X.K τ σ H->RepG X.K G H->t KX D3 τ G->EndsLow X.K H G D3 D2->ExcTo X pins H G KX XE ->
  wpAny (model X.prog X.w) X.A (execs st X.env) (SP X pins D2) XE s
section
variable {X:Cx} {k:Nat} {f:Addr} {fd:FuncData} {ps:List Str} {sp:SpX} {x:Str} {p pos:Pos} {a b e c:Expr} {es:List Expr} {t:TA3} {te:TE3} {tx:TEX} {tax:TAX} {tc:TT3} {ta tb tr:TSX} {sa sb rest:List Stmt}
theorem qvaz(h:PE3 X.nox e te):PEX X e (fun _=>te):=fun pins s σ H Q XE τ G Q3 KX I RS RG ht kk _=>
 wpAny_mono (h pins s σ H Q (I.wish _) ⟨τ,G,Q3,RS,RG,ht,kk⟩) (fun _ _ ⟨v,H',I',r,q⟩=>⟨v,H',I'.unwish,r,q⟩) fun _ _ z=>False.elim z
theorem qvbz:PAX X [] (fun _=>aNil):=fun _ _ _ _ H Q XE τ G Q3 KX I RS RG h kk _=>Calls.spliced_nil ⟨[],H,I,.nil,kk [] H [] G .nil (.refl H G) RG h⟩
def axCons(tx:TEX)(tax:TAX):TAX:=fun KX τ G Q=>tx KX τ G fun x G1=>tax KX τ G1 fun xs G2=>Q (x::xs) G2
theorem qvcz(ha:PEX X e tx)(hr:PAX X es tax)(hs:notStar e=true:=by rfl):PAX X (e::es) (axCons tx tax):=by
 intro pos pins s σ H Q XE τ G Q3 KX I RS RG h kk xx;rw[qjz hs];show wpAny _ _ (spliced ((false,eval e X.env)::backTo pos (starEach es X.env))) _ _ s;refine Calls.spliced_cons (thn (ha pins s σ H (fun v H1=>∃d G1,Hv X.K H1 d v/\Step H G H1 G1/\RepG X.K G1 H1/\tax KX τ G1 fun xs G2=>Q3 (d::xs) G2) XE τ G _ KX I RS RG h (fun v H' d G' a b c q=>⟨d,G',a,b,c,q⟩) xx) fun u s1 ⟨v,H1,I1,r1,d,G1,hd,S1,R1,q1⟩=>?_);exact thn (hr pos pins s1 σ H1 (fun vs H2=>Q (v::vs) H2) XE τ G1 _ KX I1 (RS.ext (S1.ext RG)) R1 q1 (fun vs H' ds G' a b c q=>kk _ H' _ G' (.cons (hd.ext (b.ext R1)) a) (S1.trans b) c q) (xx.step S1)) fun us s2 ⟨xs,H2,I2,r2,q2⟩=>⟨v::xs,H2,I2,.cons r1 r2,q2⟩
theorem qvdz{x1}(h:PAX X es tax):PEX X (.Tuple es x1 pos) (fun KX=>eTup (tax KX)):=by
 intro pins s σ H Q XE τ G Q3 KX I RS RG hq kk xx;refine wpAny_Tuple_spliced (thn (h pos pins s σ H (fun vs H1=>∃ds G1,Hvs X.K H1 ds vs/\Step H G H1 G1/\RepG X.K G1 H1/\smallL (Q3 (.tup ds) G1) ds 64) XE τ G _ KX I RS RG hq (fun vs H' ds G' a b c q=>⟨ds,G',a,b,c,q⟩) xx) fun us s1 ⟨xs,H1,I1,r,ds,G1,hd,S1,R1,q1⟩=>?_);obtain⟨z,q1⟩:=qctz q1;have z':xs.length≤sizeLine:=by rw[←hd.length];exact line64 z
 refine⟨by rw[←r.length];exact z',?_⟩;have hf:H1 s1.heap.objs.size=none:=I1.hok.fresh (Nat.le_refl _);refine⟨.ref s1.heap.objs.size,upd H1 s1.heap.objs.size (.tup xs),I1.laid (t':=s1.toks) (fun b u e=>Heap.get?_push_of_some _ e) (Nat.le_refl _) ?_,rfl,kk _ _ (.tup ds) G1 ?_ (S1.trans (.laid hf)) (R1.laid hf) q1⟩
 ·exact⟨z',us,r,⟨_,Heap.get?_push_size _ rfl,rfl,⟨_,rfl⟩,rfl⟩⟩
 ·unfold Hv;exact⟨_,xs,rfl,.of qrz,hd.ext (.laid hf)⟩
def sxRet(tx:TEX):TSX:=fun KX D τ G=>tx KX τ G D.rt
theorem qvez(h:PEX X e tx):PSX X [.Return (some e) pos] (sxRet tx):=by
 intro pins s σ H D2 XE τ G D3 KX I RS RG ht EL xx;refine wpAny_execs_cons (wpAny_Return_some (thn (h pins s σ H D2.rt XE τ G _ KX I RS RG ht (fun v H' d G' a b c q=>EL.rt d v G' H' a b c q) xx) fun v s1 ⟨x,H1,I1,r1,q1⟩=>?_));exact⟨x,σ,H1,I1,r1,q1⟩
end
end L3
namespace L2
open PySem PySem.Spec PyProof.Rows
open Builtin Builtin.ObjectAttr
open Sem (wp)
abbrev veTail:List Value:=[.type "ValueError",.type "Exception",.type "BaseException",.type "object"]
def strKeysB(es:Array DictEntry):Bool:=es.toList.all fun e=>match e.key with
 |.str _ _=>true
 |_=>false
theorem qvfz{es:Array DictEntry}(h:strKeysB es=true):StrKeys es:=fun e he=>by
 have:=List.all_eq_true.mp h e (by simpa using he);cases q:e.key with
 |str n t=>exact⟨n,t,rfl⟩
 |_=>rw[q] at this;cases this
def nsB(K:PySem.W.Frag)(N:Addr)(init:Option Value):Bool:=match K.lookup N with
 |some ⟨_,_,.dict es _,_⟩=>strKeysB es&&nsFind es "__init__" == init
 |_=>false
theorem qvgz{K:PySem.W.Frag}{h:Heap}{N:Addr}{init:Option Value}(X:K.In h)(e:nsB K N init=true):∃m,h.Ns N m/\m "__init__" = init:=by
 unfold nsB at e;split at e
 ·rename_i c d es ep sl ho;rw[Bool.and_eq_true] at e;exact⟨nsFind es,⟨_,es,ep,X _ _ ho,rfl,qvfz e.1,fun _=>rfl⟩,beq_iff_eq.mp e.2⟩
 ·cases e
def excIn(K:PySem.W.Frag)(C:Addr)(bm:List Value)(init:Option Value)(newId:String):Bool:=match K.lookup C with
 | some ⟨.type "type",_,.cls cd,sl⟩=>(match cd.mro,sl.toList with
  |.ref C'::bm',[_,_,_,_,some (.builtin n),_]=>C'==C&&bm'==bm && !cd.hasDel&&cd.hasDict&&n==newId&&nsB K cd.ns init
  | _,_=>false)
 |_=>false
theorem qetz{K:PySem.W.Frag}{h:Heap}{C:Addr}{bm:List Value}{init:Option Value}{newId:String}(X:K.In h)(q:excIn K C bm init newId=true):∃nm qn N bs sn sub ab col dd k0 k1 k2 k3 k5 mN,
  h.get? C=some (excClassObj nm qn C N bs bm true sn sub ab col dd k0 k1 k2 k3 k5 newId)/\h.Ns N mN/\mN "__init__" = init:=by
 unfold excIn at q;split at q
 ·rename_i dd cd sl ho;split at q
  ·rename_i C' bm' k0 k1 k2 k3 n k5 hm hs;simp only[Bool.and_eq_true,beq_iff_eq,Bool.not_eq_true'] at q;obtain⟨⟨⟨⟨⟨rfl,rfl⟩,hdel⟩,hdct⟩,rfl⟩,hns⟩:=q;obtain⟨nm,bs,mro,ns,qn,hd,sn,sub,ab,col,del⟩:=cd;dsimp only at hm hdel hdct hns;subst hm hdel hdct;have hsl:sl = #[k0,k1,k2,k3,some (.builtin n),k5]:=by
    obtain⟨l⟩:=sl;simp only at hs;rw[hs]
   subst hsl;obtain⟨m,h1,h2⟩:=qvgz X hns;exact⟨nm,qn,ns,bs,sn,sub,ab,col,dd,k0,k1,k2,k3,k5,m,X _ _ ho,h1,h2⟩
  ·cases q
 ·cases q
structure ExcCls(K:PySem.W.Frag)(C B:Addr)(init:Option Value):Prop where
 cls:excIn K C (.ref B::veTail) init "ValueError.__new__" = true
 base:excIn K B veTail none "ValueError.__new__" = true
theorem ExcCls.own{K:PySem.W.Frag}{C B:Addr}{init:Option Value}(x:ExcCls K C B init){h:Heap}(X:K.In h):∃nm qn N bs sn sub ab col dd k0 k1 k2 k3 k5 mN,
  h.get? C=some (excClassObj nm qn C N bs (.ref B::veTail) true sn sub ab col dd k0 k1 k2 k3 k5 "ValueError.__new__")/\h.Ns N mN/\mN "__init__" = init/\OwnTail h veTail (.ref B::veTail):=by
 obtain⟨nm,qn,N,bs,sn,sub,ab,col,dd,k0,k1,k2,k3,k5,mN,h1,h2,h3⟩:=qetz X x.cls;obtain⟨nm',qn',N',bs',sn',sub',ab',col',dd',k0',k1',k2',k3',k5',mN',h1',h2',h3'⟩:=qetz X x.base;exact⟨nm,qn,N,bs,sn,sub,ab,col,dd,k0,k1,k2,k3,k5,mN,h1,h2,h3,.own h1' h2' h3' .base⟩
end L2
namespace L2
open PySem PySem.Spec PyProof.Rows
open Sem (wp)
structure TurnX(l:List Env)(e T:Addr)(h h':Heap):Prop where
 keep:∀b o,b≠e->b≠T->b∉frs l->h.get? b=some o->h'.get? b=some o
 slot:∀b o,b∈frs l->h.get? b=some o->∃sl,h'.get? b=some { o with slots:=sl }
theorem LeftD.turnX{base:Heap}{l:List Env}{e T:Addr}{cls:Value}{dx:Option Addr}{h h':Heap}(L:LeftD base l e T cls dx h h'):TurnX l e T h h':=⟨L.keep,L.slot⟩
section
variable {M:Model} {A:Around} {E:Value->Shared->Prop} {s:Shared}
theorem qvhz{base:Heap}{env:Env}{outer:List Env}{L e T:Addr}{cls:Value}{dx:Option Addr}{Q:Unit->Shared->Prop}
  (hfr:A.frames=some (env::outer)) (hl:s.heap.FunFrames base (env::outer)) (hf:env.frame=some L) (ht:TracedD base s.heap e T cls dx) (hkb:base.StaysIn s.heap) (hen:base.get? e=none)
  (h:∀h',LeftD base (env::outer) e T cls dx s.heap h'->Q () { s with heap:=h' }):wpAny M A (noteFrame (.ref e) env) (fun _ s'=>wpAny M A (setFlight (.ref e) none) Q E s') E s:=by
 obtain⟨⟨oe,vs,he,hcls,hdx,hd,h1,h2⟩,hnT,hTe,oT,ts,hT,hdT,h3⟩:=ht;subst hcls hdx;unfold noteFrame;simp only[hf];refine wpAny_bind (wpAny_field he hd h1 ?_);rw[if_pos (show (Value.ref T != Value.none)=true from by simp)];refine wpAny_bind (wpAny_field hT hdT h3 ?_);rw[if_neg (show ¬((Value.none==rawInt L)=true) from by simp[rawInt])];refine wpAny_bind (wpAny_setField hT hdT (Array.getElem?_eq_some_iff.mp h3).1 ?_);have other:∀b,b≠T->(s.heap.update T (Obj.mapFields (·.setIfInBounds 3 Value.none))).get? b=s.heap.get? b:=fun b hb=>Heap.get?_update_other _ _ (Ne.symm hb);have noRecord:∀b o,s.heap.get? b=some o->(∀vs,o.data≠.fields vs)->b≠T:=fun b o hb hnf q=>by
  rw[q,hT] at hb;injection hb with hb;subst hb;exact hnf ts hdT
 have hTf:T∉frs (env::outer):=fun hm=>by
  obtain⟨_,o,ho,hnf⟩:=hl.mem hm;rw[hT] at ho;injection ho with ho;subst ho;exact hnf ts hdT
 refine newEntryD hfr (hl.of_keeps fun b o hb hnf=>⟨o,(other b (noRecord b o hb hnf)).trans hb,rfl⟩) hf ((other e (Ne.symm hTe)).trans he)
  (fun b o hbo=>(other b fun q=>by rw[q,hnT] at hbo;cases hbo).trans (hkb b o hbo)) hen hd (Array.getElem?_eq_some_iff.mp h1).1 h2
  fun h' ⟨x1,x2,⟨T',x3,x3'⟩,x4,x5⟩=>h h' ⟨x1,x2,⟨T',x3,?_⟩,fun b o hbe hbT hbf hb=>x4 b o hbe hbe hbf ((other b hbT).trans hb),fun b o hbf hb=>x5 b o hbf ((other b fun q=>hTf (q▸hbf)).trans hb)⟩
 by_cases hq:T'=T
 ·subst hq;obtain⟨o2,e2⟩:∃o2,(s.heap.update T' (Obj.mapFields (·.setIfInBounds 3 Value.none))).get? T'=some o2:=⟨_,Heap.get?_update_self _ hT (Obj.isFreed_of_fields (Obj.data_mapFields hdT _))⟩;rw[e2] at x3';cases x3'
 ·rw[←other T' hq];exact x3'
theorem flightD{base:Heap}{e T:Addr}{cls:Value}{dx:Option Addr}{Q:Unit->Shared->Prop}(ht:TracedD base s.heap e T cls dx)
  (h:∀h',(∀b o,b≠T->s.heap.get? b=some o->h'.get? b=some o)->TracedD base h' e T cls dx->Q () { s with heap:=h' }):wpAny M A (setFlight (.ref e) none) Q E s:=by
 obtain⟨⟨oe,vs,he,hcls,hdx,hd,h1,h2⟩,hnT,hTe,oT,ts,hT,hdT,h3⟩:=ht;unfold setFlight;refine wpAny_bind (wpAny_field he hd h1 ?_);rw[if_pos (show (Value.ref T != Value.none)=true from by simp)];have hz:=(Array.getElem?_eq_some_iff.mp h3).1;refine wpAny_setField hT hdT hz (h _ (fun b o hb q=>(Heap.get?_update_other _ _ (Ne.symm hb)).trans q) ⟨⟨oe,vs,(Heap.get?_update_other _ _ hTe).trans he,hcls,hdx,hd,h1,h2⟩,hnT,hTe,_,_,Heap.get?_update_self _ hT (Obj.isFreed_of_fields (Obj.data_mapFields hdT _)),Obj.data_mapFields hdT _,?_⟩);simp[hz]
theorem excMatchesB{nm q:Str}{C N B:Addr}{bs bm:List Value}{hdct:Bool}{sn:List Str}{sub:List Value}{ab:Bool}{col:Option Bool}{dd:Option Addr}{k0 k1 k2 k3 k5:Option Value}{newId:String}
  {nm' q':Str} {N':Addr} {bs' bm':List Value} {hdct':Bool} {sn':List Str} {sub':List Value} {ab':Bool} {col':Option Bool} {dd':Option Addr} {k0' k1' k2' k3' k5':Option Value} {newId':String}
  {h:Heap} {g:Array GenState} {d:Drawn} {t:Nat} {os:OsState} {e:Addr} {oe:Obj} {Q:Bool->Shared->Prop}
  (hC:h.get? C=some (excClassObj nm q C N bs bm hdct sn sub ab col dd k0 k1 k2 k3 k5 newId)) (hB:h.get? B=some (excClassObj nm' q' B N' bs' bm' hdct' sn' sub' ab' col' dd' k0' k1' k2' k3' k5' newId'))
  (he:h.get? e=some oe) (hcls:oe.cls=.ref C) (hbase:bm'.contains (.type "BaseException")=true) (hsub:(Value.ref C::bm).contains (.ref B)=true)
  (hq:Q true ⟨h,g,d,t,os⟩):wpAny M A (excMatches (.ref e) (.ref B)) Q E ⟨h,g,d,t,os⟩:=by
 have hcB:(Value.ref B::bm').contains (.type "BaseException")=true:=by rw[List.contains_cons,hbase,Bool.or_true]
 have f:=tc_notTuple;unfold excMatches
 repeat (first|(with_reducible refine wpAny_loadPart_at he ?_;rw[hcls])|with_reducible refine wpAny_loadPart_at hB ?_|(with_reducible refine wpAny_isSubtype_exc hB ?_;rw[hcB])|(with_reducible refine wpAny_isSubtype_exc hC ?_;rw[hsub])|wp_step)
 exact hq
end
section
variable {X:Cx} {pins:List (Addr×Obj)} {σ:St} {H:Hp} {s:Shared} {h':Heap} {e T:Addr}
structure Frame(X:Cx):Prop where
 ex:X.ex=[]
 st:X.stack=X.env::X.outer
 fr:X.env.frame=some X.env.locals
theorem Inv.turnedX(I:Inv X pins σ H s)(F:Frame X)(L:TurnX X.stack e T s.heap h')(he:X.s₀.heap.get? e=none)(hT:X.s₀.heap.get? T=none)(hHe:H e=none)(hHT:H T=none)
  (hp:∀p∈X.pn++pins,p.1≠e/\p.1≠T) (eo:∃oe vs,s.heap.get? e=some oe/\oe.data=.fields vs) (To:∃oe vs,s.heap.get? T=some oe/\oe.data=.fields vs):Inv X pins σ H { s with heap:=h' }:=by
 have hloc:X.s₀.heap.get? X.env.locals=none:=Heap.get?_none_of_le I.ok.above;have sub:∀b,b∈frs X.stack->b=X.env.locals∨b∈frs X.outer:=fun b hb=>List.mem_cons.mp (I.stkSub b hb);have ne:∀{b c:Addr} {o:Obj},X.s₀.heap.get? b=some o->X.s₀.heap.get? c=none->b≠c:=fun h1 h2 z=>by
  rw[z,h2] at h1;cases h1
 have nox:∀b:Addr,b∉X.ex:=fun b z=>by
  rw[F.ex] at z;cases z
 have inStk:X.env.locals∈frs X.stack:=by
  rw[F.st];unfold frs;rw[List.filterMap_cons,F.fr];exact List.mem_cons_self
 have supF:∀b,b∈frs X.outer->b∈frs X.stack:=fun b hb=>by
  rw[F.st];unfold frs;rw[List.filterMap_cons,F.fr];exact List.mem_cons_of_mem _ hb
 have noF:∀{b:Addr} {o:Obj},s.heap.get? b=some o->(∀vs,o.data≠.fields vs)->b≠e/\b≠T:=fun {b o} hb hn=>⟨fun z=>by
  obtain⟨oe,vs,q1,q2⟩:=eo;rw[z,q1] at hb;cases hb;exact hn vs q2,fun z=>by
  obtain⟨oe,vs,q1,q2⟩:=To;rw[z,q1] at hb;cases hb;exact hn vs q2⟩
 have cellK:∀c v,s.heap.IsCell c v->h'.IsCell c v:=fun c v hc=>by
  obtain⟨o,ho,hd⟩:=hc;by_cases hb:c∈frs X.stack
  ·obtain⟨sl,k2⟩:=L.slot c o hb ho;exact⟨_,k2,hd⟩
  ·obtain⟨n1,n2⟩:=noF ho (fun vs q=>by rw[hd] at q;cases q);exact⟨o,L.keep c o n1 n2 hb ho,hd⟩
 refine⟨I.ok,I.os,I.bare,⟨fun b o h1 h2 h3 _=>?_,fun b o h1 h2 h3 _=>?_,I.base.free,fun b o h1 hx=>?_,I.base.tups,I.base.frzs,I.base.tbls⟩,?_,fun x c hc=>?_,I.free,I.freeC,fun p hp'=>?_,fun a o ha=>?_,I.len⟩
 ·have k1:=I.base.keep b o h1 h2 h3 (nox b);refine L.keep b o (ne h1 he) (ne h1 hT) (fun z=>?_) k1;rcases sub b z with z|z
  ·exact ne h1 hloc z
  ·exact h3 z
 ·obtain⟨sl,k1⟩:=I.base.slot b o h1 h2 h3 (nox b);obtain⟨sl',k2⟩:=L.slot b _ (supF b h3) k1;exact⟨sl',k2⟩
 ·obtain⟨o',k1⟩:=I.base.there b o h1 (nox b);by_cases hb:b∈frs X.stack
  ·obtain⟨sl,k2⟩:=L.slot b o' hb k1;exact⟨_,k2⟩
  ·exact⟨o',L.keep b o' (ne h1 he) (ne h1 hT) hb k1⟩
 ·obtain⟨m,⟨o,es,ep,ho,r⟩,hl⟩:=I.loc;obtain⟨sl,k2⟩:=L.slot _ o inStk ho;refine⟨m,⟨_,es,ep,k2,r⟩,fun i x v h1 h2 h3=>?_⟩;obtain⟨u,ru,lk⟩:=hl i x v h1 h2 h3;refine⟨u,ru,?_⟩;rcases lk with lk|⟨kd,c,hc,ic⟩
  ·exact .inl lk
  ·exact .inr ⟨kd,c,hc,cellK c _ ic⟩
 ·obtain⟨v,hv⟩:=I.cell x c hc;exact⟨v,cellK c v hv⟩
 ·obtain⟨q1,q2,q3,q4,q5⟩:=I.pin p hp';refine⟨L.keep p.1 p.2 (hp p hp').1 (hp p hp').2 (fun z=>?_) q1,q2,q3,q4,q5⟩;rcases sub _ z with z|z
  ·exact q3 z
  ·exact q4 z
 ·refine (I.hok a o ha).stay (fun b u hb q=>?_) (fun _ q=>q) fun _ _ q=>q;have hHb:H b≠none:=by
   rcases hb with rfl|hb
   ·rw[ha];simp
   ·rw[hb];simp
  exact L.keep b u (fun z=>hHb (z▸hHe)) (fun z=>hHb (z▸hHT)) (fun z=>hHb (I.stkFree b z)) q
theorem Inv.forget{m':Str->Option Value}{t':Nat}(I:Inv X pins σ H s)(hs:Heap.SameBut X.env.locals s.heap h')(hn:h'.Ns X.env.locals m'):Inv X pins (List.replicate X.N.length none) H { s with heap:=h',toks:=t' }:=by
 have hloc:X.s₀.heap.get? X.env.locals=none:=Heap.get?_none_of_le I.ok.above;have k:∀b o,b≠X.env.locals->s.heap.get? b=some o->h'.get? b=some o:=fun b o hb q=>(hs.2 b hb).trans q;have ne:∀{b:Addr} {o:Obj},X.s₀.heap.get? b=some o->b≠X.env.locals:=fun h1 z=>by
  rw[z,hloc] at h1;cases h1
 refine⟨I.ok,I.os,I.bare,⟨fun b o h1 h2 h3 h4=>k b o (ne h1) (I.base.keep b o h1 h2 h3 h4),fun b o h1 h2 h3 h4=>?_,I.base.free,fun b o h1 h2=>?_,I.base.tups,I.base.frzs,I.base.tbls⟩,⟨m',hn,fun i x v h1 h2 h3=>?_⟩,fun x c hc=>?_,I.free,I.freeC,fun p hp=>?_,fun a o ha=>?_,by simp⟩
 ·obtain⟨sl,q⟩:=I.base.slot b o h1 h2 h3 h4;exact⟨sl,k _ _ (ne h1) q⟩
 ·obtain⟨o',q⟩:=I.base.there b o h1 h2;exact⟨o',k _ _ (ne h1) q⟩
 ·rw[List.getElem?_replicate] at h2;split at h2<;>cases h2
 ·obtain⟨v,o,ho,hd⟩:=I.cell x c hc;exact⟨v,o,k _ _ (I.cne x c hc) ho,hd⟩
 ·obtain⟨q1,q2,q3,q4,q5⟩:=I.pin p hp;exact⟨k _ _ q3 q1,q2,q3,q4,q5⟩
 ·refine (I.hok a o ha).stay (fun b u hb q=>k b u (fun z=>?_) q) (fun _ q=>q) fun _ _ q=>q;rcases hb with hb|hb
  ·rw[←hb,z,I.free] at ha;cases ha
  ·rw[z,I.free] at hb;cases hb
abbrev Cx.caught(X:Cx)(e:Addr):Cx:={ X with A:=X.A.mark (some (.ref e)),calm:=false,xe:=fun _ _=>False }
theorem Inv.caught(I:Inv X pins σ H s)(e:Addr):Inv (X.caught e) pins σ H s:=by
 obtain⟨ok,a1,a2,a3,a4,a5,a6,a7,a8,a9,a10⟩:=I;obtain⟨o1,o2,o3,o4,o5,o6,o7,o8,_,o10,o11,o12,o13,o14,o15,o16,o17,o18⟩:=ok;exact⟨⟨o1,o2,o3,o4,o5,o6,o7,o8,(fun z=>nomatch z),o10,o11,o12,o13,o14,o15,o16,o17,o18⟩,a1,a2,a3,a4,a5,a6,a7,a8,a9,a10⟩
theorem Inv.uncaught{e:Addr}(I:Inv (X.caught e) pins σ H s)(ok:X.Ok):Inv X pins σ H s:=by
 obtain⟨_,a1,a2,a3,a4,a5,a6,a7,a8,a9,a10⟩:=I;exact⟨ok,a1,a2,a3,a4,a5,a6,a7,a8,a9,a10⟩
theorem trackHOk{P:Program}{w:World}{h:Heap}{a:Addr}{o:HO}(ok:HOk P w H h)(hn:H a=none)(new:ObjOk P w (upd H a o) h a o):HOk P w (upd H a o) h:=fun b u e=>by
 by_cases z:b=a
 ·subst z;rw[qrz] at e;cases e;exact new
 ·rw[qiz z] at e;refine (ok b u e).stay (fun _ _ _ q=>q) (fun c q=>?_) fun c xs q=>?_
  ·rw[qiz (fun z=>by rw[z,hn] at q;cases q)];exact q
  ·rw[qiz (fun z=>by rw[z,hn] at q;cases q)];exact q
theorem Inv.track{a:Addr}{o:HO}(I:Inv X pins σ H s)(hn:H a=none)(h0:X.s₀.heap.get? a=none)(new:ObjOk X.prog X.w (upd H a o) s.heap a o)(hl:a≠X.env.locals)(hc:∀x c,X.env.cells.lookup x=some c->c≠a)(hp:∀p∈X.pn++pins,p.1≠a):Inv X pins σ (upd H a o) s:=by
 refine⟨I.ok,I.os,I.bare,⟨I.base.keep,I.base.slot,fun b ob h1 h2 h3=>?_,I.base.there,fun b xs e=>?_,fun b x u e=>?_,fun b ps e=>?_⟩,I.loc,I.cell,by rw[qiz hl.symm];exact I.free,fun x c e=>by rw[qiz (hc x c e)];exact I.freeC x c e,fun p hp'=>?_,trackHOk I.hok hn new,I.len⟩
 ·rw[qiz (fun z=>by rw[z,h0] at h1;cases h1)];exact I.base.free b ob h1 h2 h3
 ·have:=I.base.tups b xs e;rw[qiz (fun z=>by rw[z,hn] at this;cases this)];exact this
 ·have:=I.base.frzs b x u e;rw[qiz (fun z=>by rw[z,hn] at this;cases this)];exact this
 ·obtain⟨more,q⟩:=I.base.tbls b ps e;refine⟨more,?_⟩;rw[qiz (fun z=>by rw[z,hn] at q;cases q)];exact q
 ·obtain⟨q1,q2,q3,q4,q5⟩:=I.pin p hp';exact⟨q1,by rw[qiz (hp p hp')];exact q2,q3,q4,q5⟩
end
end L2
namespace L3
open PySem PySem.Spec PyProof.Rows L2
def excφ(a C:Addr)(dx:Option Addr):Heap->Prop:=fun h=>∃oe vs,h.get? a=some oe/\oe.cls=.ref C/\oe.dict=dx/\oe.data=.fields vs/\vs[2]?=some .none
def excR(x:Str)(fs:List (Str×Int)):PySem.W.Frag->Addr->Hp->Prop:=fun K a H=>∃C dx,ClsN K x C/\H a=some (.ext (excφ a C dx))/\DictIs H dx fs
theorem DictIs.keep{H H':Hp}{dx:Option Addr}{fs:List (Str×Int)}(h:DictIs H dx fs)(k:∀b o u,H b=some (.frz o u)->H' b=some (.frz o u)):DictIs H' dx fs:=by
 rcases h with h|⟨d,o,h1,h2⟩
 ·exact .inl h
 ·exact .inr ⟨d,o,h1,k _ _ _ h2⟩
theorem qviz{K:PySem.W.Frag}{H:Hp}{a:Addr}{x:Str}{fs:List (Str×Int)}(h:excR x fs K a H):GOk K H a (.gen (excR x fs)):=
 ⟨h,by obtain⟨C,dx,_,e,_⟩:=h;exact⟨_,e,fun _=>nofun,fun _ _=>nofun⟩,fun H1 H2 t f e ⟨C,dx,h1,h2,h3⟩=>⟨C,dx,h1,e.trans h2,h3.keep f⟩⟩
def Takes(K:PySem.W.Frag)(names:List Str)(B:Addr):Prop:=∀x∈names,∀C,ClsN K x C->∃init,ExcCls K C B init
def sTryP(names:List Str)(i:Nat)(tx:TSX)(th:Addr->TS3)(tr:TS3):TS3:=fun D τ G=>
 tx (fun τ1 G1 x fs=>x∈names/\∀p G2,New G1 p (.gen (excR x fs)) G2->th p { nx:=fun _ _=>False,rt:=D.rt } (set3 τ1 i (.obj p)) G2) { D with nx:=tr D } τ G
theorem qvjz{X:Cx}{i:Nat}{cx en:Str}{names:List Str}{body suite rest:List Stmt}{b₀:Stmt}{np hpos pos:Pos}{tx:TSX}{th:Addr->TS3}{tr:TS3}{B:Addr}(F:Frame X)(T7:Takes X.K names B)(hm:X.mg cx=some (.ref B))(hN:X.N.Nodup)(hb:PSX X body tx)(hh:∀e,PSs3 (X.caught e) (b₀::suite) (th e))(hr:PSs3 X rest tr)
  (hi:X.N[i]?=some en:=by rfl) (hl:X.env.scope.names.lookup en=some .local:=by rfl) (hg:Gl X cx:=by rfl) (hdb:(cx==("__debug__":Str))=false:=by decide):
  PSs3 X (.Try body [.ExceptHandler (some (.Name cx np)) (some en) (b₀::suite) hpos] [] [] pos::rest) (sTryP names i tx th tr):=by
 intro pins s σ H D2 I ⟨τ,G,D3,RS,RG,ht,EL⟩;refine wpAny_execs_cons (wpAny_Try_except ?_);have EL':EndsLow X.K H G { D3 with nx:=tr D3 } { D2 with nx:=fun σ' H'=>lowS X.K tr D2 σ' H' }:=⟨fun τ' σ' G' H' a b c q=>⟨τ',G',D3,a,c,q,EL.step b⟩,EL.bk,EL.ct,EL.rt⟩;refine wpAny_mono (hb pins s σ H _ _ τ G _ _ I RS RG ht EL' ?exc) (fun fl s1 q=>?fin) (fun e s1 q=>q)
 case fin=>
  cases fl with
  |next=>
   obtain⟨σ',H',I',q⟩:=q;exact wpAny_execs_nil (hr pins s1 σ' H' D2 I' q)
  |ret u=>exact q
  |brk=>exact q
  |cont=>exact q
 case exc=>
  intro σ1 τ1 H1 s1 G1 ev s' I1 RS1 R1 S1 cxx;obtain⟨e,T,C,dx,H',rfl,os,bare,u,ok,tr',⟨hHe,hHT⟩,hen,⟨he0,hT0⟩,⟨x,C',fs,ec,cn,⟨hxn,kq⟩,dd⟩,R2,S2⟩:=cxx;cases ec;have I':Inv X pins σ1 H' s':=I1.call' (ch:=[]) os u ok bare (fun b z=>absurd z (by simp));have s0:∀{b:Addr},s1.heap.get? b=none->X.s₀.heap.get? b=none:=fun {b} hb=>by
   cases hq:X.s₀.heap.get? b with
   |none=>rfl
   |some o=>
    obtain⟨o',e'⟩:=I1.base.there b o hq (by rw[F.ex];simp);rw[hb] at e';cases e'
  have pne:∀p∈X.pn++pins,p.1≠e/\p.1≠T:=fun p hp=>by
   have q:=(I1.pin p hp).1;refine⟨fun z=>?_,fun z=>?_⟩
   ·rw[z,he0] at q;cases q
   ·rw[z,hT0] at q;cases q
  have eo:=tr'.obj;have To:=tr'.ent;refine qvhz (base:=X.base) (by rw[I'.ok.frames,F.st]) (by rw[←F.st];exact I'.stack) F.fr tr' I'.bk hen fun h2 L=>?_;rw[←F.st] at L;have I2:=I'.turnedX F L.turnX (s0 he0) (s0 hT0) hHe hHT pne (by obtain⟨oe,vs,q1,_,_,q2,_⟩:=eo;exact⟨oe,vs,q1,q2⟩) (by obtain⟨oe,vs,q1,q2,_⟩:=To;exact⟨oe,vs,q1,q2⟩);obtain⟨T2,tr2,hT2⟩:=L.traced;obtain⟨oe,vs,q1,q2,q3,q4,q5,q6⟩:=tr2.obj;obtain⟨oT,ts,r1,r2,r3⟩:=tr2.ent;have Ic:=I2.caught e;obtain⟨init,ec⟩:=T7 x hxn C cn;refine wpAny_handleBy_cons (codeAny_handlers_test (qb3z (X:=X.caught e) Ic hg hm ?_ hdb)) (by intro q;cases q);obtain⟨nm,qn,N,bs,sn,sub,ab,col,dd',k0,k1,k2,k3,k5,mN,hC,_⟩:=qetz Ic.kIn ec.cls;obtain⟨nm',qn',N',bs',sn',sub',ab',col',dd'',k0',k1',k2',k3',k5',mN',hB,_⟩:=qetz Ic.kIn ec.base;refine excMatchesB hC hB q1 q2 (by decide +kernel) (by simp) ?_;refine codeAny_handlers_suite_as ?_;refine flightD tr2 fun h3 kp tr3=>?_;have sT2:X.s₀.heap.get? T2=none:=by
   cases hq:X.s₀.heap.get? T2 with
   |none=>rfl
   |some o=>
    obtain⟨o',e'⟩:=I'.base.there T2 o hq (by rw[F.ex];simp);rw[hT2] at e';cases e'
  have hHT2:H' T2=none:=by
   cases hq:H' T2 with
   |none=>rfl
   |some o=>
    obtain⟨ob,e'⟩:=ObjOk.there (I'.hok T2 o hq);rw[hT2] at e';cases e'
  have I3:=I2.turnedX (h':=h3) F (e:=e) (T:=T2) ⟨fun b o _ hT _ q=>kp b o hT q,fun b o hb q=>⟨o.slots,kp b o (fun z=>by
   obtain⟨_,o',ho',hd⟩:=I2.stack.mem hb;rw[z,r1] at ho';cases ho';exact hd _ r2) q⟩⟩ (s0 he0) sT2 hHe hHT2 (fun p hp=>⟨(pne p hp).1,fun z=>by
   have:=(I'.pin p hp).1;rw[z,hT2] at this;cases this⟩) ⟨oe,vs,q1,q4⟩ ⟨oT,ts,r1,r2⟩
  obtain⟨oe,vs,q1,q2,q3,q4,q5,q6⟩:=tr3.obj;refine qe9z (X:=X.caught e) (i:=i) (v:=.ref e) (I3.caught e) hN hi (.inl hl) rfl (fun s4 I4 sb=>?_) (.inr hl);have nl:e≠X.env.locals:=fun z=>by
   obtain⟨m,⟨o,es,ep,ho,hd,_⟩,_⟩:=I3.loc;rw[←z] at ho;rw[show h3.get? e=_ from q1] at ho;cases ho;rw[q4] at hd;cases hd
  have nc:∀y c,X.env.cells.lookup y=some c->c≠e:=fun y c hc z=>by
   obtain⟨v,o,ho,hd⟩:=I3.cell y c hc;rw[z] at ho;rw[show h3.get? e=_ from q1] at ho;cases ho;rw[q4] at hd;cases hd
  obtain⟨a,sb1,sb2⟩:=sb;have q1':s4.heap.get? e=some oe:=(sb1.2 e (fun z=>by
   rcases sb2 with sb2|sb2
   ·exact nl (z.trans sb2)
   ·exact nc _ _ sb2 z.symm)).trans q1
  have I5:=I4.track (o:=.ext (excφ e C dx)) hHe (s0 he0) ⟨⟨oe,vs,q1',q2,q3,q4,q6⟩,⟨oe,q1'⟩,fun h1 h2 ⟨oe,vs,a,b⟩ k=>⟨oe,vs,k _ a,b⟩⟩ nl nc (fun p hp=>(pne p hp).1);have E2:=S2.ext R1;have RG5:RepG X.K (upd3 G1 e (.gen (excR x fs))) (upd H' e (.ext (excφ e C dx))):=R2.laidG hHe (qviz ⟨C,dx,cn,qrz,dd.keep (Ext.laid hHe).frz⟩);have S5:Step H1 G1 (upd H' e (.ext (excφ e C dx))) (upd3 G1 e (.gen (excR x fs))):=S2.trans (.laidG hHe);have RS5:RepS X.K (set3 τ1 i (.obj e)) (σ1.set i (some (.ref e))) (upd H' e (.ext (excφ e C dx))):=((RS1.ext E2).ext (.laid hHe)).set (by simp[Hv]);refine wpAny_mono (hh e pins s4 _ _ { nx:=fun _ _=>False,rt:=D2.rt } I5 ⟨_,_,{ nx:=fun _ _=>False,rt:=D3.rt },RS5,RG5,kq e _ (.mk' (R2.free hHe)),⟨fun _ _ _ _ _ _ _ q=>q.elim,fun _ _ _ _ _ _ _ q=>q.elim,fun _ _ _ _ _ _ _ q=>q.elim,fun d v G' H' a b c q=>EL.rt d v G' H' a (S1.trans (S5.trans b)) c q⟩⟩) (fun fl s5 q=>?_) (fun _ _ z=>z.elim);cases fl with
  |ret u=>
   obtain⟨v,σ',H6,I6,rv,qv⟩:=q;obtain⟨m,hn,_⟩:=I6.loc;refine wpAny_nameGoes hl hn (by rw[I.ok.kind];rfl) fun h7 m7 hn7 hs7=>?_;exact⟨v,_,H6,(I6.uncaught I.ok).forget hs7 hn7,rv,qv⟩
  |next=>
   obtain⟨_,_,_,q⟩:=q;exact q.elim
  |brk=>
   obtain⟨_,_,_,q⟩:=q;exact q.elim
  |cont=>
   obtain⟨_,_,_,q⟩:=q;exact q.elim
def sTry(names:List Str)(i:Nat)(tx:TSX)(th tr:TS3):TS3:=fun D τ G=>
 tx (fun τ1 G1 x fs=>x∈names/\∀p G2,New G1 p (.gen (excR x fs)) G2->th { nx:=fun _ _=>False,rt:=D.rt } (set3 τ1 i (.obj p)) G2) { D with nx:=tr D } τ G
theorem qvkz{X:Cx}{i:Nat}{cx en:Str}{names:List Str}{body suite rest:List Stmt}{b₀:Stmt}{np hpos pos:Pos}{tx:TSX}{th tr:TS3}{B:Addr}(F:Frame X)(T7:Takes X.K names B)(hm:X.mg cx=some (.ref B))(hN:X.N.Nodup)(hb:PSX X body tx)(hh:∀e,PSs3 (X.caught e) (b₀::suite) th)(hr:PSs3 X rest tr)
  (hi:X.N[i]?=some en:=by rfl) (hl:X.env.scope.names.lookup en=some .local:=by rfl) (hg:Gl X cx:=by rfl) (hdb:(cx==("__debug__":Str))=false:=by decide):
  PSs3 X (.Try body [.ExceptHandler (some (.Name cx np)) (some en) (b₀::suite) hpos] [] [] pos::rest) (sTry names i tx th tr):=qvjz (th:=fun _=>th) F T7 hm hN hb hh hr hi hl hg hdb
end L3
namespace L2
open PySem PySem.Spec PyProof.Rows PySem.W
open Builtin Builtin.ObjectAttr
structure GetExc(K:Frag)(C:Addr):Prop where
 ga:findIn K (.ref C) "__getattribute__" = some (some (.builtin "BaseException.__getattribute__"))
 gn:findIn K (.ref C) "__getattr__" = some none
 be:mroIn K C (.type "BaseException")=some true
section
variable {prog:Program} {w:World} {A:Around} {E:Value->Shared->Prop} {K:Frag} {x C:Addr} {ox:Obj} {od:Option Obj} {name:Str} {s:Shared}
theorem qvlz:builtinKind "BaseException.__getattribute__" = some .slot:=by decide +kernel
theorem qvmz:splitId "BaseException.__getattribute__" = some ("BaseException","__getattribute__"):=by decide +kernel
theorem qvnz:plainId "BaseException.__getattribute__" = true:=by decide +kernel
theorem qvoz(self:Value):bindSpecial (.builtin "BaseException.__getattribute__") self=pure (.builtin "BaseException.__getattribute__",[self]):=by kernel_rfl
theorem qvpz{tk:Tok}{fill expr:Bool}{f:Builtin.ObjectAttr.Found}{Q:Value->Shared->Prop}(a:GetExc K C)(X:K.In s.heap)(I:InstAt s.heap x ox C od)(hf:findObj K C od name=some f)
  (h:wpAny (model prog w) A.in1 (match f with | .value v=>ret v | .bind g b=>bindTo g b (.ref x) (.ref C) | .missing=>unsupported "") (fun fin s'=>match fin with | .done (.ret v)=>wpAny (model prog w) A (handedOut v) Q E s' | _=>False) (fun _ _=>False) s) (hm:f≠.missing):
  wpAny (model prog w) A (getAttrBy (.ref x) (.str name tk) fill expr) Q E s:=by
 obtain⟨hh,g,d,t,os⟩:=s;have L0:=I.type (M:=model prog w);have L1:=looks_findIn (M:=model prog w) X a.ga;have L2:=looks_findIn (M:=model prog w) X a.gn;have L3:=looks_find (M:=model prog w) X I hf;have sub:Looks (model prog w) hh (isInstance (.ref x) (.type "BaseException")) true:=I.type.andThen (looks_mroIn X a.be);unfold getAttrBy;refine wpAny_holding (wpAny_bind (L0.at (wpAny_bind (L1.at ?_))));have hx2:(Value.builtin "BaseException.__getattribute__" == Value.builtin "object.__getattribute__")=false:=by decide +kernel
 show wpAny _ _ (if (onTheHeap (Value.ref C)&&Value.builtin "BaseException.__getattribute__" == Value.builtin "object.__getattribute__")=true then _ else getAttrByItsOwn _ _ _ _ _ _) _ _ _;rw[hx2,if_neg (by simp)];unfold getAttrByItsOwn;refine wpAny_bind ?_;show wpAny _ _ (typeLookup (.ref C) "__getattr__") _ _ _;refine L2.at ?_;refine wpAny_bind (wpAny_attempt (wpAny_holding ?_));have hx0:(expr&&onTheHeap (Value.builtin "BaseException.__getattribute__"))=false:=by cases expr<;>rfl
 show wpAny _ _ (if (expr&&onTheHeap (Value.builtin "BaseException.__getattribute__"))=true then _ else boundAndCalled _ _ _) _ _ _;rw[hx0,if_neg (by simp)];unfold boundAndCalled;rw[qvoz];refine wpAny_bind (wpAny_pure (wpAny_call ?_));refine codeAny_call_builtin qvnz F.entry_bexc_ga (@check_slot (model prog w) _ _ ⟨hh,g,d,t,os⟩ "BaseException.__getattribute__" "BaseException" "__getattribute__" (.ref x) [.str name tk] [] _ qvlz qvmz sub (F.args_bexc_ga (.ref x) (.str name tk)) ?_);unfold Builtin.«object.__getattribute__»;refine wpAny_bind (wpAny_pure (wpAny_bind (wpAny_pure (wpAny_bind (L0.at (wpAny_bind (L3.at ?_)))))));cases f with
 |missing=>exact absurd rfl hm
 |value v=>
  refine wpAny_mono h (fun fin s' z=>?_) fun _ _ z=>z.elim;rcases fin with (_|_|_|_)|_<;>first|exact z|exact z.elim
 |bind g b=>
  refine wpAny_mono h (fun fin s' z=>?_) fun _ _ z=>z.elim;rcases fin with (_|_|_|_)|_<;>first|exact z|exact z.elim
theorem qvqz{Q:Option Value->Shared->Prop}(a:GetExc K C)(hc:(clsIn K C).isSome=true)(ha:findIn K (.ref C) "__class__" = some (some (.builtin "object.__class__")))(hn:specialIn K (.builtin "object.__class__") "__get__" = some (some (.builtin "getset_descriptor.__get__")))
  (htk:takesIn K (.builtin "object.__class__")=some true) (hm:mroIn K C (.type "object")=some true) (X:K.In s.heap) (I:InstAt s.heap x ox C od) (h:Q (some (.ref C)) { s with toks:=s.toks+1 }):wpAny (model prog w) A (getAttr? (.ref x) "__class__") Q E s:=by
 have hf:findObj K C od "__class__" = some (.bind (.builtin "getset_descriptor.__get__") (.builtin "object.__class__")):=by
  obtain⟨cd,hcd⟩:=Option.isSome_iff_exists.mp hc;unfold findObj;rw[hcd,Option.bind_some,ha,Option.bind_some];simp[hn,htk]
 unfold getAttr? getAttrBy?;refine wpAny_bind (wpAny_mkText (wpAny_bind (wpAny_attempt ?_)));refine qvpz (s:={ s with toks:=s.toks+1 }) a X I hf ?_ (by simp);show wpAny _ _ (holding [_] (call (.builtin "getset_descriptor.__get__") [.builtin "object.__class__",.ref x,.ref C]) >>= ret) _ _ _;refine wpAny_bind (wpAny_holding (wpAny_call (class_get (s:={ s with toks:=s.toks+1 }) (ox:=ox) (od:=od) X I hm ?_)));exact wpAny_pure (handed_on rfl (wpAny_pure h))
theorem qvrz(a:GetExc K C)(hc:(clsIn K C).isSome=true)(ha:findIn K (.ref C) "__class__" = some (some (.builtin "object.__class__")))(hn:specialIn K (.builtin "object.__class__") "__get__" = some (some (.builtin "getset_descriptor.__get__")))
  (htk:takesIn K (.builtin "object.__class__")=some true) (hm:mroIn K C (.type "object")=some true):KitX K (.ref x) (.ref C) (fun h=>InstAt h x ox C od):=by
 obtain⟨cd,hcd⟩:=Option.isSome_iff_exists.mp hc;obtain⟨o,ho,hcl⟩:∃o,K.lookup C=some o/\∃c,o.data=.cls c:=by
  unfold clsIn at hcd;split at hcd
  ·rename_i q;exact⟨_,q,_,rfl⟩
  ·cases hcd
 obtain⟨oc,odd,oda,osl⟩:=o;obtain⟨c,e⟩:=hcl;dsimp only at e;subst e;refine⟨fun _ _ _ I=>I.type,fun _ _ X _=>?_,fun h tp dd its n sl X htp=>?_,fun X I k=>qvqz a hc ha hn htk hm X I k⟩
 ·intro A' Q' E' s' k q;unfold isType loadHead;exact wpAny_bind (wpAny_loadPart (k _ _ (X _ _ ho)) (wpAny_pure q))
 ·refine Bool.eq_false_iff.mpr fun q=>?_;have e:C=tp:=Value.ref.inj (beq_iff_eq.mp q);subst e;have z:=(X _ _ ho).symm.trans htp;cases z
end
end L2
namespace L3
open PySem PySem.Spec PyProof.Rows L2
structure ExcAsk(K:PySem.W.Frag)(C:Addr):Prop where
 ge:GetExc K C
 hd:(PySem.W.clsIn K C).isSome=true
 ha:PySem.W.findIn K (.ref C) "__class__" = some (some (.builtin "object.__class__"))
 hn:PySem.W.specialIn K (.builtin "object.__class__") "__get__" = some (some (.builtin "getset_descriptor.__get__"))
 ht:PySem.W.takesIn K (.builtin "object.__class__")=some true
 hm:PySem.W.mroIn K C (.type "object")=some true
theorem qvsz{P:Program}{w:World}{K:PySem.W.Frag}{H:Hp}{h:Heap}{p:Addr}{x:Str}{fs:List (Str×Int)}(ok:HOk P w H h)(e:excR x fs K p H):∃C oe od,ClsN K x C/\PySem.W.InstAt h p oe C od:=by
 obtain⟨C,dx,cn,e1,dd⟩:=e;obtain⟨⟨oe,vs,q1,q2,q3,q4,_⟩,_⟩:=(show ObjOk P w H h p (.ext (excφ p C dx)) from ok p _ e1);have hn:PySem.W.notCls oe=true:=by
  unfold PySem.W.notCls;rw[q4]
 rcases dd with⟨rfl,_⟩|⟨d,o,rfl,e2⟩
 ·exact⟨C,oe,none,cn,q1,q2,hn,by rw[q3];trivial⟩
 ·obtain⟨r1,_⟩:=(show ObjOk P w H h d (.frz o (.xd _)) from ok d _ e2);exact⟨C,oe,some o,cn,q1,q2,hn,by rw[q3];exact r1⟩
section
variable {X:Cx} {a:Expr} {ta:TE3} {pos p p2:Pos}
def eIsX(rs:List Str)(y:Str)(ta:TE3):TE3:=fun τ G Q=>ta τ G fun x G1=>match x with
 |.obj p=>∃z fs,G1 p=some (.gen (excR z fs))/\z∈rs/\Q (.bl (z==y)) G1
 |_=>False
theorem qkzz{c:Value}{cv:V}(hc:RelV cv c)(hu:∀c',RelV cv c'->c'=c):CallR X (.builtin "isinstance") (fun vs H Q=>∃q z fs b,vs=[.ref q,cv]/\excR z fs X.K q H/\(∀C,ClsN X.K z C->ExcAsk X.K C/\PySem.W.kitOne X.K (.ref C) c=some b)/\Q (.bl b) H):=by
 intro pins s σ H vs us Q I r h;obtain⟨q,z,fs,b,rfl,hx,hk,qq⟩:=h;obtain⟨u,c',rfl,ru,rc⟩:=vals2 r;cases (show u=Value.ref q from ru);cases hu c' rc;obtain⟨C,oe,od,cn,J⟩:=qvsz I.hok hx;obtain⟨K1,K2⟩:=hk C cn;exact PySem.W.kia_one (qvrz K1.ge K1.hd K1.ha K1.hn K1.ht K1.hm) I.kIn J K2 (fun z=>nomatch z) fun tk=>⟨.bl b,H,I.tok tk,rfl,qq⟩
theorem qvtz{rs:List Str}{y:Str}{c:Value}{cv:V}(hk:∀z∈rs,∀C,ClsN X.K z C->ExcAsk X.K C/\PySem.W.kitOne X.K (.ref C) c=some (z==y)){σ:L2.St}{H:Hp}{Q:VK}(h:low X.K (eIsX rs y ta) σ H Q):
  tCB (fun vs H Q=>∃q z fs b,vs=[.ref q,cv]/\excR z fs X.K q H/\(∀C,ClsN X.K z C->ExcAsk X.K C/\PySem.W.kitOne X.K (.ref C) c=some b)/\Q (.bl b) H) (tCons (low X.K ta) (tCons (tC cv) tNil)) σ H Q:=by
 obtain⟨τ,G,Q3,RS,RG,h,k⟩:=h;refine⟨τ,G,_,RS,RG,h,fun v H1 d G1 h1 S1 R1 q1=>?_⟩;cases d with
 |obj q=>
  obtain⟨z,fs,e1,hz,q2⟩:=q1;rw[qtz h1];exact⟨q,z,fs,_,rfl,(R1 q _ e1).1,fun C cn=>hk z hz C cn,k _ H1 (.bl (z==y)) G1 q5z S1 R1 q2⟩
 |_=>exact q1.elim
theorem qvuz{rs:List Str}{y:Str}{C:Addr}(hk:∀z∈rs,∀D,ClsN X.K z D->ExcAsk X.K D/\PySem.W.kitOne X.K (.ref D) (.ref C)=some (z==y))(ha:PE3 X a ta)(hm:X.mg "isinstance" = none)(hmy:X.mg y=some (.ref C))(hgy:Gl X y:=by rfl)(hdy:(y==("__debug__":Str))=false:=by decide)(hg:Gl X "isinstance":=by rfl)(he:notStar a=true:=by rfl):
  PE3 X (.Call (.Name "isinstance" p) [a,.Name y p2] [] pos) (eIsX rs y ta):=
 qsz (qarz (qkzz (c:=.ref C) (cv:=.ref C) rfl fun c' r=>r) hg hm rfl (qaoz ha (qaoz (qm5z (v:=.ref C) hgy hmy rfl hdy) qbez (qjz rfl)) (qjz he)) (he:=qjz he) (hpl:=qyz rfl)) fun σ H Q h=>qvtz hk h
def eIsV(rs:List Str)(ta:TE3):TE3:=fun τ G Q=>ta τ G fun x G1=>match x with
 |.obj p=>∃z fs,G1 p=some (.gen (excR z fs))/\z∈rs/\Q (.bl true) G1
 |_=>False
theorem qvvz{rs:List Str}(hk:∀z∈rs,∀D,ClsN X.K z D->ExcAsk X.K D/\PySem.W.kitOne X.K (.ref D) (.type "ValueError")=some true)(ha:PE3 X a ta)(hm:X.mg "isinstance" = none)(hmy:X.mg "ValueError" = none)(hgy:Gl X "ValueError":=by rfl)(hg:Gl X "isinstance":=by rfl)(he:notStar a=true:=by rfl):
  PE3 X (.Call (.Name "isinstance" p) [a,.Name "ValueError" p2] [] pos) (eIsV rs ta):=
 qsz (qarz (qkzz (c:=.type "ValueError") (cv:=.ty "ValueError") rfl fun c' r=>r) hg hm rfl (qaoz ha (qaoz (qhhz (v:=.ty "ValueError") hgy hmy rfl rfl (by decide) (by decide)) qbez (qjz rfl)) (qjz he)) (he:=qjz he) (hpl:=qyz rfl)) fun σ H Q h=>by
  obtain⟨τ,G,Q3,RS,RG,h,k⟩:=h;refine⟨τ,G,_,RS,RG,h,fun v H1 d G1 h1 S1 R1 q1=>?_⟩;cases d with
  |obj q=>
   obtain⟨z,fs,e1,hz,q2⟩:=q1;rw[qtz h1];exact⟨q,z,fs,_,rfl,(R1 q _ e1).1,fun C cn=>hk z hz C cn,k _ H1 (.bl true) G1 q5z S1 R1 q2⟩
  |_=>exact q1.elim
end
end L3
namespace L3
open PySem PySem.Spec PyProof.Rows L2
theorem qgjz:∀{bs:List Bool} {its:List Value},Vals (bs.map V.bl) its->its=bs.map Value.bool
 |[],_,h=>h.zero
 |b::bs,_,h=>by
  cases h with
  |cons r1 r2=>rw[qgjz r2,show _=Value.bool b from r1];rfl
def rCountB:V->List V->Hp->VK->Prop:=fun x vs H Q=>∃(l:Addr) (bs:List Bool),x=.ref l/\vs=[.bl true]/\H l=some (.lst (bs.map V.bl))/\Q (.int ((bs.countP id:Nat):Int)) H
def rIndexB:V->List V->Hp->VK->Prop:=fun x vs H Q=>∃(l:Addr) (bs:List Bool) (j:Nat),x=.ref l/\vs=[.bl true]/\H l=some (.lst (bs.map V.bl))/\bs[j]?=some true/\(∀i,i<j->bs[i]?=some false)/\j<1000/\Q (.int ((j:Nat):Int)) H
def isT:Value->Bool
 |.bool b=>b
 |_=>false
section
variable {X:Cx}
theorem qvwz:MtR X "list.count" rCountB:=by
 intro pins s σ H x vs v us Q I rx rv h;obtain⟨l,bs,rfl,rfl,hH,q⟩:=h;cases rx;obtain⟨u,rfl,ru⟩:=rv.one;cases (show u=Value.bool true from ru);obtain⟨z,its,n,r,hl,e⟩:=I.lstM hH;rw[qgjz r] at e;refine call_meets F.slot_list_count ⟨_,e,rfl⟩ F.entry_list_count (F.args_list_count_2 _ _) (SeqAt.list_countAt l (bs.map Value.bool).toArray n none #[] (.bool true) isT) ⟨e,fun y hy=>?_,?_⟩
 ·obtain⟨b,_,rfl⟩:=List.mem_map.mp (Array.mem_toList_iff.mpr hy);have:=SeqAt.EqAt.bool_bool (A:=X.A.in1) (s:=s) b true;cases b<;>exact this
 ·refine⟨.int ((bs.countP id:Nat):Int),H,I.tok _,⟨s.toks,?_⟩,q⟩;have e2:((bs.map Value.bool).toArray.toList).countP isT=bs.countP id:=by
   show (bs.map Value.bool).countP isT=_;rw[List.countP_map];rfl
  rw[e2]
theorem qvxz:MtR X "list.index" rIndexB:=by
 intro pins s σ H x vs v us Q I rx rv h;obtain⟨l,bs,j,rfl,rfl,hH,h1,h2,h3,q⟩:=h;cases rx;obtain⟨u,rfl,ru⟩:=rv.one;cases (show u=Value.bool true from ru);obtain⟨z,its,n,r,hl,e⟩:=I.lstM hH;rw[qgjz r] at e;have hj:j<bs.length:=(List.getElem?_eq_some_iff.mp h1).1;refine call_meets F.slot_list_index ⟨_,e,rfl⟩ F.entry_list_index (F.args_list_index_2 _ _) (SeqAt.list_indexAt l (bs.map Value.bool).toArray n none #[] (.bool true) isT j (by simpa using hj) (by omega) ?_ fun m hm hmj=>?_) ⟨e,fun y hy=>?_,?_⟩
 ·simp only[List.getElem_toArray,List.getElem_map];rw[(List.getElem?_eq_some_iff.mp h1).2];rfl
 ·simp only[List.getElem_toArray,List.getElem_map];rw[(List.getElem?_eq_some_iff.mp (h2 m hmj)).2];rfl
 ·obtain⟨b,_,rfl⟩:=List.mem_map.mp (Array.mem_toList_iff.mpr hy);have:=SeqAt.EqAt.bool_bool (A:=X.A.in1) (s:=s) b true;cases b<;>exact this
 ·exact⟨.int ((j:Nat):Int),H,I.tok _,⟨_,rfl⟩,q⟩
end
section
variable {K:PySem.W.Frag}
def qgkz:D->List D->Gp->V3->Prop:=fun x ds G Q=>match x,ds with
 |.obj p,[.bl true]=>∃xs bs,G p=some (.lst xs)/\blsOf xs=some bs/\Q (.int ((bs.countP id:Nat):Int)) G
 |_,_=>False
def qglz:D->List D->Gp->V3->Prop:=fun x ds G Q=>match x,ds with
 |.obj p,[.bl true]=>∃xs bs j,G p=some (.lst xs)/\blsOf xs=some bs/\bs[j]?=some true/\(∀i,i<j->bs[i]?=some false)/\j<1000/\Q (.int ((j:Nat):Int)) G
 |_,_=>False
theorem qvyz:LowM K qgkz rCountB:=fun x vx ds vs G H Q3 Q hx hs RG q k=>by
 unfold qgkz at q;split at q
 ·rename_i p;obtain⟨xs,bs,e1,e2,q⟩:=q;obtain⟨ys,e3,hv⟩:=RG p _ e1;obtain⟨v,r,rfl,hv1,hv2⟩:=hs.inv;rw[hv2.inv0,qbrz hv1,qtz hx];exact⟨p,bs,rfl,rfl,by rw[e3,qebz hv e2],k _ H (.int _) G q3z (.refl H G) RG q⟩
 ·exact q.elim
theorem qvzz:LowM K qglz rIndexB:=fun x vx ds vs G H Q3 Q hx hs RG q k=>by
 unfold qglz at q;split at q
 ·rename_i p;obtain⟨xs,bs,j,e1,e2,q1,q2,q3,q⟩:=q;obtain⟨ys,e3,hv⟩:=RG p _ e1;obtain⟨v,r,rfl,hv1,hv2⟩:=hs.inv;rw[hv2.inv0,qbrz hv1,qtz hx];exact⟨p,bs,j,rfl,rfl,by rw[e3,qebz hv e2],q1,q2,q3,k _ H (.int _) G q3z (.refl H G) RG q⟩
 ·exact q.elim
end
end L3
namespace L3
open PySem PySem.Spec PyProof.Rows L2
open Sem (wp)
theorem qv0z{K:PySem.W.Frag}{C:Addr}{bm:List Value}{init:Option Value}{newId:String}(q:excIn K C bm init newId=true):∃nm qn N bs sn sub ab col dd k0 k1 k2 k3 k5,K.lookup C=some (excClassObj nm qn C N bs bm true sn sub ab col dd k0 k1 k2 k3 k5 newId):=by
 unfold excIn at q;split at q
 ·rename_i dd cd sl ho;split at q
  ·rename_i C' bm' k0 k1 k2 k3 n k5 hm hs;simp only[Bool.and_eq_true,beq_iff_eq,Bool.not_eq_true'] at q;obtain⟨⟨⟨⟨⟨rfl,rfl⟩,hdel⟩,hdct⟩,rfl⟩,hns⟩:=q;obtain⟨nm,bs,mro,ns,qn,hd,sn,sub,ab,col,del⟩:=cd;dsimp only at hm hdel hdct hns;subst hm hdel hdct;have hsl:sl = #[k0,k1,k2,k3,some (.builtin n),k5]:=by
    obtain⟨l⟩:=sl;simp only at hs;rw[hs]
   subst hsl;exact⟨nm,qn,ns,bs,sn,sub,ab,col,dd,k0,k1,k2,k3,k5,ho⟩
  ·cases q
 ·cases q
def sRaise0(x:Str)(E:E3):TS3:=fun _ _ _=>E x []
theorem qv1z{X:Cx}{E:XK}{E':E3}{x:Str}{C B:Addr}{np cpos pos:Pos}(hB:Body X E)(hE:∀cls dx H',lowE X.K E' cls dx H'->E cls dx H')(O:ExcCls X.K C B none)(cn:ClsN X.K x C)(hm:X.mg x=some (.ref C))(hc:X.calm=true)(hg:Gl X x:=by rfl)(hdb:(x==("__debug__":Str))=false:=by decide):
  PS3 X (.Raise (some (.Call (.Name x np) [] [] cpos)) none pos) (sRaise0 x E'):=
 qayz (qu1z (bmB:=veTail) (newId:="ValueError.__new__") hB hc PySem.F.excBase_ValueError (fun h K1=>by
  obtain⟨nm,qn,N,bs,sn,sub,ab,col,dd,k0,k1,k2,k3,k5,mN,h1,h2,h3,h4⟩:=O.own K1;exact⟨nm,qn,N,bs,_,true,sn,sub,ab,col,dd,k0,k1,k2,k3,k5,mN,h1,h2,h3,h4⟩) hg hm hdb) fun D σ H ⟨τ,G,D3,RS,RG,h,EL⟩=>hE _ _ _ ⟨x,C,[],rfl,cn,h,.inl ⟨rfl,rfl⟩⟩
end L3
namespace L3
open PySem PySem.Spec PyProof.Rows L2
structure QEX(X:Cx)(e:Expr)(t:TEX):Prop where
 of:PEX X e t
structure QAX(X:Cx)(es:List Expr)(t:TAX):Prop where
 of:PAX X es t
structure QSX(X:Cx)(st:List Stmt)(t:TSX):Prop where
 of:PSX X st t
section
variable {X:Cx} {k:Nat} {f:Addr} {fd:FuncData} {ps:List Str} {sp:SpX} {sp3:Sp3} {E':E3} {x:Str} {p pos:Pos} {a b e c:Expr} {es:List Expr} {t:TA3} {te:TE3} {tx:TEX} {tax:TAX} {tc:TT3} {ta tb tr:TSX} {sa sb rest:List Stmt}
theorem qv2z(F:FnH3 X.prog X.w X.K X.mg X.base k f fd ps sp3)(hr:RoomH k X.A)(hm:X.mg x=some (.ref f))(hk:PySem.W.keepIn X.K (.ref f)=true)(hb:Binds X.K fd ps [])(ha:QA X (e::es) t)(hg:Gl X x:=by rfl)
  (hdb:(x==("__debug__":Str))=false:=by decide) (he:notStar e=true:=by rfl) (hpl:es.all notStar=true:=by rfl):QE X (.Call (.Name x p) (e::es) [] pos) (eCall sp3 t):=⟨qu9z F hr hm hk hb ha.of hg hdb he hpl⟩
theorem qv3z(h:QE X.nox e te):QEX X e (fun _=>te):=⟨qvaz h.of⟩
theorem qv4z:QAX X [] (fun _=>aNil):=⟨qvbz⟩
theorem qk0z(ha:QEX X e tx)(hr:QAX X es tax)(hs:notStar e=true:=by rfl):QAX X (e::es) (axCons tx tax):=⟨qvcz ha.of hr.of hs⟩
theorem qv5z{x1}(h:QAX X es tax):QEX X (.Tuple es x1 pos) (fun KX=>eTup (tax KX)):=⟨qvdz h.of⟩
theorem qv6z(h:QEX X e tx):QSX X [.Return (some e) pos] (sxRet tx):=⟨qvez h.of⟩
theorem qv7z{i:Nat}{cx en:Str}{names:List Str}{body suite rs:List Stmt}{b₀:Stmt}{np hpos:Pos}{th tq:TS3}{B:Addr}(F:Frame X)(T7:Takes X.K names B)(hm:X.mg cx=some (.ref B))(hN:X.N.Nodup)(hb:QSX X body ta)(hh:∀e,QSs (X.caught e) (b₀::suite) th)(hr:QSs X rs tq)
  (hi:X.N[i]?=some en:=by rfl) (hl:X.env.scope.names.lookup en=some .local:=by rfl) (hg:Gl X cx:=by rfl) (hdb:(cx==("__debug__":Str))=false:=by decide):
  QSs X (.Try body [.ExceptHandler (some (.Name cx np)) (some en) (b₀::suite) hpos] [] [] pos::rs) (sTry names i ta th tq):=⟨qvkz F T7 hm hN hb.of (fun e=>(hh e).of) hr.of hi hl hg hdb⟩
theorem qv8z{E:XK}{C B:Addr}{np cpos:Pos}(hB:Body X E)(hE:∀cls dx H',lowE X.K E' cls dx H'->E cls dx H')(O:ExcCls X.K C B none)(cn:ClsN X.K x C)(hm:X.mg x=some (.ref C))(hc:X.calm=true)(hg:Gl X x:=by rfl)(hdb:(x==("__debug__":Str))=false:=by decide):
  QS X (.Raise (some (.Call (.Name x np) [] [] cpos)) none pos) (sRaise0 x E'):=⟨qv1z hB hE O cn hm hc hg hdb⟩
theorem qb2z{rs:List Str}{y:Str}{C:Addr}{p2:Pos}(hk:∀z∈rs,∀D,ClsN X.K z D->ExcAsk X.K D/\PySem.W.kitOne X.K (.ref D) (.ref C)=some (z==y))(ha:QE X a te)(hm:X.mg "isinstance" = none)(hmy:X.mg y=some (.ref C))(hgy:Gl X y:=by rfl)(hdy:(y==("__debug__":Str))=false:=by decide)(hg:Gl X "isinstance":=by rfl)(he:notStar a=true:=by rfl):
  QE X (.Call (.Name "isinstance" p) [a,.Name y p2] [] pos) (eIsX rs y te):=⟨qvuz hk ha.of hm hmy hgy hdy hg he⟩
theorem qv9z{rs:List Str}{p2:Pos}(hk:∀z∈rs,∀D,ClsN X.K z D->ExcAsk X.K D/\PySem.W.kitOne X.K (.ref D) (.type "ValueError")=some true)(ha:QE X a te)(hm:X.mg "isinstance" = none)(hmy:X.mg "ValueError" = none)(hgy:Gl X "ValueError":=by rfl)(hg:Gl X "isinstance":=by rfl)(he:notStar a=true:=by rfl):
  QE X (.Call (.Name "isinstance" p) [a,.Name "ValueError" p2] [] pos) (eIsV rs te):=⟨qvvz hk ha.of hm hmy hgy hg he⟩
end
theorem frame0{P:Program}{w:World}{K:PySem.W.Frag}{mg:Str->Option Value}{base:Heap}{N:List Str}{qual:Str}{scope:Scope}{f:Addr}{cd:Value}{A:Around}{outer:List Env}{s:Shared}{H:Hp}{E:XK}:Frame (cxOf CX0 P w K mg base N qual scope f cd A outer s H E).nox:=⟨rfl,rfl,rfl⟩
theorem qfnX{P:Program}{w:World}{K:PySem.W.Frag}{mg:Str->Option Value}{base:Heap}{x qual:Str}{st:Stmt}{f:Addr}{fd:FuncData}{N ps:List Str}{k:Nat}{sp:SpX}(F:Fun K x qual st f fd)(S:FnScope N ps (defScope st))(hN:ps.length≤N.length)(len:∀ds Q E,sp ds Q E->ds.length=ps.length)(tb:E3->TS3)
  (hbody:∀(cdv:Value) (A:Around) (outer:List Env) (s:Shared) (H:Hp) (E:XK) (E':E3),Room k (A.deeper (envOfC qual (defScope st) s.heap.objs.size f cdv))->(∀cls dx H',lowE K E' cls dx H'->E cls dx H') ->
   QSs (cxOf (CXE P w base) P w K mg base N qual (defScope st) f cdv A outer s H E) (defBody st) (tb E'))
  (hrd:∀ds Q E,sp ds Q E->tb E (endsOf Q) (start3 N ds) noG):FnX P w K mg base (k+1) f fd ps sp:=fnX F S hN len tb (fun cdv A outer s H E E' hr hE=>(hbody cdv A outer s H E E' hr hE).of) hrd
theorem qfnH{P:Program}{w:World}{K:PySem.W.Frag}{mg:Str->Option Value}{base:Heap}{x qual:Str}{st:Stmt}{f:Addr}{fd:FuncData}{N ps:List Str}{k:Nat}{sp:Sp3}(F:Fun K x qual st f fd)(S:FnScope N ps (defScope st))(hN:ps.length≤N.length)(len:∀ds G Q,sp ds G Q->ds.length=ps.length)(tb:TS3)
  (hbody:∀(cdv:Value) (A:Around) (outer:List Env) (s:Shared) (H:Hp) (E:XK),RoomH k (A.deeper (envOfC qual (defScope st) s.heap.objs.size f cdv)) ->
   QSs (cxH P w K mg base N qual (defScope st) f cdv A outer s H E) (defBody st) tb)
  (hrd:∀ds G Q,sp ds G Q->tb (endsOf Q) (start3 N ds) G):FnH3 P w K mg base (k+1) f fd ps sp:=fnH3 F S hN len tb (fun cdv A outer s H E hr=>(hbody cdv A outer s H E hr).of) hrd
end L3
namespace L3
open PySem PySem.Spec PyProof.Rows L2
theorem qwaz{K:PySem.W.Frag}{C:Addr}{bm:List Value}{init:Option Value}{newId:String}(e:excIn K C bm init newId=true):(PySem.W.clsIn K C).isSome=true:=by
 obtain⟨nm,qn,N,bs,sn,sub,ab,col,dd,k0,k1,k2,k3,k5,lk⟩:=qv0z e;unfold PySem.W.clsIn;rw[lk];rfl
theorem len1{us:List Value}(h:us.length=1):∃a,us=[a]:=List.length_eq_one_iff.mp h
theorem len2{us:List Value}(h:us.length=2):∃a b,us=[a,b]:=by
 rcases us with _|⟨a,us⟩
 ·cases h
 ·obtain⟨b,rfl⟩:=len1 (us:=us) (Nat.succ.inj h);exact⟨a,b,rfl⟩
theorem len3{us:List Value}(h:us.length=3):∃a b c,us=[a,b,c]:=by
 rcases us with _|⟨a,us⟩
 ·cases h
 ·obtain⟨b,c,rfl⟩:=len2 (us:=us) (Nat.succ.inj h);exact⟨a,b,c,rfl⟩
end L3
namespace My
open PySem L2 L3
theorem qwbz(G:Gp):Sub noG G:=fun _ _ e=>nomatch e
end My
namespace L3
open PySem PySem.Spec PyProof.Rows L2
section
variable {X:Cx} {e:Expr} {ta:TE3} {pos p p' pos':Pos}
def setT(P:Program)(w:World)(K:PySem.W.Frag)(H:Hp)(Q:VK)(nss:List (List Int)):Prop:=
 ∀(b:Addr) (zs:List (List Int×Addr)),H b=none->(∀p∈zs,SqT K H p.2 (p.1.map V.int))->(∀ns,ns∈zs.map (·.1)↔ns∈nss)->(zs.map (·.1)).Nodup->zs.length≤nss.length->Q (.ref b) (upd H b (.ext (setφ P w b zs)))
theorem qwcz(hc:X.calm=true)(hu:X.A.units+64<cLine):CallR X (.type "set") (fun vs H Q=>∃(a:Addr) (xs:List V) (nss:List (List Int)),vs=[.ref a]/\(SqL X.K H a xs∨SqT X.K H a xs)/\Hvs X.K H (nss.map tupI) xs/\nss.length≤60/\setT X.prog X.w X.K H Q nss):=by
 intro pins s σ H vs us Q I r ⟨a,xs,nss,e1,hl,hv,hz,q⟩;rcases hl with hl|hl
 ·exact qjmz hc hu pins s σ H vs us Q I r ⟨a,xs,nss,e1,hl,hv,hz,q⟩
 ·exact qtoz hc hu pins s σ H vs us Q I r ⟨a,xs,nss,e1,hl,hv,hz,q⟩
def listT(G:Gp):D->List (List Int)->Prop
 |.obj a,nss=>G a=some (.lst (nss.map tupI))
 |.tup ds,nss=>ds=nss.map tupI
 |_,_=>False
theorem qwdz{K:PySem.W.Frag}{H:Hp}{G:Gp}{d:D}{v:V}{nss:List (List Int)}(h:listT G d nss)(hv:Hv K H d v)(R:RepG K G H):∃a xs,v=.ref a/\(SqL K H a xs∨SqT K H a xs)/\Hvs K H (nss.map tupI) xs:=by
 cases d with
 |obj a=>
  obtain⟨xs,e2,e3⟩:=R a _ h;exact⟨a,xs,qtz hv,.inl (.of e2),e3⟩
 |tup ds=>
  obtain⟨a,xs,rfl,e2,e3⟩:=q9z hv;exact⟨a,xs,rfl,.inr e2,(show ds=nss.map tupI from h)▸e3⟩
 |_=>exact h.elim
def eSortSetA(ta:TE3):TE3:=fun τ G Q=>ta τ G fun x G1=>∃nss:List (List Int),listT G1 x nss/\nss.length≤60/\(∀ns∈nss,ns≠[]) ∧
 ∀(p:Addr) (mss:List (List Int)) (G':Gp),New G1 p (.lst (mss.map tupI)) G'->(∀ns,ns∈mss↔ns∈nss)->mss.Nodup->RiseL mss->mss.length≤nss.length->Q (.obj p) G'
theorem qwez(hu:X.A.units+64<cLine)(ha:PE3 X e ta)(hm:X.mg "sorted" = none)(hm2:X.mg "set" = none)(hc:X.calm=true:=by rfl)(hg:Gl X "sorted":=by rfl)(hg2:Gl X "set":=by rfl)(he2:notStar e=true:=by rfl):
  PE3 X (.Call (.Name "sorted" p) [.Call (.Name "set" p') [e] [] pos'] [] pos) (eSortSetA ta):=
 qsz (qarz (qjnz hc hu) hg hm rfl (qaoz (qcrz (qwcz hc hu) hg2 hm2 rfl (qaoz ha qbez (qjz he2)) (he:=qjz he2) (hpl:=qyz rfl)) qbez (qjz rfl)) (he:=qjz rfl) (hpl:=qyz rfl)) fun σ H Q ⟨τ,G,Q3,RS,RG,h,k⟩=>by
  refine⟨τ,G,_,RS,RG,h,fun v H1 d G1 h1 S1 R1 q1=>?_⟩;obtain⟨nss,e1,hz,hne,q⟩:=q1;obtain⟨a,xs,rfl,e2,e3⟩:=qwdz e1 h1 R1;refine⟨a,xs,nss,rfl,e2,e3,hz,fun b zs hb hk hmem hnd hlen=>?_⟩;have E2:Ext H1 (upd H1 b (.ext (setφ X.prog X.w b zs))):=.laid hb;refine⟨b,zs,rfl,qrz,fun p hp=>SqT.ext E2 (hk p hp),by omega,fun p hp=>hne _ ((hmem _).mp (List.mem_map.mpr ⟨p,hp,rfl⟩)),fun p mss ys hp hpm hr hv=>?_⟩;have R2:RepG X.K G1 (upd H1 b (.ext (setφ X.prog X.w b zs))):=R1.laid hb;refine k _ _ (.obj p) _ qa0z ((S1.trans (.laid hb)).trans (.laidG hp)) (R2.newL hp hv) (q p mss _ (.mk' (R2.free hp)) (fun ns=>?_) ?_ hr ?_)
  ·rw[hpm.mem_iff];exact hmem ns
  ·exact hpm.nodup_iff.mpr hnd
  ·rw[hpm.length_eq,List.length_map];exact hlen
theorem qwfz(hu:X.A.units+64<cLine)(ha:QE X e ta)(hm:X.mg "sorted" = none)(hm2:X.mg "set" = none)(hc:X.calm=true:=by rfl)(hg:Gl X "sorted":=by rfl)(hg2:Gl X "set":=by rfl)(he2:notStar e=true:=by rfl):
  QE X (.Call (.Name "sorted" p) [.Call (.Name "set" p') [e] [] pos'] [] pos) (eSortSetA ta):=⟨qwez hu ha.of hm hm2 hc hg hg2 he2⟩
end
end L3
namespace My
open PySem L2 L3
theorem qwgz(cs:List Clk):(Dat.D.tup (cs.map cX)).eqb (.tup (cs.map cX))=true:=by
 show Dat.eqbs (cs.map cX) (cs.map cX)=true;rw[qf9z];simp
def qchz:Sp3:=fun ds G Q=>∃(d:D) (cs:List Clk),ds=[d]/\listT G d (cs.map toL)/\cs.length≤60/\∀cs' G',Sub G G'->(∀z,z∈cs'↔z∈cs)->Rise cs'->cs'.length≤cs.length->Q (csD cs') G'
def qk1z:TS3:=sRet (eCB qatz (aCons (eSortSetA (eVar 0)) (aNil)))
theorem qwhz:∀ds G Q,qchz ds G Q->qk1z (endsOf Q) (start3 ["things"] ds) G:=by
 rintro ds G Q ⟨d,cs,rfl,e,hl,q⟩;refine⟨cs.map toL,e,by rw[List.length_map];exact hl,qepz,fun p3 mss G3 n3 hmem nd hr hl3=>?_⟩;obtain⟨cs',rfl,hmem2,hr2,hl2⟩:=qgbz hmem nd hr hl3;rw[qb0z] at n3;exact⟨_,n3.at_,qgz (q cs' G3 n3.sub hmem2 hr2 hl2)⟩
theorem qciz{a b:Clk}(h:cLt a b)(h2:cLt b a):False:=by
 rcases h with h|⟨h,h'⟩<;>rcases h2 with g|⟨g,g'⟩<;>omega
theorem qwiz{as bs:List Clk}(ha:Rise as)(hb:Rise bs)(h:∀z,z∈as↔z∈bs):as=bs:=by
 induction as generalizing bs with
 |nil=>cases bs with
  |nil=>rfl
  |cons b bs=>exact absurd ((h b).mpr List.mem_cons_self) (by simp)
 |cons a as ih=>cases bs with
  |nil=>exact absurd ((h a).mp List.mem_cons_self) (by simp)
  |cons b bs=>
   have ha':=List.pairwise_cons.mp ha;have hb':=List.pairwise_cons.mp hb;have e:a=b:=by
    refine Classical.byContradiction fun ne=>?_;have h1:a∈bs:=((List.mem_cons.mp ((h a).mp List.mem_cons_self)).resolve_left ne);have h2:b∈as:=((List.mem_cons.mp ((h b).mpr List.mem_cons_self)).resolve_left (Ne.symm ne));exact qciz (ha'.1 b h2) (hb'.1 a h1)
   subst e;rw[ih ha'.2 hb'.2 fun z=>⟨fun hz=>((List.mem_cons.mp ((h z).mp (List.mem_cons_of_mem _ hz))).resolve_left fun q=>qciz (q▸ha'.1 z hz) (q▸ha'.1 z hz)),fun hz=>((List.mem_cons.mp ((h z).mpr (List.mem_cons_of_mem _ hz))).resolve_left fun q=>qciz (q▸hb'.1 z hz) (q▸hb'.1 z hz))⟩]
end My
namespace My
open PySem L2 L3
def strc(C c:Clk):Clk:=(C.1*c.1,C.2+C.1*c.2)
theorem qwjz{C c:Clk}(hC:0<C.1)(n:Int):rg2 (C.2+C.1*n) (strc C c)=rg2 n c:=by
 rw[Bool.eq_iff_iff,rg2_iff,rg2_iff];show C.1*c.1∣C.2+C.1*n-(C.2+C.1*c.2)↔_;rw[show C.2+C.1*n-(C.2+C.1*c.2)=C.1*(n-c.2) by rw[Int.mul_sub];omega];exact Int.mul_dvd_mul_iff_left (by omega)
theorem qbbz{cs:List Clk}(h:Rise cs):cs.Nodup:=h.imp fun {a b} q e=>by
 subst e;exact qciz q q
theorem qwkz{f:Clk->Clk}:∀{cs:List Clk},cs.Nodup->(∀a∈cs,∀b∈cs,f a=f b->a=b)->(cs.map f).Nodup:=by
 intro cs
 induction cs with
 |nil=>intro _ _;exact List.nodup_nil
 |cons c cs ih=>
  intro h q;obtain⟨h1,h2⟩:=List.nodup_cons.mp h;rw[List.map_cons,List.nodup_cons];refine⟨fun z=>?_,ih h2 fun a ha b hb=>q a (List.mem_cons_of_mem _ ha) b (List.mem_cons_of_mem _ hb)⟩;obtain⟨b,hb,e⟩:=List.mem_map.mp z;exact h1 (q b (List.mem_cons_of_mem _ hb) c List.mem_cons_self e▸hb)
end My
namespace My
open PySem L2 L3
end My
namespace My
open PySem L2 L3
def Once(cs:List Clk):Prop:=∀n:Int,(cs.filter (rg2 n)).length=1
theorem qwlz{c:Clk}:rg2 c.2 c=true:=by
 rw[rg2_iff,Int.sub_self];exact Int.dvd_zero _
theorem Once.nodup{cs:List Clk}(h:Once cs):cs.Nodup:=by
 rw[List.nodup_iff_count];intro c;have h1:=h c.2;have:cs.count c≤(cs.filter (rg2 c.2)).length:=by
  rw[←List.countP_eq_length_filter];unfold List.count;refine List.countP_mono_left fun x _ hx=>?_;rw[eq_of_beq hx];exact qwlz
 omega
theorem qwmz{c:Clk}{os:List Clk}(hc:0<c.1)(h:Once os)(n:Int):((os.map (strc c)).filter (rg2 n)).length=if rg2 n c=true then 1 else 0:=by
 by_cases q:rg2 n c=true
 ·rw[if_pos q];obtain⟨m,hm⟩:=rg2_iff.mp q;rw[List.filter_map,List.length_map,←h m];refine congrArg List.length (List.filter_congr fun y _=>?_);show rg2 n (strc c y)=rg2 m y;rw[show n=c.2+c.1*m by omega];exact qwjz hc m
 ·rw[if_neg q,List.length_eq_zero_iff,List.filter_eq_nil_iff];intro z hz e;obtain⟨y,_,rfl⟩:=List.mem_map.mp hz;refine q (rg2_iff.mpr ?_);have d:=rg2_iff.mp e;have d1:c.1∣n-(c.2+c.1*y.2):=Int.dvd_trans (Int.dvd_mul_right c.1 y.1) d;have:=Int.dvd_add d1 (Int.dvd_mul_right c.1 y.2);rwa [show n-(c.2+c.1*y.2)+c.1*y.2=n-c.2 by omega] at this
theorem qwnz{cs:List Clk}{i:Nat}{c:Clk}(hi:cs[i]?=some c):cs=cs.take i++c::cs.drop (i+1):=by
 obtain⟨hl,e⟩:=List.getElem?_eq_some_iff.mp hi;rw[←e,List.getElem_cons_drop,List.take_append_drop]
theorem qwoz{cs os:List Clk}{i:Nat}{c:Clk}(hc:0<c.1)(hi:cs[i]?=some c)(ho:Once os)(n:Int):((rest1 cs i++os.map (strc c)).filter (rg2 n)).length=(cs.filter (rg2 n)).length:=by
 have e:(cs.filter (rg2 n)).length=((cs.take i).filter (rg2 n)).length+((if rg2 n c=true then 1 else 0)+((cs.drop (i+1)).filter (rg2 n)).length):=by
  conv=>lhs;rw[qwnz hi]
  rw[List.filter_append,List.length_append];by_cases q:rg2 n c=true
  ·rw[List.filter_cons_of_pos q,List.length_cons,if_pos q];omega
  ·rw[List.filter_cons_of_neg q,if_neg q];omega
 rw[e,List.filter_append,List.length_append,qwmz hc ho];unfold rest1;rw[List.filter_append,List.length_append];omega
end My
namespace My
open PySem L2 L3
structure Made(cs:List Clk):Prop where
 v:∀c∈cs,Valid c
 n:∃N:Nat,0<N/\N≤2^(cs.length-1)/\∀c∈cs,c.1.toNat∣N
 once:Once cs
 top:cs=[(1,0)]∨∃M:Int,(∀c∈cs,c.1≤M)/\2≤(cs.filter fun c=>c.1==M).length
theorem Made.perm{cs cs':List Clk}(h:Made cs)(p:cs.Perm cs'):Made cs':=by
 refine⟨fun c hc=>h.v c (p.mem_iff.mpr hc),?_,fun n=>?_,?_⟩
 ·obtain⟨N,h1,h2,h3⟩:=h.n;exact⟨N,h1,by rw[←p.length_eq];exact h2,fun c hc=>h3 c (p.mem_iff.mpr hc)⟩
 ·rw[←(p.filter _).length_eq];exact h.once n
 ·rcases h.top with e|⟨M,h1,h2⟩
  ·rw[e] at p;exact .inl (List.singleton_perm.mp p).symm
  ·exact .inr ⟨M,fun c hc=>h1 c (p.mem_iff.mpr hc),by rw[←(p.filter _).length_eq];exact h2⟩
theorem qwpz{k t0:Nat}(h:t0<k){p:Nat->Bool}(hp:∀t,t<k->(p t=true↔t=t0)):((List.range k).filter p).length=1:=by
 have e:(List.range k).filter p=(List.range k).filter (· == t0):=List.filter_congr fun t ht=>by
  rw[Bool.eq_iff_iff,hp t (List.mem_range.mp ht),beq_iff_eq]
 rw[e,←List.countP_eq_length_filter];show (List.range k).count t0=1;have h1:0<(List.range k).count t0:=List.count_pos_iff.mpr (List.mem_range.mpr h);have h2:=List.nodup_iff_count.mp (List.nodup_range (n:=k)) t0;omega
theorem qwqz{k:Nat}(hk:0<k):Once (parts (1,0) k):=fun n=>by
 unfold parts;rw[List.filter_map,List.length_map];have k0:(0:Int)<(k:Int):=by omega
 have m0:=Int.emod_nonneg n (show (k:Int)≠0 by omega);have m1:=Int.emod_lt_of_pos n k0;refine qwpz (t0:=(n%(k:Int)).toNat) (by omega) fun t ht=>?_;show ((n-(0+1*(t:Int)))%(1*(k:Int))==0)=true↔_;rw[Int.zero_add,Int.one_mul,Int.one_mul,beq_iff_eq,←Int.emod_eq_emod_iff_emod_sub_eq_zero,Int.emod_eq_of_lt (show (0:Int)≤(t:Int) by omega) (by omega)];omega
theorem qwrz(c:Clk)(k:Nat):(parts (1,0) k).map (strc c)=parts c k:=by
 unfold parts;rw[List.map_map];refine List.map_congr_left fun t _=>?_;show (c.1*(1*(k:Int)),c.2+c.1*(0+1*(t:Int)))=_;rw[Int.one_mul,Int.one_mul,Int.zero_add]
theorem Made.split{cs:List Clk}{i k:Nat}{c:Clk}(h:Made cs)(hi:cs[i]?=some c)(k2:2≤k):Made (cs.eraseIdx i++parts c k):=by
 have hm:=List.mem_of_getElem? hi;have vc:=h.v c hm;have il:i<cs.length:=(List.getElem?_eq_some_iff.mp hi).1;have le:(cs.eraseIdx i).length=cs.length-1:=List.length_eraseIdx_of_lt il;refine⟨fun z hz=>?_,?_,fun n=>?_,.inr ?_⟩
 ·rcases List.mem_append.mp hz with z1|z1
  ·exact h.v z (List.mem_of_mem_eraseIdx z1)
  ·exact (qghz vc z1).1
 ·obtain⟨N,h1,h2,h3⟩:=h.n;refine⟨N*k,Nat.mul_pos h1 (by omega),?_,fun z hz=>?_⟩
  ·rw[List.length_append,le,qa9z,show cs.length-1+k-1=(cs.length-1)+(k-1) by omega,Nat.pow_add];have:k-1<2^(k-1):=Nat.lt_two_pow_self;exact Nat.mul_le_mul h2 (by omega)
  ·rcases List.mem_append.mp hz with z1|z1
   ·exact Nat.dvd_trans (h3 z (List.mem_of_mem_eraseIdx z1)) (Nat.dvd_mul_right _ _)
   ·rw[(qghz vc z1).2,Int.toNat_mul (by have:=vc.1;omega) (by omega),Int.toNat_natCast];exact Nat.mul_dvd_mul_right (h3 c hm) k
 ·rw[List.eraseIdx_eq_take_drop_succ,←qwrz];have:=qwoz vc.1 hi (qwqz (show 0<k by omega)) n;rw[h.once n] at this;exact this
 ·have pe:∀z∈parts c k,z.1=c.1*(k:Int):=fun z hz=>(qghz vc hz).2;have gt:c.1<c.1*(k:Int):=by
   have h0:=vc.1;have:c.1*2≤c.1*(k:Int):=Int.mul_le_mul_of_nonneg_left (by omega) (by omega);omega
  have pl:((parts c k).filter fun z=>z.1==c.1*(k:Int)).length=k:=by
   rw[List.filter_eq_self.mpr fun z hz=>by rw[pe z hz];exact beq_self_eq_true _,qa9z]
  rcases h.top with e|⟨M,h1,h2⟩
  ·rw[e] at hi il;have i0:i=0:=by simpa using il
   rw[e,i0];refine⟨c.1*(k:Int),fun z hz=>?_,?_⟩
   ·have hz:z∈parts c k:=by simpa using hz
    rw[pe z hz];exact Int.le_refl _
   ·show 2≤((parts c k).filter fun z=>z.1==c.1*(k:Int)).length;omega
  ·rcases Int.le_total M (c.1*(k:Int)) with w|w
   ·refine⟨c.1*(k:Int),fun z hz=>?_,?_⟩
    ·rcases List.mem_append.mp hz with z1|z1
     ·exact Int.le_trans (h1 z (List.mem_of_mem_eraseIdx z1)) w
     ·rw[pe z z1];exact Int.le_refl _
    ·rw[List.filter_append,List.length_append,pl];omega
   ·refine⟨M,fun z hz=>?_,?_⟩
    ·rcases List.mem_append.mp hz with z1|z1
     ·exact h1 z (List.mem_of_mem_eraseIdx z1)
     ·rw[pe z z1];exact w
    ·rw[List.filter_append,List.length_append];have hne:(c.1==M)=false:=by
      rw[beq_eq_false_iff_ne];omega
     have:((cs.eraseIdx i).filter fun z=>z.1==M).length=(cs.filter fun z=>z.1==M).length:=by
      have e1:cs=cs.take i++c::cs.drop (i+1):=by
       rw[←(List.getElem?_eq_some_iff.mp hi).2,←List.drop_eq_getElem_cons il,List.take_append_drop]
      conv=>rhs;rw[e1]
      rw[List.eraseIdx_eq_take_drop_succ,List.filter_append,List.filter_append,List.filter_cons,hne];rfl
     omega
theorem Made.le{cs:List Clk}{c:Clk}{j:Nat}(h:Made cs)(hl:cs.length≤j+1)(hc:c∈cs):c.1≤((2^j:Nat):Int):=by
 obtain⟨N,h1,h2,h3⟩:=h.n;have:=Nat.le_of_dvd h1 (h3 c hc);have h4:2^(cs.length-1)≤2^j:=Nat.pow_le_pow_right (by decide) (by omega);have h0:=(h.v c hc).1;omega
theorem qwsz:Made [(1,0)]:=by
 refine⟨fun c hc=>?_,⟨1,by decide,by decide,fun c hc=>?_⟩,fun n=>?_,.inl rfl⟩
 ·simp at hc;subst hc;exact⟨by decide,by decide,by decide⟩
 ·simp at hc;subst hc;exact Nat.dvd_refl 1
 ·have:rg2 n (1,0)=true:=by
   show ((n-0)%1==0)=true;rw[Int.emod_one];rfl
  rw[List.filter_cons,if_pos this];rfl
def qcjz:Sp3:=fun ds G Q=>∃(p:Addr) (l m:Int),ds=[.obj p,.int l,.int m]/\G p=some .pen/\(l≤m/\1≤m/\m≤8)/\∀q cs G',Made cs->Rise cs->l≤(cs.length:Int)->(cs.length:Int)≤m->1≤cs.length->New G q (.lst (cs.map cD)) G'->Q (.obj q) G'
abbrev qk2z:=qujz
def PartsAgain2(G:Gp)(p:Addr)(l m:Int)(k:Nat):S3->Gp->Prop:=fun τ' G'=>∃m',m' < k/\∃q cs x4 x5 x6,τ'=[some (.obj p),some (.int l),some (.int m),some (.obj q),x4,x5,x6]/\New G q (.lst (cs.map cD)) G'/\Made cs/\1≤cs.length/\(cs.length:Int)≤m/\(m':Int)+cs.length=m
theorem qwtz{G G1:Gp}{D3:Ends3}{p:Addr}{l m:Int}{q1:Addr}{cs:List Clk}{x5 x6:Option D}{k:Nat}{k1:Int}(hp:G p=some .pen)(hm:m≤8)
  (n1:New G q1 (.lst (cs.map cD)) G1) (ok:Made cs) (l1:1≤cs.length) (l2:(cs.length:Int)<m) (hk:(k:Int)+cs.length=m) (h1:2≤k1) (h2:k1≤5) (h3:(cs.length:Int)-1+k1≤m)
  (hnx:D3.nx=PartsAgain2 G p l m k):qkez D3 [some (.obj p),some (.int l),some (.int m),some (.obj q1),some (.int k1),x5,x6] G1:=by
 have hp1:=n1.sub p _ hp;have e1:=n1.at_;refine⟨⟨q1,_,rfl,e1⟩,_,e1,p,_,rfl,hp1,⟨by rw[List.length_map];omega,qqz (by rw[List.length_map];omega) (by rw[List.length_map];omega)⟩,fun r a b=>?_⟩;rw[List.length_map] at b;obtain⟨c,ec,hc,_⟩:=qeoz cD a b;obtain⟨s,r'⟩:=c;refine⟨_,r.toNat,cD (s,r'),e1,⟨by omega,by omega⟩,by rw[List.length_map];exact qgcz a b,by rw[List.getElem?_map,ec];rfl,rfl,?_⟩;rw[qeqz];have n2:New G q1 (.lst ((cs.eraseIdx r.toNat).map cD)) (upd3 G1 q1 (.lst ((cs.eraseIdx r.toNat).map cD))):=wrote n1;generalize upd3 G1 q1 (.lst ((cs.eraseIdx r.toNat).map cD))=G2 at n2;have hv:=ok.v _ hc;have hs:s≤((2^6:Nat):Int):=ok.le (j:=6) (by omega) hc;have hs:s≤64:=hs;have hv1:0<s:=hv.1;have hlen:(cs.eraseIdx r.toNat).length=cs.length-1:=List.length_eraseIdx_of_lt (by omega);have hmul:s*k1≤320:=by
  have h4:s*k1≤64*k1:=Int.mul_le_mul_of_nonneg_right hs (by omega);omega
 refine⟨⟨qqz (by omega) (by omega),qqz (by omega) (by omega)⟩,fun hg=>?_,fun hg=>?_⟩
 ·have hg':1000<s*k1:=of_decide_eq_true hg;omega
 ·refine⟨⟨by omega,by omega⟩,?_,?_⟩
  ·show (rngL 0 k1.toNat).length≤sizeLine;rw[qasz];exact line1000 (by omega)
  refine qabz (fun τ=>∃x,τ=[x,some (.int s),some (.int k1),some (.int r')]) (fun i:Nat=>D.int (0+(i:Int))) (fun _=>true) (fun i:Nat=>cD (s*k1,r'+s*(0+(i:Int)))) trivial (List.range k1.toNat) [] _ ⟨none,rfl⟩ ?_ ?_
  ·rintro i hi τ K1 K2 ⟨x,rfl⟩ g1 g2;have hi':(i:Int)<k1:=by have:=List.mem_range.mp hi;omega
   have b1:Big s:=qqz (by omega) (by omega);refine⟨fun _=>⟨⟨b1,qqz (by omega) (by omega)⟩,⟨b1,qqz (by omega) (by omega)⟩,?_⟩,nofun⟩;exact g1 rfl _ ⟨_,rfl⟩
  ·intro q3 G3 n3;rw[List.nil_append,List.filter_eq_self.mpr (fun _ _=>rfl)] at n3;have em:((List.range k1.toNat).map fun i:Nat=>cD (s*k1,r'+s*(0+(i:Int))))=(parts (s,r') k1.toNat).map cD:=by
    unfold parts;rw[List.map_map];refine List.map_congr_left fun i _=>?_;show cD (s*k1,r'+s*(0+(i:Int)))=cD (s*((k1.toNat:Nat):Int),r'+s*(i:Int));rw[Int.zero_add,Int.toNat_of_nonneg (by omega)]
   rw[em] at n3;refine⟨_,_,n3.sub _ _ n2.at_,n3.at_,?_,fun q4 G4 n4=>?_⟩
   ·rw[List.length_map,List.length_map,qa9z,hlen];exact line1000 (by omega)
   rw[←List.map_append] at n4;show D3.nx _ G4;rw[hnx];have s3:=n2.sub.trans n3.sub;have hl':((cs.eraseIdx r.toNat)++parts (s,r') k1.toNat).length=cs.length-1+k1.toNat:=by
    rw[List.length_append,hlen,qa9z]
   exact⟨(m-((cs.length:Int)-1+k1)).toNat,by omega,q4,_,_,_,_,rfl,⟨s3.of_none n4.non,s3.trans n4.sub,n4.at_⟩,ok.split ec (by omega),by omega,by omega,by omega⟩
theorem qwuz:∀ds G Q,qcjz ds G Q->qk2z (endsOf Q) (start3 ["pen","least","most","clocks","k","step","rest"] ds) G:=by
 rintro ds G Q ⟨p,l,m,rfl,hp,hm,q⟩;intro q0 G0 n0;refine⟨fun k τ G'=>∃q cs x4 x5 x6,τ=[some (.obj p),some (.int l),some (.int m),some (.obj q),x4,x5,x6]/\New G q (.lst (cs.map cD)) G'/\Made cs/\1≤cs.length/\(cs.length:Int)≤m/\(k:Int)+cs.length=m,⟨(m-1).toNat,q0,[(1,0)],_,_,_,rfl,n0,qwsz,by decide,by simp;omega,by simp;omega⟩,?_⟩;rintro k τ G1 ⟨q1,cs,x4,x5,x6,rfl,n1,ok,l1,l2,hk⟩;have hp1:=n1.sub p _ hp;have e1:=n1.at_;have stop:l≤(cs.length:Int)->qgez (endsOf Q) [some (.obj p),some (.int l),some (.int m),some (.obj q1),x4,x5,x6] G1:=fun hl=>by
  refine⟨_,qkcz n1.at_,by rw[List.length_map];omega,qepz,fun p2 mss G2 hp2 hpm hr=>?_⟩;obtain⟨cs',rfl,_⟩:=quez hpm;rw[qb0z] at hp2;have hp':cs'.Perm cs:=by
   have back:∀us:List Clk,(us.map toL).map (fun l=>((l.getD 0 0,l.getD 1 0):Clk))=us:=fun us=>by
    rw[List.map_map];exact List.map_id _
   have:=hpm.map (fun l:List Int=>((l.getD 0 0,l.getD 1 0):Clk));rwa [back,back] at this
  exact qgz (q p2 cs' _ (ok.perm hp'.symm) (qkbz hr (List.pairwise_map.mpr ((ok.perm hp'.symm).once.nodup.imp fun h e=>h (qkaz e)))) (by rw[hp'.length_eq];exact hl) (by rw[hp'.length_eq];exact l2) (by rw[hp'.length_eq];exact l1) ⟨n1.sub.of_none hp2.non,n1.sub.trans hp2.sub,hp2.at_⟩)
 have go:(cs.length:Int)<m->qkfz { endsOf Q with nx:=PartsAgain2 G p l m k,ct:=PartsAgain2 G p l m k,bk:=qgez (endsOf Q)} [some (.obj p),some (.int l),some (.int m),some (.obj q1),x4,x5,x6] G1:=by
  intro hlt;refine⟨p,6,rfl,hp1,⟨by decide,qqz (by decide) (by decide)⟩,fun r h1 h2=>?_⟩;obtain⟨k0,hk0,ek⟩:=qj9z (ns:=[2,2,3,2,3,5]) h1 h2;refine⟨.int k0,ek,_,e1,?_⟩;have hk2:2≤k0/\k0≤5:=by simp at hk0;omega
  refine qwtz hp (by omega) n1 ok l1 hlt hk ?_ ?_ ?_ rfl
  ·rw[List.length_map];split<;>split<;>omega
  ·rw[List.length_map];split<;>split<;>omega
  ·rw[List.length_map];split<;>split<;>omega
 have hll:((cs.map cD).length:Int)=(cs.length:Int):=by rw[List.length_map]
 refine⟨_,e1,fun h=>⟨fun _=>go ?_,nofun⟩,fun h=>⟨p,4,rfl,hp1,⟨by decide,qqz (by decide) (by decide)⟩,fun r a b=>⟨fun h2=>⟨_,e1,fun h3=>go ?_,fun h3=>stop ?_⟩,fun h2=>⟨nofun,fun _=>stop ?_⟩⟩⟩⟩
 ·have h':((cs.map cD).length:Int)<l:=of_decide_eq_true h;omega
 ·have h':((cs.map cD).length:Int)<m:=of_decide_eq_true h3;omega
 ·have h':¬((cs.map cD).length:Int)<l:=of_decide_eq_false h;omega
 ·have h':¬((cs.map cD).length:Int)<l:=of_decide_eq_false h;omega
def Small(cs:List Clk):Prop:=(∀c∈cs,c.1≤12)∨∃N:Nat,0<N/\N≤1000/\∀c∈cs,c.1.toNat∣N
theorem Small.sub{cs cs':List Clk}(h:Small cs)(hs:∀c∈cs',c∈cs):Small cs':=by
 rcases h with h|⟨N,h1,h2,h3⟩
 ·exact .inl fun c hc=>h c (hs c hc)
 ·exact .inr ⟨N,h1,h2,fun c hc=>h3 c (hs c hc)⟩
def ClB(cs:List Clk):Prop:=ClOk 1000 cs/\Small cs/\∀c∈cs,c.1≤64
def qdaz:Sp3:=fun ds G Q=>∃(p:Addr),ds=[.obj p,.int 8]/\G p=some .pen/\∀cs,ClB cs->cs.length≤8->Rise cs->Q (csD cs) G
def qwvz:TS3:=sSeq (sIf (eTest (eOp (rEq3 false) (eVar 2) (eC (.int 0)))) (sAsg (eComp ["turn"] [0] (iRng1 (aCons (eCall q7z (aCons (eVar 0) (aCons (eOp rAdd3 (eVar 1) (eC (.int 1))) (aNil)))) (aNil))) (hName 0) (tNoTest3) (eCall qcez (aCons (eVar 1) (aCons (eC (.int 12)) (aNil))))) (hName 3)) (sIf (eTest (eOp (rEq3 false) (eVar 2) (eC (.int 1)))) (sSeq (sAsg (eLst (aCons (eC (.int 2)) (aCons (eC (.int 3)) (aCons (eC (.int 4)) (aCons (eC (.int 6)) (aCons (eC (.int 8)) (aCons (eC (.int 12)) (aCons (eC (.int 24)) (aNil))))))))) (hName 4)) qunz) (sSeq (sAsg (eCall qcjz (aCons (eVar 0) (aCons (eC (.int 1)) (aCons (eCB qcuz (aCons (eC (.int 1)) (aCons (eOp rSub3 (eVar 1) (eC (.int 1))) (aNil)))) (aNil))))) (hName 3)) quoz))) qgfz
def qk3z:TS3:=sSeq (sAsg (eCall q7z (aCons (eVar 0) (aCons (eC (.int 5)) (aNil)))) (hName 2)) qwvz
theorem qeuz{G G1:Gp}{Q:V3}{p:Addr}{q1:Addr}{cs:List Clk}{x2 x4 x5 x6:Option D}(q:∀cs,ClB cs->cs.length≤8->Rise cs->Q (csD cs) G)
  (n1:New G q1 (.lst (cs.map cD)) G1) (ok:ClB cs) (hl:cs.length≤60):qgfz (endsOf Q) [some (.obj p),some (.int 8),x2,some (.obj q1),x4,x5,x6] G1:=by
 refine⟨_,qkcz n1.at_,by rw[List.length_map];exact hl,qepz,fun p1 mss G2 hp1 hmem nd hr hlen=>?_⟩;obtain⟨cs',rfl,hmem,hr,hlen⟩:=qgbz hmem nd hr hlen;rw[qb0z] at hp1;refine⟨_,hp1.at_,?_⟩;show (endsOf Q).rt (.tup (cut3 (cs'.map cD) none (some ((8:Nat):Int)))) G2;rw[qenz,qj8z];have sb:∀c∈cs'.take 8,c∈cs:=fun c hc=>(hmem c).mp (List.mem_of_mem_take hc);refine qblz (n1.sub.trans hp1.sub) (q _ ⟨fun c hc=>ok.1 c (sb c hc),ok.2.1.sub sb,fun c hc=>ok.2.2 c (sb c hc)⟩ ?_ (hr.take 8));rw[List.length_take];omega
theorem qwwz:∀ds G Q,qdaz ds G Q->qk3z (endsOf Q) (start3 ["pen","most","way","found","steps","turn","step"] ds) G:=by
 rintro ds G Q ⟨p,rfl,hp,q⟩;refine⟨p,5,rfl,hp,⟨by decide,qqz (by decide) (by decide)⟩,fun way w1 w2=>?_⟩;refine⟨_,_,rfl,rfl,Nat.zero_le _,fun _=>?_,fun _=>⟨_,_,rfl,rfl,Nat.zero_le _,fun _=>?_,fun _=>?_⟩⟩
 ·refine⟨p,_,rfl,hp,⟨by omega,qqz (by omega) (by omega)⟩,fun n h1 h2=>⟨⟨by omega,by omega⟩,?_,?_⟩⟩
  ·show (rngL 0 n.toNat).length≤sizeLine;rw[qasz];exact line1000 (by omega)
  refine qgdz (fun ds acc τ G'=>(∃cs:List Clk,acc=cs.map cD/\(∀c∈cs,Valid c/\c.1≤12)/\cs.length+ds.length≤50)/\G'=G/\∃x,τ=[x,some (.obj p)]) (fun _ _ _ _ _=>trivial) ?_ ?_ _ _ _ _ ⟨⟨[],rfl,(fun c hc=>nomatch hc),?_⟩,rfl,none,rfl⟩
  ·rintro d ds acc τ G' K1 K2 ⟨⟨cs,rfl,ok,hl⟩,rfl,x,rfl⟩ g1 g2;refine⟨fun _=>⟨p,12,rfl,hp,⟨by decide,by decide⟩,fun c hv hc=>?_⟩,nofun⟩;refine g1 _ _ _ ⟨⟨cs++[c],by simp,fun c' hc'=>?_,?_⟩,rfl,_,rfl⟩
   ·rcases List.mem_append.mp hc' with z|z
    ·exact ok c' z
    ·have:c'=c:=by simpa using z
     rw[this];exact⟨hv,hc⟩
   ·rw[List.length_append,List.length_singleton];simp only[List.length_cons] at hl;omega
  ·rintro acc τ G' ⟨⟨cs,rfl,ok,hl⟩,rfl,x,rfl⟩;intro q1 G1 n1;exact qeuz q n1 ⟨fun c hc=>⟨(ok c hc).1,by have:=(ok c hc).2;omega⟩,.inl fun c hc=>(ok c hc).2,fun c hc=>by have:=(ok c hc).2;omega⟩ (by simp at hl;omega)
  ·show ([]:List Clk).length+(rngL 0 n.toNat).length≤50;rw[qasz];simp;omega
 ·intro st G0 hst q1 G1 n1;have hp1:=n1.sub _ _ (hst.sub _ _ hp);refine⟨p,_,rfl,hp1,⟨by omega,qqz (by omega) (by omega)⟩,fun n h1 h2=>⟨⟨by omega,by omega⟩,?_⟩⟩;refine qazz (fun ds τ G'=>∃(cs:List Clk) (x5 x6:Option D),τ=[some (.obj p),some (.int 8),some (.int way),some (.obj q1),some (.obj st),x5,x6]/\New G q1 (.lst (cs.map cD)) G'/\G' st=some (.lst (([2,3,4,6,8,12,24]:List Int).map D.int))/\(∀c∈cs,Valid c/\c.1∣24)/\cs.length+ds.length≤50) (fun _ _ _ _=>trivial) ?_ ?_ _ _ _ ?_
  ·rintro d ds τ G2 N ⟨cs,x5,x6,rfl,n2,e3,ok,hl⟩ hN;have hp2:=n2.sub p _ hp;have e2:=n2.at_;refine⟨p,7,rfl,hp2,⟨by decide,qqz (by decide) (by decide)⟩,fun r a b=>?_⟩;obtain⟨stp,hm',es⟩:=qj9z (ns:=[2,3,4,6,8,12,24]) a b;have hs:(2≤stp/\stp≤24)/\stp∣24:=by
    simp at hm';rcases hm' with rfl|rfl|rfl|rfl|rfl|rfl|rfl<;>decide
   refine⟨_,.int stp,e3,es,⟨q1,_,rfl,e2⟩,p,stp,rfl,hp2,⟨by omega,qqz (by omega) (by omega)⟩,fun r2 h3 h4=>?_⟩;simp only[List.length_cons] at hl;refine⟨_,e2,by rw[List.length_map];exact Nat.lt_of_le_of_lt (show cs.length≤50 by omega) (by decide),?_⟩;have hne:st≠q1:=fun z=>by
    rw[z,e2] at e3;cases cs with
    |nil=>simp at e3
    |cons c cs=>simp[cD] at e3
   refine hN _ _ ⟨cs++[(stp,r2)],_,_,rfl,⟨n2.non,Sub.updN n2.sub n2.non,?_⟩,?_,fun c hc=>?_,?_⟩
   ·rw[qaiz,List.map_append];rfl
   ·rw[q8z hne];exact e3
   ·rcases List.mem_append.mp hc with hc|hc
    ·exact ok c hc
    ·have:c=(stp,r2):=by simpa using hc
     subst this;exact⟨⟨by show 0<stp;omega,h3,h4⟩,hs.2⟩
   ·rw[List.length_append,List.length_singleton];omega
  ·rintro τ G2 ⟨cs,x5,x6,rfl,n2,e3,ok,hl⟩;refine qeuz q n2 ⟨fun c hc=>⟨(ok c hc).1,?_⟩,.inr ⟨24,by decide,by decide,fun c hc=>?_⟩,fun c hc=>by have:=Int.le_of_dvd (by decide) (ok c hc).2;omega⟩ (by simp at hl;omega)
   ·have:=Int.le_of_dvd (by decide) (ok c hc).2;omega
   ·have h0:=(ok c hc).1.1;refine Int.natCast_dvd_natCast.mp ?_;rw[Int.toNat_of_nonneg (by omega)];exact (ok c hc).2
  ·refine⟨[],_,_,rfl,⟨hst.sub.of_none n1.non,hst.sub.trans n1.sub,n1.at_⟩,n1.sub _ _ hst.at_,(fun c hc=>nomatch hc),?_⟩;show ([]:List Clk).length+(rngL 0 n.toNat).length≤50;rw[qasz];simp;omega
 ·refine⟨p,1,_,rfl,hp,⟨by decide,by decide,by decide⟩,fun q1 cs G1 ok _ _ l2 l1 n1=>?_⟩;have l2:(cs.length:Int)≤7:=l2;have l3:cs.length≤7:=by omega
  have hp1:=n1.sub _ _ hp;obtain⟨N,N1,N2,N3⟩:=ok.n;have N64:N≤64:=Nat.le_trans N2 (Nat.le_trans (Nat.pow_le_pow_right (by decide) (show cs.length-1≤6 by omega)) (by decide));have c64:∀c∈cs,c.1≤64:=fun c hc=>by
   have:c.1≤((2^6:Nat):Int):=ok.le (j:=6) (by omega) hc;exact this
  have cl:∀c∈cs,Valid c/\c.1≤1000:=fun c hc=>⟨ok.v c hc,by
   have:=c64 c hc;omega⟩
  have pop:∀{q1:Addr} {cs:List Clk} {G1:Gp},ClB cs->1≤cs.length->cs.length≤51->New G q1 (.lst (cs.map cD)) G1->qkgz { endsOf Q with nx:=qgfz (endsOf Q)} [some (.obj p),some (.int 8),some (.int way),some (.obj q1),none,none,none] G1:=by
   intro q1 cs G1 ok l1 l3 n1;refine⟨_,_,rfl,rfl,Nat.zero_le _,fun _=>?_,fun _=>qeuz q n1 ok (by omega)⟩;have e1:=n1.at_;refine⟨⟨q1,_,rfl,e1⟩,_,e1,p,_,rfl,n1.sub _ _ hp,⟨by rw[List.length_map];omega,qqz (by rw[List.length_map];omega) (by rw[List.length_map];omega)⟩,fun r a b=>?_⟩;rw[List.length_map] at b;obtain⟨c,ec,hc,_⟩:=qeoz cD a b;refine⟨_,r.toNat,cD c,e1,⟨by omega,by omega⟩,by rw[List.length_map];exact qgcz a b,by rw[List.getElem?_map,ec];rfl,?_⟩;rw[qeqz];exact qeuz q (wrote n1) ⟨fun c hc=>ok.1 c (List.mem_of_mem_eraseIdx hc),ok.2.1.sub fun c hc=>List.mem_of_mem_eraseIdx hc,fun c hc=>ok.2.2 c (List.mem_of_mem_eraseIdx hc)⟩ (Nat.le_trans (qfcz cs _) (by omega))
  refine⟨_,_,rfl,rfl,Nat.zero_le _,fun _=>?_,fun _=>pop ⟨cl,.inr ⟨N,N1,by omega,N3⟩,c64⟩ l1 (by omega) n1⟩;refine⟨p,6,rfl,hp1,⟨by decide,by decide⟩,fun c hv hc=>?_⟩;intro q2 G2 n2;refine⟨_,_,n2.sub _ _ n1.at_,n2.at_,?_,fun q3 G3 n3=>?_⟩
  ·rw[List.length_map];exact line1000 (by simp;omega)
  have n3':New G q3 (.lst ((cs++[c]).map cD)) G3:=⟨(n1.sub.trans n2.sub).of_none n3.non,(n1.sub.trans n2.sub).trans n3.sub,by rw[n3.at_,List.map_append];rfl⟩;have h0:=hv.1;have one:∀c':Clk,c'∈cs++[c]->c'∈cs∨c'=c:=fun c' hc'=>by
   rcases List.mem_append.mp hc' with z|z
   ·exact .inl z
   ·exact .inr (by simpa using z)
  refine pop ⟨fun c' hc'=>?_,.inr ⟨N*c.1.toNat,Nat.mul_pos N1 (by omega),?_,fun c' hc'=>?_⟩,fun c' hc'=>?_⟩ (by simp) (by simp;omega) n3'
  ·rcases one c' hc' with z|rfl
   ·exact cl c' z
   ·exact⟨hv,by omega⟩
  ·have:N*c.1.toNat≤64*6:=Nat.mul_le_mul N64 (by omega);omega
  ·rcases one c' hc' with z|rfl
   ·exact Nat.dvd_trans (N3 c' z) (Nat.dvd_mul_right _ _)
   ·exact Nat.dvd_mul_left _ _
  ·rcases one c' hc' with z|rfl
   ·exact c64 c' z
   ·omega
end My
namespace My
open PySem L2 L3
def whF(c:Clk)(k:Nat):Clk:=(c.1 / (k:Int),c.2)
def jnB(cs:List Clk)(c:Clk)(k:Nat):Bool:=decide (c.1%(k:Int)=0)&&(parts (whF c k) k).all fun z=>decide (z∈cs)
def jnP(cs:List Clk)(c:Clk)(k:Nat):List Int:=(parts (whF c k) k).map fun z=>((cs.idxOf z:Nat):Int)
def rawJ(cs:List Clk):List (List Int):=cs.flatMap fun c=>((twos (cs.length-1)).filter (jnB cs c)).map (jnP cs c)
theorem qbcz{cs:List Clk}{c:Clk}{k:Nat}(ok:∀z∈cs,Valid z)(hc:Valid c)(h2:2≤k)(h:jnB cs c k=true):(whF c k).1*(k:Int)=c.1/\Valid (whF c k)/\∀z∈parts (whF c k) k,z∈cs:=by
 unfold jnB at h;rw[Bool.and_eq_true,decide_eq_true_iff,List.all_eq_true] at h;obtain⟨h1,h3⟩:=h;have hd:(k:Int)∣c.1:=Int.dvd_of_emod_eq_zero h1;have e:c.1 / (k:Int)*(k:Int)=c.1:=Int.ediv_mul_cancel hd;have hm:∀z∈parts (whF c k) k,z∈cs:=fun z hz=>of_decide_eq_true (h3 z hz);have h0:=hc.1;have hp:0<c.1 / (k:Int):=Int.ediv_pos_of_pos_of_dvd h0 (by omega) hd;have hz:=ok _ (hm (c.1 / (k:Int)*(k:Int),c.2+c.1 / (k:Int)*((k-1:Nat):Int)) (List.mem_map.mpr ⟨k-1,List.mem_range.mpr (by omega),rfl⟩));have hz2:c.2+c.1 / (k:Int)*((k-1:Nat):Int)<c.1 / (k:Int)*(k:Int):=hz.2.2;rw[show ((k-1:Nat):Int)=(k:Int)-1 by omega,Int.mul_sub,Int.mul_one] at hz2;exact⟨e,⟨hp,hc.2.1,by show c.2<c.1 / (k:Int);omega⟩,hm⟩
theorem qk4z{p q r:Clk->Bool}(h1:∀z,p z=true->q z=false)(h2:∀z,p z=true->r z=false)(h3:∀z,q z=true->r z=false)(cs:List Clk):(cs.filter p).length+(cs.filter q).length+(cs.filter r).length≤cs.length:=by
 induction cs with
 |nil=>exact Nat.le_refl _
 |cons z zs ih=>
  rw[List.filter_cons,List.filter_cons,List.filter_cons,List.length_cons];have a1:=h1 z;have a2:=h2 z;have a3:=h3 z;cases hp:p z with
  |true=>
   rw[a1 hp,a2 hp];simp;omega
  |false=>
   cases hq:q z with
   |true=>
    rw[a3 hq];simp;omega
   |false=>
    cases hr:r z with
    |true=>
     simp;omega
    |false=>
     simp;omega
def tOf(k:Nat)(z:Clk):Int:=z.2 / (z.1 / (k:Int))
def sh(k t:Nat)(c:Clk):Clk:=(c.1,c.2+c.1 / (k:Int)*(t:Int))
theorem sh_t{c:Clk}{k t:Nat}(h:Valid (whF c k)):tOf k (sh k t c)=(t:Int):=by
 have h1:0<c.1 / (k:Int):=h.1;have h2:0≤c.2:=h.2.1;have h3:c.2<c.1 / (k:Int):=h.2.2;show (c.2+c.1 / (k:Int)*(t:Int)) / (c.1 / (k:Int))=(t:Int);rw[Int.add_mul_ediv_left _ _ (by omega),Int.ediv_eq_zero_of_lt h2 h3,Int.zero_add]
theorem qdbz{cs:List Clk}{k t:Nat}(ok:∀z∈cs,Valid z)(nd:cs.Nodup)(h2:2≤k)(ht:t<k):(cs.filter fun c=>jnB cs c k).length≤(cs.filter fun z=>decide (tOf k z=(t:Int))).length:=by
 rw[←List.length_map (sh k t)];refine List.Nodup.length_le_of_subset (qwkz (nd.filter _) fun a _ b _ e=>?_) fun z hz=>?_
 ·have e1:a.1=b.1:=(congrArg Prod.fst e:(sh k t a).1=(sh k t b).1);have e2:a.2+a.1 / (k:Int)*(t:Int)=b.2+b.1 / (k:Int)*(t:Int):=(congrArg Prod.snd e:(sh k t a).2=(sh k t b).2);rw[e1] at e2;exact Prod.ext e1 (by omega)
 ·obtain⟨c,hc,rfl⟩:=List.mem_map.mp hz;obtain⟨hc1,hc2⟩:=List.mem_filter.mp hc;obtain⟨f1,f2,f3⟩:=qbcz ok (ok c hc1) h2 hc2;refine List.mem_filter.mpr ⟨f3 _ (List.mem_map.mpr ⟨t,List.mem_range.mpr ht,?_⟩),decide_eq_true (sh_t f2)⟩;show ((whF c k).1*(k:Int),c.2+c.1 / (k:Int)*(t:Int))=_;rw[f1];rfl
theorem qwxz{cs:List Clk}(ok:∀z∈cs,Valid z)(nd:cs.Nodup):2*(cs.filter fun c=>jnB cs c 2).length≤cs.length:=by
 have a:=qdbz (t:=0) ok nd (Nat.le_refl 2) (by decide);have b:=qdbz (t:=1) ok nd (Nat.le_refl 2) (by decide);have c:=qk4z (p:=fun z=>decide (tOf 2 z=((0:Nat):Int))) (q:=fun z=>decide (tOf 2 z=((1:Nat):Int))) (r:=fun _=>false) (fun z h=>decide_eq_false (by have:=of_decide_eq_true h;omega)) (fun _ _=>rfl) (fun _ _=>rfl) cs;omega
theorem qwyz{cs:List Clk}{k:Nat}(ok:∀z∈cs,Valid z)(nd:cs.Nodup)(h:3≤k):3*(cs.filter fun c=>jnB cs c k).length≤cs.length:=by
 have a:=qdbz (k:=k) (t:=0) ok nd (by omega) (by omega);have b:=qdbz (k:=k) (t:=1) ok nd (by omega) (by omega);have c:=qdbz (k:=k) (t:=2) ok nd (by omega) (by omega);have d:=qk4z (p:=fun z=>decide (tOf k z=((0:Nat):Int))) (q:=fun z=>decide (tOf k z=((1:Nat):Int))) (r:=fun z=>decide (tOf k z=((2:Nat):Int))) (fun z h=>decide_eq_false (by have:=of_decide_eq_true h;omega)) (fun z h=>decide_eq_false (by have:=of_decide_eq_true h;omega)) (fun z h=>decide_eq_false (by have:=of_decide_eq_true h;omega)) cs;omega
theorem qwzz(f:Clk->Nat->Bool)(c:Clk)(cs:List Clk)(ks:List Nat):(ks.filter (f c)).length+(ks.map fun k=>(cs.filter fun c=>f c k).length).sum=(ks.map fun k=>((c::cs).filter fun c=>f c k).length).sum:=by
 induction ks with
 |nil=>rfl
 |cons k ks ih=>
  rw[List.map_cons,List.map_cons,List.sum_cons,List.sum_cons,←ih,List.filter_cons,List.filter_cons];cases f c k with
  |true=>
   simp;omega
  |false=>
   simp;omega
theorem qw0z(f:Clk->Nat->Bool)(ks:List Nat)(cs:List Clk):(cs.map fun c=>(ks.filter (f c)).length).sum=(ks.map fun k=>(cs.filter fun c=>f c k).length).sum:=by
 induction cs with
 |nil=>
  show 0=_
  induction ks with
  |nil=>rfl
  |cons k ks ih=>
   rw[List.map_cons,List.sum_cons,←ih];rfl
 |cons c cs ih=>rw[List.map_cons,List.sum_cons,ih,qwzz]
theorem sum_bound{g:Nat->Nat}(h2:g 2≤6)(h3:∀k,3≤k->g k≤4)(m:Nat):((twos m).map g).sum≤4*m+2:=by
 induction m with
 |zero=>exact Nat.zero_le _
 |succ m ih=>
  have e:twos (m+1)=twos m++[m+2]:=by
   unfold twos;rw[List.range_succ,List.map_append];rfl
  rw[e,List.map_append,List.sum_append];show _+(g (m+2)+0)≤_;cases m with
  |zero=>
   show 0+(g 2+0)≤_;omega
  |succ m=>
   have:=h3 (m+1+2) (by omega);omega
theorem qevz{cs:List Clk}(ok:∀z∈cs,Valid z)(nd:cs.Nodup)(hl:cs.length≤12):(rawJ cs).length<64:=by
 have e:(rawJ cs).length=(cs.map fun c=>((twos (cs.length-1)).filter (jnB cs c)).length).sum:=by
  unfold rawJ;rw[List.length_flatMap];refine congrArg List.sum (List.map_congr_left fun c _=>?_);rw[List.length_map]
 rw[e,qw0z];have h2:=qwxz ok nd;have:=sum_bound (g:=fun k=>(cs.filter fun c=>jnB cs c k).length) (by show (cs.filter fun c=>jnB cs c 2).length≤6;omega) (fun k hk=>by
  have:=qwyz ok nd hk;show (cs.filter fun c=>jnB cs c k).length≤4;omega) (cs.length-1)
 omega
theorem raw_mem{cs:List Clk}{ps:List Int}:ps∈rawJ cs↔∃c∈cs,∃k,(2≤k/\k≤cs.length)/\jnB cs c k=true/\ps=jnP cs c k:=by
 unfold rawJ;rw[List.mem_flatMap];constructor
 ·rintro⟨c,hc,h⟩;obtain⟨k,hk,rfl⟩:=List.mem_map.mp h;obtain⟨hk1,hk2⟩:=List.mem_filter.mp hk;have:=twos_mem.mp hk1;exact⟨c,hc,k,⟨this.1,by omega⟩,hk2,rfl⟩
 ·rintro⟨c,hc,k,hk,h,rfl⟩;exact⟨c,hc,List.mem_map.mpr ⟨k,List.mem_filter.mpr ⟨twos_mem.mpr ⟨hk.1,by omega⟩,h⟩,rfl⟩⟩
theorem qk5z{cs:List Clk}{ps:List Int}(h:ps∈rawJ cs):ps≠[]:=by
 obtain⟨c,_,k,hk,_,rfl⟩:=raw_mem.mp h;intro e;have:=congrArg List.length e;unfold jnP at this;rw[List.length_map,qa9z] at this;simp at this;omega
theorem qanz{cs:List Clk}{z:Clk}(h:z∈cs):cs.idxOf z<cs.length/\cs[cs.idxOf z]?=some z:=by
 have h1:cs.idxOf z<cs.length:=List.idxOf_lt_length_of_mem h;exact⟨h1,by rw[List.getElem?_eq_getElem h1,List.getElem_idxOf h1]⟩
theorem qw1z{cs:List Clk}{a b:Clk}(hr:Rise cs)(ha:a∈cs)(hb:b∈cs)(h:cLt a b):cs.idxOf a<cs.idxOf b:=by
 obtain⟨a1,a2⟩:=qanz ha;obtain⟨b1,b2⟩:=qanz hb;refine Classical.byContradiction fun hn=>?_;rcases Nat.lt_or_eq_of_le (Nat.le_of_not_lt hn) with hlt|he
 ·have:=List.pairwise_iff_getElem.mp hr _ _ b1 a1 hlt;rw[List.getElem_idxOf,List.getElem_idxOf] at this;exact qciz h this
 ·rw[he,a2] at b2;cases b2;exact qciz h h
theorem qk6z{cs:List Clk}{z:Clk}{i:Nat}(nd:cs.Nodup)(hi:cs[i]?=some z):cs.idxOf z=i:=by
 obtain⟨a1,a2⟩:=qanz (List.mem_of_getElem? hi);exact (List.getElem?_inj a1 nd).mp (a2.trans hi.symm)
theorem qw2z{c:Clk}(hv:Valid c)(k:Nat):(parts c k).Pairwise cLt:=by
 unfold parts;rw[List.pairwise_map];refine List.pairwise_lt_range.imp fun {a b} h=>.inr ⟨rfl,?_⟩;have h0:=hv.1;have:c.1*(a:Int)<c.1*(b:Int):=Int.mul_lt_mul_of_pos_left (by omega) h0;show c.2+c.1*(a:Int)<c.2+c.1*(b:Int);omega
theorem qw3z{cs:List Clk}{c:Clk}{k:Nat}(hr:Rise cs)(hv:Valid (whF c k))(hm:∀z∈parts (whF c k) k,z∈cs):(jnP cs c k).Pairwise (· < ·):=by
 unfold jnP;rw[List.pairwise_map];refine List.Pairwise.imp_of_mem (fun {a b} ha hb h=>?_) (qw2z hv k);have:=qw1z hr (hm a ha) (hm b hb) h;omega
theorem qewz{cs:List Clk}{c:Clk}{k i:Nat}{z:Clk}(nd:cs.Nodup)(hm:∀z∈parts (whF c k) k,z∈cs)(hi:cs[i]?=some z):((i:Nat):Int)∈jnP cs c k↔z∈parts (whF c k) k:=by
 unfold jnP;rw[List.mem_map];constructor
 ·rintro⟨y,hy,e⟩;have e':cs.idxOf y=i:=by omega
  have:=(qanz (hm y hy)).2;rw[e',hi] at this;cases this;exact hy
 ·intro h;exact⟨z,h,by rw[qk6z nd hi]⟩
end My
namespace L3
open PySem PySem.Spec PyProof.Rows L2
theorem qw4z{M:Model}{A:Around}{E:Value->Shared->Prop}{s:Shared}{β:Type}(f:Nat->β->Sem (ForInStep β))(I:List Nat->β->Shared->Prop)(Q:β->Shared->Prop)
  (turn:∀x rest b s,I (x::rest) b s->wpAny M A (f x b) (fun r s'=>match r with | .yield b'=>I rest b' s' | .done b'=>Q b' s') E s)
  (fin:∀b s,I [] b s->Q b s) (n:Nat) (b:β) (h:I (List.range' 0 n) b s):wpAny M A (forIn [0:n] b f) Q E s:=by
 rw[Std.Legacy.Range.forIn_eq_forIn_range'];exact wpAny_forIn_list f I Q turn fin _ b (by simpa [Std.Legacy.Range.size] using h)
theorem qw5z(l:Addr)(items:Array Value)(n:Nat)(dd:Option Addr)(sl:Array (Option Value))(x:Value)(e:Value->Bool)(j:Nat)(hj:j<items.size)(hit:e items[j]=true)(hno:∀m (hm:m<items.size),m<j->e items[m]=false):
  Meets (Builtin.«tuple.index» ⟨[.ref l,x],[]⟩)
   (fun A R s=>s.heap.get? l=some { cls:=.type "tuple",dict:=dd,data:=.seq items n,slots:=sl }/\(∀y,y∈items->SeqAt.EqAt A.in1 s y x (e y))/\R (.ok (.ret (.int j s.toks))) { s with toks:=s.toks+1 }):=
 .of_wp fun prog w A R s h=>by
  obtain⟨hp,g,d,tk,os⟩:=s;obtain⟨hl,he,h⟩:=h;wp_walk using wpAny_loadPart' hl,qw4z _ (fun rest b s'=>b.1=none/\s'=⟨hp,g,d,tk,os⟩/\∃i,i≤j/\rest=List.range' i (items.size-i)) _
  case turn=>
   rintro i rest b s' ⟨hb,rfl,k,hk,hr⟩;have hlt:k<items.size:=by omega
   obtain⟨m,hm⟩:∃m,items.size-k=m+1:=⟨items.size-k-1,by omega⟩;rw[hm,List.range'_succ] at hr;injection hr with h1 h2;subst h1;rw[getElem?_pos items i hlt];refine wpAny_bind (he _ (Array.getElem_mem hlt) prog w _ _ ?_);by_cases hij:i=j
   ·subst hij;rw[hit];wp_walk;exact⟨_,rfl,h⟩
   ·rw[hno i hlt (by omega)];wp_walk;refine⟨rfl,rfl,i+1,by omega,?_⟩;rw[h2,show items.size-(i+1)=m by omega]
  case fin=>
   rintro b s' ⟨hb,rfl,k,hk,hr⟩;have:=congrArg List.length hr;simp at this;omega
  case h=>
   exact⟨rfl,rfl,0,Nat.zero_le _,by simp⟩
end L3
namespace L3
open PySem PySem.Spec PyProof.Rows L2
theorem qw6z{X:Cx}{pins:List (Addr×Obj)}{σ:L2.St}{H:Hp}{s:Shared}{a:Addr}{xs:List V}(I:Inv X pins σ H s)(h:SqT X.K H a xs):∀b,Value.ref a=.ref b->∃o,s.heap.get? b=some o/\o.dict=none:=by
 rcases h with h|⟨o,its,n,hk,hc,hd,hs,hz,r⟩
 ·obtain⟨z,its,r,p⟩:=h.ok I.hok;exact p.noDict
 ·intro b e;cases e;exact⟨o,I.kIn a o hk,hd⟩
def eTIx(ta:TE3)(tb:TA3):TE3:=fun τ G Q=>ta τ G fun x G1=>match x with
 |.tup ds=>tb τ G1 fun ys G2=>match ys with
  |[y]=>∃us u j,toDats0 ds=some us/\toDat G2 y=some u/\Dat.deps us≤50/\(us[j]?).map (fun v=>v.eqb u)=some true/\(∀i,i<j->(us[i]?).map (fun v=>v.eqb u)=some false)/\Q (.int ((j:Nat):Int)) G2
  |_=>False
 |_=>False
theorem qk7z{h:Heap}:∀{us:List Dat.D} {its:List Value} {i:Nat} {u:Dat.D},Dat.Hvs h us its->us[i]?=some u->∃v,its[i]?=some v/\Dat.Hv h u v
 |[],its,i,u,p,e=>by cases e
 |d::us,its,i,u,p,e=>by
  unfold Dat.Hvs at p;obtain⟨v,r,rfl,h1,h2⟩:=p;cases i with
  |zero=>cases e;exact⟨v,rfl,h1⟩
  |succ i=>
   have:=qk7z (us:=us) (its:=r) (i:=i) h2 e;exact this
theorem qw7z{X:Cx}{o e:Expr}{ta:TE3}{tb:TA3}{apos cpos:Pos}(hu:X.A.units+64<cLine)(ho:PE3 X o ta)(ha:PA3 X [e] tb)
  (hbase:attributeBase o "index" X.env (eval o X.env)=eval o X.env:=by rfl)
  (hfew:((backTo cpos (starEach [e] X.env)).all (fun x=>!x.1)&&(backToKw cpos (keywordEach [] X.env)).all (fun x=>x.1.isSome)
   && decide ([e].length+([]:List Keyword).length+(if ([]:List Keyword).isEmpty then 0 else 1)<30))=true:=by rfl)
  (hline:(apos.endLine==cpos.line)=true:=by rfl) (he:notStar e=true:=by rfl):
  PE3 X (.Call (.Attribute o "index" apos) [e] [] cpos) (eTIx ta tb):=by
 intro pins s σ H Q I ⟨τ,G,Q3,RS,RG,h,k⟩;refine wpAny_Call_method_late hbase hfew hline rfl (thn (ho pins s σ H (fun v H1=>∃d G1,Hv X.K H1 d v/\Step H G H1 G1/\RepG X.K G1 H1/\(match d with
  | .tup ds=>tb τ G1 fun ys G2=>(match ys with
   |[y]=>∃us u j,toDats0 ds=some us/\toDat G2 y=some u/\Dat.deps us≤50/\(us[j]?).map (fun v=>v.eqb u)=some true/\(∀i,i<j->(us[i]?).map (fun v=>v.eqb u)=some false)/\Q3 (.int ((j:Nat):Int)) G2
   | _=>False)
  | _=>False)) I ⟨τ,G,_,RS,RG,h,fun v H1 d G1 a b c q=>⟨d,G1,a,b,c,q⟩⟩) fun v s1 ⟨x,H1,I1,r1,d,G1,hv,S1,R1,q⟩=>?_)
 cases d with
 |tup ds=>
  obtain⟨a,vs,rfl,e1,e2⟩:=q9z hv;cases r1;obtain⟨its,rv,p,hz⟩:=I1.tuple e1;refine⟨"tuple","tuple.index",F.plainAttrs_tuple,F.slot_tuple_index,F.type_tuple_index,p.typeIs,qw6z I1 e1,?_⟩;have hA:=ha cpos pins s1 σ H1 (fun ws H2=>∃ys G2,Hvs X.K H2 ys ws/\Step H1 G1 H2 G2/\RepG X.K G2 H2/\(match ys with
   |[y]=>∃us u j,toDats0 ds=some us/\toDat G2 y=some u/\Dat.deps us≤50/\(us[j]?).map (fun v=>v.eqb u)=some true/\(∀i,i<j->(us[i]?).map (fun v=>v.eqb u)=some false)/\Q3 (.int ((j:Nat):Int)) G2
   | _=>False)) I1 ⟨τ,G1,_,RS.ext (S1.ext RG),R1,q,fun ws H2 ys G2 a b c q=>⟨ys,G2,a,b,c,q⟩⟩
  have hs:starEach [e] X.env=(false,eval e X.env)::starEach [] X.env:=qjz he;rw[hs] at hA ⊢;refine Calls.callWith_builtin rfl (Calls.evalArgs_plain ?_);refine thn hA fun us s2 ⟨ws,H2,I2,r2,ys,G2,hy,S2,R2,q2⟩=>?_;rcases ys with _|⟨y,_|⟨y2,ys⟩⟩
  ·exact q2.elim
  ·obtain⟨w,rfl,hw⟩:=hvs1 hy;obtain⟨u,rfl,ru⟩:=r2.one;obtain⟨vs',y',j,t1,t2,t3,t4,t5,q2⟩:=q2;have hT:Hv X.K H2 (.tup ds) (.ref a):=hv.ext (S2.ext R1);have dT:=qajz I2 R2 hT (show RelV (.ref a) (.ref a) from rfl) (show toDat G2 (.tup ds)=some (.tup vs') by show toDat0 (.tup ds)=_;unfold toDat0;rw[t1]);have dy:=qajz I2 R2 hw ru t2;unfold Dat.Hv at dT;obtain⟨a',its',e3,hl,hvs⟩:=dT;cases e3;obtain⟨⟨cls,dd,data,sl⟩,ho2,hc2,n2,hd2⟩:=id hl;simp only at hc2 hd2;subst hc2 hd2;have get:∀{i:Nat} {b:Bool},(vs'[i]?).map (fun v=>v.eqb y')=some b->∃v0,its'[i]?=some v0/\eqF s2.heap vs' y' v0=b:=fun {i b} hi=>by
    cases hd:vs'[i]? with
    |none=>rw[hd] at hi;cases hi
    |some d0=>
     rw[hd] at hi;obtain⟨v0,g1,g2⟩:=qk7z hvs hd;refine⟨v0,g1,?_⟩;rw[qcyz (List.mem_of_getElem? hd) g2];exact Option.some.inj hi
   obtain⟨v0,g1,g2⟩:=get t4;have hj:j<its'.length:=(List.getElem?_eq_some_iff.mp g1).1;refine call_meets F.slot_tuple_index ⟨_,ho2,rfl⟩ F.entry_tuple_index (F.args_tuple_index_2 _ _) (qw5z a its'.toArray n2 dd sl u (eqF s2.heap vs' y') j (by simpa using hj) ?_ fun m hm hmj=>?_) ⟨ho2,fun z hz2=>?_,?_⟩
   ·simp only[List.getElem_toArray];rw[(List.getElem?_eq_some_iff.mp g1).2];exact g2
   ·obtain⟨v1,g3,g4⟩:=get (t5 m hmj);simp only[List.getElem_toArray];rw[(List.getElem?_eq_some_iff.mp g3).2];exact g4
   ·obtain⟨d,hd',hv'⟩:=qedz hvs (by simpa using hz2);rw[qcyz hd' hv'];exact Dat.eqAt d y' z u _ hv' dy (by
     have:=Dat.dep_mem hd';have h1:X.A.in1.units=X.A.units+1:=rfl;omega)
   ·exact⟨.int ((j:Nat):Int),H2,I2.tok _,⟨_,rfl⟩,k _ H2 (.int ((j:Nat):Int)) G2 q3z (S1.trans S2) R2 q2⟩
  ·exact q2.elim
 |_=>exact q.elim
theorem qw8z{X:Cx}{o e:Expr}{ta:TE3}{tb:TA3}{apos cpos:Pos}(hu:X.A.units+64<cLine)(ho:QE X o ta)(ha:QA X [e] tb)
  (hbase:attributeBase o "index" X.env (eval o X.env)=eval o X.env:=by rfl)
  (hfew:((backTo cpos (starEach [e] X.env)).all (fun x=>!x.1)&&(backToKw cpos (keywordEach [] X.env)).all (fun x=>x.1.isSome)
   && decide ([e].length+([]:List Keyword).length+(if ([]:List Keyword).isEmpty then 0 else 1)<30))=true:=by rfl)
  (hline:(apos.endLine==cpos.line)=true:=by rfl) (he:notStar e=true:=by rfl):
  QE X (.Call (.Attribute o "index" apos) [e] [] cpos) (eTIx ta tb):=⟨qw7z hu ho.of ha.of hbase hfew hline he⟩
end L3
namespace My
open PySem L2 L3
def qckz:Sp3:=fun ds G Q=>∃(c:Clk) (k:Nat),ds=[cD c,.int k]/\0<k/\k≤1000/\Q (cD (whF c k)) G
def qk8z:TS3:=sRet (eTup (aCons (eOp rDiv3 (eOp rIx3 (eVar 0) (eC (.int 0))) (eVar 1)) (aCons (eOp rIx3 (eVar 0) (eC (.int 1))) (aNil))))
theorem qw9z:∀ds G Q,qckz ds G Q->qk8z (endsOf Q) (start3 ["clock","k"] ds) G:=by
 rintro ds G Q ⟨c,k,rfl,h1,h2,q⟩;exact⟨_,rfl,⟨show (0:Int)<(k:Int) by omega,qqz (by omega) (by omega)⟩,_,rfl,qgz q⟩
def pfL(c:Clk)(k:Nat):List Clk:=if c.1%(k:Int)=0 then parts (whF c k) k else []
def qdcz:Sp3:=fun ds G Q=>∃(c:Clk) (k:Nat),ds=[cD c,.int k]/\0<k/\k≤1000/\Valid c/\c.1≤1000/\∀p G',New G p (.lst ((pfL c k).map cD)) G'->Q (.obj p) G'
def qxaz:TS3:=sRet (eCall qb1z (aCons (eCall qckz (aCons (eVar 0) (aCons (eVar 1) (aNil)))) (aCons (eVar 1) (aNil))))
def qk9z:TS3:=sSeq (sIf (eTest (eOp (rEq3 true) (eOp rMod3 (eOp rIx3 (eVar 0) (eC (.int 0))) (eVar 1)) (eC (.int 0)))) (sRet (eLst (aNil))) (sNext)) qxaz
theorem qxbz:∀ds G Q,qdcz ds G Q->qk9z (endsOf Q) (start3 ["clock","k"] ds) G:=by
 rintro ds G Q ⟨c,k,rfl,h1,h2,hv,h3,q⟩;refine⟨_,rfl,show (0:Int)<(k:Int) by omega,_,_,rfl,rfl,Nat.zero_le _,fun h=>?_,fun h=>?_⟩
 ·have h':(!(c.1%(k:Int)==0))=true:=h;have e:¬c.1%(k:Int)=0:=by simpa using h'
  intro p G1 n1;refine qgz (q p G1 ?_);unfold pfL;rw[if_neg e];exact n1
 ·have h':(!(c.1%(k:Int)==0))=false:=h;have e:c.1%(k:Int)=0:=by simpa using h'
  have e1:c.1 / (k:Int)≤c.1:=Int.ediv_le_self _ (by have:=hv.1;omega);have e2:0≤c.1 / (k:Int):=Int.ediv_nonneg (by have:=hv.1;omega) (by omega);refine⟨c,k,rfl,h1,h2,whF c k,k,rfl,by omega,qqz (by show -10^80<c.1 / (k:Int);omega) (by show c.1 / (k:Int)<10^80;omega),fun p G1 n1=>qgz (q p G1 ?_)⟩;unfold pfL;rw[if_pos e];exact n1
def qclz:Sp3:=fun ds G Q=>∃cs:List Clk,ds=[csD cs]/\ClOk 1000 cs/\Rise cs/\cs.length≤12/\∀(p:Addr) (js:List (List Int)) (G':Gp),js.Perm (rawJ cs)->RiseL js->New G p (.lst (js.map tupI)) G'->Q (.obj p) G'
def qxcz:TS3:=sIf (eAnd (eTest (eOp (rEq3 true) (eVar 4) (eLst (aNil)))) (eTest (eCB qbiz (aCons (eComp ["part"] [0] (iSeq (eVar 4)) (hName 0) (tNoTest3) (eOp (rIn3 false) (eVar 0) (eVar 1))) (aNil))))) (sDrop (eM qcvz (eVar 1) (aCons (eCB qatz (aCons (eComp ["part"] [0] (iSeq (eVar 4)) (hName 0) (tNoTest3) (eTIx (eVar 1) (aCons (eVar 0) (aNil)))) (aNil))) (aNil)))) (sNext)
def qxdz:TS3:=sSeq (sAsg (eCall qdcz (aCons (eVar 2) (aCons (eVar 3) (aNil)))) (hName 4)) qxcz
def qxez:TS3:=sFor (iRng2 (aCons (eC (.int 2)) (aCons (eOp rAdd3 (eCB q1z (aCons (eVar 0) (aNil))) (eC (.int 1))) (aNil)))) (hName 3) (qxdz)
def qxfz:TS3:=sRet (eCB qbwz (aCons (eVar 1) (aNil)))
def qxgz:TS3:=sSeq (sFor (iSeq (eVar 0)) (hName 2) (qxez)) qxfz
def qlaz:TS3:=sSeq (sAsg (eLst (aNil)) (hName 1)) qxgz
theorem qlbz{cs:List Clk}{c:Clk}{k:Nat}(hk:2≤k):jnB cs c k=(!(pfL c k).isEmpty&&(pfL c k).all fun z=>decide (z∈cs)):=by
 unfold jnB pfL;by_cases h:c.1%(k:Int)=0
 ·rw[if_pos h,decide_eq_true h];have:(parts (whF c k) k).isEmpty=false:=by
   cases e:parts (whF c k) k with
   |nil=>
    have:=congrArg List.length e;rw[qa9z] at this;simp at this;omega
   |cons a as=>rfl
  rw[this];rfl
 ·rw[if_neg h,decide_eq_false h];rfl
theorem qxhz{c:Clk}{k:Nat}:(pfL c k).length≤k:=by
 unfold pfL;split
 ·rw[qa9z];exact Nat.le_refl _
 ·exact Nat.zero_le _
theorem qxiz{G:Gp}{cs:List Clk}{z:Clk}{Q:V3}(q:Q (.bl (decide (z∈cs))) G):rIn3 false (cD z) (csD cs) G Q:=by
 refine⟨cX z,cs.map cX,rfl,.inr (qksz cs),Nat.le_trans (qc6z cs) (by decide),?_⟩;show Q (.bl ((cs.map cX).any fun v=>v.eqb (cX z))) G;rw[quvz];exact q
theorem qxjz{cs:List Clk}{z:Clk}(h:z∈cs):((cs.map cX)[cs.idxOf z]?).map (fun v=>v.eqb (cX z))=some true/\∀i,i<cs.idxOf z->((cs.map cX)[i]?).map (fun v=>v.eqb (cX z))=some false:=by
 obtain⟨h1,h2⟩:=qanz h;constructor
 ·rw[List.getElem?_map,h2];show some ((cX z).eqb (cX z))=some true;rw[qc7z,decide_eq_true rfl]
 ·intro i hi;have hl:i<cs.length:=by omega
  rw[List.getElem?_map,List.getElem?_eq_getElem hl];show some ((cX cs[i]).eqb (cX z))=some false;rw[qc7z];refine congrArg some (decide_eq_false fun e=>?_);have:=List.not_of_lt_findIdx (p:=(· == z)) (xs:=cs) (i:=i) hi;rw[e] at this;simp at this
theorem qxkz{guard:Gp->Prop}{G:Gp}{cs zs:List Clk}{Q:List D->Gp->Prop}(hz:∀z∈zs,z∈cs)(hg:guard G)(q:Q (zs.map fun z=>D.int ((cs.idxOf z:Nat):Int)) G):
  compGo guard (hName 0) tNoTest3 (eTIx (eVar 1) (aCons (eVar 0) aNil)) Q (zs.map cD) [] [none,some (csD cs)] G:=by
 refine qabz (fun τ=>∃x,τ=[x,some (csD cs)]) cD (fun _=>true) (fun z=>D.int ((cs.idxOf z:Nat):Int)) (G:=G) hg zs [] _ ⟨none,rfl⟩ ?_ ?_
 ·rintro z hm τ K1 K2 ⟨x,rfl⟩ g1 g2;obtain⟨h1,h2⟩:=qxjz (hz z hm);exact⟨fun _=>⟨cs.map cX,cX z,cs.idxOf z,qcdz cs,rfl,Nat.le_trans (qc6z cs) (by decide),h1,h2,g1 rfl _ ⟨_,rfl⟩⟩,nofun⟩
 ·rw[filter_all,List.nil_append];exact q
theorem qxlz:∀ds G Q,qclz ds G Q->qlaz (endsOf Q) (start3 ["clocks","found","clock","k","parts"] ds) G:=by
 rintro ds G Q ⟨cs,rfl,ok,hr,hl,q⟩;have hlm:(cs.map cD).length=cs.length:=List.length_map ..;have okv:∀z∈cs,Valid z:=fun z hz=>(ok z hz).1;intro q0 G0 n0;refine qazz (fun ds τ G'=>∃(dn zs:List Clk) (x2 x3 x4:Option D),ds=zs.map cD/\dn++zs=cs/\τ=[some (csD cs),some (.obj q0),x2,x3,x4]/\New G q0 (.lst ((dn.flatMap fun c=>((twos (cs.length-1)).filter (jnB cs c)).map (jnP cs c)).map tupI)) G') (fun _ _ _ _=>trivial) ?_ ?_ _ _ _ ⟨[],cs,none,none,none,rfl,rfl,rfl,n0⟩
 ·rintro d ds τ G1 N ⟨dn,zs,x2,x3,x4,e1,e2,rfl,n1⟩ hN;cases zs with
  |nil=>cases e1
  |cons c zs=>
   cases e1;have hc:c∈cs:=by rw[←e2];simp
   refine⟨⟨by decide,by decide,by rw[hlm];omega,by rw[hlm];omega⟩,?_⟩;show forGo _ _ _ _ (rngL 2 ((((cs.map cD).length:Nat):Int)+1-2).toNat) _ _;rw[hlm,show ((cs.length:Int)+1-2).toNat=cs.length-1 by omega,rng2];generalize hacc:(dn.flatMap fun c=>((twos (cs.length-1)).filter (jnB cs c)).map (jnP cs c))=acc at n1;refine qazz (fun ds τ G2=>∃(kd ks:List Nat) (x3 x4:Option D),ds=ks.map nD/\kd++ks=twos (cs.length-1)/\τ=[some (csD cs),some (.obj q0),some (cD c),x3,x4]/\New G q0 (.lst ((acc++(kd.filter (jnB cs c)).map (jnP cs c)).map tupI)) G2) (fun _ _ _ _=>trivial) ?_ ?_ _ _ _ ⟨[],_,x3,x4,rfl,rfl,rfl,by rw[List.filter_nil,List.map_nil,List.append_nil];exact n1⟩
   ·rintro d ds τ G2 N2 ⟨kd,ks,x3,x4,e3,e4,rfl,n2⟩ hN2;cases ks with
    |nil=>cases e3
    |cons k ks=>
     cases e3;have hk:=twos_mem.mp (show k∈twos (cs.length-1) by rw[←e4];simp);have hkl:k≤12:=by omega
     have hpl:=qxhz (c:=c) (k:=k);refine⟨c,k,rfl,by omega,by omega,okv c hc,(ok c hc).2,fun p3 G3 n3=>?_⟩;intro p4 G4 n4;have s4:=n3.sub.trans n4.sub;have e34:=n4.sub _ _ n3.at_;have skip:jnB cs c k=false->∀G5,Sub G4 G5->N2 [some (csD cs),some (.obj q0),some (cD c),some (nD k),some (.obj p3)] G5:=fun hf G5 s5=>by
      refine hN2 _ _ ⟨kd++[k],ks,_,_,rfl,by rw[←e4];simp,rfl,?_⟩;rw[List.filter_append,List.filter_cons,hf];simp only[Bool.false_eq_true,if_false,List.filter_nil,List.append_nil];exact⟨n2.non,n2.sub.trans (s4.trans s5),s5 _ _ (s4 _ _ n2.at_)⟩
     refine⟨_,_,qbzz e34 (qcdz _),qbzz n4.at_ rfl,qj5z _,fun h=>?_,fun h=>?_⟩
     ·have h':(!((Dat.D.lst ((pfL c k).map cX)).eqb (.lst [])))=true:=h;rw[qj6z,qj7z] at h';refine⟨_,e34,?_,?_⟩
      ·show ((pfL c k).map cD).length≤sizeLine;rw[List.length_map];exact line1000 (by omega)
      refine qabz (fun τ=>∃x,τ=[x,some (csD cs)]) cD (fun _=>true) (fun z=>D.bl (decide (z∈cs))) (G:=G4) e34 (pfL c k) [] _ ⟨none,rfl⟩ ?_ ?_
      ·rintro z hm τ K1 K2 ⟨x,rfl⟩ g1 g2;exact⟨fun _=>qxiz (g1 rfl _ ⟨_,rfl⟩),nofun⟩
      intro p5 G5 n5;rw[filter_all,List.nil_append] at n5;refine⟨_,_,n5.at_,qcfz _ _,?_⟩;rw[all_map];have hj:jnB cs c k=(pfL c k).all fun z=>decide (z∈cs):=by rw[qlbz hk.1,h',Bool.true_and]
      refine⟨fun ht=>?_,fun hf=>skip (by rw[hj];exact hf) _ n5.sub⟩;have hB:jnB cs c k=true:=by rw[hj];exact ht
      have ep:pfL c k=parts (whF c k) k:=by
       unfold jnB at hB;rw[Bool.and_eq_true,decide_eq_true_iff] at hB;unfold pfL;rw[if_pos hB.1]
      have hq5:=n5.sub _ _ (s4 _ _ n2.at_);refine⟨⟨q0,_,rfl,hq5⟩,_,n5.sub _ _ e34,by show ((pfL c k).map cD).length≤sizeLine;rw[List.length_map];exact line1000 (by omega),qxkz (fun z hz=>of_decide_eq_true (List.all_eq_true.mp ht z hz)) (n5.sub _ _ e34) fun p6 G6 n6=>?_⟩;refine⟨_,n6.at_,_,n6.sub _ _ hq5,?_,?_⟩
      ·rw[List.length_map];have hb:=qevz okv (qbbz hr) hl;have e5:(rawJ cs).length=((dn++c::zs).flatMap fun c=>((twos (cs.length-1)).filter (jnB cs c)).map (jnP cs c)).length:=by
        rw[e2];rfl
       rw[List.flatMap_append,hacc,List.flatMap_cons,List.length_append,List.length_append,List.length_map,←e4,List.filter_append,List.length_append] at e5;refine Nat.lt_of_le_of_lt (m:=63) ?_ (by decide);rw[List.length_append,List.length_map];omega
      ·refine hN2 _ _ ⟨kd++[k],ks,_,_,rfl,by rw[←e4];simp,rfl,?_⟩;rw[List.filter_append,List.filter_cons,hB];simp only[if_true,List.filter_nil,List.map_append,List.map_cons,List.map_nil];have n7:New G q0 (.lst ((acc++(kd.filter (jnB cs c)).map (jnP cs c)).map tupI)) G6:=⟨n2.non,n2.sub.trans (s4.trans (n5.sub.trans n6.sub)),n6.sub _ _ hq5⟩;have n8:=wrote (o':=.lst ((acc++(kd.filter (jnB cs c)).map (jnP cs c)).map tupI++[D.tup ((pfL c k).map fun z=>D.int ((cs.idxOf z:Nat):Int))])) n7;have ee:D.tup ((pfL c k).map fun z=>D.int ((cs.idxOf z:Nat):Int))=tupI (jnP cs c k):=by
        unfold tupI jnP;rw[List.map_map,ep];rfl
       rw[ee] at n8;rw[List.map_append,List.append_assoc] at n8;rw[ee,List.append_assoc];exact n8
     ·refine⟨nofun,fun _=>skip ?_ _ (Sub.refl _)⟩;have h':(!((Dat.D.lst ((pfL c k).map cX)).eqb (.lst [])))=false:=h;rw[qj6z,qj7z] at h';rw[qlbz hk.1,h',Bool.false_and]
   ·rintro τ G2 ⟨kd,ks,x3,x4,e3,e4,rfl,n2⟩;have e0:ks=[]:=by cases ks with
     |nil=>rfl
     |cons z zs=>cases e3
    subst e0;rw[List.append_nil] at e4;refine hN _ _ ⟨dn++[c],zs,_,_,_,rfl,by rw[←e2];simp,rfl,?_⟩;rw[List.flatMap_append,hacc,List.flatMap_cons,List.flatMap_nil,List.append_nil,←e4];exact n2
 ·rintro τ G1 ⟨dn,zs,x2,x3,x4,e1,e2,rfl,n1⟩;have e0:zs=[]:=by cases zs with
   |nil=>rfl
   |cons z zs=>cases e1
  subst e0;rw[List.append_nil] at e2;subst e2;exact⟨rawJ dn,n1.at_,qevz okv (qbbz hr) hl,fun ns hn=>qk5z hn,fun p mss G2 n2 hp hr2=>qgz (q p mss G2 hp hr2 ⟨n1.sub.of_none n2.non,n1.sub.trans n2.sub,n2.at_⟩)⟩
end My
namespace My
open PySem L2 L3
def tX(ns:List Int):Dat.D:=.tup (ns.map Dat.D.int)
theorem qexz{G:Gp}(ns:List Int):toDat G (tupI ns)=some (tX ns):=by
 show toDat0 (.tup (ns.map D.int))=_;rw[toDat0,qktz];rfl
theorem qgmz(nss:List (List Int)):toDats0 (nss.map tupI)=some (nss.map tX):=by
 induction nss with
 |nil=>rfl
 |cons ns nss ih=>
  show toDats0 (tupI ns::nss.map tupI)=_;have h:toDat0 (tupI ns)=some (tX ns):=qexz (G:=fun _=>none) ns;rw[toDats0,h,ih];rfl
theorem qxmz(ms ns:List Int):Dat.eqbs (ms.map Dat.D.int) (ns.map Dat.D.int)=decide (ms=ns):=by
 induction ms generalizing ns with
 |nil=>cases ns<;>rfl
 |cons m ms ih=>
  cases ns with
  |nil=>rfl
  |cons n ns=>
   show ((m==n)&&Dat.eqbs (ms.map Dat.D.int) (ns.map Dat.D.int))=_;rw[ih,Bool.eq_iff_iff];simp
theorem qgnz(ms ns:List Int):(tX ms).eqb (tX ns)=decide (ms=ns):=qxmz ms ns
theorem qgoz(ns:List Int):Dat.deps (ns.map Dat.D.int)=0:=by
 induction ns with
 |nil=>rfl
 |cons n ns ih=>
  show max 0 (Dat.deps (ns.map Dat.D.int))=0;omega
theorem qlcz(nss:List (List Int)):Dat.deps (nss.map tX)≤1:=by
 induction nss with
 |nil=>exact Nat.zero_le _
 |cons ns nss ih=>
  show max (Dat.deps (ns.map Dat.D.int)+1) (Dat.deps (nss.map tX))≤1;rw[qgoz];omega
theorem qxnz(nss:List (List Int))(ns:List Int):(nss.map tX).any (fun v=>v.eqb (tX ns))=decide (ns∈nss):=by
 rw[List.any_map,Bool.eq_iff_iff,List.any_eq_true,decide_eq_true_iff];constructor
 ·rintro⟨x,hx,h⟩;have h':(tX x).eqb (tX ns)=true:=h;rw[qgnz,decide_eq_true_iff] at h';rw[←h'];exact hx
 ·intro h;exact⟨ns,h,by show (tX ns).eqb (tX ns)=true;rw[qgnz,decide_eq_true rfl]⟩
theorem qldz(ns:List Int)(n:Int):(ns.map Dat.D.int).any (fun v=>v.eqb (.int n))=decide (n∈ns):=by
 rw[List.any_map,Bool.eq_iff_iff,List.any_eq_true,decide_eq_true_iff];constructor
 ·rintro⟨x,hx,h⟩;have h':(x==n)=true:=h;rw[←eq_of_beq h'];exact hx
 ·intro h;exact⟨n,h,by show (n==n)=true;exact beq_self_eq_true n⟩
theorem qxoz{G:Gp}{p:Addr}{js:List (List Int)}{ps:List Int}{Q:V3}(hp:G p=some (.lst (js.map tupI)))(q:Q (.bl (!decide (ps∈js))) G):rIn3 true (tupI ps) (.obj p) G Q:=by
 refine⟨tX ps,js.map tX,qexz ps,.inl (qbzz hp (qgmz js)),Nat.le_trans (qlcz js) (by decide),?_⟩;show Q (.bl (!((js.map tX).any fun v=>v.eqb (tX ps)))) G;rw[qxnz];exact q
def qxpz:TS3:=sRet (eCB qbiz (aCons (eComp ["ahead","place"] [] (iZip (aCons (eVar 1) (aCons (eSl (eVar 1) (oSome (eC (.int 1))) (oNone)) (aNil)))) (hTup 2 (hCons (hName 0) (hCons (hName 1) (hNil)))) (tNoTest3) (eOp rLtT3 (eVar 0) (eVar 1))) (aNil)))
def qlez:TS3:=sSeq (sIf (eOr (eNot (eTest (eInst "tuple" (eVar 1)))) (eNot (eTest (eCB qbiz (aCons (eComp ["place"] [0] (iSeq (eVar 1)) (hName 0) (tNoTest3) (eCall qc9z (aCons (eVar 1) (aCons (eVar 0) (aNil))))) (aNil)))))) (sRet (eC (.bl false))) (sNext)) qxpz
theorem qxqz{ps:List Int}(h:ps.Pairwise (· < ·)):((ps.zip (ps.drop 1)).all fun p=>decide (p.1<p.2))=true:=by
 rw[List.all_eq_true];intro p hp;obtain⟨i,hi,e⟩:=List.getElem_of_mem hp;rw[List.length_zip,List.length_drop] at hi;rw[List.getElem_zip,List.getElem_drop] at e;rw[←e];exact decide_eq_true (List.pairwise_iff_getElem.mp h i (1+i) (by omega) (by omega) (by omega))
def qxrz:TS3:=sRet (eCall qchz (aCons (eOp rAdd3 (eVar 3) (eLst (aCons (eVar 2) (aNil)))) (aNil)))
def qxsz:TS3:=sSeq (sAsg (eComp ["place","clock"] [1] (iEnum (aCons (eVar 0) (aNil))) (hTup 2 (hCons (hName 0) (hCons (hName 1) (hNil)))) (eTest (eOp (rIn3 true) (eVar 0) (eVar 2))) (eVar 1)) (hName 3)) qxrz
theorem mem_enum{cs:List Clk}{i:Nat}{z:Clk}:(i,z)∈(List.range cs.length).zip cs↔cs[i]?=some z:=by
 constructor
 ·intro h;obtain⟨j,hj,e⟩:=List.getElem_of_mem h;rw[List.getElem_zip,List.getElem_range] at e;rw[List.length_zip,List.length_range] at hj;cases e;exact List.getElem?_eq_getElem (by omega)
 ·intro h;obtain⟨hl,e⟩:=List.getElem?_eq_some_iff.mp h;have hz:i<((List.range cs.length).zip cs).length:=by rw[List.length_zip,List.length_range];omega
  have:=List.getElem_mem hz;rw[List.getElem_zip,List.getElem_range,e] at this;exact this
theorem qcmz{cs:List Clk}{c:Clk}{k:Nat}:(jnP cs c k).length=k:=by
 unfold jnP;rw[List.length_map,qa9z]
theorem qddz{cs:List Clk}{c:Clk}{k:Nat}(hk:0<k)(e:(whF c k).1*(k:Int)=c.1):(jnP cs c k)[0]?=some ((cs.idxOf c:Nat):Int):=by
 unfold jnP parts;rw[List.getElem?_map,List.getElem?_map,List.getElem?_range hk];show some ((cs.idxOf ((whF c k).1*(k:Int),c.2+(whF c k).1*((0:Nat):Int)):Nat):Int)=_;rw[e];simp
def othL2(cs:List Clk)(ps:List Int):List Clk:=(((List.range cs.length).zip cs).filter fun p=>!decide ((p.1:Int)∈ps)).map (·.2)
theorem qlfz{cs:List Clk}{ps:List Int}{z:Clk}:z∈othL2 cs ps↔∃i,cs[i]?=some z/\((i:Nat):Int)∉ps:=by
 unfold othL2;rw[List.mem_map];constructor
 ·rintro⟨⟨i,y⟩,h,rfl⟩;obtain⟨h1,h2⟩:=List.mem_filter.mp h;exact⟨i,mem_enum.mp h1,by simpa using h2⟩
 ·rintro⟨i,h1,h2⟩;exact⟨(i,z),List.mem_filter.mpr ⟨mem_enum.mpr h1,by simpa using h2⟩,rfl⟩
theorem qxtz{cs:List Clk}{ps:List Int}{i:Nat}{z:Clk}(hi:cs[i]?=some z)(hp:((i:Nat):Int)∈ps):(othL2 cs ps).length<cs.length:=by
 unfold othL2;rw[List.length_map];have h1:(((List.range cs.length).zip cs).filter fun p=>!decide ((p.1:Int)∈ps)).length<((List.range cs.length).zip cs).length:=by
  refine List.length_filter_lt_length_iff_exists.mpr ⟨(i,z),mem_enum.mpr hi,?_⟩;simp[hp]
 rw[List.length_zip,List.length_range] at h1;omega
theorem qxuz{Q:V3}{G G1:Gp}{cs:List Clk}{ps:List Int}{w:Clk}{x1:D}{x3:Option D}(hl:cs.length≤12)(s1:Sub G G1)
  (q:∀us G',Sub G G'->(∀z,z∈us↔z∈othL2 cs ps++[w])->Rise us->us.length≤(othL2 cs ps++[w]).length->(endsOf Q).rt (csD us) G'):qxsz (endsOf Q) [some (csD cs),some (tupI ps),some (cD w),x3] G1:=by
 refine⟨cs.map cD,rfl,?_⟩;rw[qkoz cD cs];have hzl:((List.range cs.length).zip cs).length=cs.length:=by rw[List.length_zip,List.length_range];omega
 refine⟨?_,?_⟩
 ·show (((List.range cs.length).zip cs).map _).length≤sizeLine;rw[List.length_map,hzl];exact line1000 (by omega)
 refine qabz (guard:=fun G=>seqD G (csD cs) (cs.map cD)) (fun τ=>∃x y,τ=[x,y,some (tupI ps)]) (fun p:Nat×Clk=>D.tup [nD p.1,cD p.2]) (fun p=>!decide ((p.1:Int)∈ps)) (fun p=>cD p.2) (G:=G1) rfl ((List.range cs.length).zip cs) [] _ ⟨none,none,rfl⟩ ?_ ?_
 ·rintro⟨i,z⟩ hm τ K1 K2 ⟨x,y,rfl⟩ g1 g2;refine⟨rfl,.int (i:Int),ps.map Dat.D.int,rfl,.inr (qexz ps),by rw[qgoz];decide,?_⟩;rw[qldz];exact⟨fun h=>g1 h _ ⟨_,_,rfl⟩,fun h=>g2 h _ ⟨_,_,rfl⟩⟩
 intro p2 G2 n2;rw[List.nil_append,show ((((List.range cs.length).zip cs).filter fun p=>!decide ((p.1:Int)∈ps)).map fun p=>cD p.2)=(othL2 cs ps).map cD by unfold othL2;rw[List.map_map];rfl] at n2;have hol:(othL2 cs ps).length≤12:=by
  unfold othL2;rw[List.length_map];exact Nat.le_trans (List.length_filter_le _ _) (by omega)
 intro p3 G3 n3;refine⟨_,_,n3.sub _ _ n2.at_,n3.at_,by rw[List.length_map];exact line1000 (by simp;omega),fun p4 G4 n4=>?_⟩;refine⟨.obj p4,othL2 cs ps++[w],rfl,?_,by simp;omega,fun us G5 s5 hm hr hl5=>q us G5 ((((s1.trans n2.sub).trans n3.sub).trans n4.sub).trans s5) hm hr hl5⟩;show G4 p4=some (.lst (((othL2 cs ps++[w]).map toL).map tupI));rw[qb0z,List.map_append];exact n4.at_
end My
namespace L3
open PySem PySem.Spec PyProof.Rows L2
def isLst:HO->Bool
 |.lst _=>true
 |.ext _=>true
 |_=>false
def hidL(h:Heap)(H:Hp):Hp:=fun a=>match H a with
 |some o=>if isLst o then (h.get? a).map fun ob=>.frz ob o else if vis o then some o else none
 |none=>none
section
variable {P:Program} {w:World} {H H':Hp} {h h':Heap} {a b:Addr} {o:HO} {fs:List Addr} {ob:Obj}
theorem qxvz(v:vis o=true):isLst o=false:=by
 cases o with
 |lst xs=>cases v
 |ext φ=>cases v
 |_=>rfl
theorem qcnz(e:H a=none):hidL h H a=none:=by unfold hidL;rw[e]
theorem qaqz(e:H a=some o)(v:vis o=true):hidL h H a=some o:=by
 unfold hidL;rw[e];show (if isLst o=true then _ else if vis o=true then some o else none)=_;rw[if_neg (by rw[qxvz v];exact Bool.false_ne_true),if_pos v]
theorem qgpz(e:H a=some o)(v:vis o=false)(n:isLst o=false):hidL h H a=none:=by
 unfold hidL;rw[e];show (if isLst o=true then _ else if vis o=true then some o else none)=_;rw[if_neg (by rw[n];exact Bool.false_ne_true),if_neg (by rw[v];exact Bool.false_ne_true)]
theorem qdez(e:H a=some o)(n:isLst o=true)(q:h.get? a=some ob):hidL h H a=some (.frz ob o):=by
 unfold hidL;rw[e];show (if isLst o=true then (h.get? a).map _ else if vis o=true then some o else none)=_;rw[if_pos n,q];rfl
theorem qlgz(e:hidL h H a=some o):(H a=some o/\vis o=true)∨∃u ob,H a=some u/\isLst u=true/\h.get? a=some ob/\o=.frz ob u:=by
 cases q:H a with
 |none=>rw[qcnz q] at e;cases e
 |some u=>
  cases n:isLst u with
  |true=>
   cases g:h.get? a with
   |none=>
    unfold hidL at e;rw[q] at e;have e':(if isLst u=true then (h.get? a).map fun ob=>HO.frz ob u else if vis u=true then some u else none)=some o:=e;rw[if_pos n,g] at e';cases e'
   |some ob=>
    rw[qdez q n g] at e;exact .inr ⟨u,ob,rfl,n,rfl,(Option.some.inj e).symm⟩
  |false=>
   cases v:vis u with
   |true=>
    rw[qaqz q v] at e;cases e;exact .inl ⟨rfl,v⟩
   |false=>
    rw[qgpz q v n] at e;cases e
theorem qlhz(e:hidL h H a=some o):vis o=true:=by
 rcases qlgz e with⟨_,v⟩|⟨u,ob,_,n,_,rfl⟩
 ·exact v
 ·cases u with
  |lst xs=>rfl
  |ext φ=>rfl
  |_=>cases n
theorem qxwz(ok:HOk P w H h):HOk P w (hidL h H) h:=fun a o e=>by
 rcases qlgz e with⟨e1,v⟩|⟨u,ob,e1,n,q,rfl⟩
 ·exact qu3z v (ok a o e1)
 ·cases u with
  |lst xs=>
   obtain⟨z,its,n,r,p⟩:=ok a _ e1;exact⟨q,z,its,n,r,p⟩
  |ext φ=>exact⟨q,ok a _ e1⟩
  |_=>cases n
variable (ok:HOk P w H h) (hfs:∀b∈fs,H b=none) (u:Un fs [] (hidL h H) H' h h') (ok':HOk P w H' h')
include ok u
theorem freeL(e:H b=some o)(v:vis o=false)(n:isLst o=false):H' b=none:=by
 obtain⟨ob,q⟩:=ObjOk.there (ok b o e);exact u.free b ob q (qgpz e v n) (by simp)
theorem lstL(e:H b=some o)(n:isLst o=true):∃ob,h.get? b=some ob/\H' b=some (.frz ob o):=by
 obtain⟨ob,q⟩:=ObjOk.there (ok b _ e);exact⟨ob,q,u.frzs b ob _ (qdez e n q)⟩
theorem joinL(e:H' b=some o)(n:∀ob u,isLst u=true->o≠.frz ob u):joined H H' b=some o:=by
 cases q:H b with
 |none=>rw[qavz q];exact e
 |some x=>
  cases v:vis x with
  |true=>rw[qbaz q v];exact e
  |false=>
   cases l:isLst x with
   |true=>
    obtain⟨ob,_,z⟩:=lstL ok u q l;rw[z] at e;exact absurd (Option.some.inj e).symm (n ob x l)
   |false=>
    rw[freeL ok u q v l] at e;cases e
include hfs ok'
theorem qgqz:Un fs [] H (joined H H') h h'/\HOk P w (joined H H') h':=by
 have kept:∀b x ob,H b=some x->vis x=false->h.get? b=some ob->h'.get? b=some ob:=fun b x ob e v q=>by
  cases l:isLst x with
  |true=>
   obtain⟨ob',q',z⟩:=lstL ok u e l;rw[q] at q';cases q';exact (ok' b _ z).1
  |false=>exact u.keep b ob q (qgpz e v l) (fun z=>by rw[hfs b z] at e;cases e) (by simp)
 refine⟨⟨fun b ob q n h3 h4=>u.keep b ob q (qcnz n) h3 h4,fun b ob q n h3 h4=>u.slot b ob q (qcnz n) h3 h4,fun b ob q n h3=>by rw[qavz n];exact u.free b ob q (qcnz n) h3,
  fun b ob q h3=>u.there b ob q h3,fun b xs e=>joinL ok u (u.tups b xs (qaqz e rfl)) (fun _ u n z=>by cases z),fun b ob x e=>?_,fun b ps e=>⟨#[],by rw[Array.append_empty];exact qacz e rfl⟩⟩,fun b x e=>?_⟩
 ·cases v:vis (.frz ob x) with
  |true=>
   rw[qbaz e v];exact u.frzs b ob x (qaqz e v)
  |false=>exact qacz e v
 ·have mono:H' b=some x->ObjOk P w (joined H H') h' b x:=fun z=>(ok' b x z).stay (fun _ _ _ q=>q) (fun c q=>joinL ok u q fun _ u n z=>by cases z) (fun c xs q=>joinL ok u q fun _ u n z=>by cases z);cases q:H b with
  |none=>
   rw[qavz q] at e;exact mono e
  |some y=>
   cases v:vis y with
   |true=>
    rw[qbaz q v] at e;exact mono e
   |false=>
    rw[qacz q v] at e;obtain rfl:=Option.some.inj e;refine (ok b _ q).stay (fun c ob hc z=>?_) (fun c z=>qacz z rfl) (fun c xs z=>joinL ok u (u.tups c xs (qaqz z rfl)) fun _ u n z=>by cases z);rcases hc with rfl|hc
    ·exact kept _ _ _ q v z
    ·exact kept _ _ _ hc rfl z
end
mutual
def noScr:D->Bool
 |.tup ds=>noScrs ds
 |.scr _=>false
 |.dc _=>false
 |_=>true
def noScrs:List D->Bool
 |[]=>true
 |d::ds=>noScr d&&noScrs ds
end
def GO.noScr:GO->Prop
 |.lst ds=>noScrs ds=true
 |.gen _=>False
 |_=>True
def NoScr(G:Gp):Prop:=∀a o,G a=some o->GO.noScr o
theorem NoScr.no:NoScr noG:=fun _ _ e=>nomatch e
def shw(G:Gp):D->D
 |.obj p=>match G p with
  |some (.lst xs)=>.scr xs
  |some .dct=>.dc p
  |_=>.obj p
 |d=>d
section
variable {K:PySem.W.Frag} {H H':Hp} {h:Heap}
theorem SqT.hidL{a:Addr}{xs:List V}(q:SqT K H a xs):SqT K (hidL h H) a xs:=by
 rcases q with (q|⟨o,q⟩)|q
 ·exact .inl (.inl (qaqz q rfl))
 ·exact .inl (.inr ⟨o,qaqz q rfl⟩)
 ·exact .inr q
theorem SqF.hidL{a:Addr}{xs:List V}(q:SqF K H a xs):SqF K (hidL h H) a xs:=by
 rcases q with⟨o,q⟩|q
 ·exact .inl ⟨o,qaqz q rfl⟩
 ·exact .inr q
mutual
theorem Hv.hidL:∀{d:D} {v:V},Hv K H d v->Hv K (hidL h H) d v
 |.non,_,q=>by simpa [Hv] using q
 |.bl _,_,q=>by simpa [Hv] using q
 |.int _,_,q=>by simpa [Hv] using q
 |.str _,_,q=>by simpa [Hv] using q
 |.obj _,_,q=>by simpa [Hv] using q
 |.dc a,v,q=>by
  unfold Hv at q ⊢;obtain⟨e,ob,φ,q,c⟩:=q;exact⟨e,ob,φ,qaqz q rfl,c⟩
 |.tup ds,v,q=>by
  unfold Hv at q ⊢;obtain⟨a,vs,e,q,r⟩:=q;exact⟨a,vs,e,SqT.hidL q,Hvs.hidL r⟩
 |.scr ds,v,q=>by
  unfold Hv at q ⊢;obtain⟨a,vs,e,q,r⟩:=q;exact⟨a,vs,e,SqF.hidL q,Hvs.hidL r⟩
theorem Hvs.hidL:∀{ds:List D} {vs:List V},Hvs K H ds vs->Hvs K (hidL h H) ds vs
 |[],_,q=>by simpa [Hvs] using q
 |d::ds,vs,q=>by
  unfold Hvs at q ⊢;obtain⟨v,r,e,q,z⟩:=q;exact⟨v,r,e,Hv.hidL q,Hvs.hidL z⟩
end
mutual
theorem Hv.bare(t:∀a xs,H a=some (.tup xs)->H' a=some (.tup xs))(f:∀a o xs,H a=some (.frz o (.tup xs))->H' a=some (.frz o (.tup xs))):∀{d:D} {v:V},noScr d=true->Hv K H d v->Hv K H' d v
 |.non,_,_,q=>by simpa [Hv] using q
 |.bl _,_,_,q=>by simpa [Hv] using q
 |.int _,_,_,q=>by simpa [Hv] using q
 |.str _,_,_,q=>by simpa [Hv] using q
 |.obj _,_,_,q=>by simpa [Hv] using q
 |.tup ds,v,n,q=>by
  unfold Hv at q ⊢;unfold noScr at n;obtain⟨a,vs,e,q,r⟩:=q;refine⟨a,vs,e,?_,Hvs.bare t f n r⟩;rcases q with (q|⟨o,q⟩)|q
  ·exact .inl (.inl (t _ _ q))
  ·exact .inl (.inr ⟨o,f _ _ _ q⟩)
  ·exact .inr q
 |.scr ds,v,n,q=>by
  unfold noScr at n;cases n
 |.dc a,v,n,q=>by
  unfold noScr at n;cases n
theorem Hvs.bare(t:∀a xs,H a=some (.tup xs)->H' a=some (.tup xs))(f:∀a o xs,H a=some (.frz o (.tup xs))->H' a=some (.frz o (.tup xs))):∀{ds:List D} {vs:List V},noScrs ds=true->Hvs K H ds vs->Hvs K H' ds vs
 |[],_,_,q=>by simpa [Hvs] using q
 |d::ds,vs,n,q=>by
  unfold Hvs at q ⊢;unfold noScrs at n;rw[Bool.and_eq_true] at n;obtain⟨v,r,e,q,z⟩:=q;exact⟨v,r,e,Hv.bare t f n.1 q,Hvs.bare t f n.2 z⟩
end
theorem qxxz{G:Gp}{p:Addr}{xs:List D}(e:G p=some (.lst xs)):shw G (.obj p)=.scr xs:=by
 show (match G p with|some (.lst xs)=>D.scr xs|some .dct=>D.dc p|_=>D.obj p)=_
 rw[e]
theorem qxyz{G:Gp}{p:Addr}(e:G p=some .dct):shw G (.obj p)=.dc p:=by
 show (match G p with|some (.lst xs)=>D.scr xs|some .dct=>D.dc p|_=>D.obj p)=_
 rw[e]
theorem qxzz{G:Gp}{p:Addr}(e:∀xs,G p≠some (.lst xs))(e2:G p≠some .dct):shw G (.obj p)=.obj p:=by
 show (match G p with|some (.lst xs)=>D.scr xs|some .dct=>D.dc p|_=>D.obj p)=_
 cases q:G p with
 |none=>rfl
 |some g=>cases g with
  |lst xs=>exact absurd q (e xs)
  |dct=>exact absurd q e2
  |_=>rfl
theorem qx0z{P:Program}{w:World}{G:Gp}(ok:HOk P w H h)(R:RepG K G H){d:D}{v:V}(q:Hv K H d v):Hv K (hidL h H) (shw G d) v:=by
 cases d with
 |obj p=>
  by_cases e:∃xs,G p=some (.lst xs)
  ·obtain⟨xs,e⟩:=e;rw[qxxz e];obtain⟨vs,e1,e2⟩:=R p _ e;obtain⟨ob,e3⟩:=ObjOk.there (ok p _ e1);rw[qtz q];unfold Hv;exact⟨p,vs,rfl,.inl ⟨ob,qdez e1 rfl e3⟩,e2.hidL⟩
  by_cases e':G p=some .dct
  ·rw[qxyz e'];have e1:H p=some (.ext fun h=>∃o,h.get? p=some o/\o.cls=.type "dict"):=R p _ e';obtain⟨⟨ob,h1,h2⟩,_⟩:=(show ObjOk P w H h p _ from ok p _ e1);unfold Hv;exact⟨qtz q,ob,_,qdez e1 rfl h1,h2⟩
  ·rw[qxzz (fun xs z=>e ⟨xs,z⟩) e'];exact q.hidL
 |_=>exact q.hidL
theorem qx1z{P:Program}{w:World}{G:Gp}(ok:HOk P w H h)(R:RepG K G H):∀{ds:List D} {vs:List V},Hvs K H ds vs->Hvs K (hidL h H) (ds.map (shw G)) vs:=by
 intro ds
 induction ds with
 |nil=>intro vs q;cases q.inv0;exact .nil
 |cons d ds ih=>
  intro vs q;obtain⟨v,r,rfl,z1,z2⟩:=q.inv;exact .cons (qx0z ok R z1) (ih z2)
end
section
variable {X:Cx} {k:Nat} {f:Addr} {fd:FuncData} {ps:List Str} {sp:SpX} {E:E3} {x:Str} {p pos:Pos} {e:Expr} {es:List Expr} {t:TA3}
theorem qliz{K:PySem.W.Frag}{P:Program}{w:World}{fs:List Addr}{H H':Hp}{h h':Heap}{G1 G':Gp}{d:D}{v:V}(ok:HOk P w H h)(hfs:∀b∈fs,H b=none)(u:Un fs [] (hidL h H) H' h h')(ok':HOk P w H' h')
  (R1:RepG K G1 H) (hd:noScr d=true) (hG:NoScr G') (hv:Hv K H' d v) (S:Step (hidL h H) noG H' G') (R':RepG K G' H'):
  Hv K (joined H H') d v/\Step H G1 (joined H H') (both G1 G')/\RepG K (both G1 G') (joined H H')/\Joins G1 G' (both G1 G'):=by
 have t2:∀a xs,H' a=some (.tup xs)->joined H H' a=some (.tup xs):=fun a xs e=>joinL ok u e fun _ u n z=>by cases z
 have f2:∀a o xs,H' a=some (.frz o (.tup xs))->joined H H' a=some (.frz o (.tup xs)):=fun a o xs e=>joinL ok u e fun _ u n z=>by cases z;cases n
 have E1:Ext H (joined H H'):=by
  obtain⟨u2,_⟩:=qgqz ok hfs u ok';exact⟨u2.tups,u2.frzs⟩
 have outG:∀a,G' a≠none->H a=none:=fun a n=>by
  have z:hidL h H a=none:=S.new a rfl n;cases q:H a with
  |none=>rfl
  |some o=>
   cases v:vis o with
   |true=>rw[qaqz q v] at z;cases z
   |false=>
    cases l:isLst o with
    |true=>
     obtain⟨ob,e3⟩:=ObjOk.there (ok a _ q);rw[qdez q l e3] at z;cases z
    |false=>
     have:=freeL ok u q v l;cases q':G' a with
     |none=>exact absurd q' n
     |some g=>
      obtain⟨o',z',_⟩:=(R' a g q').mut;rw[this] at z';cases z'
 have out1:∀a,G' a≠none->G1 a=none:=fun a n=>R1.free (outG a n);refine⟨hv.bare t2 f2 hd,⟨fun a o e n=>?_,fun a n=>?_,fun a n q=>?_⟩,fun a g e=>?_,⟨fun a o e=>by simp[both,e],fun a o e=>by simp[both,out1 a (by rw[e];simp),e],out1⟩⟩
 ·cases v:vis o with
  |true=>
   rw[qbaz e v];exact S.fr a o (qaqz e v) rfl
  |false=>exact qacz e v
 ·cases q:H a with
  |none=>exact absurd q n
  |some o=>
   cases v:vis o with
   |true=>
    rw[qbaz q v];exact S.trk a (by rw[qaqz q v];simp)
   |false=>rw[qacz q v];simp
 ·simp only[both,n] at q;exact outG a q
 ·cases q:G1 a with
  |some o=>
   simp only[both,q] at e;cases e;obtain⟨o',z,h1,h2⟩:=(R1 a g q).mut;have hv:vis o'=false:=by
    cases o' with
    |tup xs=>exact absurd rfl (h1 xs)
    |frz ob y=>exact absurd rfl (h2 ob y)
    |_=>rfl
   exact (R1 a g q).ext E1 (by rw[qacz z hv,z])
  |none=>
   simp only[both,q] at e;have hn:=outG a (by rw[e];simp);have ha:joined H H' a=H' a:=qavz hn;have hg:=hG a g e;cases g with
   |lst ds=>
    obtain⟨vs,e1,e2⟩:=R' a _ e;exact⟨vs,ha.trans e1,e2.bare t2 f2 hg⟩
   |pen=>
    obtain⟨i,j,l,e1,e2⟩:=R' a _ e;exact⟨i,j,l,ha.trans e1,e2⟩
   |dct=>exact ha.trans (R' a _ e)
   |gen R=>exact hg.elim
theorem stepL{P:Program}{w:World}{H H':Hp}{fs:List Addr}{h h':Heap}(u:Un fs [] (hidL h H) H' h h'):Step (hidL h H) noG H' noG:=by
 have fr:∀a o,hidL h H a=some o->H' a=some o:=fun a o e=>by
  have v:=qlhz e;cases o with
  |tup xs=>exact u.tups a xs e
  |frz ob y=>exact u.frzs a ob y e
  |_=>cases v
 refine⟨fun a o e _=>fr a o e,fun a n=>?_,fun a _ q=>absurd rfl q⟩;cases q:hidL h H a with
 |none=>exact absurd q n
 |some o=>rw[fr a o q];simp
theorem CXE.hidL{P:Program}{w:World}{K:PySem.W.Frag}{base:Heap}{outer:List Env}{H:Hp}{s s':Shared}{G1:Gp}{ev:Value}(ok:HOk P w H s.heap)(hfs:∀b∈frs outer,H b=none)(R1:RepG K G1 H)(h:CXE P w base outer (hidL s.heap H) s (lowE K E) ev s'):
  CXE P w base outer H s (lowE2 K E H G1) ev s':=by
 obtain⟨e,T,C,dx,H',rfl,os,bare,u,ok',tr,⟨hHe,hHT⟩,hen,⟨he0,hT0⟩,x,C',fs,ec,cn,q,dd⟩:=h;obtain⟨u2,ok2⟩:=qgqz ok hfs u ok';obtain⟨_,z2,z3,_⟩:=qliz (G':=noG) (d:=.non) (v:=.non) ok hfs u ok' R1 rfl NoScr.no (by simp[Hv]) (stepL (P:=P) (w:=w) u) (fun _ _ e=>nomatch e);rw[qkyz] at z2 z3;have out:∀b,s.heap.get? b=none->H' b=none->joined H H' b=none:=fun b hb hn=>by
  cases hq:H b with
  |none=>rw[qavz hq];exact hn
  |some o=>
   obtain⟨ob,e'⟩:=ObjOk.there (ok b o hq);rw[hb] at e';cases e'
 refine⟨e,T,C,dx,joined H H',rfl,os,bare,u2,ok2,tr,⟨out _ he0 hHe,out _ hT0 hHT⟩,hen,⟨he0,hT0⟩,⟨x,C',fs,ec,cn,q,?_⟩,z3,z2⟩;rcases dd with⟨d1,d2⟩|⟨d,o,d1,d2⟩
 ·exact .inl ⟨d1,d2⟩
 ·exact .inr ⟨d,o,d1,joinL ok u d2 fun _ u n z=>by cases z;cases n⟩
def toldL(G1:Gp)(Q3:V3):V3:=fun d G'=>noScr d=true/\NoScr G'/\∀G2,Joins G1 G' G2->Q3 d G2
theorem qx2z{pins:List (Addr×Obj)}{σ:L2.St}{H:Hp}{s:Shared}{Q:VK}{G1:Gp}{Q3:V3}{ds:List D}{us:List Value}{vs:List V}{XE:Value->Shared->Prop}(F:FnX X.prog X.w X.K X.mg X.base k f fd ps sp)(hr:Room k X.A)(hb:Binds X.K fd ps [])
  (hx:∀ev s',CXE X.prog X.w X.base X.stack H s (lowE2 X.K E H G1) ev s'->XE ev s')
  (I:Inv X pins σ H s) (r:Vals vs us) (hd:Hvs X.K H ds vs) (R1:RepG X.K G1 H) (h:sp (ds.map (shw G1)) (toldL G1 Q3) E) (kk:∀v H' d G',Hv X.K H' d v->Step H G1 H' G'->RepG X.K G' H'->Q3 d G'->Q v H'):
  wpAny (model X.prog X.w) X.A (call (.ref f) us) (EP X pins σ Q) XE s:=by
 have hq:lowX X.K sp vs (hidL s.heap H) (fun v H'=>∃d G',Hv X.K H' d v/\Step (hidL s.heap H) noG H' G'/\RepG X.K G' H'/\toldL G1 Q3 d G') (lowE X.K E):=
  ⟨ds.map (shw G1),_,E,qx1z I.hok R1 hd,fun a o e=>qlhz e,h,fun v H' d G' a b c q=>⟨d,G',a,b,c,q⟩,fun _ _ _ z=>z⟩
 have hl:(us++[]).length=ps.length:=by rw[List.append_nil,←r.length];exact F.len _ _ _ _ hq
 have e0:Env0 X.prog X.w X.K X.mg X.base X.A X.stack s (hidL s.heap H):=⟨I.ok.frames,I.ok.mod,fun b o e=>⟨(I.bs b o e).1,qcnz (I.bs b o e).2⟩,Nat.le_trans I.ok.bsz I.sz,I.stack,fun b hb=>qcnz (I.stkFree b hb),qxwz I.hok,I.bare⟩;have hb':=hb s us I.kIn hl;rw[List.append_nil] at hb';refine wpAny_call (codeAny_mono (F.run X.A X.stack s (hidL s.heap H) ⟨us,[]⟩ us vs _ (lowE X.K E) hr e0 hb' r hq) fun r s' hq'=>?_);cases r with
 |error e=>exact hx e s' (CXE.hidL I.hok I.stkFree R1 hq')
 |ok fl=>
  cases fl with
  |ret u=>
   obtain⟨v,H',os,bare,un,hok,rv,d,G',a,b,c,q1,q2,q⟩:=hq';obtain⟨un2,ok2⟩:=qgqz I.hok I.stkFree un hok;obtain⟨z1,z2,z3,z4⟩:=qliz I.hok I.stkFree un hok R1 q1 q2 a b c;exact I.after ⟨v,joined H H',os,bare,un2,ok2,rv,kk v _ d _ z1 z2 z3 (q _ z4)⟩
  |next=>exact False.elim hq'
  |brk=>exact False.elim hq'
  |cont=>exact False.elim hq'
def exCallL(sp:SpX)(t:TA3):TEX:=fun KX τ G Q=>t τ G fun ds G1=>sp (ds.map (shw G1)) (toldL G1 Q) (KX τ G1)
theorem qx3z(F:FnX X.prog X.w X.K X.mg X.base k f fd ps sp)(hr:Room k X.A)(hm:X.mg x=some (.ref f))(hk:PySem.W.keepIn X.K (.ref f)=true)(hb:Binds X.K fd ps [])(ha:PA3 X.nox (e::es) t)(hg:Gl X x:=by rfl)
  (hdb:(x==("__debug__":Str))=false:=by decide) (he:notStar e=true:=by rfl) (hpl:es.all notStar=true:=by rfl):
  PEX X (.Call (.Name x p) (e::es) [] pos) (exCallL sp t):=by
 intro pins s σ H Q XE τ G Q3 KX I RS RG h kk xx;refine wpAny_Call_Name_kw (qb3z I hg hm ?_ hdb);refine PySem.W.callWith_K (h₀:=X.base) I.ok.mod.kin hk (wpAny_mono (ha pos pins s σ H (fun vs H1=>∃ds G1,Hvs X.K H1 ds vs/\Step H G H1 G1/\RepG X.K G1 H1/\sp (ds.map (shw G1)) (toldL G1 Q3) (KX τ G1)) (I.wish _)
  ⟨τ,G,_,RS,RG,h,fun vs H1 ds G1 a b c q=>⟨ds,G1,a,b,c,q⟩⟩) (fun us s1 ⟨vs,H1,I1,r,ds,G1,hd,S1,R1,q⟩=>⟨I1.kIn,?_⟩) fun _ _ z=>False.elim z) (qjz he) (qyz hpl)
 exact qx2z F hr hb (fun ev s' h=>xx σ τ H1 s1 G1 ev s' I1.unwish (RS.ext (S1.ext RG)) R1 S1 h) I1.unwish r hd R1 q fun v H' d G' a b c q=>kk v H' d G' a (S1.trans b) c q
end
end L3
namespace L3
open PySem PySem.Spec PyProof.Rows L2
section
variable {X:Cx} {k:Nat} {f:Addr} {fd:FuncData} {ps:List Str} {sp:SpX} {E':E3} {x:Str} {p pos:Pos} {e:Expr} {es:List Expr} {t:TA3}
theorem qx4z(F:FnX X.prog X.w X.K X.mg X.base k f fd ps sp)(hr:Room k X.A)(hm:X.mg x=some (.ref f))(hk:PySem.W.keepIn X.K (.ref f)=true)(hb:Binds X.K fd ps [])(ha:QA X.nox (e::es) t)(hg:Gl X x:=by rfl)
  (hdb:(x==("__debug__":Str))=false:=by decide) (he:notStar e=true:=by rfl) (hpl:es.all notStar=true:=by rfl):QEX X (.Call (.Name x p) (e::es) [] pos) (exCallL sp t):=⟨qx3z F hr hm hk hb ha.of hg hdb he hpl⟩
end
end L3
namespace My
open PySem L2 L3
def Kind(z:Str)(w:Str):Prop:=(z="TooGreat"/\w="great")∨(z="NoPlace"/\w="place")
def qdfz(rs:List Str):Sp3:=fun ds G Q=>∃(p:Addr) (z w:Str) (fs:List (Str×Int)),ds=[.obj p]/\G p=some (.gen (excR z fs))/\z∈rs/\Kind z w/\∀G',Sub G G'->Q (.str w) G'
def qx5z(rs:List Str):TS3:=sRet (eLstIx (aCons (eC (.str "clock")) (aCons (eC (.str "number")) (aCons (eC (.str "place")) (aCons (eC (.str "row")) (aCons (eC (.str "clocks")) (aCons (eC (.str "text")) (aCons (eC (.str "great")) (aNil)))))))) (eM qglz (eVar 1) (aCons (eC (.bl true)) (aNil))))
def qx6z(rs:List Str):TS3:=sSeq (sIf (eOr (eNot (eTest (eIsV rs (eVar 0)))) (eTest (eOp (rEq3 true) (eM qgkz (eVar 1) (aCons (eC (.bl true)) (aNil))) (eC (.int 1))))) (sRet (eC (.str "other"))) (sNext)) (qx5z rs)
def qx7z(rs:List Str):TS3:=sSeq (sAsg (eOp rAdd3 (eVar 1) (eLst (aCons (eIsX rs "NoClocks" (eVar 0)) (aCons (eIsX rs "NoText" (eVar 0)) (aCons (eIsX rs "TooGreat" (eVar 0)) (aNil)))))) (hName 1)) (qx6z rs)
def qljz(rs:List Str):TS3:=sSeq (sAsg (eLst (aCons (eIsX rs "NoClock" (eVar 0)) (aCons (eIsX rs "NoNumber" (eVar 0)) (aCons (eIsX rs "NoPlace" (eVar 0)) (aCons (eIsX rs "NoRow" (eVar 0)) (aNil)))))) (hName 1)) (qx7z rs)
theorem qx8z(rs:List Str):∀ds G Q,qdfz rs ds G Q->qljz rs (endsOf Q) (start3 ["e","marks"] ds) G:=by
 rintro ds G Q ⟨p,z,w,fs,rfl,hp,hr,hk,q⟩;refine⟨_,_,hp,hr,_,_,hp,hr,_,_,hp,hr,_,_,hp,hr,fun p1 G1 n1=>?_⟩;have hp1:=n1.sub _ _ hp;refine⟨_,_,hp1,hr,_,_,hp1,hr,_,_,hp1,hr,fun p2 G2 n2=>?_⟩;have hp2:=n2.sub _ _ hp1;refine⟨_,_,n2.sub _ _ n1.at_,n2.at_,Nat.le_of_ble_eq_true rfl,fun p3 G3 n3=>?_⟩;have hp3:=n3.sub _ _ hp2;have s3:=(n1.sub.trans n2.sub).trans n3.sub;rcases hk with⟨rfl,rfl⟩|⟨rfl,rfl⟩
 ·have e3:G3 p3=some (.lst [.bl false,.bl false,.bl false,.bl false,.bl false,.bl false,.bl true]):=n3.at_;refine⟨_,_,hp3,hr,fun h=>(nomatch h),fun _=>?_⟩;refine⟨⟨p3,_,rfl,e3⟩,_,[false,false,false,false,false,false,true],e3,rfl,_,_,rfl,rfl,Nat.zero_le _,fun h=>absurd h (by decide),fun _=>?_⟩;refine⟨⟨p3,_,rfl,e3⟩,_,[false,false,false,false,false,false,true],6,e3,rfl,rfl,fun i hi=>?_,by decide,.str "great",rfl,qgz (q G3 s3)⟩;have:i=0∨i=1∨i=2∨i=3∨i=4∨i=5:=by omega
  rcases this with rfl|rfl|rfl|rfl|rfl|rfl<;>rfl
 ·have e3:G3 p3=some (.lst [.bl false,.bl false,.bl true,.bl false,.bl false,.bl false,.bl false]):=n3.at_;refine⟨_,_,hp3,hr,fun h=>(nomatch h),fun _=>?_⟩;refine⟨⟨p3,_,rfl,e3⟩,_,[false,false,true,false,false,false,false],e3,rfl,_,_,rfl,rfl,Nat.zero_le _,fun h=>absurd h (by decide),fun _=>?_⟩;refine⟨⟨p3,_,rfl,e3⟩,_,[false,false,true,false,false,false,false],2,e3,rfl,rfl,fun i hi=>?_,by decide,.str "place",rfl,qgz (q G3 s3)⟩;have:i=0∨i=1:=by omega
  rcases this with rfl|rfl<;>rfl
end My
namespace L3
open PySem PySem.Spec PyProof.Rows L2
section
variable {X:Cx} {K:PySem.W.Frag}
abbrev rShl3:R3:=rIC3 CPow fun i j=>.int (i*2^j.toNat)
theorem qx9z:LowR K rShl3 (rI CPow fun i j=>.int (i*2^j.toNat)):=qb5z fun _ _ _=>q3z
abbrev rShr3:R3:=rIC3 (fun _ j=>0≤j) fun i j=>.int (i / 2^j.toNat)
theorem qyaz:LowR K rShr3 (rI (fun _ j=>0≤j) fun i j=>.int (i / 2^j.toNat)):=qb5z fun _ _ _=>q3z
abbrev rAnd3:R3:=rIC3 (fun _ _=>True) fun i j=>.int (Builtin.bitAnd i j)
theorem qybz:LowR K rAnd3 (rI (fun _ _=>True) fun i j=>.int (Builtin.bitAnd i j)):=qb5z fun _ _ _=>q3z
theorem qycz:OpR X (binaryOp .BitAnd) (rI (fun _ _=>True) fun i j=>.int (Builtin.bitAnd i j)):=opI fun _ _ _ _ _ _ _ _ q=>and_int q
end
end L3
namespace My
open PySem L2 L3
def RPl(n:Nat)(d:D):Prop:=∃ns:List Int,d=tupI ns/\(∀x∈ns,0≤x/\x<(n:Int))/\ns.Pairwise (· < ·)
def Short(d:D):Prop:=∀ds,d=.tup ds->ds.length≤1000
def qdgz:Sp3:=fun ds G Q=>∃(cs:List Clk) (d:D),ds=[csD cs,d]/\Known2 G d/\Short d/\∀b,(b=true↔RPl cs.length d)->Q (.bl b) G
abbrev qlkz:=qlez
theorem qllz{n:Nat}:∀{ds:List D},ds.all (placeB n)=true->∃ns:List Int,ds=ns.map D.int/\∀x∈ns,0≤x/\x<(n:Int)
 |[],_=>⟨[],rfl,nofun⟩
 |d::ds,h=>by
  rw[List.all_cons,Bool.and_eq_true] at h;obtain⟨ns,rfl,hn⟩:=qllz h.2;cases d with
  |int i=>
   have h1:(decide (0≤i)&&decide (i<(n:Int)))=true:=h.1;rw[Bool.and_eq_true,decide_eq_true_iff,decide_eq_true_iff] at h1;refine⟨i::ns,rfl,fun x hx=>?_⟩;rcases List.mem_cons.mp hx with rfl|hx
   ·exact h1
   ·exact hn x hx
  |_=>exact absurd h.1 (by simp[placeB])
theorem qlmz:∀{ns:List Int},((ns.zip (ns.drop 1)).all fun p=>decide (p.1<p.2))=true->ns.Pairwise (· < ·)
 |[],_=>.nil
 |[a],_=>List.pairwise_singleton _ _
 |a::b::ns,h=>by
  have h:(decide (a<b)&&(((b::ns).zip ((b::ns).drop 1)).all fun p=>decide (p.1<p.2)))=true:=h;rw[Bool.and_eq_true,decide_eq_true_iff] at h;have ih:=qlmz h.2;refine List.pairwise_cons.mpr ⟨fun x hx=>?_,ih⟩;rcases List.mem_cons.mp hx with rfl|hx
  ·exact h.1
  ·exact Int.lt_trans h.1 ((List.pairwise_cons.mp ih).1 x hx)
theorem qcoz{ms ns:List Int}(h:tupI ms=tupI ns):ms=ns:=by
 have h1:ms.map D.int=ns.map D.int:=by
  unfold tupI at h;exact D.tup.inj h
 exact (List.map_inj_right fun a b e=>D.int.inj e).mp h1
theorem qydz:∀ds G Q,qdgz ds G Q->qlkz (endsOf Q) (start3 ["things","thing"] ds) G:=by
 rintro ds G Q ⟨cs,d,rfl,hk,hs,q⟩;have not_tup:(∀ds,d≠.tup ds)->qlez (endsOf Q) (start3 ["things","thing"] [csD cs,d]) G:=by
  intro hn;show match instD "tuple" G d with
   |some b=>_
   |none=>False
  rw[qerz hk hn];exact⟨fun _=>⟨fun _=>qgz (q false ⟨nofun,fun⟨ns,e,_⟩=>absurd e (hn _)⟩),nofun⟩,nofun⟩
 cases d with
 |tup ds=>
  have hl:=hs ds rfl;refine⟨nofun,fun _=>⟨line1000 hl,qknz (js:=[0]) (τ:=[some (csD cs),some (.tup ds)]) (f:=placeB cs.length) hl (fun x hx y K k=>⟨cs,x,rfl,hk x hx,k⟩) fun p1 G1 n1=>⟨_,_,n1.at_,qcfz _ _,?_⟩⟩⟩;rw[all_map];refine⟨fun h=>?_,fun h=>?_⟩
  ·have h':(!(ds.all (placeB cs.length)))=true:=h;refine qblz n1.sub (q false ⟨nofun,fun⟨ns,e,hb,_⟩=>?_⟩);have e':ds=ns.map D.int:=D.tup.inj e;have:ds.all (placeB cs.length)=true:=by
    rw[e',List.all_map];refine List.all_eq_true.mpr fun x hx=>?_;show (decide (0≤x)&&decide (x<(cs.length:Nat)))=true;rw[decide_eq_true (hb x hx).1,decide_eq_true (hb x hx).2];rfl
   rw[this] at h';cases h'
  ·have h':(!(ds.all (placeB cs.length)))=false:=h;obtain⟨ps,rfl,hb⟩:=qllz (by simpa using h');have hcut:cut3 (ps.map D.int) (some 1) none=(ps.drop 1).map D.int:=by
    rw[qenz,show (some (1:Int))=some ((1:Nat):Int) from rfl,qt9z]
   rw[List.length_map] at hl;refine⟨_,_,rfl,rfl,?_⟩;rw[hcut];rw[qggz D.int D.int];refine⟨?_,?_⟩
   ·show ((ps.zip (ps.drop 1)).map _).length≤sizeLine;rw[List.length_map,List.length_zip];exact line1000 (by omega)
   refine qabz (fun τ=>∃x y,τ=[x,y]) (fun p:Int×Int=>D.tup [D.int p.1,D.int p.2]) (fun _=>true) (fun p=>.bl (decide (p.1<p.2))) (G:=G1) ⟨rfl,rfl⟩ (ps.zip (ps.drop 1)) [] _ ⟨none,none,rfl⟩ ?_ ?_
   ·rintro⟨a,b⟩ hm τ K1 K2 ⟨x,y,rfl⟩ h1 h2;exact⟨rfl,fun _=>h1 rfl _ ⟨_,_,rfl⟩,nofun⟩
   ·intro p2 G2 n2;rw[filter_all,List.nil_append] at n2;refine⟨_,_,n2.at_,qcfz _ _,?_⟩;rw[all_map];refine qblz (n1.sub.trans n2.sub) (q _ ⟨fun h=>⟨ps,rfl,hb,qlmz h⟩,fun⟨ns,e,_,hp⟩=>?_⟩);rw[qcoz e];exact qxqz hp
 |_=>exact not_tup nofun
structure Cl12(cs:List Clk):Prop where
 ok:ClOk 1000 cs
 r:Rise cs
 l:cs.length≤12
theorem Cl12.v{cs:List Clk}(h:Cl12 cs):∀z∈cs,Valid z:=fun z hz=>(h.ok z hz).1
def JoinT(cs:List Clk)(d:D)(T:List Clk->Prop)(B:Prop):Prop:=
 ((∀ps∈rawJ cs,d≠tupI ps)->B)/\∀(c:Clk) (k:Nat),c∈cs->2≤k->k≤cs.length->jnB cs c k=true->d=tupI (jnP cs c k) ->
  ∀us,(∀z,z∈us↔(z∈cs/\z∉parts (whF c k) k)∨z=whF c k)->Rise us->us.length≤cs.length->T us
def qdhz:SpX:=fun ds Q E=>∃(cs:List Clk) (d:D),ds=[csD cs,d]/\Cl12 cs/\Known2 noG d/\Short d/\JoinT cs d (fun us=>Q (csD us) noG) (E "NoPlace" [])
def qyez(E:E3):TS3:=sRet (eCall qchz (aCons (eOp rAdd3 (eVar 3) (eLst (aCons (eVar 2) (aNil)))) (aNil)))
def qyfz(E:E3):TS3:=sSeq (sAsg (eComp ["place","clock"] [1] (iEnum (aCons (eVar 0) (aNil))) (hTup 2 (hCons (hName 0) (hCons (hName 1) (hNil)))) (eTest (eOp (rIn3 true) (eVar 0) (eVar 2))) (eVar 1)) (hName 3)) (qyez E)
def qygz(E:E3):TS3:=sSeq (sAsg (eCall qckz (aCons (eOp rIx3 (eVar 0) (eOp rIx3 (eVar 1) (eC (.int 0)))) (aCons (eCB q1z (aCons (eVar 1) (aNil))) (aNil)))) (hName 2)) (qyfz E)
def qlnz(E:E3):TS3:=sSeq (sIf (eOr (eNot (eTest (eCall qdgz (aCons (eVar 0) (aCons (eVar 1) (aNil)))))) (eTest (eOp (rIn3 true) (eVar 1) (eCall qclz (aCons (eVar 0) (aNil)))))) (sRaise0 "NoPlace" E) (sNext)) (qygz E)
theorem qgrz{cs:List Clk}{c:Clk}{k:Nat}(cl:Cl12 cs)(hc:c∈cs)(h2:2≤k)(hB:jnB cs c k=true):RPl cs.length (tupI (jnP cs c k)):=by
 obtain⟨f1,f2,f3⟩:=qbcz cl.v (cl.v c hc) h2 hB;refine⟨_,rfl,fun x hx=>?_,qw3z cl.r f2 f3⟩;obtain⟨z,hz,rfl⟩:=List.mem_map.mp hx;have:=(qanz (f3 z hz)).1;omega
theorem qyhz:∀ds Q E,qdhz ds Q E->qlnz E (endsOf Q) (start3 ["clocks","places","whole","others"] ds) noG:=by
 rintro ds Q E ⟨cs,d,rfl,cl,hk,hs,q1,q2⟩;have nd:=qbbz cl.r;have hl:=cl.l;refine⟨cs,d,rfl,hk,hs,fun b hb=>⟨fun h=>?_,fun h=>?_⟩⟩
 ·have h':(!b)=true:=h;refine⟨fun _=>q1 fun ps hps e=>?_,nofun⟩;obtain⟨c,hc,k,hk2,hB,rfl⟩:=raw_mem.mp hps;rw[hb.mpr (e▸qgrz cl hc hk2.1 hB)] at h';cases h'
 ·have h':(!b)=false:=h;obtain⟨ns,rfl,hn,hr⟩:=hb.mp (by simpa using h');refine⟨cs,rfl,cl.ok,cl.r,hl,fun p1 js G1 hp hrl n1=>qxoz n1.at_ ?_⟩;by_cases hin:ns∈js
  ·rw[decide_eq_true hin];obtain⟨c,hc,k,hk2,hB,rfl⟩:=raw_mem.mp (hp.mem_iff.mp hin);obtain⟨f1,f2,f3⟩:=qbcz cl.v (cl.v c hc) hk2.1 hB;have hlen:(jnP cs c k).length=k:=qcmz;have hix:=qanz hc;refine⟨nofun,fun _=>?_⟩;have h0:=qddz (cs:=cs) (by omega) f1;refine⟨.int ((cs.idxOf c:Nat):Int),qbpz (j:=0) (by rw[List.getElem?_map,h0];rfl),cD c,qbpz (by rw[List.getElem?_map,hix.2];rfl),c,k,?_,by omega,by omega,?_⟩
   ·show [cD c,D.int ((((jnP cs c k).map D.int).length:Nat):Int)]=_;rw[List.length_map,hlen]
   refine qxuz (x1:=.non) hl n1.sub fun us G2 s2 hm hru hlu=>?_;have hq:=q2 c k hc hk2.1 hk2.2 hB rfl us (fun z=>?_) hru ?_
   ·exact qblz (qwbz _) hq
   ·rw[hm,List.mem_append,List.mem_singleton,qlfz];constructor
    ·rintro (⟨i,hi,hn⟩|e)
     ·exact .inl ⟨List.mem_of_getElem? hi,fun h=>hn ((qewz nd f3 hi).mpr h)⟩
     ·exact .inr e
    ·rintro (⟨h1,h2⟩|e)
     ·obtain⟨i,hi⟩:=List.getElem?_of_mem h1;exact .inl ⟨i,hi,fun h=>h2 ((qewz nd f3 hi).mp h)⟩
     ·exact .inr e
   ·have:=qxtz hix.2 (ps:=jnP cs c k) (List.mem_of_getElem? h0);rw[List.length_append] at hlu;simp at hlu;omega
  ·rw[decide_eq_false hin];refine⟨fun _=>q1 fun ps hps e=>?_,nofun⟩;rw[qcoz e] at hin;exact hin (hp.mem_iff.mpr hps)
end My
namespace My
open PySem L2 L3
theorem qloz:∀{x y:List Int},SortV.lx x y=false->SortV.lx y x=false->x=y
 |[],[],_,_=>rfl
 |[],_::_,h,_=>by cases h
 |_::_,[],_,h=>by cases h
 |a::as,b::bs,h,h'=>by
  rw[SortV.lx] at h h';by_cases e:a=b
  ·rw[if_pos e] at h;rw[if_pos e.symm] at h';rw[e,qloz h h']
  ·rw[if_neg e] at h;rw[if_neg fun z=>e z.symm] at h';have h1:=of_decide_eq_false h;have h2:=of_decide_eq_false h';omega
theorem qlpz:∀{as bs:List (List Int)},as.Perm bs->RiseL as->RiseL bs->as=bs
 |[],bs,p,_,_=>(List.nil_perm.mp p).symm
 |a::as,[],p,_,_=>absurd p.length_eq (by simp)
 |a::as,b::bs,p,ha,hb=>by
  have ha':=List.pairwise_cons.mp ha;have hb':=List.pairwise_cons.mp hb;have hab:a=b:=by
   have m1:a∈b::bs:=p.mem_iff.mp List.mem_cons_self;have m2:b∈a::as:=p.mem_iff.mpr List.mem_cons_self;rcases List.mem_cons.mp m1 with h|h
   ·exact h
   ·rcases List.mem_cons.mp m2 with h2|h2
    ·exact h2.symm
    ·exact qloz (hb'.1 _ h) (ha'.1 _ h2)
  subst hab;rw[qlpz (List.Perm.cons_inv p) ha'.2 hb'.2]
theorem qyiz{as bs:List Int}(ha:as.Pairwise (· < ·))(hb:bs.Pairwise (· < ·))(h:∀z,z∈as↔z∈bs):as=bs:=by
 induction as generalizing bs with
 |nil=>cases bs with
  |nil=>rfl
  |cons b bs=>exact absurd ((h b).mpr List.mem_cons_self) (by simp)
 |cons a as ih=>cases bs with
  |nil=>exact absurd ((h a).mp List.mem_cons_self) (by simp)
  |cons b bs=>
   have ha':=List.pairwise_cons.mp ha;have hb':=List.pairwise_cons.mp hb;have e:a=b:=by
    rcases List.mem_cons.mp ((h a).mp List.mem_cons_self) with e|e
    ·exact e
    ·rcases List.mem_cons.mp ((h b).mpr List.mem_cons_self) with e2|e2
     ·exact e2.symm
     ·have h1:=hb'.1 a e;have h2:=ha'.1 b e2;omega
   subst e;rw[ih ha'.2 hb'.2 fun z=>?_];constructor
   ·intro hz;rcases List.mem_cons.mp ((h z).mp (List.mem_cons_of_mem _ hz)) with e|e
    ·have:=ha'.1 z hz;omega
    ·exact e
   ·intro hz;rcases List.mem_cons.mp ((h z).mpr (List.mem_cons_of_mem _ hz)) with e|e
    ·have:=hb'.1 z hz;omega
    ·exact e
def subN(n m:Nat):List Nat:=(List.range n).filter fun i=>m.testBit i
def subI(n m:Nat):List Int:=(subN n m).map fun i:Nat=>(i:Int)
theorem qlqz(m i:Nat):(Builtin.bitAnd ((m:Int) / 2^i) 1==1)=m.testBit i:=by
 rw[PyProof.Rows.bitAnd_m1,Nat.testBit_eq_decide_div_mod_eq,show ((m:Int) / 2^i)%2=((m / 2^i%2:Nat):Int) by simp,Bool.eq_iff_iff,beq_iff_eq,decide_eq_true_iff];omega
theorem qyjz(n:Nat):∀p:Nat->Bool,∃m,m<2^n/\∀i,i<n->m.testBit i=p i:=by
 induction n with
 |zero=>exact fun p=>⟨0,by decide,fun i hi=>absurd hi (by omega)⟩
 |succ n ih=>
  intro p;obtain⟨m,h1,h2⟩:=ih fun i=>p (i+1);have hb:(p 0).toNat≤1:=by cases p 0<;>decide
  refine⟨m*2+(p 0).toNat,by rw[Nat.pow_succ];omega,fun i hi=>?_⟩;cases i with
  |zero=>
   rw[Nat.testBit_zero,show (m*2+(p 0).toNat)%2=(p 0).toNat by omega];cases p 0<;>rfl
  |succ i=>
   rw[Nat.testBit_succ,show (m*2+(p 0).toNat) / 2=m by omega];exact h2 i (by omega)
theorem sub_mem2{n m i:Nat}:i∈subN n m↔i<n/\m.testBit i=true:=by
 unfold subN;rw[List.mem_filter,List.mem_range]
theorem qgsz{n m:Nat}{x:Int}:x∈subI n m↔∃i:Nat,x=(i:Int)/\i<n/\m.testBit i=true:=by
 unfold subI;rw[List.mem_map];constructor
 ·rintro⟨i,hi,rfl⟩;exact⟨i,rfl,sub_mem2.mp hi⟩
 ·rintro⟨i,rfl,hi⟩;exact⟨i,sub_mem2.mpr hi,rfl⟩
theorem sub_len(n m:Nat):(subN n m).length≤n:=Nat.le_trans (List.length_filter_le _ _) (by rw[List.length_range];exact Nat.le_refl _)
theorem qykz(n m:Nat):(subI n m).Pairwise (· < ·):=by
 unfold subI subN;rw[List.pairwise_map];exact (List.pairwise_lt_range.filter _).imp fun {a b} h=>by omega
theorem qylz{n m m':Nat}(h:m<2^n)(h':m' < 2^n)(e:subI n m=subI n m'):m=m':=by
 refine Nat.eq_of_testBit_eq fun i=>?_;by_cases hi:i<n
 ·have key:((i:Nat):Int)∈subI n m↔((i:Nat):Int)∈subI n m':=by rw[e]
  rw[qgsz,qgsz] at key;rw[Bool.eq_iff_iff];constructor
  ·intro h1;obtain⟨j,e1,_,h2⟩:=key.mp ⟨i,rfl,hi,h1⟩;rw[show i=j by omega];exact h2
  ·intro h1;obtain⟨j,e1,_,h2⟩:=key.mpr ⟨i,rfl,hi,h1⟩;rw[show i=j by omega];exact h2
 ·have hp:2^n≤2^i:=Nat.pow_le_pow_right (by decide) (by omega);rw[Nat.testBit_lt_two_pow (Nat.lt_of_lt_of_le h hp),Nat.testBit_lt_two_pow (Nat.lt_of_lt_of_le h' hp)]
theorem qymz{n:Nat}{ps:List Int}(h:∀x∈ps,0≤x/\x<(n:Int))(hr:ps.Pairwise (· < ·)):∃m,m<2^n/\subI n m=ps:=by
 obtain⟨m,h1,h2⟩:=qyjz n fun i=>decide (((i:Nat):Int)∈ps);refine⟨m,h1,qyiz (qykz n m) hr fun z=>?_⟩;rw[qgsz];constructor
 ·rintro⟨i,rfl,hi,hb⟩;rw[h2 i hi] at hb;exact of_decide_eq_true hb
 ·intro hz;have hb:=h z hz;refine⟨z.toNat,by omega,by omega,?_⟩;rw[h2 _ (by omega),Int.toNat_of_nonneg hb.1];exact decide_eq_true hz
def dueL(cs:List Clk)(ms:List Nat):List (List Int):=(ms.map (subI cs.length)).filter fun ps=>decide (ps∈rawJ cs)
theorem qynz{cs:List Clk}(cl:Cl12 cs){ps:List Int}(h:ps∈rawJ cs):(∀x∈ps,0≤x/\x<(cs.length:Int))/\ps.Pairwise (· < ·):=by
 obtain⟨c,hc,k,hk,hB,rfl⟩:=raw_mem.mp h;obtain⟨ns,e,h1,h2⟩:=qgrz cl hc hk.1 hB;rw[qcoz e];exact⟨h1,h2⟩
theorem qyoz{cs:List Clk}(cl:Cl12 cs):(rawJ cs).Nodup:=by
 have nd:=qbbz cl.r;unfold rawJ;show List.Pairwise _ _;rw[List.pairwise_flatMap];constructor
 ·intro c hc;rw[List.pairwise_map];have h1:(twos (cs.length-1)).Nodup:=by
   unfold twos;exact List.pairwise_map.mpr (List.nodup_range.imp fun {a b} h e=>h (by omega))
  refine List.Pairwise.imp (fun {a b} h e=>h ?_) (h1.filter _);have:=congrArg List.length e;rw[qcmz,qcmz] at this;exact this
 ·refine List.Pairwise.imp_of_mem (fun {a b} ha hb hab x hx y hy e=>?_) nd;subst e;obtain⟨k,hk,rfl⟩:=List.mem_map.mp hx;obtain⟨k',hk',e'⟩:=List.mem_map.mp hy;obtain⟨k1,k2⟩:=List.mem_filter.mp hk;obtain⟨k3,k4⟩:=List.mem_filter.mp hk';have k5:=(twos_mem.mp k1).1;have k6:=(twos_mem.mp k3).1;have z1:=qddz (cs:=cs) (by omega) (qbcz cl.v (cl.v a ha) k5 k2).1;have z2:=qddz (cs:=cs) (by omega) (qbcz cl.v (cl.v b hb) k6 k4).1;rw[e',z1] at z2;have z3:((cs.idxOf a:Nat):Int)=((cs.idxOf b:Nat):Int):=Option.some.inj z2;have z4:cs.idxOf a=cs.idxOf b:=by omega
  have a2:=(qanz ha).2;rw[z4,(qanz hb).2] at a2;exact hab (Option.some.inj a2).symm
theorem qlrz{cs:List Clk}(cl:Cl12 cs):(dueL cs (List.range (2^cs.length))).Perm (rawJ cs):=by
 refine (List.perm_ext_iff_of_nodup ?_ (qyoz cl)).mpr fun ps=>?_
 ·unfold dueL;refine List.Pairwise.filter _ ?_;rw[List.pairwise_map];exact List.Pairwise.imp_of_mem (fun {a b} ha hb h e=>h (qylz (List.mem_range.mp ha) (List.mem_range.mp hb) e)) List.nodup_range
 ·unfold dueL;rw[List.mem_filter,decide_eq_true_iff];constructor
  ·exact fun h=>h.2
  ·intro h;obtain⟨h1,h2⟩:=qynz cl h;obtain⟨m,hm,e⟩:=qymz h1 h2;exact⟨List.mem_map.mpr ⟨m,List.mem_range.mpr hm,e⟩,h⟩
def whO(ss:List Clk):Option Clk:=match ss with
 |[]=>none
 |c::_=>if c.1%(ss.length:Int)=0/\c.2<c.1 / (ss.length:Int)/\parts (whF c ss.length) ss.length=ss then some (whF c ss.length) else none
def atC(cs:List Clk)(i:Nat):Clk:=(cs[i]?).getD (1,0)
theorem qeyz{cs:List Clk}{i:Nat}(h:i<cs.length):cs[i]?=some (atC cs i):=by
 unfold atC;rw[List.getElem?_eq_getElem h];rfl
theorem qlsz{cs:List Clk}(cl:Cl12 cs){is:List Nat}{w:Clk}(h2:2≤is.length)(hn:is.length≤cs.length)(hi:∀i∈is,i<cs.length)(h:whO (is.map (atC cs))=some w):
  ∃c k,c∈cs/\(2≤k/\k≤cs.length)/\jnB cs c k=true/\(is.map fun i:Nat=>(i:Int))=jnP cs c k/\w=whF c k:=by
 have nd:=qbbz cl.r;have hm:∀z∈is.map (atC cs),z∈cs:=fun z hz=>by
  obtain⟨i,h3,rfl⟩:=List.mem_map.mp hz;exact List.mem_of_getElem? (qeyz (hi i h3))
 have hl:(is.map (atC cs)).length=is.length:=List.length_map ..;cases e:is.map (atC cs) with
 |nil=>
  rw[e] at hl;simp at hl;omega
 |cons c ss=>
  rw[e] at h hl hm;unfold whO at h;simp only at h;split at h
  ·rename_i hc;rw[hl] at hc h;obtain⟨c1,c2,c3⟩:=hc;refine⟨c,is.length,hm c List.mem_cons_self,⟨h2,hn⟩,?_,?_,(Option.some.inj h).symm⟩
   ·unfold jnB;rw[Bool.and_eq_true,c3];exact⟨decide_eq_true c1,List.all_eq_true.mpr fun z hz=>decide_eq_true (hm z hz)⟩
   ·unfold jnP;rw[c3,←e,List.map_map];refine List.map_congr_left fun i h3=>?_;show (i:Int)=((cs.idxOf (atC cs i):Nat):Int);rw[qk6z nd (qeyz (hi i h3))]
  ·cases h
theorem qypz{cs:List Clk}(cl:Cl12 cs){is:List Nat}{c:Clk}{k:Nat}(hc:c∈cs)(h2:2≤k)(hB:jnB cs c k=true)(e:(is.map fun i:Nat=>(i:Int))=jnP cs c k):is.map (atC cs)=parts (whF c k) k/\whO (is.map (atC cs))=some (whF c k):=by
 obtain⟨f1,f2,f3⟩:=qbcz cl.v (cl.v c hc) h2 hB;have e1:is=(parts (whF c k) k).map fun z=>cs.idxOf z:=by
  unfold jnP at e;have:(is.map fun i:Nat=>(i:Int))=((parts (whF c k) k).map fun z=>cs.idxOf z).map fun i:Nat=>(i:Int):=by
   rw[e,List.map_map];rfl
  exact (List.map_inj_right fun a b h=>by omega).mp this
 have e2:is.map (atC cs)=parts (whF c k) k:=by
  rw[e1,List.map_map];refine (List.map_congr_left fun z hz=>?_).trans (List.map_id _);show atC cs (cs.idxOf z)=z;unfold atC;rw[(qanz (f3 z hz)).2];rfl
 refine⟨e2,?_⟩;rw[e2];have h0:(parts (whF c k) k)[0]?=some c:=by
  unfold parts;rw[List.getElem?_map,List.getElem?_range (by omega)];show some ((whF c k).1*(k:Int),c.2+(whF c k).1*((0:Nat):Int))=_;rw[f1];simp
 have hl:=qa9z (whF c k) k;cases ep:parts (whF c k) k with
 |nil=>
  rw[ep] at hl;simp at hl;omega
 |cons a as=>
  rw[ep] at h0 hl;have ea:a=c:=by simpa using h0
  subst ea;unfold whO;simp only;rw[hl,ep,if_pos];refine⟨?_,f2.2.2,rfl⟩;unfold jnB at hB;rw[Bool.and_eq_true,decide_eq_true_iff] at hB;exact hB.1
theorem qyqz{cs:List Clk}{is:List Nat}(cl:Cl12 cs)(hl:is.length≤cs.length)(hi:∀i∈is,i<cs.length)(h2:2≤is.length):(whO (is.map (atC cs))=none↔(is.map fun i:Nat=>(i:Int))∉rawJ cs):=by
 constructor
 ·intro h hr;obtain⟨c,hc,k,hk,hB,e⟩:=raw_mem.mp hr;rw[(qypz cl hc hk.1 hB e).2] at h;cases h
 ·intro h;cases e:whO (is.map (atC cs)) with
  |none=>rfl
  |some w=>
   obtain⟨c,k,hc,hk,hB,e2,_⟩:=qlsz cl h2 hl hi e;exact absurd (raw_mem.mpr ⟨c,hc,k,hk,hB,e2⟩) h
theorem qyrz{cs:List Clk}{ps:List Int}(h:ps∈rawJ cs):2≤ps.length:=by
 obtain⟨c,hc,k,hk,hB,rfl⟩:=raw_mem.mp h;rw[qcmz];exact hk.1
end My
namespace My
open PySem L2 L3
def oC:Option Clk->D
 |none=>.non
 |some c=>cD c
def qdiz:Sp3:=fun ds G Q=>∃(p:Addr) (ss:List Clk),ds=[.obj p]/\G p=some (.lst (ss.map cD))/\1≤ss.length/\ss.length≤1000/\(∀z∈ss,Valid z/\z.1≤1000)/\∀G',Sub G G'->Q (oC (whO ss)) G'
def qysz:TS3:=sRet (eTup (aCons (eOp rDiv3 (eVar 2) (eVar 1)) (aCons (eVar 3) (aNil))))
def qytz:TS3:=sSeq (sIf (eOr (eTest (eOp (rEq3 true) (eOp rMod3 (eVar 2) (eVar 1)) (eC (.int 0)))) (eOr (eTest (eOp rGe3 (eVar 3) (eOp rDiv3 (eVar 2) (eVar 1)))) (eTest (eOp (rEq3 true) (eCall qc8z (aCons (eTup (aCons (eOp rDiv3 (eVar 2) (eVar 1)) (aCons (eVar 3) (aNil)))) (aCons (eVar 1) (aNil)))) (eCB qd2z (aCons (eVar 0) (aNil))))))) (sRet (eC .non)) (sNext)) qysz
def qyuz:TS3:=sSeq (sAsg (eOp rIx3 (eVar 0) (eC (.int 0))) (hTup 2 (hCons (hName 2) (hCons (hName 3) (hNil))))) qytz
def qltz:TS3:=sSeq (sAsg (eCB q1z (aCons (eVar 0) (aNil))) (hName 1)) qyuz
theorem qyvz:∀ds G Q,qdiz ds G Q->qltz (endsOf Q) (start3 ["some","k","step","rest"] ds) G:=by
 rintro ds G Q ⟨p,ss,rfl,hp,h1,hl,hv,q⟩;cases ss with
 |nil=>simp at h1
 |cons c ss=>
  obtain⟨hc,hc2⟩:=hv c List.mem_cons_self;have c0:=hc.1;have hlm:((c::ss).map cD).length=(c::ss).length:=List.length_map ..;refine⟨_,hp,_,cD c,hp,qbpz (j:=0) rfl,rfl,?_⟩;rw[hlm];have q':=q;unfold whO at q';simp only at q';generalize hk:(c::ss).length=k at *;have k0:(0:Int)<(k:Int):=by omega
  have kb:Big (k:Int):=qqz (by omega) (by omega);have d1:c.1 / (k:Int)≤c.1:=Int.ediv_le_self _ (by omega);have d2:0≤c.1 / (k:Int):=Int.ediv_nonneg (by omega) (by omega);refine⟨k0,_,_,rfl,rfl,Nat.zero_le _,fun h=>?_,fun h=>?_⟩
  ·have h':(!(c.1%(k:Int)==0))=true:=h;rw[if_neg fun z=>by rw[z.1] at h';cases h'] at q';exact⟨fun _=>qgz (q' G (Sub.refl _)),nofun⟩
  have h':(!(c.1%(k:Int)==0))=false:=h;have e1:c.1%(k:Int)=0:=by simpa using h'
  refine⟨⟨k0,kb⟩,fun h=>?_,fun h=>?_⟩
  ·have h':c.1 / (k:Int)≤c.2:=of_decide_eq_true h;rw[if_neg fun z=>by have:=z.2.1;omega] at q';exact⟨fun _=>qgz (q' G (Sub.refl _)),nofun⟩
  have h2:¬c.1 / (k:Int)≤c.2:=of_decide_eq_false h;refine⟨⟨k0,kb⟩,whF c k,k,rfl,by omega,qqz (by show -10^80<c.1 / (k:Int);omega) (by show c.1 / (k:Int)<10^80;omega),fun p1 G1 n1=>⟨_,n1.sub _ _ hp,fun p2 G2 n2=>?_⟩⟩;refine⟨_,_,qbzz (n2.sub _ _ n1.at_) (qcdz _),qbzz n2.at_ (qcdz _),qj5z _,fun h=>?_,fun h=>?_⟩
  ·have h':(!((Dat.D.lst ((parts (whF c k) k).map cX)).eqb (.lst ((c::ss).map cX))))=true:=h;rw[qkiz] at h';rw[if_neg fun z=>by rw[decide_eq_true z.2.2] at h';cases h'] at q';exact qgz (q' _ (n1.sub.trans n2.sub))
  ·have h':(!((Dat.D.lst ((parts (whF c k) k).map cX)).eqb (.lst ((c::ss).map cX))))=false:=h;rw[qkiz] at h';have e3:parts (whF c k) k=c::ss:=by simpa using h'
   rw[if_pos ⟨e1,by omega,e3⟩] at q';exact⟨⟨k0,kb⟩,qgz (q' _ (n1.sub.trans n2.sub))⟩
theorem qluz:∀cs:List Clk,noScrs (cs.map cD)=true
 |[]=>rfl
 |c::cs=>by
  show (noScr (cD c)&&noScrs (cs.map cD))=true;rw[qluz cs];rfl
def qcpz:Sp3:=fun ds G Q=>∃(cs:List Clk) (d:D),ds=[csD cs,d]/\Cl12 cs/\Known2 noG (shw G d)/\Short (shw G d)/\∀G',Sub G G'->JoinT cs (shw G d) (fun us=>Q (.tup [.str "told",csD us]) G') (Q (.tup [.str "place",.non]) G')
def qywz(rs:List Str):TS3:=sRet (eTup (aCons (eCall (qdfz rs) (aCons (eVar 2) (aNil))) (aCons (eC .non) (aNil))))
def qlvz(rs:List Str):TS3:=sTry rs 2 (sxRet (fun KX=>eTup ((axCons (fun _=>eC (.str "told")) (axCons (exCallL qdhz (aCons (eVar 0) (aCons (eVar 1) (aNil)))) ((fun _=>aNil)))) KX))) (qywz rs) (sNext)
theorem qyxz:∀ds G Q,qcpz ds G Q->qlvz ["NoPlace"] (endsOf Q) (start3 ["clocks","thing","e"] ds) G:=by
 rintro ds G Q ⟨cs,d,rfl,cl,hk,hs,q⟩;refine⟨cs,shw G d,rfl,cl,hk,hs,fun h=>⟨by simp,fun p G2 n=>?_⟩,fun c k hc h2 hkl hB e us hm hr hl=>⟨?_,NoScr.no,fun G2 j=>qgz ((q G2 j.old).2 c k hc h2 hkl hB e us hm hr hl)⟩⟩
 ·exact⟨p,_,_,_,rfl,n.at_,by simp,.inr ⟨rfl,rfl⟩,fun G3 s3=>qgz ((q G3 (n.sub.trans s3)).1 h)⟩
 ·show noScr (.tup (us.map cD))=true;unfold noScr;exact qluz us
end My
namespace My
open PySem L2 L3
def qdjz:Sp3:=qkjz
def qyyz:TS3:=sRet (eAndV (eInRng2 false (eOp rIx3 (eVar 0) (eC (.int 0))) (aCons (eC (.int 1)) (aCons (eC (.int 1001)) (aNil)))) (eInRng1 false (eOp rIx3 (eVar 0) (eC (.int 1))) (aCons (eOp rIx3 (eVar 0) (eC (.int 0))) (aNil))))
def qgtz:TS3:=sSeq (sIf (eOr (eNot (eTest (eInst "tuple" (eVar 0)))) (eOr (eTest (eOp (rEq3 true) (eCB q1z (aCons (eVar 0) (aNil))) (eC (.int 2)))) (eOr (eNot (eTest (eCall qc4z (aCons (eOp rIx3 (eVar 0) (eC (.int 0))) (aNil))))) (eNot (eTest (eCall qc4z (aCons (eOp rIx3 (eVar 0) (eC (.int 1))) (aNil)))))))) (sRet (eC (.bl false))) (sNext)) qyyz
theorem qlwz(s r:Int):clkV s r=(inB false 1 1001 s&&inB false 0 s r):=by
 show ((decide (1≤s)&&decide (s≤1000))&&(decide (0≤r)&&decide (r<s)))=((decide (1≤s)&&decide (s<1001))&&(decide (0≤r)&&decide (r<s)));rw[show decide (s≤1000)=decide (s<1001) from decide_eq_decide.mpr (by omega)]
theorem qyzz:∀ds G Q,qdjz ds G Q->qgtz (endsOf Q) (start3 ["thing"] ds) G:=by
 rintro ds G Q ⟨d,rfl,hk,q⟩;have not_tup:(∀ds,d≠.tup ds)->qgtz (endsOf Q) (start3 ["thing"] [d]) G:=by
  intro hn;have e:clkB d=false:=by
   cases d with
   |tup ds=>exact absurd rfl (hn ds)
   |_=>rfl
  rw[e] at q;show match instD "tuple" G d with
   |some b=>_
   |none=>False
  rw[qerz hk.known2 hn];exact⟨fun _=>⟨fun _=>qgz q,nofun⟩,nofun⟩
 cases d with
 |tup ds=>
  refine⟨nofun,fun _=>⟨_,_,rfl,rfl,Nat.zero_le _,?_⟩⟩;rcases ds with _|⟨a,_|⟨b,_|⟨c,ds⟩⟩⟩
  ·exact⟨fun _=>⟨fun _=>qgz q,nofun⟩,nofun⟩
  ·rw[qesz (by simp)] at q;exact⟨fun _=>⟨fun _=>qgz q,nofun⟩,nofun⟩
  ·refine⟨nofun,fun _=>⟨a,rfl,(hk.el (by simp)).known,?_⟩⟩;have hb:Known G b:=(hk.el (by simp)).known;cases a with
   |int s=>
    refine⟨nofun,fun _=>⟨b,rfl,hb,?_⟩⟩;cases b with
    |int r=>
     have fin:∀v,clkV s r=v->(endsOf Q).rt (.bl v) G:=fun v e=>by
      rw[←e];exact qgz q
     refine⟨nofun,fun _=>⟨_,rfl,⟨fun h1=>⟨_,rfl,_,rfl,fin _ ?_⟩,fun h1=>fin _ ?_⟩⟩⟩
     ·rw[qlwz,h1];rfl
     ·rw[qlwz,h1];rfl
    |_=>exact⟨fun _=>qgz q,nofun⟩
   |_=>exact⟨fun _=>⟨fun _=>qgz q,nofun⟩,nofun⟩
  ·refine⟨fun _=>?_,fun h=>?_⟩
   ·rw[qesz (by simp)] at q;exact⟨fun _=>qgz q,nofun⟩
   have h':(!(((ds.length+1+1+1:Nat):Int)==2))=false:=h;simp at h';omega
 |_=>exact not_tup nofun
def adjP(cs:List Clk)(k:Nat):Bool:=match cs[k]?,cs[k+1]? with
 |some a,some b=>ltC (a,b)
 |_,_=>false
theorem qlxz:∀cs:List Clk,adjA cs=(List.range (cs.length-1)).all (adjP cs)
 |[]=>rfl
 |[c]=>rfl
 |a::b::cs=>by
  have ih:=qlxz (b::cs);show (ltC (a,b)&&adjA (b::cs))=_;rw[ih];show _=(List.range (cs.length+1)).all (adjP (a::b::cs));rw[List.range_succ_eq_map,List.all_cons,List.all_map];rfl
theorem rng1(n:Nat):rngL 1 n=(List.range n).map fun k=>nD (k+1):=by
 unfold rngL;refine List.map_congr_left fun k _=>?_;show D.int (1+(k:Int))=D.int ((k+1:Nat):Int);rw[show (1:Int)+(k:Int)=((k+1:Nat):Int) by omega]
def qdkz:Sp3:=qusz
def qy0z:TS3:=sRet (eCB qbiz (aCons (eComp ["k"] [0] (iRng2 (aCons (eC (.int 1)) (aCons (eCB q1z (aCons (eVar 0) (aNil))) (aNil)))) (hName 0) (tNoTest3) (eOp rLtT3 (eOp rIx3 (eVar 1) (eOp rSub3 (eVar 0) (eC (.int 1)))) (eOp rIx3 (eVar 1) (eVar 0)))) (aNil)))
def qguz:TS3:=sSeq (sIf (eOr (eNot (eTest (eInst "tuple" (eVar 0)))) (eOr (eTest (eOp rGt3 (eCB q1z (aCons (eVar 0) (aNil))) (eC (.int 12)))) (eNot (eTest (eCB qbiz (aCons (eComp ["clock"] [] (iSeq (eVar 0)) (hName 0) (tNoTest3) (eCall qdjz (aCons (eVar 0) (aNil)))) (aNil))))))) (sRet (eC (.bl false))) (sNext)) qy0z
theorem qy1z:∀ds G Q,qdkz ds G Q->qguz (endsOf Q) (start3 ["thing"] ds) G:=by
 rintro ds G Q ⟨d,rfl,hk,q⟩;have not_tup:(∀ds,d≠.tup ds)->qguz (endsOf Q) (start3 ["thing"] [d]) G:=by
  intro hn;have e:clksB d=false:=by
   cases d with
   |tup ds=>exact absurd rfl (hn ds)
   |_=>rfl
  rw[e] at q;show match instD "tuple" G d with
   |some b=>_
   |none=>False
  rw[qerz hk.known2 hn];exact⟨fun _=>⟨fun _=>qgz q,nofun⟩,nofun⟩
 cases d with
 |tup ds=>
  refine⟨nofun,fun _=>⟨fun h=>?_,fun h=>?_⟩⟩
  ·have h':(12:Int)<((ds.length:Nat):Int):=of_decide_eq_true h;have e:clksB (.tup ds)=false:=by
    show (decide (ds.length≤12)&&_)=false;rw[decide_eq_false (by omega)];rfl
   rw[e] at q;exact⟨fun _=>qgz q,nofun⟩
  ·have h':¬((12:Int)<((ds.length:Nat):Int)):=of_decide_eq_false h;have e:clksB (.tup ds)=(ds.all clkB&&adjA (ds.map clkOf)):=by
    show (decide (ds.length≤12)&&_)=_;rw[decide_eq_true (by omega)];rfl
   rw[e] at q;refine⟨line1000 (by show ds.length≤1000;omega),qknz (js:=[]) (τ:=[]) (f:=clkB) (by show ds.length≤1000;omega) (fun x hx y K k=>⟨x,rfl,hk.el hx,k⟩) fun p G1 n1=>⟨_,_,n1.at_,qcfz clkB ds,?_⟩⟩;rw[all_map];refine⟨fun hw=>?_,fun hw=>?_⟩
   ·have hw':ds.all clkB=false:=by simpa using hw
    rw[hw'] at q;exact qblz n1.sub q
   ·have hw':ds.all clkB=true:=by simpa using hw
    rw[hw'] at q;obtain⟨cs,rfl⟩:=qklz hw';rw[qkmz,qlxz] at q;have hcl:(cs.map cD).length=cs.length:=List.length_map ..;rw[hcl] at h';refine⟨⟨by decide,by decide,?_,?_⟩,?_,?_⟩
    ·show -(2^62)≤(((cs.map cD).length:Nat):Int);omega
    ·show (((cs.map cD).length:Nat):Int)<2^62;rw[hcl];omega
    ·show (rngL 1 ((((cs.map cD).length:Nat):Int)-1).toNat).length≤sizeLine;rw[qasz,hcl];exact line1000 (by omega)
    ·show compGo _ _ _ _ _ (rngL 1 ((((cs.map cD).length:Nat):Int)-1).toNat) _ _ _;rw[hcl,show ((((cs.length:Nat):Int)-1).toNat)=cs.length-1 by omega,rng1];refine qabz (fun τ=>∃x,τ=[x,some (csD cs)]) (fun k=>nD (k+1)) (fun _=>true) (fun k=>.bl (adjP cs k)) (G:=G1) trivial (List.range (cs.length-1)) [] _ ⟨none,rfl⟩ ?_ ?_
     ·rintro k hm τ K1 K2 ⟨x,rfl⟩ h1 h2;have hk1:k<cs.length-1:=by simpa using hm
      have ea:cs[k]?=some (cs[k]'(by omega)):=List.getElem?_eq_getElem (by omega);have eb:cs[k+1]?=some (cs[k+1]'(by omega)):=List.getElem?_eq_getElem (by omega);refine⟨fun _=>⟨cD (cs[k]'(by omega)),?_,cD (cs[k+1]'(by omega)),qkhz eb,toL _,toL _,rfl,rfl,?_⟩,nofun⟩
      ·show atI (cs.map cD) (((k+1:Nat):Int)-1)=_;rw[show (((k+1:Nat):Int)-1)=(k:Int) by omega];exact qkhz ea
      ·have:=h1 rfl [some (nD (k+1)),some (csD cs)] ⟨_,rfl⟩;unfold adjP at this;rw[ea,eb] at this;exact this
     ·intro p2 G2 n2;rw[filter_all,List.nil_append] at n2;refine⟨_,_,n2.at_,qcfz (adjP cs) _,?_⟩;rw[all_map];exact qblz (n1.sub.trans n2.sub) q
 |_=>exact not_tup nofun
end My
namespace My
open PySem L2 L3
theorem qy2z{c:Clk}(hv:Valid c)(h:c.1≤1000):clkB (cD c)=true:=by
 obtain⟨h1,h2,h3⟩:=hv;show ((decide (1≤c.1)&&decide (c.1≤1000))&&(decide (0≤c.2)&&decide (c.2<c.1)))=true;rw[decide_eq_true (show 1≤c.1 by omega),decide_eq_true h,decide_eq_true h2,decide_eq_true h3];rfl
theorem qy3z{a b:Clk}(h:cLt a b):ltC (a,b)=true:=by
 obtain⟨s,r⟩:=a;obtain⟨s',r'⟩:=b;show (if s=s' then (if r=r' then false else decide (r<r')) else decide (s<s'))=true;rcases h with h|⟨h1,h2⟩
 ·have h:s<s':=h;rw[if_neg (by omega),decide_eq_true h]
 ·have h1:s=s':=h1;have h2:r<r':=h2;rw[if_pos h1,if_neg (by omega),decide_eq_true h2]
theorem qlyz:∀{cs:List Clk},Rise cs->adjA cs=true
 |[],_=>rfl
 |[c],_=>rfl
 |a::b::cs,h=>by
  show (ltC (a,b)&&adjA (b::cs))=true;have h':=List.pairwise_cons.mp h;rw[qy3z (h'.1 b List.mem_cons_self),qlyz (cs:=b::cs) h'.2];rfl
theorem qy4z{cs:List Clk}(ok:ClOk 1000 cs)(hl:cs.length≤12)(hr:Rise cs):clksB (csD cs)=true:=by
 show (decide ((cs.map cD).length≤12)&&((cs.map cD).all clkB&&adjA ((cs.map cD).map clkOf)))=true;rw[qkmz,qlyz hr,List.length_map,decide_eq_true hl,List.all_map];have:cs.all (clkB ∘ cD)=true:=List.all_eq_true.mpr fun c hc=>qy2z (ok c hc).1 (ok c hc).2;rw[this];rfl
theorem qy5z{cs us:List Clk}{c:Clk}{k:Nat}(ok:ClOk 1000 cs)(hc:c∈cs)(hv:Valid (whF c k))(hm:∀z,z∈us↔(z∈cs/\z∉parts (whF c k) k)∨z=whF c k):ClOk 1000 us:=fun z hz=>by
 rcases (hm z).mp hz with h|h
 ·exact ok z h.1
 ·subst h;refine⟨hv,?_⟩;have h1:=(ok c hc).1.1;have h2:=(ok c hc).2;have:c.1 / (k:Int)≤c.1:=Int.ediv_le_self _ (by omega);show c.1 / (k:Int)≤1000;omega
def qdlz:Sp3:=fun ds G Q=>∃cs:List Clk,ds=[csD cs]/\Cl12 cs/\cs.length≤8/\Q (.bl true) G
def qy6z:TS3:=sAsg (eTup (aCons (eC (.str "told")) (aCons (eCB qatz (aCons (eSortSet (eOp rAdd3 (eVar 6) (eLst (aCons (eVar 4) (aNil))))) (aNil))) (aNil)))) (hName 5)
def qy7z:TS3:=sSeq (sAsg (eComp ["place","clock"] [3] (iEnum (aCons (eVar 0) (aNil))) (hTup 2 (hCons (hName 0) (hCons (hName 1) (hNil)))) (eTest (eOp (rIn3 true) (eVar 0) (eVar 2))) (eVar 1)) (hName 6)) qy6z
def qgvz:TS3:=sIf (eOr (eTest (eOp (rEq3 true) (eCall qcpz (aCons (eVar 0) (aCons (eVar 3) (aNil)))) (eVar 5))) (eAnd (eTest (eOp (rEq3 false) (eOp rIx3 (eVar 5) (eC (.int 0))) (eC (.str "told")))) (eNot (eTest (eCall qdkz (aCons (eOp rIx3 (eVar 5) (eC (.int 1))) (aNil))))))) (sRet (eC (.bl false))) (sNext)
def qy8z:TS3:=sSeq (sIf (eTest (eOp (rIs3 true) (eVar 4) (eC .non))) (sSeq (sDrop (eM qcvz (eVar 1) (aCons (eVar 3) (aNil)))) qy7z) (sNext)) qgvz
def qlzz:TS3:=sSeq (sAsg (eTup (aCons (eC (.str "place")) (aCons (eC .non) (aNil)))) (hName 5)) qy8z
def qy9z:TS3:=sSeq (sIf (eTest (eOp rGt3 (eCB q1z (aCons (eVar 3) (aNil))) (eC (.int 1)))) (sAsg (eCall qdiz (aCons (eComp ["place"] [0] (iSeq (eVar 3)) (hName 0) (tNoTest3) (eOp rIx3 (eVar 1) (eVar 0))) (aNil))) (hName 4)) (sNext)) qlzz
def qzaz:TS3:=sSeq (sAsg (eC .non) (hName 4)) qy9z
def ql0z:TS3:=sSeq (sAsg (eCB qatz (aCons (eComp ["place"] [2] (iRng1 (aCons (eCB q1z (aCons (eVar 0) (aNil))) (aNil))) (hName 0) (eTest (eOp (rEq3 false) (eOp rAnd3 (eOp rShr3 (eVar 1) (eVar 0)) (eC (.int 1))) (eC (.int 1)))) (eVar 0)) (aNil))) (hName 3)) qzaz
def qzbz:TS3:=sDrop (eM qcvz (eVar 5) (aCons (eTup (aNil)) (aNil)))
def qzcz:TS3:=sSeq (sIf (eOr (eNot (eTest (eInst "list" (eVar 5)))) (eTest (eOp (rEq3 true) (eVar 5) (eCB qbwz (aCons (eVar 1) (aNil)))))) (sRet (eC (.bl false))) (sNext)) qzbz
def qzdz:TS3:=sSeq (sAsg (eCall qclz (aCons (eVar 0) (aNil))) (hName 5)) qzcz
def qzez:TS3:=sRet (eC (.bl true))
def ql1z:TS3:=sSeq (sFor (iRng1 (aCons (eC (.int 2)) (aNil))) (hName 7) (qzdz)) qzez
def qzfz:TS3:=sSeq (sFor (iRng1 (aCons (eOp rShl3 (eC (.int 1)) (eCB q1z (aCons (eVar 0) (aNil)))) (aNil))) (hName 2) (ql0z)) ql1z
def ql2z:TS3:=sSeq (sAsg (eLst (aNil)) (hName 1)) qzfz
def mdO(cs:List Clk)(m:Nat):Option Clk:=if 2≤(subN cs.length m).length then whO ((subN cs.length m).map (atC cs)) else none
theorem qezz{n m i:Nat}(h:i∈subN n m):i<n:=(sub_mem2.mp h).1
theorem qzgz{cs:List Clk}(cl:Cl12 cs){m:Nat}(h:mdO cs m=none):subI cs.length m∉rawJ cs:=by
 unfold mdO at h;split at h
 ·rename_i h2;exact (qyqz cl (sub_len _ _) (fun i hi=>qezz hi) h2).mp h
 ·rename_i h2;intro hr;have:=qyrz hr;unfold subI at this;rw[List.length_map] at this;omega
theorem qzhz{cs:List Clk}(cl:Cl12 cs){m:Nat}{w:Clk}(h:mdO cs m=some w):∃c k,c∈cs/\(2≤k/\k≤cs.length)/\jnB cs c k=true/\subI cs.length m=jnP cs c k/\w=whF c k:=by
 unfold mdO at h;split at h
 ·rename_i h2;exact qlsz cl h2 (sub_len _ _) (fun i hi=>qezz hi) h
 ·cases h
theorem ql3z{cs:List Clk}{dn:List Nat}{m:Nat}:dueL cs (dn++[m])=dueL cs dn++if subI cs.length m∈rawJ cs then [subI cs.length m] else []:=by
 unfold dueL;rw[List.map_append,List.filter_append];congr 1;rw[List.map_cons,List.map_nil,List.filter_cons];by_cases h:subI cs.length m∈rawJ cs
 ·rw[if_pos h,if_pos (decide_eq_true h)];rfl
 ·rw[if_neg h,if_neg (by simpa using h)];rfl
theorem ql4z{G:Gp}(ns:List Int):Known2 G (tupI ns):=fun d hd=>by
 obtain⟨n,_,rfl⟩:=List.mem_map.mp hd;trivial
theorem ql5z:(!(Dat.D.tup [.str "place",.non]).eqb (.tup [.str "place",.non]))=false:=by decide
theorem qziz(us:List Clk):(!(Dat.D.tup [.str "told",.tup (us.map cX)]).eqb (.tup [.str "told",.tup (us.map cX)]))=false:=by
 show (!((("told":Str)=="told")&&(Dat.eqbs (us.map cX) (us.map cX)&&true)))=false;have:Dat.eqbs (us.map cX) (us.map cX)=true:=qwgz us;rw[this];rfl
theorem qzjz{D3:Ends3}{G1:Gp}{cs:List Clk}{m:Nat}{x1 x2 x4 x6 x7:Option D}(cl:Cl12 cs)(h:subI cs.length m∉rawJ cs)(hl:cs.length≤8)(q:∀G2,Sub G1 G2->D3.nx [some (csD cs),x1,x2,some (tupI (subI cs.length m)),x4,some (.tup [.str "place",.non]),x6,x7] G2):
  qgvz D3 [some (csD cs),x1,x2,some (tupI (subI cs.length m)),x4,some (.tup [.str "place",.non]),x6,x7] G1:=by
 refine⟨cs,tupI (subI cs.length m),rfl,cl,ql4z _,fun ds e=>?_,fun G2 s2=>⟨fun _=>?_,fun c k hc h2 hkl hB e=>?_⟩⟩
 ·have e:D.tup ((subI cs.length m).map D.int)=.tup ds:=e;cases e;unfold subI;rw[List.length_map,List.length_map];have:=sub_len cs.length m;omega
 ·refine⟨_,_,rfl,rfl,by decide,fun h=>?_,fun _=>⟨_,rfl,_,_,rfl,rfl,Nat.zero_le _,fun h=>absurd h (by decide),fun _=>⟨nofun,fun _=>q G2 s2⟩⟩⟩;have h':(!(Dat.D.tup [.str "place",.non]).eqb (.tup [.str "place",.non]))=true:=h;rw[ql5z] at h';cases h'
 ·exfalso;have e:tupI (subI cs.length m)=tupI (jnP cs c k):=e;rw[qcoz e] at h;exact h (raw_mem.mpr ⟨c,hc,k,⟨h2,hkl⟩,hB,rfl⟩)
theorem qzkz{D3:Ends3}{G1:Gp}{cs us:List Clk}{m:Nat}{c:Clk}{k:Nat}{x1 x2 x4 x6 x7:Option D}(cl:Cl12 cs)(hc:c∈cs)(hk:2≤k/\k≤cs.length)(hB:jnB cs c k=true)(e:subI cs.length m=jnP cs c k)(hm:∀z,z∈us↔(z∈cs/\z∉parts (whF c k) k)∨z=whF c k)(hr:Rise us)(hl:us.length≤12)
  (q:∀G2,Sub G1 G2->D3.nx [some (csD cs),x1,x2,some (tupI (subI cs.length m)),x4,some (.tup [.str "told",csD us]),x6,x7] G2):
  qgvz D3 [some (csD cs),x1,x2,some (tupI (subI cs.length m)),x4,some (.tup [.str "told",csD us]),x6,x7] G1:=by
 have hcl:=cl.l;obtain⟨f1,f2,f3⟩:=qbcz cl.v (cl.v c hc) hk.1 hB;have oku:=qy5z cl.ok hc f2 hm;refine⟨cs,tupI (subI cs.length m),rfl,cl,ql4z _,fun ds e=>?_,fun G2 s2=>⟨fun hno=>?_,fun c' k' hc' h2' hkl' hB' e' vs hmv hrv hlv=>?_⟩⟩
 ·have e:D.tup ((subI cs.length m).map D.int)=.tup ds:=e;cases e;unfold subI;rw[List.length_map,List.length_map];have:=sub_len cs.length m;omega
 ·exfalso;exact hno (jnP cs c k) (raw_mem.mpr ⟨c,hc,k,hk,hB,rfl⟩) (by show tupI (subI cs.length m)=_;rw[e])
 ·have e':tupI (subI cs.length m)=tupI (jnP cs c' k'):=e';have e2:jnP cs c k=jnP cs c' k':=by rw[←e];exact qcoz e'
  have ek:k=k':=by
   have:=congrArg List.length e2;rw[qcmz,qcmz] at this;exact this
  subst ek;have z1:=qddz (cs:=cs) (by omega) f1;have z2:=qddz (cs:=cs) (by omega) (qbcz cl.v (cl.v c' hc') hk.1 hB').1;rw[←e2,z1] at z2;have z3:((cs.idxOf c:Nat):Int)=((cs.idxOf c':Nat):Int):=Option.some.inj z2;have z4:cs.idxOf c=cs.idxOf c':=by omega
  have a2:=(qanz hc).2;rw[z4,(qanz hc').2] at a2;have ec:c'=c:=Option.some.inj a2;subst ec;have ev:vs=us:=qwiz hrv hr fun z=>by rw[hmv,hm]
  subst ev;have ed:toDat G2 (.tup [.str "told",csD vs])=some (.tup [.str "told",.tup (vs.map cX)]):=by
   have:toDat0 (csD vs)=some (.tup (vs.map cX)):=qksz (G:=fun _=>none) vs;show toDat0 (.tup [.str "told",csD vs])=_;rw[toDat0,toDats0,toDats0,toDats0,this];rfl
  refine⟨_,_,ed,ed,?_,fun h=>?_,fun _=>?_⟩
  ·show max 0 (max (Dat.deps (vs.map cX)+1) 0)+1≤50;have:=qc6z vs;omega
  ·have h':(!(Dat.D.tup [.str "told",.tup (vs.map cX)]).eqb (.tup [.str "told",.tup (vs.map cX)]))=true:=h;rw[qziz] at h';cases h'
  ·refine⟨_,rfl,_,_,rfl,rfl,Nat.zero_le _,fun _=>⟨csD vs,rfl,csD vs,rfl,.tup fun d hd=>?_,?_⟩,fun _=>⟨nofun,fun _=>q G2 s2⟩⟩
   ·obtain⟨z,_,rfl⟩:=List.mem_map.mp hd;exact .clk z
   ·rw[qy4z oku hl hr];exact⟨nofun,fun _=>q G2 s2⟩
theorem ql6z{D3:Ends3}{G G1:Gp}{q0:Addr}{cs:List Clk}{dn:List Nat}{m:Nat}{x2 x5 x6 x7:Option D}(cl:Cl12 cs)(hl:cs.length≤8)(hd:(dueL cs dn).length<1000)(n1:New G q0 (.lst ((dueL cs dn).map tupI)) G1)
  (q:∀y5 y6 G2,New G q0 (.lst ((dueL cs (dn++[m])).map tupI)) G2->D3.nx [some (csD cs),some (.obj q0),x2,some (tupI (subI cs.length m)),some (oC (mdO cs m)),y5,y6,x7] G2):
  qlzz D3 [some (csD cs),some (.obj q0),x2,some (tupI (subI cs.length m)),some (oC (mdO cs m)),x5,x6,x7] G1:=by
 cases hmd:mdO cs m with
 |none=>
  rw[hmd] at q;have hno:=qzgz cl hmd;refine⟨nofun,fun _=>qzjz cl hno hl fun G2 s2=>q _ _ _ ?_⟩;rw[ql3z,if_neg hno,List.append_nil];exact⟨n1.non,n1.sub.trans s2,s2 _ _ n1.at_⟩
 |some w=>
  rw[hmd] at q;obtain⟨c,k,hc,hk,hB,e,rfl⟩:=qzhz cl hmd;obtain⟨f1,f2,f3⟩:=qbcz cl.v (cl.v c hc) hk.1 hB;have hin:subI cs.length m∈rawJ cs:=raw_mem.mpr ⟨c,hc,k,hk,hB,e⟩;refine⟨fun _=>⟨⟨q0,_,rfl,n1.at_⟩,_,n1.at_,by rw[List.length_map];exact Nat.lt_of_lt_of_le hd (by decide),?_⟩,nofun⟩;have n2:=wrote (o':=.lst ((dueL cs dn).map tupI++[tupI (subI cs.length m)])) n1;rw[show (dueL cs dn).map tupI++[tupI (subI cs.length m)]=(dueL cs (dn++[m])).map tupI by rw[ql3z,if_pos hin,List.map_append];rfl] at n2 ⊢;generalize upd3 G1 q0 (.lst ((dueL cs (dn++[m])).map tupI))=G2 at n2;refine⟨cs.map cD,rfl,?_⟩;rw[qkoz cD cs];have hzl:((List.range cs.length).zip cs).length=cs.length:=by rw[List.length_zip,List.length_range];omega
  refine⟨?_,?_⟩
  ·show (((List.range cs.length).zip cs).map _).length≤sizeLine;rw[List.length_map,hzl];exact line1000 (by omega)
  refine qabz (guard:=fun G=>seqD G (csD cs) (cs.map cD)) (fun τ=>∃x y,τ=[x,y,some (tupI (subI cs.length m))]) (fun p:Nat×Clk=>D.tup [nD p.1,cD p.2]) (fun p=>!decide ((p.1:Int)∈subI cs.length m)) (fun p=>cD p.2) (G:=G2) rfl ((List.range cs.length).zip cs) [] _ ⟨none,none,rfl⟩ ?_ ?_
  ·rintro⟨i,z⟩ hm τ K1 K2 ⟨x,y,rfl⟩ g1 g2;refine⟨rfl,.int (i:Int),(subI cs.length m).map Dat.D.int,rfl,.inr (qexz _),by rw[qgoz];decide,?_⟩;rw[qldz];exact⟨fun h=>g1 h _ ⟨_,_,rfl⟩,fun h=>g2 h _ ⟨_,_,rfl⟩⟩
  intro p3 G3 n3;rw[List.nil_append,show ((((List.range cs.length).zip cs).filter fun p=>!decide ((p.1:Int)∈subI cs.length m)).map fun p=>cD p.2)=(othL2 cs (subI cs.length m)).map cD by unfold othL2;rw[List.map_map];rfl] at n3;have hol:(othL2 cs (subI cs.length m)).length≤8:=by
   unfold othL2;rw[List.length_map];exact Nat.le_trans (List.length_filter_le _ _) (by omega)
  intro p4 G4 n4;refine⟨_,_,n4.sub _ _ n3.at_,n4.at_,by rw[List.length_map];exact line1000 (by simp;omega),fun p5 G5 n5=>?_⟩;refine⟨(othL2 cs (subI cs.length m)++[whF c k]).map toL,?_,by rw[List.length_map];simp;omega,qepz,fun p6 mss G6 n6 hmem nd hr hl6=>?_⟩
  ·rw[qb0z,List.map_append];exact n5.at_
  obtain⟨us,rfl,hmem2,hr2,hl2⟩:=qgbz hmem nd hr hl6;rw[qb0z] at n6;have s6:=(n3.sub.trans n4.sub).trans (n5.sub.trans n6.sub);refine⟨_,n6.at_,?_⟩;refine qzkz cl hc hk hB e (fun z=>?_) hr2 (by rw[List.length_append] at hl2;simp at hl2;omega) fun G7 s7=>q _ _ _ ⟨n2.non,n2.sub.trans (s6.trans s7),s7 _ _ (s6 _ _ n2.at_)⟩;rw[hmem2,List.mem_append,List.mem_singleton,qlfz,e];constructor
  ·rintro (⟨i,hi,hn⟩|e)
   ·exact .inl ⟨List.mem_of_getElem? hi,fun h=>hn ((qewz (qbbz cl.r) f3 hi).mpr h)⟩
   ·exact .inr e
  ·rintro (⟨h1,h2⟩|e)
   ·obtain⟨i,hi⟩:=List.getElem?_of_mem h1;exact .inl ⟨i,hi,fun h=>h2 ((qewz (qbbz cl.r) f3 hi).mp h)⟩
   ·exact .inr e
theorem ql7z{cs:List Clk}(cl:Cl12 cs){dn ms:List Nat}(e:dn++ms=List.range (2^cs.length)):(dueL cs dn).length<64:=by
 have h1:=qevz cl.v (qbbz cl.r) cl.l;rw[←(qlrz cl).length_eq,←e] at h1;unfold dueL at h1 ⊢;rw[List.map_append,List.filter_append,List.length_append] at h1;omega
theorem qzlz{D3:Ends3}{G G1:Gp}{q0:Addr}{cs:List Clk}{dn:List Nat}{m:Nat}{x3 x4 x5 x6 x7:Option D}(cl:Cl12 cs)(hl:cs.length≤8)(hd:(dueL cs dn).length<64)(n1:New G q0 (.lst ((dueL cs dn).map tupI)) G1)
  (q:∀y3 y4 y5 y6 G2,New G q0 (.lst ((dueL cs (dn++[m])).map tupI)) G2->D3.nx [some (csD cs),some (.obj q0),some (nD m),y3,y4,y5,y6,x7] G2):
  ql0z D3 [some (csD cs),some (.obj q0),some (nD m),x3,x4,x5,x6,x7] G1:=by
 have hlm:(cs.map cD).length=cs.length:=List.length_map ..;refine⟨⟨by rw[hlm];omega,by rw[hlm];omega⟩,?_,?_⟩
 ·show (rngL 0 ((((cs.map cD).length:Nat):Int)).toNat).length≤sizeLine;rw[qasz,hlm];exact line1000 (by omega)
 show compGo _ _ _ _ _ (rngL 0 ((((cs.map cD).length:Nat):Int)).toNat) _ _ _;rw[hlm,Int.toNat_natCast,rng0];refine qabz (fun τ=>∃x,τ=[x,some (nD m)]) nD (fun i=>m.testBit i) nD (G:=G1) trivial (List.range cs.length) [] _ ⟨none,rfl⟩ ?_ ?_
 ·rintro i hi τ K1 K2 ⟨x,rfl⟩ g1 g2;refine⟨show (0:Int)≤(i:Int) by omega,trivial,_,_,rfl,rfl,Nat.zero_le _,fun h=>g1 ?_ _ ⟨_,rfl⟩,fun h=>g2 ?_ _ ⟨_,rfl⟩⟩
  ·have h':(Builtin.bitAnd ((m:Int) / 2^i) 1==1)=true:=h;rw[qlqz] at h';exact h'
  ·have h':(Builtin.bitAnd ((m:Int) / 2^i) 1==1)=false:=h;rw[qlqz] at h';exact h'
 intro p2 G2 n2;rw[List.nil_append] at n2;refine⟨_,n2.at_,?_⟩;have ee:D.tup (((List.range cs.length).filter fun i=>m.testBit i).map nD)=tupI (subI cs.length m):=by
  unfold tupI subI subN;rw[List.map_map];rfl
 rw[ee];have hsl:((subI cs.length m).map D.int).length=(subN cs.length m).length:=by
  unfold subI;rw[List.length_map,List.length_map]
 have hs8:=sub_len cs.length m;have n2':New G q0 (.lst ((dueL cs dn).map tupI)) G2:=⟨n1.non,n1.sub.trans n2.sub,n2.sub _ _ n1.at_⟩;refine⟨fun h=>?_,fun h=>?_⟩
 ·have h':(1:Int)<((((subI cs.length m).map D.int).length:Nat):Int):=of_decide_eq_true h;rw[hsl] at h';refine⟨?_,?_⟩
  ·show ((subI cs.length m).map D.int).length≤sizeLine;rw[hsl];exact line1000 (by omega)
  show compGo _ _ _ _ _ ((subI cs.length m).map D.int) _ _ _;rw[show (subI cs.length m).map D.int=(subN cs.length m).map nD by unfold subI;rw[List.map_map];rfl];refine qabz (fun τ=>∃x,τ=[x,some (csD cs)]) nD (fun _=>true) (fun i=>cD (atC cs i)) (G:=G2) trivial (subN cs.length m) [] _ ⟨none,rfl⟩ ?_ ?_
  ·rintro i hi τ K1 K2 ⟨x,rfl⟩ g1 g2;exact⟨fun _=>⟨cD (atC cs i),qbpz (by rw[List.getElem?_map,qeyz (qezz hi)];rfl),g1 rfl _ ⟨_,rfl⟩⟩,nofun⟩
  intro p3 G3 n3;rw[filter_all,List.nil_append,show ((subN cs.length m).map fun i=>cD (atC cs i))=((subN cs.length m).map (atC cs)).map cD by rw[List.map_map];rfl] at n3;refine⟨p3,_,rfl,n3.at_,by rw[List.length_map];omega,by rw[List.length_map];omega,fun z hz=>?_,fun G4 s4=>?_⟩
  ·obtain⟨i,hi,rfl⟩:=List.mem_map.mp hz;exact cl.ok _ (List.mem_of_getElem? (qeyz (qezz hi)))
  have s:=n3.sub.trans s4;have em:mdO cs m=whO ((subN cs.length m).map (atC cs)):=by
   unfold mdO;rw[if_pos (by omega)]
  rw[←em];exact ql6z cl hl (by omega) ⟨n2'.non,n2'.sub.trans s,s _ _ n2'.at_⟩ fun y5 y6 G5 n5=>q _ _ _ _ _ n5
 ·have h':¬(1:Int)<((((subI cs.length m).map D.int).length:Nat):Int):=of_decide_eq_false h;rw[hsl] at h';have em:mdO cs m=none:=by
   unfold mdO;rw[if_neg (by omega)]
  have go:=ql6z (D3:=D3) (m:=m) (x2:=some (nD m)) (x5:=x5) (x6:=x6) (x7:=x7) cl hl (by omega) n2' fun y5 y6 G5 n5=>q _ _ _ _ _ n5;rw[em] at go;exact go
theorem qzmz(mss:List (List Int)):(Dat.D.lst (mss.map tX)).eqb (.lst (mss.map tX))=true:=by
 show Dat.eqbs (mss.map tX) (mss.map tX)=true
 induction mss with
 |nil=>rfl
 |cons a as ih=>
  show ((tX a).eqb (tX a)&&Dat.eqbs (as.map tX) (as.map tX))=true;rw[ih,qgnz,decide_eq_true rfl];rfl
theorem qznz{Q:V3}{G G1:Gp}{q0:Addr}{cs:List Clk}{x2 x3 x4 x5 x6 x7:Option D}(cl:Cl12 cs)(n1:New G q0 (.lst ((dueL cs (List.range (2^cs.length))).map tupI)) G1)(q:Q (.bl true) G):
  ql1z (endsOf Q) [some (csD cs),some (.obj q0),x2,x3,x4,x5,x6,x7] G1:=by
 have hdl:=ql7z cl (List.append_nil (List.range (2^cs.length)));have hdp:=qlrz cl;generalize dueL cs (List.range (2^cs.length))=due at n1 hdl hdp;refine⟨⟨by decide,by decide⟩,?_⟩;refine qazz (fun ds τ G'=>New G q0 (.lst (due.map tupI)) G'/\∃y5 y7,τ=[some (csD cs),some (.obj q0),x2,x3,x4,y5,x6,y7]) (fun _ _ _ _=>trivial) ?_ ?_ _ _ _ ⟨n1,_,_,rfl⟩
 ·rintro d ds τ G2 N ⟨n2,y5,y7,rfl⟩ hN;refine⟨cs,rfl,cl.ok,cl.r,cl.l,fun p js G3 hp hrl n3=>?_⟩;have e3:=n3.sub _ _ n2.at_;have inst:instD "list" G3 (.obj p)=some true:=by
   simp only[instD,n3.at_];rfl
  show match instD "list" G3 (.obj p) with
   |some b=>_
   |none=>False
  rw[inst];refine⟨nofun,fun _=>⟨due,e3,hdl,fun ns hn=>qk5z (hdp.mem_iff.mp hn),fun p4 mss G4 n4 hp4 hr4=>?_⟩⟩;have em:mss=js:=qlpz (hp4.trans (hdp.trans hp.symm)) hr4 hrl;subst em;refine⟨_,_,qbzz (n4.sub _ _ n3.at_) (qgmz mss),qbzz n4.at_ (qgmz mss),?_,fun h=>?_,fun _=>?_⟩
  ·show Dat.deps (mss.map tX)+1≤50;have:=qlcz mss;omega
  ·have h':(!((Dat.D.lst (mss.map tX)).eqb (.lst (mss.map tX))))=true:=h;rw[qzmz] at h';cases h'
  ·have e4:=n4.sub _ _ n3.at_;have hpl:(mss.map tupI).length<sizeLine:=by
    rw[List.length_map,hp.length_eq];exact Nat.lt_of_lt_of_le (qevz cl.v (qbbz cl.r) cl.l) (by decide)
   have hne:q0≠p:=fun z=>by
    have h1:=n2.at_;rw[z,n3.non] at h1;cases h1
   refine⟨⟨p,_,rfl,e4⟩,_,e4,hpl,hN _ _ ⟨⟨n2.non,Sub.updN (n2.sub.trans (n3.sub.trans n4.sub)) (n2.sub.of_none n3.non),?_⟩,_,_,rfl⟩⟩;rw[q8z hne];exact n4.sub _ _ e3
 ·rintro τ G2 ⟨n2,y5,y7,rfl⟩;exact qblz n2.sub q
theorem qzoz:∀ds G Q,qdlz ds G Q->ql2z (endsOf Q) (start3 ["clocks","due","number","places","made","found","left","turn"] ds) G:=by
 rintro ds G Q ⟨cs,rfl,cl,hl,q⟩;have hlm:(cs.map cD).length=cs.length:=List.length_map ..;have hpw:2^cs.length≤2^8:=Nat.pow_le_pow_right (by decide) hl;have ep:(1:Int)*2^((((cs.map cD).length:Nat):Int)).toNat=((2^cs.length:Nat):Int):=by
  rw[hlm,Int.toNat_natCast];simp
 intro q0 G0 n0;refine⟨⟨by rw[hlm];omega,by rw[hlm];omega,by decide⟩,?_⟩;have hpw':2^cs.length≤256:=hpw;refine⟨⟨?_,?_⟩,?_⟩
 ·show -(2^62)≤(1:Int)*2^((((cs.map cD).length:Nat):Int)).toNat;rw[ep];exact Int.le_trans (by decide) (Int.natCast_nonneg _)
 ·show (1:Int)*2^((((cs.map cD).length:Nat):Int)).toNat<2^62;rw[ep];exact Int.lt_of_le_of_lt (Int.ofNat_le.mpr hpw') (by decide)
 show forGo _ _ _ _ (rngL 0 ((1:Int)*2^((((cs.map cD).length:Nat):Int)).toNat).toNat) _ _;rw[ep,Int.toNat_natCast,rng0];refine qazz (fun ds τ G'=>∃(dn ms:List Nat) (x2 x3 x4 x5 x6:Option D),ds=ms.map nD/\dn++ms=List.range (2^cs.length)/\τ=[some (csD cs),some (.obj q0),x2,x3,x4,x5,x6,none]/\New G q0 (.lst ((dueL cs dn).map tupI)) G') (fun _ _ _ _=>trivial) ?_ ?_ _ _ _ ⟨[],_,none,none,none,none,none,rfl,rfl,rfl,n0⟩
 ·rintro d ds τ G1 N ⟨dn,ms,x2,x3,x4,x5,x6,e1,e2,rfl,n1⟩ hN;cases ms with
  |nil=>cases e1
  |cons m ms=>
   cases e1;exact qzlz cl hl (ql7z cl e2) n1 fun y3 y4 y5 y6 G2 n2=>hN _ _ ⟨dn++[m],ms,_,_,_,_,_,rfl,by rw[←e2];simp,rfl,n2⟩
 ·rintro τ G1 ⟨dn,ms,x2,x3,x4,x5,x6,e1,e2,rfl,n1⟩;have e0:ms=[]:=by cases ms with
   |nil=>rfl
   |cons z zs=>cases e1
  subst e0;rw[List.append_nil] at e2;rw[e2] at n1;exact qznz cl n1 q
end My
namespace My
open PySem L2 L3
def sp_law:Sp3:=fun ds G Q=>∃ns:List Int,ds=[.scr (ns.map .int)]/\ns.length≤63/\Q (.bl true) G
def qzpz:TS3:=sIf (eNot (eTest (eCall qdlz (aCons (eVar 6) (aNil))))) (sRet (eC (.bl false))) (sNext)
def ql8z:TS3:=sIf (eTest (eOp (rEq3 true) (eCall qcpz (aCons (eVar 3) (aCons (eVar 7) (aNil)))) (eTup (aCons (eC (.str "place")) (aCons (eC .non) (aNil)))))) (sRet (eC (.bl false))) (sNext)
def ql9z:TS3:=sFor (iSeq (eLst (aCons (eC .non) (aCons (eLst (aCons (eC (.int 0)) (aCons (eC (.int 1)) (aNil)))) (aCons (eTup (aCons (eC (.int 1)) (aCons (eC (.int 0)) (aNil)))) (aCons (eTup (aCons (eC (.int 0)) (aCons (eC (.int 0)) (aNil)))) (aCons (eTup (aCons (eC (.int 0)) (aCons (eC (.int 99)) (aNil)))) (aCons (eTup (aCons (eUn rNeg3 (eC (.int 1))) (aCons (eC (.int 0)) (aNil)))) (aCons (eTup (aCons (eC (.bl false)) (aCons (eC (.bl true)) (aNil)))) (aCons (eTup (aCons (eC (.str "0")) (aCons (eC (.str "1")) (aNil)))) (aCons (eC (.int 0)) (aCons (eDct) (aCons (eTup (aCons (eTup (aCons (eC (.int 0)) (aCons (eC (.int 1)) (aNil)))) (aNil))) (aNil)))))))))))))) (hName 7) (ql8z)
def qmaz:TS3:=sSeq (sFor (iSeq (eLst (aCons (eVar 3) (aCons (eCB qatz (aCons (eSl (eVar 5) (oNone) (oSome (eC (.int 7)))) (aNil))) (aCons (eCB qatz (aCons (eCall qcjz (aCons (eVar 2) (aCons (eC (.int 3)) (aCons (eC (.int 8)) (aNil))))) (aNil))) (aNil)))))) (hName 6) (qzpz)) ql9z
def qzqz:TS3:=sSeq (sIf (eTest (eOp (rEq3 false) (eCall q7z (aCons (eVar 2) (aCons (eC (.int 3)) (aNil)))) (eC (.int 0)))) (sDrop (eM qd4z (eVar 5) (aCons (eCall q7z (aCons (eVar 2) (aCons (eVar 4) (aNil)))) (aNil)))) (sNext)) qmaz
def qmbz:TS3:=sSeq (sAsg (eComp ["rest"] [4] (iRng1 (aCons (eVar 4) (aNil))) (hName 0) (tNoTest3) (eTup (aCons (eVar 1) (aCons (eVar 0) (aNil))))) (hName 5)) qzqz
def qmcz:TS3:=sSeq (sAsg (eOp rAdd3 (eC (.int 2)) (eCall q7z (aCons (eVar 2) (aCons (eC (.int 7)) (aNil))))) (hName 4)) qmbz
def qzrz:TS3:=sSeq (sAsg (eCall qdaz (aCons (eVar 2) (aCons (eC (.int 8)) (aNil)))) (hName 3)) qmcz
def qzsz:TS3:=sSeq (sAsg (eCall qf8z (aCons (eVar 1) (aNil))) (hName 2)) qzrz
def qztz:TS3:=sRet (eC (.bl true))
def qmdz:TS3:=sSeq (sFor (iSeq (eOp rAdd3 (eLst (aCons (eCall qc5z (aCons (eVar 0) (aCons (eC (.int 0)) (aNil)))) (aNil))) (eSl (eVar 0) (oSome (eC (.int 1))) (oSome (eC (.int 5)))))) (hName 1) (qzsz)) qztz
structure OddT(d:D):Prop where
 kn:Known2 noG d
 sh:Short d
 no:∀n,n≤12->¬RPl n d
theorem qzuz{n:Nat}{a b:Int}(h:RPl n (.tup [.int a,.int b])):0≤a/\a<b/\b<(n:Int):=by
 obtain⟨ns,e,hb,hr⟩:=h;have e:tupI [a,b]=tupI ns:=e;rw[←qcoz e] at hb hr;have h1:=hb a List.mem_cons_self;have h2:=hb b (List.mem_cons_of_mem _ List.mem_cons_self);have h3:=(List.pairwise_cons.mp hr).1 b List.mem_cons_self;exact⟨h1.1,h3,h2.2⟩
theorem qe0z{a b:Int}(h:¬(0≤a/\a<b/\b<12)):OddT (.tup [.int a,.int b]):=by
 refine⟨fun d hd=>?_,fun ds e=>?_,fun n hn hp=>?_⟩
 ·rcases List.mem_cons.mp hd with rfl|hd
  ·trivial
  ·rw[List.mem_singleton.mp hd];trivial
 ·cases e;exact Nat.le_of_ble_eq_true rfl
 ·have:=qzuz hp;omega
theorem qgwz{d:D}{ds:List D}(hk:Known2 noG (.tup (d::ds)))(hl:ds.length≤10)(h:∀i,d≠.int i):OddT (.tup (d::ds)):=by
 refine⟨hk,fun es e=>?_,fun n hn hp=>?_⟩
 ·cases e;simp;omega
 ·obtain⟨ns,e,_⟩:=hp;have e:d::ds=ns.map D.int:=D.tup.inj e;cases ns with
  |nil=>cases e
  |cons i ns=>
   rw[List.map_cons] at e;exact h i (List.cons.inj e).1
theorem qe1z{d:D}(hk:Known2 noG d)(h:∀ds,d≠.tup ds):OddT d:=⟨hk,fun ds e=>absurd e (h ds),fun n _ ⟨ns,e,_⟩=>h _ e⟩
theorem qzvz{D3:Ends3}{G1:Gp}{cs:List Clk}{d:D}{x0 x1 x2 x4 x5 x6:Option D}(cl:Cl12 cs)(h:OddT (shw G1 d))(q:∀G2,Sub G1 G2->D3.nx [x0,x1,x2,some (csD cs),x4,x5,x6,some d] G2):ql8z D3 [x0,x1,x2,some (csD cs),x4,x5,x6,some d] G1:=by
 refine⟨cs,d,rfl,cl,h.kn,h.sh,fun G2 s2=>⟨fun _=>?_,fun c k hc h2 hkl hB e=>?_⟩⟩
 ·refine⟨_,_,rfl,rfl,by decide,fun h=>?_,fun _=>q G2 s2⟩;have h':(!(Dat.D.tup [.str "place",.non]).eqb (.tup [.str "place",.non]))=true:=h;rw[ql5z] at h';cases h'
 ·exfalso;refine h.no cs.length cl.l ?_;rw[e];exact qgrz cl hc h2 hB
theorem qzwz{D3:Ends3}{G1:Gp}{cs:List Clk}{x0 x1 x2 x4 x5 x6 x7:Option D}(cl:Cl12 cs)(q:∀y7 G2,Sub G1 G2->D3.nx [x0,x1,x2,some (csD cs),x4,x5,x6,y7] G2):ql9z D3 [x0,x1,x2,some (csD cs),x4,x5,x6,x7] G1:=by
 intro pA GA nA pB GB nB pC GC nC;refine⟨_,nC.at_,?_⟩;have s:=(nA.sub.trans nB.sub).trans nC.sub;have eA:=nC.sub _ _ (nB.sub _ _ nA.at_);have eB:=nC.sub _ _ nB.at_;refine qazz (fun ds τ G'=>(∀d∈ds,∀G2,Sub GC G2->OddT (shw G2 d))/\Sub GC G'/\∃y7,τ=[x0,x1,x2,some (csD cs),x4,x5,x6,y7]) (fun _ _ _ h=>h.2.1 _ _ nC.at_) ?_ ?_ _ _ _ ⟨fun d hd G2 s2=>?_,Sub.refl _,_,rfl⟩
 ·rintro d ds τ G2 N ⟨ho,s2,y7,rfl⟩ hN;exact qzvz cl (ho d List.mem_cons_self G2 s2) fun G3 s3=>hN _ _ ⟨fun e he=>ho e (List.mem_cons_of_mem _ he),s2.trans s3,_,rfl⟩
 ·rintro τ G2 ⟨_,s2,y7,rfl⟩;exact q _ _ (s.trans s2)
 ·have k2:∀a b:D,(∀p,a≠.obj p)->(∀p,b≠.obj p)->Known2 noG (.tup [a,b]):=fun a b ha hb d hd=>by
   rcases List.mem_cons.mp hd with rfl|hd
   ·cases d with
    |obj p=>exact absurd rfl (ha p)
    |_=>trivial
   ·rw[List.mem_singleton.mp hd];cases b with
    |obj p=>exact absurd rfl (hb p)
    |_=>trivial
  simp only[List.mem_cons,List.not_mem_nil,or_false] at hd;rcases hd with rfl|rfl|rfl|rfl|rfl|rfl|rfl|rfl|rfl|rfl|rfl
  ·exact qe1z trivial nofun
  ·have e:=s2 _ _ eA;simp only[shw,e];exact qe1z trivial nofun
  ·exact qe0z (by decide)
  ·exact qe0z (by decide)
  ·exact qe0z (by decide)
  ·exact qe0z (by decide)
  ·exact qgwz (k2 _ _ nofun nofun) (by decide) nofun
  ·exact qgwz (k2 _ _ nofun nofun) (by decide) nofun
  ·exact qe1z trivial nofun
  ·have e:=s2 _ _ eB;simp only[shw,e];exact qe1z trivial nofun
  ·refine qgwz (fun d hd=>?_) (by decide) nofun;rw[List.mem_singleton.mp hd];trivial
def allR(s:Int)(n:Nat):List Clk:=(List.range n).map fun i:Nat=>(s,(i:Int))
theorem qmez(s:Int)(n:Nat):Rise (allR s n):=by
 unfold allR;show List.Pairwise _ _;rw[List.pairwise_map];exact List.pairwise_lt_range.imp fun {a b} h=>.inr ⟨rfl,by show (a:Int)<(b:Int);omega⟩
theorem qmfz{D3:Ends3}{G G1:Gp}{pp q5:Addr}{cs rl:List Clk}{x0 x1 x4 x6 x7:Option D}(hpp:G1 pp=some .pen)(cl:Cl12 cs)(hl:cs.length≤8)(e5:G1 q5=some (.lst (rl.map cD)))(hr:Rise rl)(ok:ClOk 1000 rl)(s:Sub G G1)
  (q:∀y6 y7 G2,Sub G G2->D3.nx [x0,x1,some (.obj pp),some (csD cs),x4,some (.obj q5),y6,y7] G2):qmaz D3 [x0,x1,some (.obj pp),some (csD cs),x4,some (.obj q5),x6,x7] G1:=by
 refine⟨_,e5,fun p1 G2 n2=>?_⟩;rw[qenz,show (some (7:Int))=some ((7:Nat):Int) from rfl,qj8z] at n2;refine⟨_,n2.at_,pp,3,8,rfl,n2.sub _ _ hpp,⟨by decide,by decide,by decide⟩,fun p3 ms G3 hm hrm l3 l8 l1 n3=>⟨_,n3.at_,fun p4 G4 n4=>⟨_,n4.at_,?_⟩⟩⟩;have s4:=s.trans ((n2.sub.trans n3.sub).trans n4.sub);have okm:ClOk 1000 ms:=fun c hc=>⟨hm.v c hc,by
  have:c.1≤((2^7:Nat):Int):=hm.le (j:=7) (by omega) hc;have:c.1≤128:=this;omega⟩
 refine qazz (fun ds τ G'=>(∃us:List (List Clk),ds=us.map csD/\∀u∈us,Cl12 u/\u.length≤8)/\Sub G4 G'/\∃y6,τ=[x0,x1,some (.obj pp),some (csD cs),x4,some (.obj q5),y6,x7]) (fun _ _ _ h=>h.2.1 _ _ n4.at_) ?_ ?_ _ _ _ ⟨⟨[cs,rl.take 7,ms],rfl,fun u hu=>?_⟩,Sub.refl _,_,rfl⟩
 ·rintro d ds τ G5 N ⟨⟨us,e,hu⟩,s5,y6,rfl⟩ hN;cases us with
  |nil=>cases e
  |cons u us=>
   cases e;exact⟨u,rfl,(hu u List.mem_cons_self).1,(hu u List.mem_cons_self).2,nofun,fun _=>hN _ _ ⟨⟨us,rfl,fun v hv=>hu v (List.mem_cons_of_mem _ hv)⟩,s5,_,rfl⟩⟩
 ·rintro τ G5 ⟨_,s5,y6,rfl⟩;exact qzwz cl fun y7 G6 s6=>q _ _ _ (s4.trans (s5.trans s6))
 ·simp only[List.mem_cons,List.not_mem_nil,or_false] at hu;rcases hu with rfl|rfl|rfl
  ·exact⟨cl,hl⟩
  ·have:(rl.take 7).length≤7:=by rw[List.length_take];omega
   exact⟨⟨fun c hc=>ok c (List.mem_of_mem_take hc),hr.take 7,by omega⟩,by omega⟩
  ·exact⟨⟨okm,hrm,by omega⟩,by omega⟩
theorem qzxz{D3:Ends3}{G:Gp}{pp:Addr}{cs:List Clk}{x0 x1 x4 x5 x6 x7:Option D}(hpp:G pp=some .pen)(cl:Cl12 cs)(hl:cs.length≤8)
  (q:∀y4 y5 y6 y7 G2,Sub G G2->D3.nx [x0,x1,some (.obj pp),some (csD cs),y4,y5,y6,y7] G2):qmcz D3 [x0,x1,some (.obj pp),some (csD cs),x4,x5,x6,x7] G:=by
 refine⟨pp,7,rfl,hpp,⟨by decide,qqz (by decide) (by decide)⟩,fun t t1 t2=>?_⟩;obtain⟨j,rfl⟩:∃j:Nat,t=(j:Int):=⟨t.toNat,by omega⟩;have ek:(2:Int)+(j:Int)=((j+2:Nat):Int):=by omega
 show qmbz D3 [x0,x1,some (.obj pp),some (csD cs),some (.int (2+(j:Int))),x5,x6,x7] G;rw[ek];generalize hk:j+2=k;refine⟨⟨by omega,by omega⟩,?_,?_⟩
 ·show (rngL 0 ((k:Int)).toNat).length≤sizeLine;rw[qasz];exact line1000 (by omega)
 show compGo _ _ _ _ _ (rngL 0 ((k:Int)).toNat) _ _ _;rw[Int.toNat_natCast,rng0];refine qabz (fun τ=>∃x,τ=[x,some (.int (k:Int))]) nD (fun _=>true) (fun i:Nat=>cD ((k:Int),(i:Int))) (G:=G) trivial (List.range k) [] _ ⟨none,rfl⟩ ?_ ?_
 ·rintro i hi τ K1 K2 ⟨x,rfl⟩ g1 g2;exact⟨fun _=>g1 rfl _ ⟨_,rfl⟩,nofun⟩
 intro p1 G1 n1;rw[filter_all,List.nil_append,show ((List.range k).map fun i:Nat=>cD ((k:Int),(i:Int)))=(allR k k).map cD by unfold allR;rw[List.map_map];rfl] at n1;have okr:ClOk 1000 (allR k k):=fun c hc=>by
  obtain⟨i,hi,rfl⟩:=List.mem_map.mp hc;have:=List.mem_range.mp hi;exact⟨⟨by show (0:Int)<(k:Int);omega,by show (0:Int)≤(i:Int);omega,by show (i:Int)<(k:Int);omega⟩,by show (k:Int)≤1000;omega⟩
 have hrl:(allR (k:Int) k).length=k:=by unfold allR;simp
 refine⟨pp,3,rfl,n1.sub _ _ hpp,⟨by decide,qqz (by decide) (by decide)⟩,fun r r1 r2=>⟨_,_,rfl,rfl,Nat.zero_le _,fun _=>?_,fun _=>qmfz (n1.sub _ _ hpp) cl hl n1.at_ (qmez _ _) okr n1.sub fun y6 y7 G2 s2=>q _ _ _ _ _ s2⟩⟩;have e1:=n1.at_;refine⟨⟨p1,_,rfl,e1⟩,pp,(k:Int),rfl,n1.sub _ _ hpp,⟨by omega,qqz (by omega) (by omega)⟩,fun r a b=>?_⟩;obtain⟨c,ec,hc,_⟩:=qeoz (xs:=allR (k:Int) k) cD a (by rw[hrl];exact b);refine⟨_,r.toNat,cD c,e1,⟨by omega,by omega⟩,by rw[List.length_map];exact qgcz a (by rw[hrl];exact b),by rw[List.getElem?_map,ec];rfl,?_⟩;rw[qeqz];have n2:New G p1 (.lst (((allR (k:Int) k).eraseIdx r.toNat).map cD)) (upd3 G1 p1 (.lst (((allR (k:Int) k).eraseIdx r.toNat).map cD))):=wrote n1;exact qmfz (n2.sub _ _ hpp) cl hl n2.at_ (List.Pairwise.sublist (List.eraseIdx_sublist _ _) (qmez _ _)) (fun c hc=>okr c (List.mem_of_mem_eraseIdx hc)) n2.sub fun y6 y7 G2 s2=>q _ _ _ _ _ s2
theorem qzyz:∀ds G Q,sp_law ds G Q->qmdz (endsOf Q) (start3 ["script","cell","pen","clocks","step","rests","some","thing"] ds) G:=by
 rintro ds G Q ⟨ns,rfl,hl,q⟩;refine⟨ns,0,rfl,fun i=>?_⟩;intro q0 G0 n0 q1 G1 n1;rw[qenz] at n1;have hcl:=qt8z ns (some 1) (some 5);refine⟨_,_,n1.sub _ _ n0.at_,n1.at_,?_,fun q2 G2 n2=>?_⟩
 ·rw[List.length_map];exact line1000 (by simp;omega)
 have s2:=(n0.sub.trans n1.sub).trans n2.sub;refine⟨_,n2.at_,?_⟩;refine qazz (fun ds τ G'=>(∃is:List Int,ds=is.map D.int)/\Sub G2 G'/\∃x1 x2 x3 x4 x5 x6 x7,τ=[some (.scr (ns.map .int)),x1,x2,x3,x4,x5,x6,x7]) (fun _ _ _ h=>h.2.1 _ _ n2.at_) ?_ ?_ _ _ _ ⟨⟨i::cutG ns (some 1) (some 5),rfl⟩,Sub.refl _,_,_,_,_,_,_,_,rfl⟩
 ·rintro d ds τ G3 N ⟨⟨is,e⟩,s3,x1,x2,x3,x4,x5,x6,x7,rfl⟩ hN;cases is with
  |nil=>cases e
  |cons cc is=>
   cases e;refine⟨cc,rfl,fun pp G4 n4=>⟨pp,rfl,n4.at_,fun cs hb hl8 hr=>?_⟩⟩;exact qzxz n4.at_ ⟨hb.1,hr,by omega⟩ hl8 fun y4 y5 y6 y7 G5 s5=>hN _ _ ⟨⟨is,rfl⟩,s3.trans (n4.sub.trans s5),_,_,_,_,_,_,_,rfl⟩
 ·rintro τ G3 ⟨_,s3,x1,x2,x3,x4,x5,x6,x7,rfl⟩;exact qblz (s2.trans s3) q
end My
namespace My
open PySem L2 L3
def top(i:Nat):Stmt:=PySem.Challenge.pw_coverclocks_k34_clocks_joined.main.body.getD i (.Pass ⟨0,0,0,0⟩)
abbrev qgxz:Stmt:=top 10
abbrev qzzz:List Str:=["thing"]
theorem qz0z:FnScope qzzz ["thing"] (defScope qgxz):=⟨rfl,rfl,rfl,by decide +kernel,rfl,by decide +kernel,by decide +kernel⟩
abbrev qgyz:Stmt:=top 11
abbrev qz1z:List Str:=["things","thing"]
theorem qz2z:FnScope qz1z ["things","thing"] (defScope qgyz):=⟨rfl,rfl,rfl,by decide +kernel,rfl,by decide +kernel,by decide +kernel⟩
abbrev qdmz:Stmt:=top 12
abbrev qgzz:List Str:=["things","thing"]
theorem qz3z:FnScope qgzz ["things","thing"] (defScope qdmz):=⟨rfl,rfl,rfl,by decide +kernel,rfl,by decide +kernel,by decide +kernel⟩
abbrev qg0z:Stmt:=top 13
abbrev qz4z:List Str:=["things"]
theorem qz5z:FnScope qz4z ["things"] (defScope qg0z):=⟨rfl,rfl,rfl,by decide +kernel,rfl,by decide +kernel,by decide +kernel⟩
abbrev qe2z:Stmt:=top 15
abbrev qmgz:List Str:=["clock","k"]
theorem qz6z:FnScope qmgz ["clock","k"] (defScope qe2z):=⟨rfl,rfl,rfl,by decide +kernel,rfl,by decide +kernel,by decide +kernel⟩
abbrev qdnz:Stmt:=top 17
abbrev qg1z:List Str:=["clocks","found","clock","k","parts"]
theorem sc_z26:FnScope qg1z ["clocks"] (defScope qdnz):=⟨rfl,rfl,rfl,by decide +kernel,rfl,by decide +kernel,by decide +kernel⟩
abbrev qg2z:Stmt:=top 18
abbrev qz7z:List Str:=["clock","k"]
theorem qz8z:FnScope qz7z ["clock","k"] (defScope qg2z):=⟨rfl,rfl,rfl,by decide +kernel,rfl,by decide +kernel,by decide +kernel⟩
abbrev qg3z:Stmt:=top 19
abbrev qz9z:List Str:=["clock","k"]
theorem q0az:FnScope qz9z ["clock","k"] (defScope qg3z):=⟨rfl,rfl,rfl,by decide +kernel,rfl,by decide +kernel,by decide +kernel⟩
abbrev qe3z:Stmt:=top 20
abbrev qmhz:List Str:=["clocks","places","whole","others"]
theorem sc_z28:FnScope qmhz ["clocks","places"] (defScope qe3z):=⟨rfl,rfl,rfl,by decide +kernel,rfl,by decide +kernel,by decide +kernel⟩
abbrev qg4z:Stmt:=top 22
abbrev q0bz:List Str:=["script","k"]
theorem q0cz:FnScope q0bz ["script","k"] (defScope qg4z):=⟨rfl,rfl,rfl,by decide +kernel,rfl,by decide +kernel,by decide +kernel⟩
abbrev qg5z:Stmt:=top 23
abbrev q0dz:List Str:=["seed"]
theorem sc_z23:FnScope q0dz ["seed"] (defScope qg5z):=⟨rfl,rfl,rfl,by decide +kernel,rfl,by decide +kernel,by decide +kernel⟩
abbrev qg6z:Stmt:=top 24
abbrev q0ez:List Str:=["cell","left"]
theorem sc_z19:FnScope q0ez ["cell"] (defScope qg6z):=⟨rfl,rfl,rfl,by decide +kernel,rfl,by decide +kernel,by decide +kernel⟩
abbrev qg7z:Stmt:=top 25
abbrev q0fz:List Str:=["pen","many","found"]
theorem sc_z24:FnScope q0fz ["pen","many"] (defScope qg7z):=⟨rfl,rfl,rfl,by decide +kernel,rfl,by decide +kernel,by decide +kernel⟩
abbrev qg8z:Stmt:=top 26
abbrev q0gz:List Str:=["found"]
theorem q0hz:FnScope q0gz ["found"] (defScope qg8z):=⟨rfl,rfl,rfl,by decide +kernel,rfl,by decide +kernel,by decide +kernel⟩
abbrev qg9z:Stmt:=top 27
abbrev q0iz:List Str:=["e","marks"]
theorem sc_z14:FnScope q0iz ["e"] (defScope qg9z):=⟨rfl,rfl,rfl,by decide +kernel,rfl,by decide +kernel,by decide +kernel⟩
abbrev qhaz:Stmt:=top 28
abbrev q0jz:List Str:=["pen","most","step"]
theorem sc_z11:FnScope q0jz ["pen","most"] (defScope qhaz):=⟨rfl,rfl,rfl,by decide +kernel,rfl,by decide +kernel,by decide +kernel⟩
abbrev qe4z:Stmt:=top 29
abbrev qmiz:List Str:=["pen","least","most","clocks","k","step","rest"]
theorem sc_z10:FnScope qmiz ["pen","least","most"] (defScope qe4z):=⟨rfl,rfl,rfl,by decide +kernel,rfl,by decide +kernel,by decide +kernel⟩
abbrev qe5z:Stmt:=top 30
abbrev qmjz:List Str:=["pen","most","way","found","steps","turn","step"]
theorem sc_z5:FnScope qmjz ["pen","most"] (defScope qe5z):=⟨rfl,rfl,rfl,by decide +kernel,rfl,by decide +kernel,by decide +kernel⟩
abbrev qhbz:Stmt:=top 31
abbrev q0kz:List Str:=["thing"]
theorem q0lz:FnScope q0kz ["thing"] (defScope qhbz):=⟨rfl,rfl,rfl,by decide +kernel,rfl,by decide +kernel,by decide +kernel⟩
abbrev qdoz:Stmt:=top 32
abbrev qhcz:List Str:=["thing"]
theorem q0mz:FnScope qhcz ["thing"] (defScope qdoz):=⟨rfl,rfl,rfl,by decide +kernel,rfl,by decide +kernel,by decide +kernel⟩
abbrev qe6z:Stmt:=top 33
abbrev qmkz:List Str:=["clock","k"]
theorem q0nz:FnScope qmkz ["clock","k"] (defScope qe6z):=⟨rfl,rfl,rfl,by decide +kernel,rfl,by decide +kernel,by decide +kernel⟩
abbrev qhdz:Stmt:=top 34
abbrev q0oz:List Str:=["some","k","step","rest"]
theorem sc_z8:FnScope q0oz ["some"] (defScope qhdz):=⟨rfl,rfl,rfl,by decide +kernel,rfl,by decide +kernel,by decide +kernel⟩
abbrev qhez:Stmt:=top 35
abbrev q0pz:List Str:=["clocks","thing","e"]
theorem sc_z25:FnScope q0pz ["clocks","thing"] (defScope qhez):=⟨rfl,rfl,rfl,by decide +kernel,rfl,by decide +kernel,by decide +kernel⟩
abbrev qcqz:Stmt:=top 36
abbrev qe7z:List Str:=["clocks","due","number","places","made","found","left","turn"]
theorem sc_z21:FnScope qe7z ["clocks"] (defScope qcqz):=⟨rfl,rfl,rfl,by decide +kernel,rfl,by decide +kernel,by decide +kernel⟩
abbrev qe8z:Stmt:=top 37
abbrev qmlz:List Str:=["script","cell","pen","clocks","step","rests","some","thing"]
theorem sc_law:FnScope qmlz ["script"] (defScope qe8z):=⟨rfl,rfl,rfl,by decide +kernel,rfl,by decide +kernel,by decide +kernel⟩
set_option genInjectivity false in
structure Adr where
 f_z18:Addr
 d_z18:FuncData
 f_z17:Addr
 d_z17:FuncData
 f_z1:Addr
 d_z1:FuncData
 f_z12:Addr
 d_z12:FuncData
 f_z27:Addr
 d_z27:FuncData
 f_z26:Addr
 d_z26:FuncData
 f_z15:Addr
 d_z15:FuncData
 f_z16:Addr
 d_z16:FuncData
 f_z28:Addr
 d_z28:FuncData
 f_z13:Addr
 d_z13:FuncData
 f_z23:Addr
 d_z23:FuncData
 f_z19:Addr
 d_z19:FuncData
 f_z24:Addr
 d_z24:FuncData
 f_z22:Addr
 d_z22:FuncData
 f_z14:Addr
 d_z14:FuncData
 f_z11:Addr
 d_z11:FuncData
 f_z10:Addr
 d_z10:FuncData
 f_z5:Addr
 d_z5:FuncData
 f_z4:Addr
 d_z4:FuncData
 f_z2:Addr
 d_z2:FuncData
 f_z20:Addr
 d_z20:FuncData
 f_z8:Addr
 d_z8:FuncData
 f_z25:Addr
 d_z25:FuncData
 f_z21:Addr
 d_z21:FuncData
 f_law:Addr
 d_law:FuncData
 c_ClockError:Addr
 c_NoClock:Addr
 c_NoNumber:Addr
 c_NoPlace:Addr
 c_NoRow:Addr
 c_NoClocks:Addr
 c_NoText:Addr
 c_TooGreat:Addr
structure Txt(K:PySem.W.Frag)(mg:Str->Option Value)(t:Adr):Prop where
 F_z18:Fun K "whole_good" "whole_good" qgxz t.f_z18 t.d_z18
 m_z18:mg "whole_good" = some (.ref t.f_z18)
 b_z18:Binds K t.d_z18 ["thing"] []
 F_z17:Fun K "place_good" "place_good" qgyz t.f_z17 t.d_z17
 m_z17:mg "place_good" = some (.ref t.f_z17)
 b_z17:Binds K t.d_z17 ["things","thing"] []
 F_z1:Fun K "rising_places_good" "rising_places_good" qdmz t.f_z1 t.d_z1
 m_z1:mg "rising_places_good" = some (.ref t.f_z1)
 b_z1:Binds K t.d_z1 ["things","thing"] []
 F_z12:Fun K "rising_once" "rising_once" qg0z t.f_z12 t.d_z12
 m_z12:mg "rising_once" = some (.ref t.f_z12)
 b_z12:Binds K t.d_z12 ["things"] []
 F_z27:Fun K "parts_of" "parts_of" qe2z t.f_z27 t.d_z27
 m_z27:mg "parts_of" = some (.ref t.f_z27)
 b_z27:Binds K t.d_z27 ["clock","k"] []
 F_z26:Fun K "joins_of" "joins_of" qdnz t.f_z26 t.d_z26
 m_z26:mg "joins_of" = some (.ref t.f_z26)
 b_z26:Binds K t.d_z26 ["clocks"] []
 F_z15:Fun K "parts_from" "parts_from" qg2z t.f_z15 t.d_z15
 m_z15:mg "parts_from" = some (.ref t.f_z15)
 b_z15:Binds K t.d_z15 ["clock","k"] []
 F_z16:Fun K "whole_from" "whole_from" qg3z t.f_z16 t.d_z16
 m_z16:mg "whole_from" = some (.ref t.f_z16)
 b_z16:Binds K t.d_z16 ["clock","k"] []
 F_z28:Fun K "join_at" "join_at" qe3z t.f_z28 t.d_z28
 m_z28:mg "join_at" = some (.ref t.f_z28)
 b_z28:Binds K t.d_z28 ["clocks","places"] []
 F_z13:Fun K "_law_cell_at" "_law_cell_at" qg4z t.f_z13 t.d_z13
 m_z13:mg "_law_cell_at" = some (.ref t.f_z13)
 b_z13:Binds K t.d_z13 ["script","k"] []
 F_z23:Fun K "_law_next" "_law_next" qg5z t.f_z23 t.d_z23
 m_z23:mg "_law_next" = some (.ref t.f_z23)
 b_z23:Binds K t.d_z23 ["seed"] []
 F_z19:Fun K "_law_pen_of" "_law_pen_of" qg6z t.f_z19 t.d_z19
 m_z19:mg "_law_pen_of" = some (.ref t.f_z19)
 b_z19:Binds K t.d_z19 ["cell"] []
 F_z24:Fun K "_law_draw" "_law_draw" qg7z t.f_z24 t.d_z24
 m_z24:mg "_law_draw" = some (.ref t.f_z24)
 b_z24:Binds K t.d_z24 ["pen","many"] []
 F_z22:Fun K "_law_whole" "_law_whole" qg8z t.f_z22 t.d_z22
 m_z22:mg "_law_whole" = some (.ref t.f_z22)
 b_z22:Binds K t.d_z22 ["found"] []
 F_z14:Fun K "_law_kind_of" "_law_kind_of" qg9z t.f_z14 t.d_z14
 m_z14:mg "_law_kind_of" = some (.ref t.f_z14)
 b_z14:Binds K t.d_z14 ["e"] []
 F_z11:Fun K "_law_clock_by" "_law_clock_by" qhaz t.f_z11 t.d_z11
 m_z11:mg "_law_clock_by" = some (.ref t.f_z11)
 b_z11:Binds K t.d_z11 ["pen","most"] []
 F_z10:Fun K "_law_parts_by" "_law_parts_by" qe4z t.f_z10 t.d_z10
 m_z10:mg "_law_parts_by" = some (.ref t.f_z10)
 b_z10:Binds K t.d_z10 ["pen","least","most"] []
 F_z5:Fun K "_law_clocks_by" "_law_clocks_by" qe5z t.f_z5 t.d_z5
 m_z5:mg "_law_clocks_by" = some (.ref t.f_z5)
 b_z5:Binds K t.d_z5 ["pen","most"] []
 F_z4:Fun K "_law_clock_good" "_law_clock_good" qhbz t.f_z4 t.d_z4
 m_z4:mg "_law_clock_good" = some (.ref t.f_z4)
 b_z4:Binds K t.d_z4 ["thing"] []
 F_z2:Fun K "_law_clocks_good" "_law_clocks_good" qdoz t.f_z2 t.d_z2
 m_z2:mg "_law_clocks_good" = some (.ref t.f_z2)
 b_z2:Binds K t.d_z2 ["thing"] []
 F_z20:Fun K "_law_parts" "_law_parts" qe6z t.f_z20 t.d_z20
 m_z20:mg "_law_parts" = some (.ref t.f_z20)
 b_z20:Binds K t.d_z20 ["clock","k"] []
 F_z8:Fun K "_law_whole_of" "_law_whole_of" qhdz t.f_z8 t.d_z8
 m_z8:mg "_law_whole_of" = some (.ref t.f_z8)
 b_z8:Binds K t.d_z8 ["some"] []
 F_z25:Fun K "_law_told" "_law_told" qhez t.f_z25 t.d_z25
 m_z25:mg "_law_told" = some (.ref t.f_z25)
 b_z25:Binds K t.d_z25 ["clocks","thing"] []
 F_z21:Fun K "_law_right" "_law_right" qcqz t.f_z21 t.d_z21
 m_z21:mg "_law_right" = some (.ref t.f_z21)
 b_z21:Binds K t.d_z21 ["clocks"] []
 F_law:Fun K "law" "law" qe8z t.f_law t.d_law
 m_law:mg "law" = some (.ref t.f_law)
 b_law:Binds K t.d_law ["script"] []
 m_ClockError:mg "ClockError" = some (.ref t.c_ClockError)
 cn_ClockError:ClsN K "ClockError" t.c_ClockError
 m_NoClock:mg "NoClock" = some (.ref t.c_NoClock)
 cn_NoClock:ClsN K "NoClock" t.c_NoClock
 m_NoNumber:mg "NoNumber" = some (.ref t.c_NoNumber)
 cn_NoNumber:ClsN K "NoNumber" t.c_NoNumber
 m_NoPlace:mg "NoPlace" = some (.ref t.c_NoPlace)
 cn_NoPlace:ClsN K "NoPlace" t.c_NoPlace
 m_NoRow:mg "NoRow" = some (.ref t.c_NoRow)
 cn_NoRow:ClsN K "NoRow" t.c_NoRow
 m_NoClocks:mg "NoClocks" = some (.ref t.c_NoClocks)
 cn_NoClocks:ClsN K "NoClocks" t.c_NoClocks
 m_NoText:mg "NoText" = some (.ref t.c_NoText)
 cn_NoText:ClsN K "NoText" t.c_NoText
 m_TooGreat:mg "TooGreat" = some (.ref t.c_TooGreat)
 cn_TooGreat:ClsN K "TooGreat" t.c_TooGreat
 o_NoPlace:ExcCls K t.c_NoPlace t.c_ClockError none
 ask_NoPlace:ExcAsk K t.c_NoPlace
 ki_NoPlace_NoClock:PySem.W.kitOne K (.ref t.c_NoPlace) (.ref t.c_NoClock)=some false
 ki_NoPlace_NoClocks:PySem.W.kitOne K (.ref t.c_NoPlace) (.ref t.c_NoClocks)=some false
 ki_NoPlace_NoNumber:PySem.W.kitOne K (.ref t.c_NoPlace) (.ref t.c_NoNumber)=some false
 ki_NoPlace_NoPlace:PySem.W.kitOne K (.ref t.c_NoPlace) (.ref t.c_NoPlace)=some true
 ki_NoPlace_NoRow:PySem.W.kitOne K (.ref t.c_NoPlace) (.ref t.c_NoRow)=some false
 ki_NoPlace_NoText:PySem.W.kitOne K (.ref t.c_NoPlace) (.ref t.c_NoText)=some false
 ki_NoPlace_TooGreat:PySem.W.kitOne K (.ref t.c_NoPlace) (.ref t.c_TooGreat)=some false
 kv_NoPlace:PySem.W.kitOne K (.ref t.c_NoPlace) (.type "ValueError")=some true
 m_ValueError:mg "ValueError" = none
 m_all:mg "all" = none
 m_bool:mg "bool" = none
 m_enumerate:mg "enumerate" = none
 m_int:mg "int" = none
 m_isinstance:mg "isinstance" = none
 m_len:mg "len" = none
 m_list:mg "list" = none
 m_max:mg "max" = none
 m_min:mg "min" = none
 m_range:mg "range" = none
 m_set:mg "set" = none
 m_sorted:mg "sorted" = none
 m_tuple:mg "tuple" = none
 m_zip:mg "zip" = none
abbrev rs:List Str:=["NoPlace"]
section
variable {P:Program} {w:World} {K:PySem.W.Frag} {mg:Str->Option Value} {base:Heap} {t:Adr}
theorem qbdz{x:Str}{C D:Addr}(h:ClsN K x C)(h2:ClsN K x D):C=D:=by
 unfold ClsN at h h2;rw[h] at h2;cases h2;rfl
theorem Txt.isx_NoClock(T:Txt K mg t):∀z∈rs,∀D,ClsN K z D->ExcAsk K D/\PySem.W.kitOne K (.ref D) (.ref t.c_NoClock)=some (z=="NoClock"):=by
 intro z hz D cn;simp only[List.mem_cons,List.not_mem_nil,or_false] at hz;subst hz;cases qbdz cn T.cn_NoPlace;exact⟨T.ask_NoPlace,T.ki_NoPlace_NoClock⟩
theorem Txt.isx_NoClocks(T:Txt K mg t):∀z∈rs,∀D,ClsN K z D->ExcAsk K D/\PySem.W.kitOne K (.ref D) (.ref t.c_NoClocks)=some (z=="NoClocks"):=by
 intro z hz D cn;simp only[List.mem_cons,List.not_mem_nil,or_false] at hz;subst hz;cases qbdz cn T.cn_NoPlace;exact⟨T.ask_NoPlace,T.ki_NoPlace_NoClocks⟩
theorem Txt.isx_NoNumber(T:Txt K mg t):∀z∈rs,∀D,ClsN K z D->ExcAsk K D/\PySem.W.kitOne K (.ref D) (.ref t.c_NoNumber)=some (z=="NoNumber"):=by
 intro z hz D cn;simp only[List.mem_cons,List.not_mem_nil,or_false] at hz;subst hz;cases qbdz cn T.cn_NoPlace;exact⟨T.ask_NoPlace,T.ki_NoPlace_NoNumber⟩
theorem Txt.isx_NoPlace(T:Txt K mg t):∀z∈rs,∀D,ClsN K z D->ExcAsk K D/\PySem.W.kitOne K (.ref D) (.ref t.c_NoPlace)=some (z=="NoPlace"):=by
 intro z hz D cn;simp only[List.mem_cons,List.not_mem_nil,or_false] at hz;subst hz;cases qbdz cn T.cn_NoPlace;exact⟨T.ask_NoPlace,T.ki_NoPlace_NoPlace⟩
theorem Txt.isx_NoRow(T:Txt K mg t):∀z∈rs,∀D,ClsN K z D->ExcAsk K D/\PySem.W.kitOne K (.ref D) (.ref t.c_NoRow)=some (z=="NoRow"):=by
 intro z hz D cn;simp only[List.mem_cons,List.not_mem_nil,or_false] at hz;subst hz;cases qbdz cn T.cn_NoPlace;exact⟨T.ask_NoPlace,T.ki_NoPlace_NoRow⟩
theorem Txt.isx_NoText(T:Txt K mg t):∀z∈rs,∀D,ClsN K z D->ExcAsk K D/\PySem.W.kitOne K (.ref D) (.ref t.c_NoText)=some (z=="NoText"):=by
 intro z hz D cn;simp only[List.mem_cons,List.not_mem_nil,or_false] at hz;subst hz;cases qbdz cn T.cn_NoPlace;exact⟨T.ask_NoPlace,T.ki_NoPlace_NoText⟩
theorem Txt.isx_TooGreat(T:Txt K mg t):∀z∈rs,∀D,ClsN K z D->ExcAsk K D/\PySem.W.kitOne K (.ref D) (.ref t.c_TooGreat)=some (z=="TooGreat"):=by
 intro z hz D cn;simp only[List.mem_cons,List.not_mem_nil,or_false] at hz;subst hz;cases qbdz cn T.cn_NoPlace;exact⟨T.ask_NoPlace,T.ki_NoPlace_TooGreat⟩
theorem Txt.isv(T:Txt K mg t):∀z∈rs,∀D,ClsN K z D->ExcAsk K D/\PySem.W.kitOne K (.ref D) (.type "ValueError")=some true:=by
 intro z hz D cn;simp only[List.mem_cons,List.not_mem_nil,or_false] at hz;subst hz;cases qbdz cn T.cn_NoPlace;exact⟨T.ask_NoPlace,T.kv_NoPlace⟩
theorem Txt.takes(T:Txt K mg t):Takes K rs t.c_ClockError:=by
 intro z hz D cn;simp only[List.mem_cons,List.not_mem_nil,or_false] at hz;subst hz;cases qbdz cn T.cn_NoPlace;exact⟨_,T.o_NoPlace⟩
theorem q0qz:∀ds G Q,qbmz ds G Q->ds.length=1:=by
 intro ds G Q h
 first
  | (rcases ds with _|⟨_,_|⟨_,_|⟨_,_|⟨_,_⟩⟩⟩⟩<;>first|rfl|exact h.elim)
  | (obtain⟨rfl,_⟩:=h;rfl)
  | (obtain⟨_,rfl,_⟩:=h;rfl)
  | (obtain⟨_,_,rfl,_⟩:=h;rfl)
  | (obtain⟨_,_,_,rfl,_⟩:=h;rfl)
  | (obtain⟨_,_,_,_,rfl,_⟩:=h;rfl)
  | (obtain⟨_,_,_,_,_,rfl,_⟩:=h;rfl)
  | (obtain⟨_,_,_,_,_,_,rfl,_⟩:=h;rfl)
  | (obtain⟨_,_,_,_,_,_,_,rfl,_⟩:=h;rfl)
  | (obtain⟨_,_,_,_,_,_,_,_,rfl,_⟩:=h;rfl)
theorem q0rz(T:Txt K mg t):FnOk3 P w K mg base 1 t.f_z18 t.d_z18 ["thing"] qbmz:=by
 refine qfn3 (k:=0) (sp:=qbmz) T.F_z18 qz0z (by decide) q0qz (qf7z) (fun cdv A outer s H E hr=>?_) qtzz;refine qez (qlz ?_);refine qegz (qbkz qjhz rfl (qbz (pv 0)) T.m_isinstance T.m_int rfl (by decide) (by decide)) ?_;refine qefz (qjuz (qbkz qjiz rfl (qbz (pv 0)) T.m_isinstance T.m_bool rfl (by decide) (by decide)))
theorem q0sz:∀ds G Q,qc9z ds G Q->ds.length=2:=by
 intro ds G Q h;obtain⟨_,_,rfl,_⟩:=h;rfl
theorem q0tz(T:Txt K mg t):FnOk3 P w K mg base 2 t.f_z17 t.d_z17 ["things","thing"] qc9z:=by
 refine qfn3 (k:=1) (sp:=qc9z) T.F_z17 qz2z (by decide) q0sz (qkuz) (fun cdv A outer s H E hr=>?_) quwz;refine qez (qlz ?_);refine qegz (qkz ((q0rz T).mono (by decide)) hr T.m_z18 T.F_z18.kp T.b_z18 (qaz (qbz (pv 1)) qcz)) ?_;refine qefz (qtyz l_le qb9z qn3z (qb8z hr.units0) qdz (qbz (pv 1)) (q6z hr.units T.m_len (qaz (qbz (pv 0)) qcz)))
theorem q0uz:∀ds G Q,qdgz ds G Q->ds.length=2:=by
 intro ds G Q h;obtain⟨_,_,rfl,_⟩:=h;rfl
theorem q0vz(T:Txt K mg t):FnOk3 P w K mg base 3 t.f_z1 t.d_z1 ["things","thing"] qdgz:=by
 refine qfn3 (k:=2) (sp:=qdgz) T.F_z1 qz3z (by decide) q0uz (qlkz) (fun cdv A outer s H E hr=>?_) qydz;refine qfz (qvz (qakz ?_) (qez (qlz qafz)) qxz) (qez (qlz (qc3z hr.units T.m_all (qaz ?_ qcz))));refine qahz (qalz (qagz (qbkz kit_tuple rfl (qbz (pv 1)) T.m_isinstance T.m_tuple rfl (by decide) (by decide)))) ?_;refine qa5z (qalz (qagz (qc3z hr.units T.m_all (qaz ?_ qcz))));refine qapz rfl (show CmpOk qgzz (defScope qdmz) _ ["place"] [0] from⟨rfl,by decide +kernel,by decide +kernel,by decide +kernel,by decide +kernel,by decide +kernel⟩) ?_ ?_;refine qa6z (qbz (pv 1));intro s0 H0 fp0;refine⟨(qmz (i:=0) (show (["place","things"]:List Str).Nodup by decide +kernel)),qamz,?_⟩;refine qkz ((q0tz T).mono (by decide)) hr T.m_z17 T.F_z17.kp T.b_z17 (qaz (qbz (pv 1)) (qaz (qbz (pv 0)) qcz));refine qapz rfl (show CmpOk qgzz (defScope qdmz) _ ["ahead","place"] [] from⟨rfl,by decide +kernel,by decide +kernel,by decide +kernel,by decide +kernel,by decide +kernel⟩) ?_ ?_;refine qtxz T.m_zip (qaz (qbz (pv 1)) (qaz (qeiz (qbz (pv 1)) (qc2z qdz) qf5z) qcz));intro s0 H0 fp0;refine⟨(qc1z rfl ?_),qamz,(qeez qb9z (qb8z hr.units0) (qbz (pv 0)) (qbz (pv 1)) (nomark _))⟩;refine qauz (qmz (i:=0) (show (["ahead","place"]:List Str).Nodup by decide +kernel)) ?_;refine qauz (qmz (i:=1) (show (["ahead","place"]:List Str).Nodup by decide +kernel)) qc0z
theorem q0wz:∀ds G Q,qchz ds G Q->ds.length=1:=by
 intro ds G Q h;obtain⟨_,_,rfl,_⟩:=h;rfl
theorem q0xz(T:Txt K mg t):FnOk3 P w K mg base 1 t.f_z12 t.d_z12 ["things"] qchz:=by
 refine qfn3 (k:=0) (sp:=qchz) T.F_z12 qz5z (by decide) q0wz (qk1z) (fun cdv A outer s H E hr=>?_) qwhz;refine qez (qlz (qbyz hr.units T.m_tuple (qaz (qwfz hr.units (qbz (pv 0)) T.m_sorted T.m_set) qcz)))
theorem q0yz:∀ds G Q,qb1z ds G Q->ds.length=2:=by
 intro ds G Q h;obtain⟨_,_,rfl,_⟩:=h;rfl
theorem q0zz(T:Txt K mg t):FnOk3 P w K mg base 1 t.f_z27 t.d_z27 ["clock","k"] qb1z:=by
 refine qfn3 (k:=0) (sp:=qb1z) T.F_z27 qz6z (by decide) q0yz (qkqz) (fun cdv A outer s H E hr=>?_) qutz;refine qez (qlz ?_);refine qapz rfl (show CmpOk qmgz (defScope qe2z) _ ["turn"] [0,1] from⟨rfl,by decide +kernel,by decide +kernel,by decide +kernel,by decide +kernel,by decide +kernel⟩) ?_ ?_;refine qa7z T.m_range (qaz (qbz (pv 1)) qcz);intro s0 H0 fp0;refine⟨(qmz (i:=0) (show (["turn","clock","k"]:List Str).Nodup by decide +kernel)),qamz,?_⟩;refine quz (qaz (qhz qa3z qa2z (qpz (qbz (pv 1)) qdz) (qbz (pv 2))) ?_);refine qaz (qhz q0z qzz (qpz (qbz (pv 1)) qdz) (qhz qa3z qa2z (qpz (qbz (pv 1)) qdz) (qbz (pv 0)))) qcz
theorem q00z:∀ds G Q,qckz ds G Q->ds.length=2:=by
 intro ds G Q h;obtain⟨_,_,rfl,_⟩:=h;rfl
theorem qmmz(T:Txt K mg t):FnOk3 P w K mg base 1 t.f_z16 t.d_z16 ["clock","k"] qckz:=by
 refine qfn3 (k:=0) (sp:=qckz) T.F_z16 q0az (by decide) q00z (qk8z) (fun cdv A outer s H E hr=>?_) qw9z;refine qez (qlz (quz (qaz (qhz qb6z qb4z (qpz (qbz (pv 0)) qdz) (qbz (pv 1))) (qaz (qpz (qbz (pv 0)) qdz) qcz))))
theorem q01z:∀ds G Q,qdcz ds G Q->ds.length=2:=by
 intro ds G Q h;obtain⟨_,_,rfl,_⟩:=h;rfl
theorem q02z(T:Txt K mg t):FnOk3 P w K mg base 2 t.f_z15 t.d_z15 ["clock","k"] qdcz:=by
 refine qfn3 (k:=1) (sp:=qdcz) T.F_z15 qz8z (by decide) q01z (qk9z) (fun cdv A outer s H E hr=>?_) qxbz;refine qfz ?_ (qez (qlz ?_));refine qvz (qoz l_ne (qa4z hr.units) (qhz qbsz qboz (qpz (qbz (pv 0)) qdz) (qbz (pv 1))) qdz (nomark _)) (qez (qlz (q4z qcz))) (qxz);refine qkz ((q0zz T).mono (by decide)) hr T.m_z27 T.F_z27.kp T.b_z27 (qaz ?_ (qaz (qbz (pv 1)) qcz));refine qkz ((qmmz T).mono (by decide)) hr T.m_z16 T.F_z16.kp T.b_z16 (qaz (qbz (pv 0)) (qaz (qbz (pv 1)) qcz))
theorem q03z:∀ds G Q,qclz ds G Q->ds.length=1:=by
 intro ds G Q h;obtain⟨_,rfl,_⟩:=h;rfl
theorem qmnz(T:Txt K mg t):FnOk3 P w K mg base 3 t.f_z26 t.d_z26 ["clocks"] qclz:=by
 refine qfn3 (k:=2) (sp:=qclz) T.F_z26 sc_z26 (by decide) q03z (qlaz) (fun cdv A outer s H E hr=>?_) qxlz;refine qfz (qnz (i:=1) sc_z26.nd (q4z qcz)) ?_;refine qfz ?_ (qez (qlz (qejz hr.units T.m_sorted (qaz (qbz (pv 1)) qcz))));refine qbjz PassesOwn.never rfl (qa6z (qbz (pv 0))) (qmz (i:=2) sc_z26.nd) (qez ?_);refine qbjz PassesOwn.never rfl ?_ (qmz (i:=3) sc_z26.nd) ?_;refine qjwz T.m_range (qaz qdz (qaz (qhz q0z qzz (q6z hr.units T.m_len (qaz (qbz (pv 0)) qcz)) qdz) qcz));refine qfz (qnz (i:=4) sc_z26.nd ?_) (qez ?_);refine qkz ((q02z T).mono (by decide)) hr T.m_z15 T.F_z15.kp T.b_z15 (qaz (qbz (pv 2)) (qaz (qbz (pv 3)) qcz));refine qvz (qakz ?_) (qez (qcbz ?_)) qxz;refine qf3z (qoz l_ne (qa4z hr.units) (qbz (pv 4)) (q4z qcz) (nomark _)) (qf2z (qagz (qc3z hr.units T.m_all (qaz ?_ qcz))));refine qapz rfl (show CmpOk qg1z (defScope qdnz) _ ["part"] [0] from⟨rfl,by decide +kernel,by decide +kernel,by decide +kernel,by decide +kernel,by decide +kernel⟩) ?_ ?_;refine qa6z (qbz (pv 4));intro s0 H0 fp0;refine⟨(qmz (i:=0) (show (["part","clocks"]:List Str).Nodup by decide +kernel)),qamz,?_⟩;refine qeez l_in (qtnz hr.units) (qbz (pv 0)) (qbz (pv 1)) (by with_unfolding_all rfl);refine qa8z qd3z PySem.F.slot_list_append PySem.F.type_list_append qcsz (qbz (pv 1)) (qaz (qbyz hr.units T.m_tuple (qaz ?_ qcz)) qcz);refine qapz rfl (show CmpOk qg1z (defScope qdnz) _ ["part"] [0] from⟨rfl,by decide +kernel,by decide +kernel,by decide +kernel,by decide +kernel,by decide +kernel⟩) ?_ ?_;refine qa6z (qbz (pv 4));intro s0 H0 fp0;refine⟨(qmz (i:=0) (show (["part","clocks"]:List Str).Nodup by decide +kernel)),qamz,(qw8z hr.units (qbz (pv 1)) (qaz (qbz (pv 0)) qcz))⟩
theorem q04z:∀ds Q E,qdhz ds Q E->ds.length=2:=by
 intro ds Q E h
 first
  | (rcases ds with _|⟨_,_|⟨_,_|⟨_,_|⟨_,_⟩⟩⟩⟩<;>first|rfl|exact h.elim)
  | (obtain⟨rfl,_⟩:=h;rfl)
  | (obtain⟨_,rfl,_⟩:=h;rfl)
  | (obtain⟨_,_,rfl,_⟩:=h;rfl)
  | (obtain⟨_,_,_,rfl,_⟩:=h;rfl)
  | (obtain⟨_,_,_,_,rfl,_⟩:=h;rfl)
  | (obtain⟨_,_,_,_,_,rfl,_⟩:=h;rfl)
  | (obtain⟨_,_,_,_,_,_,rfl,_⟩:=h;rfl)
  | (obtain⟨_,_,_,_,_,_,_,rfl,_⟩:=h;rfl)
  | (obtain⟨_,_,_,_,_,_,_,_,rfl,_⟩:=h;rfl)
theorem q05z(T:Txt K mg t):FnX P w K mg base 4 t.f_z28 t.d_z28 ["clocks","places"] qdhz:=by
 refine qfnX (k:=3) (sp:=qdhz) T.F_z28 sc_z28 (by decide) q04z qlnz (fun cdv A outer s H E0 E hr hE=>?_) qyhz;refine qfz ?_ ?_;refine qvz (qakz ?_) (qez (qv8z quyz hE T.o_NoPlace T.cn_NoPlace T.m_NoPlace rfl)) qxz;refine qahz (qalz (qagz ?_)) ?_;refine qkz ((q0vz T).mono (by decide)) hr T.m_z1 T.F_z1.kp T.b_z1 ?_;refine qaz (qbz (pv 0)) (qaz (qbz (pv 1)) qcz);refine qa5z (qoz qf1z (qf0z hr.units) (qbz (pv 1)) ?_ (by with_unfolding_all rfl));refine qkz ((qmnz T).mono (by decide)) hr T.m_z26 T.F_z26.kp T.b_z26 (qaz (qbz (pv 0)) qcz);refine qfz (qnz (i:=2) sc_z28.nd ?_) ?_;refine qkz ((qmmz T).mono (by decide)) hr T.m_z16 T.F_z16.kp T.b_z16 ?_;refine qaz (qpz (qbz (pv 0)) (qpz (qbz (pv 1)) qdz)) (qaz (q6z hr.units T.m_len (qaz (qbz (pv 1)) qcz)) qcz);refine qfz ?_ (qez (qlz ?_));refine qekz (i:=3) rfl sc_z28.nd (show CmpOk qmhz (defScope qe3z) _ ["place","clock"] [1] from⟨rfl,by decide +kernel,by decide +kernel,by decide +kernel,by decide +kernel,by decide +kernel⟩) ?_ ?_;refine qjzz T.m_enumerate (qaz (qbz (pv 0)) qcz);intro s0 H0 fp0;refine⟨(qc1z rfl ?_),(qf4z (qoz qf1z (qf0z hr.units) (qbz (pv 0)) (qbz (pv 2)) (by with_unfolding_all rfl))),(qbz (pv 1))⟩;refine qauz (qmz (i:=0) (show (["place","clock","places"]:List Str).Nodup by decide +kernel)) ?_;refine qauz (qmz (i:=1) (show (["place","clock","places"]:List Str).Nodup by decide +kernel)) qc0z;refine qkz ((q0xz T).mono (by decide)) hr T.m_z12 T.F_z12.kp T.b_z12 ?_;refine qaz (qhz q0z qzz (qbz (pv 3)) (q4z (qaz (qbz (pv 2)) qcz))) qcz
theorem q06z:∀ds G Q,qc5z ds G Q->ds.length=2:=by
 intro ds G Q h;obtain⟨_,_,rfl,_⟩:=h;rfl
theorem q07z(T:Txt K mg t):FnOk3 P w K mg base 1 t.f_z13 t.d_z13 ["script","k"] qc5z:=by
 refine qfn3 (k:=0) (sp:=qc5z) T.F_z13 q0cz (by decide) q06z (qj1z) (fun cdv A outer s H E hr=>?_) qt2z;refine qfz ?_ (qez (qlz qdz));refine qvz (qoz qb9z (qb8z hr.units0) (qbz (pv 1)) (q6z hr.units T.m_len (qaz (qbz (pv 0)) qcz)) (nomark _)) ?_ qxz;refine qez (qlz (qpz (qbz (pv 0)) (qbz (pv 1))))
theorem q08z:∀ds G Q,qccz ds G Q->ds.length=1:=by
 intro ds G Q h;obtain⟨_,rfl,_⟩:=h;rfl
theorem qmoz(T:Txt K mg t):FnOk3 P w K mg base 1 t.f_z23 t.d_z23 ["seed"] qccz:=by
 refine qfn3 (k:=0) (sp:=qccz) T.F_z23 sc_z23 (by decide) q08z (qj2z) (fun cdv A outer s H E hr=>?_) qt3z;refine qfz (qnz (i:=0) sc_z23.nd (qhz qbsz qboz (qhz q0z qzz (qbz (pv 0)) qdz) qdz)) ?_;refine qez (qlz (qhz qbsz qboz ?_ qdz));refine qhz q0z qzz (qhz q0z qzz (qhz qa3z qa2z (qbz (pv 0)) (qbz (pv 0))) (qhz qa3z qa2z qdz (qbz (pv 0)))) qdz
theorem q09z:∀ds G Q,qemz ds G Q->ds.length=1:=by
 intro ds G Q h;obtain⟨_,rfl,_⟩:=h;rfl
theorem q1az(T:Txt K mg t):FnOk3 P w K mg base 1 t.f_z19 t.d_z19 ["cell"] qf8z:=by
 refine FnOk.imp ?_ qt7z;refine qfn3 (k:=0) (sp:=qemz) T.F_z19 sc_z19 (by decide) q09z (qj4z) (fun cdv A outer s H E hr=>?_) qt6z;refine qfz (qnz (i:=1) sc_z19.nd (qf6z hr.units T.m_max (qaz (qbz (pv 0)) (qaz (qhz qdxz qdqz qdz (qbz (pv 0))) qcz)))) ?_;refine qez (qlz (q4z (qaz (qbz (pv 1)) ?_)));refine qaz (qtrz hr.units T.m_int (qaz (qeez l_ge qhkz (qbz (pv 1)) (qhz qqxz qnyz qdz qdz) (nomark _)) qcz)) ?_;refine qaz (qhz qbsz qboz (qbz (pv 1)) qdz) qcz
theorem q1bz:∀ds G Q,qelz ds G Q->ds.length=2:=by
 intro ds G Q h;obtain⟨_,_,_,_,_,rfl,_⟩:=h;rfl
theorem qadz(T:Txt K mg t):FnOk3 P w K mg base 2 t.f_z24 t.d_z24 ["pen","many"] q7z:=by
 refine FnOk.imp ?_ qt5z;refine qfn3 (k:=1) (sp:=qelz) T.F_z24 sc_z24 (by decide) q1bz (qj3z) (fun cdv A outer s H E hr=>?_) qt4z;refine qfz ?_ ?_;refine qvz (qoz l_eq (qbhz hr.units) (qpz (qbz (pv 0)) qdz) qdz (nomark _)) ?_ qxz;refine qfz (qnz (i:=2) sc_z24.nd (qhz qbsz qboz (qpz (qbz (pv 0)) qdz) (qbz (pv 1)))) ?_;refine qfz (qehz (qhz qb6z qb4z (qpz (qbz (pv 0)) qdz) (qbz (pv 1))) (qjvz (qbz (pv 0)) qdz)) (qez (qlz (qbz (pv 2))));refine qfz (qehz ?_ (qjvz (qbz (pv 0)) qdz)) ?_;refine qkz ((qmoz T).mono (by decide)) hr T.m_z23 T.F_z23.kp T.b_z23 (qaz ?_ qcz);refine qhz q0z qzz (qkz ((qmoz T).mono (by decide)) hr T.m_z23 T.F_z23.kp T.b_z23 (qaz (qpz (qbz (pv 0)) qdz) qcz)) (qdz);refine qez (qlz (qhz qbsz qboz (qhz qb6z qb4z (qpz (qbz (pv 0)) qdz) qdz) (qbz (pv 1))))
theorem q1cz:∀ds G Q,qc4z ds G Q->ds.length=1:=by
 intro ds G Q h
 first
  | (rcases ds with _|⟨_,_|⟨_,_|⟨_,_|⟨_,_⟩⟩⟩⟩<;>first|rfl|exact h.elim)
  | (obtain⟨rfl,_⟩:=h;rfl)
  | (obtain⟨_,rfl,_⟩:=h;rfl)
  | (obtain⟨_,_,rfl,_⟩:=h;rfl)
  | (obtain⟨_,_,_,rfl,_⟩:=h;rfl)
  | (obtain⟨_,_,_,_,rfl,_⟩:=h;rfl)
  | (obtain⟨_,_,_,_,_,rfl,_⟩:=h;rfl)
  | (obtain⟨_,_,_,_,_,_,rfl,_⟩:=h;rfl)
  | (obtain⟨_,_,_,_,_,_,_,rfl,_⟩:=h;rfl)
  | (obtain⟨_,_,_,_,_,_,_,_,rfl,_⟩:=h;rfl)
theorem qmpz(T:Txt K mg t):FnOk3 P w K mg base 1 t.f_z22 t.d_z22 ["found"] qc4z:=by
 refine qfn3 (k:=0) (sp:=qc4z) T.F_z22 q0hz (by decide) q1cz (qt0z) (fun cdv A outer s H E hr=>?_) qt1z;refine qez (qlz ?_);refine qegz (qbkz qjhz rfl (qbz (pv 0)) T.m_isinstance T.m_int rfl (by decide) (by decide)) ?_;refine qefz (qjuz (qbkz qjiz rfl (qbz (pv 0)) T.m_isinstance T.m_bool rfl (by decide) (by decide)))
theorem q1dz:∀ds G Q,(qdfz rs) ds G Q->ds.length=1:=by
 intro ds G Q h
 first
  | (rcases ds with _|⟨_,_|⟨_,_|⟨_,_|⟨_,_⟩⟩⟩⟩<;>first|rfl|exact h.elim)
  | (obtain⟨rfl,_⟩:=h;rfl)
  | (obtain⟨_,rfl,_⟩:=h;rfl)
  | (obtain⟨_,_,rfl,_⟩:=h;rfl)
  | (obtain⟨_,_,_,rfl,_⟩:=h;rfl)
  | (obtain⟨_,_,_,_,rfl,_⟩:=h;rfl)
  | (obtain⟨_,_,_,_,_,rfl,_⟩:=h;rfl)
  | (obtain⟨_,_,_,_,_,_,rfl,_⟩:=h;rfl)
  | (obtain⟨_,_,_,_,_,_,_,rfl,_⟩:=h;rfl)
  | (obtain⟨_,_,_,_,_,_,_,_,rfl,_⟩:=h;rfl)
theorem q1ez(T:Txt K mg t):FnH3 P w K mg base 1 t.f_z14 t.d_z14 ["e"] (qdfz rs):=by
 refine qfnH (k:=0) (sp:=(qdfz rs)) T.F_z14 sc_z14 (by decide) q1dz (qljz rs) (fun cdv A outer s H E hr=>?_) (qx8z rs);refine qfz (qnz (i:=1) sc_z14.nd ?_) ?_;refine q4z (qaz (qb2z (T.isx_NoClock) (qbz (pv 0)) T.m_isinstance T.m_NoClock) ?_);refine qaz (qb2z (T.isx_NoNumber) (qbz (pv 0)) T.m_isinstance T.m_NoNumber) ?_;refine qaz (qb2z (T.isx_NoPlace) (qbz (pv 0)) T.m_isinstance T.m_NoPlace) (qaz (qb2z (T.isx_NoRow) (qbz (pv 0)) T.m_isinstance T.m_NoRow) qcz);refine qfz ?_ ?_;refine qnz (i:=1) sc_z14.nd (qhz q0z qzz (qbz (pv 1)) (q4z ?_));refine qaz (qb2z (T.isx_NoClocks) (qbz (pv 0)) T.m_isinstance T.m_NoClocks) ?_;refine qaz (qb2z (T.isx_NoText) (qbz (pv 0)) T.m_isinstance T.m_NoText) (qaz (qb2z (T.isx_TooGreat) (qbz (pv 0)) T.m_isinstance T.m_TooGreat) qcz);refine qfz (qvz (qakz ?_) (qez (qlz qaaz)) qxz) (qez (qlz ?_));refine qahz (qalz (qagz (qv9z (T.isv) (qbz (pv 0)) T.m_isinstance T.m_ValueError))) (qa5z ?_);refine qoz l_ne (qa4z hr.units) (qa8z qvyz PySem.F.slot_list_count PySem.F.type_list_count qvwz (qbz (pv 1)) (qaz qafz qcz)) qdz (nomark _);refine qjxz (qaz qaaz (qaz qaaz (qaz qaaz (qaz qaaz (qaz qaaz (qaz qaaz (qaz qaaz qcz))))))) ?_;refine qa8z qvzz PySem.F.slot_list_index PySem.F.type_list_index qvxz (qbz (pv 1)) (qaz qafz qcz)
theorem q1fz:∀ds G Q,qcez ds G Q->ds.length=2:=by
 intro ds G Q h;obtain⟨_,_,rfl,_⟩:=h;rfl
theorem qmqz(T:Txt K mg t):FnOk3 P w K mg base 3 t.f_z11 t.d_z11 ["pen","most"] qcez:=by
 refine qfn3 (k:=2) (sp:=qcez) T.F_z11 sc_z11 (by decide) q1fz (qkdz) (fun cdv A outer s H E hr=>?_) qudz;refine qfz (qnz (i:=2) sc_z11.nd (qhz q0z qzz qdz ?_)) (qez (qlz (quz (qaz (qbz (pv 2)) ?_))));refine qkz ((qadz T).mono (by decide)) hr T.m_z24 T.F_z24.kp T.b_z24 (qaz (qbz (pv 0)) (qaz (qbz (pv 1)) qcz));refine qaz (qkz ((qadz T).mono (by decide)) hr T.m_z24 T.F_z24.kp T.b_z24 (qaz (qbz (pv 0)) (qaz (qbz (pv 2)) qcz))) (qcz)
theorem q1gz:∀ds G Q,qcjz ds G Q->ds.length=3:=by
 intro ds G Q h;obtain⟨_,_,_,rfl,_⟩:=h;rfl
theorem qmrz(T:Txt K mg t):FnOk3 P w K mg base 3 t.f_z10 t.d_z10 ["pen","least","most"] qcjz:=by
 refine qfn3 (k:=2) (sp:=qcjz) T.F_z10 sc_z10 (by decide) q1gz (qk2z) (fun cdv A outer s H E hr=>?_) qwuz;refine qfz (qnz (i:=3) sc_z10.nd (q4z (qaz (quz (qaz qdz (qaz qdz qcz))) qcz))) ?_;refine qfz ?_ (qez (qlz (qejz hr.units T.m_sorted (qaz (qbz (pv 3)) qcz))));refine qtqz PassesOwn.never (qakz ?_) ?_;refine qahz (qoz qb9z (qb8z hr.units0) (q6z hr.units T.m_len (qaz (qbz (pv 3)) qcz)) (qbz (pv 1)) (nomark _)) (qa5z (qakz ?_));refine qf3z ?_ (qf2z (qoz qb9z (qb8z hr.units0) (q6z hr.units T.m_len (qaz (qbz (pv 3)) qcz)) (qbz (pv 2)) (nomark _)));refine qoz l_gt qdrz (qkz ((qadz T).mono (by decide)) hr T.m_z24 T.F_z24.kp T.b_z24 (qaz (qbz (pv 0)) (qaz qdz qcz))) ?_ (nomark _);refine qdz;refine qfz (qnz (i:=4) sc_z10.nd ?_) ?_;refine qjxz (qaz qdz (qaz qdz (qaz qdz (qaz qdz (qaz qdz (qaz qdz qcz)))))) ?_;refine qkz ((qadz T).mono (by decide)) hr T.m_z24 T.F_z24.kp T.b_z24 (qaz (qbz (pv 0)) (qaz qdz qcz));refine qfz (qnz (i:=4) sc_z10.nd ?_) ?_;refine qtsz hr.units T.m_min (qaz (qbz (pv 4)) (qaz (qf6z hr.units T.m_max ?_) qcz));refine qaz qdz (qaz (qhz q0z qzz (qhz qdxz qdqz (qbz (pv 2)) (q6z hr.units T.m_len (qaz (qbz (pv 3)) qcz))) qdz) qcz);refine qfz ?_ ?_;refine qehz ?_ (qc1z rfl (qauz (qmz (i:=5) sc_z10.nd) (qauz (qmz (i:=6) sc_z10.nd) qc0z)));refine qa8z qfkz PySem.F.slot_list_pop PySem.F.type_list_pop qfdz (qbz (pv 3)) (qaz ?_ qcz);refine qkz ((qadz T).mono (by decide)) hr T.m_z24 T.F_z24.kp T.b_z24 ?_;refine qaz (qbz (pv 0)) (qaz (q6z hr.units T.m_len (qaz (qbz (pv 3)) qcz)) qcz);refine qfz ?_ ?_;refine qvz (qoz l_gt qdrz (qhz qa3z qa2z (qbz (pv 5)) (qbz (pv 4))) qdz (nomark _)) (qez (qlz (qejz hr.units T.m_sorted ?_))) qxz;refine qaz (qhz q0z qzz (qbz (pv 3)) (q4z (qaz (quz (qaz (qbz (pv 5)) (qaz (qbz (pv 6)) qcz))) qcz))) qcz;refine qez (qnz (i:=3) sc_z10.nd (qhz q0z qzz (qbz (pv 3)) ?_));refine qapz rfl (show CmpOk qmiz (defScope qe4z) _ ["part"] [5,4,6] from⟨rfl,by decide +kernel,by decide +kernel,by decide +kernel,by decide +kernel,by decide +kernel⟩) ?_ ?_;refine qa7z T.m_range (qaz (qbz (pv 4)) qcz);intro s0 H0 fp0;refine⟨(qmz (i:=0) (show (["part","step","k","rest"]:List Str).Nodup by decide +kernel)),qamz,?_⟩;refine quz (qaz (qhz qa3z qa2z (qbz (pv 1)) (qbz (pv 2))) ?_);refine qaz (qhz q0z qzz (qbz (pv 3)) (qhz qa3z qa2z (qbz (pv 1)) (qbz (pv 0)))) qcz
theorem q1hz:∀ds G Q,qdaz ds G Q->ds.length=2:=by
 intro ds G Q h;obtain⟨_,rfl,_⟩:=h;rfl
theorem q1iz(T:Txt K mg t):FnOk3 P w K mg base 4 t.f_z5 t.d_z5 ["pen","most"] qdaz:=by
 refine qfn3 (k:=3) (sp:=qdaz) T.F_z5 sc_z5 (by decide) q1hz (qk3z) (fun cdv A outer s H E hr=>?_) qwwz;refine qfz (qnz (i:=2) sc_z5.nd ?_) ?_;refine qkz ((qadz T).mono (by decide)) hr T.m_z24 T.F_z24.kp T.b_z24 (qaz (qbz (pv 0)) (qaz qdz qcz));refine qfz ?_ ?_;refine qvz (qoz l_eq (qbhz hr.units) (qbz (pv 2)) qdz (nomark _)) (qez ?_) (qez ?_);refine qekz (i:=3) rfl sc_z5.nd (show CmpOk qmjz (defScope qe5z) _ ["turn"] [0] from⟨rfl,by decide +kernel,by decide +kernel,by decide +kernel,by decide +kernel,by decide +kernel⟩) ?_ ?_;refine qa7z T.m_range (qaz ?_ qcz);refine qkz ((qadz T).mono (by decide)) hr T.m_z24 T.F_z24.kp T.b_z24 ?_;refine qaz (qbz (pv 0)) (qaz (qhz q0z qzz (qbz (pv 1)) qdz) qcz);intro s0 H0 fp0;refine⟨(qmz (i:=0) (show (["turn","pen"]:List Str).Nodup by decide +kernel)),qamz,?_⟩;refine qkz ((qmqz T).mono (by decide)) hr T.m_z11 T.F_z11.kp T.b_z11 (qaz (qbz (pv 1)) (qaz qdz qcz));refine qvz (qoz l_eq (qbhz hr.units) (qbz (pv 2)) qdz (nomark _)) ?_ ?_;refine qfz (qnz (i:=4) sc_z5.nd ?_) (qfz (qnz (i:=3) sc_z5.nd (q4z qcz)) (qez ?_));refine q4z (qaz qdz (qaz qdz (qaz qdz (qaz qdz (qaz qdz (qaz qdz (qaz qdz qcz)))))));refine qbjz PassesOwn.never rfl (qa7z T.m_range (qaz ?_ qcz)) (qmz (i:=5) sc_z5.nd) ?_;refine qkz ((qadz T).mono (by decide)) hr T.m_z24 T.F_z24.kp T.b_z24 ?_;refine qaz (qbz (pv 0)) (qaz (qhz q0z qzz (qbz (pv 1)) qdz) qcz);refine qfz (qnz (i:=6) sc_z5.nd ?_) (qez (qcbz ?_));refine qpz (qbz (pv 4)) (qkz ((qadz T).mono (by decide)) hr T.m_z24 T.F_z24.kp T.b_z24 (qaz (qbz (pv 0)) (qaz qdz qcz)));refine qa8z qd3z PySem.F.slot_list_append PySem.F.type_list_append qcsz (qbz (pv 3)) (qaz (quz (qaz (qbz (pv 6)) ?_)) qcz);refine qaz (qkz ((qadz T).mono (by decide)) hr T.m_z24 T.F_z24.kp T.b_z24 (qaz (qbz (pv 0)) (qaz (qbz (pv 6)) qcz))) (qcz);refine qfz (qnz (i:=3) sc_z5.nd ?_) ?_;refine qkz ((qmrz T).mono (by decide)) hr T.m_z10 T.F_z10.kp T.b_z10 ?_;refine qaz (qbz (pv 0)) (qaz qdz (qaz (qf6z hr.units T.m_max (qaz qdz (qaz (qhz qdxz qdqz (qbz (pv 1)) qdz) qcz))) qcz));refine qfz ?_ (qez ?_);refine qvz (qoz l_eq (qbhz hr.units) (qbz (pv 2)) qdz (nomark _)) (qez ?_) qxz;refine qnz (i:=3) sc_z5.nd (qhz q0z qzz (qbz (pv 3)) (q4z (qaz ?_ qcz)));refine qkz ((qmqz T).mono (by decide)) hr T.m_z11 T.F_z11.kp T.b_z11 (qaz (qbz (pv 0)) (qaz qdz qcz));refine qvz (qoz l_eq (qbhz hr.units) (qbz (pv 2)) qdz (nomark _)) (qez (qcbz ?_)) qxz;refine qa8z qfkz PySem.F.slot_list_pop PySem.F.type_list_pop qfdz (qbz (pv 3)) (qaz ?_ qcz);refine qkz ((qadz T).mono (by decide)) hr T.m_z24 T.F_z24.kp T.b_z24 ?_;refine qaz (qbz (pv 0)) (qaz (q6z hr.units T.m_len (qaz (qbz (pv 3)) qcz)) qcz);refine qez (qlz (qeiz (qbyz hr.units T.m_tuple (qaz (qjyz hr.units (qbz (pv 3)) T.m_sorted T.m_set) qcz)) qf5z (qc2z (qbz (pv 1)))))
theorem q1jz:∀ds G Q,qdjz ds G Q->ds.length=1:=by
 intro ds G Q h
 first
  | (rcases ds with _|⟨_,_|⟨_,_|⟨_,_|⟨_,_⟩⟩⟩⟩<;>first|rfl|exact h.elim)
  | (obtain⟨rfl,_⟩:=h;rfl)
  | (obtain⟨_,rfl,_⟩:=h;rfl)
  | (obtain⟨_,_,rfl,_⟩:=h;rfl)
  | (obtain⟨_,_,_,rfl,_⟩:=h;rfl)
  | (obtain⟨_,_,_,_,rfl,_⟩:=h;rfl)
  | (obtain⟨_,_,_,_,_,rfl,_⟩:=h;rfl)
  | (obtain⟨_,_,_,_,_,_,rfl,_⟩:=h;rfl)
  | (obtain⟨_,_,_,_,_,_,_,rfl,_⟩:=h;rfl)
  | (obtain⟨_,_,_,_,_,_,_,_,rfl,_⟩:=h;rfl)
theorem q1kz(T:Txt K mg t):FnOk3 P w K mg base 2 t.f_z4 t.d_z4 ["thing"] qdjz:=by
 refine qfn3 (k:=1) (sp:=qdjz) T.F_z4 q0lz (by decide) q1jz (qgtz) (fun cdv A outer s H E hr=>?_) qyzz;refine qfz (qvz (qakz ?_) (qez (qlz qafz)) qxz) (qez (qlz ?_));refine qahz (qalz (qagz (qbkz kit_tuple rfl (qbz (pv 0)) T.m_isinstance T.m_tuple rfl (by decide) (by decide)))) ?_;refine qahz (qoz l_ne (qa4z hr.units) (q6z hr.units T.m_len (qaz (qbz (pv 0)) qcz)) qdz (nomark _)) ?_;refine qahz ?_ (qa5z ?_);refine qalz (qagz (qkz ((qmpz T).mono (by decide)) hr T.m_z22 T.F_z22.kp T.b_z22 (qaz (qpz (qbz (pv 0)) qdz) qcz)));refine qalz (qagz (qkz ((qmpz T).mono (by decide)) hr T.m_z22 T.F_z22.kp T.b_z22 (qaz (qpz (qbz (pv 0)) qdz) qcz)));refine qegz (qtwz (qpz (qbz (pv 0)) qdz) T.m_range (qaz qdz (qaz qdz qcz))) ?_;refine qefz (qtvz (qpz (qbz (pv 0)) qdz) T.m_range (qaz (qpz (qbz (pv 0)) qdz) qcz))
theorem q1lz:∀ds G Q,qdkz ds G Q->ds.length=1:=by
 intro ds G Q h
 first
  | (rcases ds with _|⟨_,_|⟨_,_|⟨_,_|⟨_,_⟩⟩⟩⟩<;>first|rfl|exact h.elim)
  | (obtain⟨rfl,_⟩:=h;rfl)
  | (obtain⟨_,rfl,_⟩:=h;rfl)
  | (obtain⟨_,_,rfl,_⟩:=h;rfl)
  | (obtain⟨_,_,_,rfl,_⟩:=h;rfl)
  | (obtain⟨_,_,_,_,rfl,_⟩:=h;rfl)
  | (obtain⟨_,_,_,_,_,rfl,_⟩:=h;rfl)
  | (obtain⟨_,_,_,_,_,_,rfl,_⟩:=h;rfl)
  | (obtain⟨_,_,_,_,_,_,_,rfl,_⟩:=h;rfl)
  | (obtain⟨_,_,_,_,_,_,_,_,rfl,_⟩:=h;rfl)
theorem q1mz(T:Txt K mg t):FnOk3 P w K mg base 3 t.f_z2 t.d_z2 ["thing"] qdkz:=by
 refine qfn3 (k:=2) (sp:=qdkz) T.F_z2 q0mz (by decide) q1lz (qguz) (fun cdv A outer s H E hr=>?_) qy1z;refine qfz (qvz (qakz ?_) (qez (qlz qafz)) qxz) (qez (qlz (qc3z hr.units T.m_all (qaz ?_ qcz))));refine qahz (qalz (qagz (qbkz kit_tuple rfl (qbz (pv 0)) T.m_isinstance T.m_tuple rfl (by decide) (by decide)))) ?_;refine qahz (qoz l_gt qdrz (q6z hr.units T.m_len (qaz (qbz (pv 0)) qcz)) qdz (nomark _)) ?_;refine qa5z (qalz (qagz (qc3z hr.units T.m_all (qaz ?_ qcz))));refine qapz rfl (show CmpOk qhcz (defScope qdoz) _ ["clock"] [] from⟨rfl,by decide +kernel,by decide +kernel,by decide +kernel,by decide +kernel,by decide +kernel⟩) ?_ ?_;refine qa6z (qbz (pv 0));intro s0 H0 fp0;refine⟨(qmz (i:=0) (show (["clock"]:List Str).Nodup by decide +kernel)),qamz,?_⟩;refine qkz ((q1kz T).mono (by decide)) hr T.m_z4 T.F_z4.kp T.b_z4 (qaz (qbz (pv 0)) qcz);refine qapz rfl (show CmpOk qhcz (defScope qdoz) _ ["k"] [0] from⟨rfl,by decide +kernel,by decide +kernel,by decide +kernel,by decide +kernel,by decide +kernel⟩) ?_ ?_;refine qjwz T.m_range (qaz qdz (qaz (q6z hr.units T.m_len (qaz (qbz (pv 0)) qcz)) qcz));intro s0 H0 fp0;refine⟨(qmz (i:=0) (show (["k","thing"]:List Str).Nodup by decide +kernel)),qamz,?_⟩;refine qeez qb9z (qb8z hr.units0) (qpz (qbz (pv 1)) (qhz qdxz qdqz (qbz (pv 0)) qdz)) (qpz (qbz (pv 1)) (qbz (pv 0))) (nomark _)
theorem q1nz:∀ds G Q,qc8z ds G Q->ds.length=2:=by
 intro ds G Q h
 first
  | (rcases ds with _|⟨_,_|⟨_,_|⟨_,_|⟨_,_⟩⟩⟩⟩<;>first|rfl|exact h.elim)
  | (obtain⟨rfl,_⟩:=h;rfl)
  | (obtain⟨_,rfl,_⟩:=h;rfl)
  | (obtain⟨_,_,rfl,_⟩:=h;rfl)
  | (obtain⟨_,_,_,rfl,_⟩:=h;rfl)
  | (obtain⟨_,_,_,_,rfl,_⟩:=h;rfl)
  | (obtain⟨_,_,_,_,_,rfl,_⟩:=h;rfl)
  | (obtain⟨_,_,_,_,_,_,rfl,_⟩:=h;rfl)
  | (obtain⟨_,_,_,_,_,_,_,rfl,_⟩:=h;rfl)
  | (obtain⟨_,_,_,_,_,_,_,_,rfl,_⟩:=h;rfl)
theorem q1oz(T:Txt K mg t):FnOk3 P w K mg base 1 t.f_z20 t.d_z20 ["clock","k"] qc8z:=by
 refine qfn3 (k:=0) (sp:=qc8z) T.F_z20 q0nz (by decide) q1nz (qkrz) (fun cdv A outer s H E hr=>?_) quuz;refine qez (qlz ?_);refine qapz rfl (show CmpOk qmkz (defScope qe6z) _ ["part"] [0,1] from⟨rfl,by decide +kernel,by decide +kernel,by decide +kernel,by decide +kernel,by decide +kernel⟩) ?_ ?_;refine qa7z T.m_range (qaz (qbz (pv 1)) qcz);intro s0 H0 fp0;refine⟨(qmz (i:=0) (show (["part","clock","k"]:List Str).Nodup by decide +kernel)),qamz,?_⟩;refine quz (qaz (qhz qa3z qa2z (qpz (qbz (pv 1)) qdz) (qbz (pv 2))) ?_);refine qaz (qhz q0z qzz (qpz (qbz (pv 1)) qdz) (qhz qa3z qa2z (qpz (qbz (pv 1)) qdz) (qbz (pv 0)))) qcz
theorem q1pz:∀ds G Q,qdiz ds G Q->ds.length=1:=by
 intro ds G Q h;obtain⟨_,_,rfl,_⟩:=h;rfl
theorem q1qz(T:Txt K mg t):FnOk3 P w K mg base 2 t.f_z8 t.d_z8 ["some"] qdiz:=by
 refine qfn3 (k:=1) (sp:=qdiz) T.F_z8 sc_z8 (by decide) q1pz (qltz) (fun cdv A outer s H E hr=>?_) qyvz;refine qfz (qnz (i:=1) sc_z8.nd (q6z hr.units T.m_len (qaz (qbz (pv 0)) qcz))) ?_;refine qfz ?_ ?_;refine qehz (qpz (qbz (pv 0)) qdz) (qc1z rfl (qauz (qmz (i:=2) sc_z8.nd) (qauz (qmz (i:=3) sc_z8.nd) qc0z)));refine qfz (qvz (qakz ?_) (qez (qlz qbxz)) qxz) ?_;refine qahz (qoz l_ne (qa4z hr.units) (qhz qbsz qboz (qbz (pv 2)) (qbz (pv 1))) qdz (nomark _)) ?_;refine qahz (qoz l_ge qhkz (qbz (pv 3)) (qhz qb6z qb4z (qbz (pv 2)) (qbz (pv 1))) (nomark _)) (qa5z ?_);refine qoz l_ne (qa4z hr.units) ?_ (qttz hr.units T.m_list (qaz (qbz (pv 0)) qcz)) (nomark _);refine qkz ((q1oz T).mono (by decide)) hr T.m_z20 T.F_z20.kp T.b_z20 ?_;refine qaz (quz (qaz (qhz qb6z qb4z (qbz (pv 2)) (qbz (pv 1))) (qaz (qbz (pv 3)) qcz))) (qaz (qbz (pv 1)) qcz);refine qez (qlz (quz (qaz (qhz qb6z qb4z (qbz (pv 2)) (qbz (pv 1))) (qaz (qbz (pv 3)) qcz))))
theorem q1rz:∀ds G Q,qcpz ds G Q->ds.length=2:=by
 intro ds G Q h
 first
  | (rcases ds with _|⟨_,_|⟨_,_|⟨_,_|⟨_,_⟩⟩⟩⟩<;>first|rfl|exact h.elim)
  | (obtain⟨rfl,_⟩:=h;rfl)
  | (obtain⟨_,rfl,_⟩:=h;rfl)
  | (obtain⟨_,_,rfl,_⟩:=h;rfl)
  | (obtain⟨_,_,_,rfl,_⟩:=h;rfl)
  | (obtain⟨_,_,_,_,rfl,_⟩:=h;rfl)
  | (obtain⟨_,_,_,_,_,rfl,_⟩:=h;rfl)
  | (obtain⟨_,_,_,_,_,_,rfl,_⟩:=h;rfl)
  | (obtain⟨_,_,_,_,_,_,_,rfl,_⟩:=h;rfl)
  | (obtain⟨_,_,_,_,_,_,_,_,rfl,_⟩:=h;rfl)
theorem qmsz(T:Txt K mg t):FnOk3 P w K mg base 5 t.f_z25 t.d_z25 ["clocks","thing"] qcpz:=by
 refine qfn3 (k:=4) (sp:=qcpz) T.F_z25 sc_z25 (by decide) q1rz (qlvz rs) (fun cdv A outer s H E hr=>?_) qyxz;refine qv7z (i:=2) (names:=rs) frame0 T.takes T.m_ClockError sc_z25.nd (qv6z (qv5z (qk0z (qv3z qaaz) ?_))) ?_ qxz;refine qk0z (qx4z ((q05z T).mono (by decide)) hr T.m_z28 T.F_z28.kp T.b_z28 (qaz (qbz (pv 0)) (qaz (qbz (pv 1)) qcz))) ?_;refine qv4z;intro e0;refine qez (qlz (quz ?_));refine qaz (qv2z ((q1ez T).mono (by decide)) hr.h.mark T.m_z14 T.F_z14.kp T.b_z14 (qaz (qbz (pv 2)) qcz)) ?_;refine qaz qbxz qcz
theorem q1sz:∀ds G Q,qdlz ds G Q->ds.length=1:=by
 intro ds G Q h
 first
  | (rcases ds with _|⟨_,_|⟨_,_|⟨_,_|⟨_,_⟩⟩⟩⟩<;>first|rfl|exact h.elim)
  | (obtain⟨rfl,_⟩:=h;rfl)
  | (obtain⟨_,rfl,_⟩:=h;rfl)
  | (obtain⟨_,_,rfl,_⟩:=h;rfl)
  | (obtain⟨_,_,_,rfl,_⟩:=h;rfl)
  | (obtain⟨_,_,_,_,rfl,_⟩:=h;rfl)
  | (obtain⟨_,_,_,_,_,rfl,_⟩:=h;rfl)
  | (obtain⟨_,_,_,_,_,_,rfl,_⟩:=h;rfl)
  | (obtain⟨_,_,_,_,_,_,_,rfl,_⟩:=h;rfl)
  | (obtain⟨_,_,_,_,_,_,_,_,rfl,_⟩:=h;rfl)
theorem q1tz(T:Txt K mg t):FnOk3 P w K mg base 6 t.f_z21 t.d_z21 ["clocks"] qdlz:=by
 refine qfn3 (k:=5) (sp:=qdlz) T.F_z21 sc_z21 (by decide) q1sz (ql2z) (fun cdv A outer s H E hr=>?_) qzoz;refine qfz (qnz (i:=1) sc_z21.nd (q4z qcz)) ?_;refine qfz ?_ (qfz ?_ (qez (qlz qafz)));refine qbjz PassesOwn.never rfl (qa7z T.m_range (qaz (qhz qx9z qnzz qdz (q6z hr.units T.m_len (qaz (qbz (pv 0)) qcz))) qcz)) ?_ ?_;refine qmz (i:=2) sc_z21.nd;refine qfz ?_ (qfz (qnz (i:=4) sc_z21.nd qbxz) ?_);refine qnz (i:=3) sc_z21.nd (qbyz hr.units T.m_tuple (qaz ?_ qcz));refine qapz rfl (show CmpOk qe7z (defScope qcqz) _ ["place"] [2] from⟨rfl,by decide +kernel,by decide +kernel,by decide +kernel,by decide +kernel,by decide +kernel⟩) ?_ ?_;refine qa7z T.m_range (qaz (q6z hr.units T.m_len (qaz (qbz (pv 0)) qcz)) qcz);intro s0 H0 fp0;refine⟨(qmz (i:=0) (show (["place","number"]:List Str).Nodup by decide +kernel)),?_,(qbz (pv 0))⟩;refine qf4z (qoz l_eq (qbhz hr.units) (qhz qybz qycz (qhz qyaz qn0z (qbz (pv 1)) (qbz (pv 0))) qdz) qdz (nomark _));refine qfz ?_ ?_;refine qvz (qoz l_gt qdrz (q6z hr.units T.m_len (qaz (qbz (pv 3)) qcz)) qdz (nomark _)) (qez (qnz (i:=4) sc_z21.nd ?_)) qxz;refine qkz ((q1qz T).mono (by decide)) hr T.m_z8 T.F_z8.kp T.b_z8 (qaz ?_ qcz);refine qapz rfl (show CmpOk qe7z (defScope qcqz) _ ["place"] [0] from⟨rfl,by decide +kernel,by decide +kernel,by decide +kernel,by decide +kernel,by decide +kernel⟩) ?_ ?_;refine qa6z (qbz (pv 3));intro s0 H0 fp0;refine⟨(qmz (i:=0) (show (["place","clocks"]:List Str).Nodup by decide +kernel)),qamz,(qpz (qbz (pv 1)) (qbz (pv 0)))⟩;refine qfz (qnz (i:=5) sc_z21.nd (quz (qaz qaaz (qaz qbxz qcz)))) ?_;refine qfz (qvz (qoz qq1z qn4z (qbz (pv 4)) qbxz (nomark _)) ?_ qxz) (qez (qvz (qakz ?_) (qez (qlz qafz)) qxz));refine qfz (qcbz (qa8z qd3z PySem.F.slot_list_append PySem.F.type_list_append qcsz (qbz (pv 1)) (qaz (qbz (pv 3)) qcz))) ?_;refine qfz ?_ (qez ?_);refine qekz (i:=6) rfl sc_z21.nd (show CmpOk qe7z (defScope qcqz) _ ["place","clock"] [3] from⟨rfl,by decide +kernel,by decide +kernel,by decide +kernel,by decide +kernel,by decide +kernel⟩) ?_ ?_;refine qjzz T.m_enumerate (qaz (qbz (pv 0)) qcz);intro s0 H0 fp0;refine⟨(qc1z rfl ?_),(qf4z (qoz qf1z (qf0z hr.units) (qbz (pv 0)) (qbz (pv 2)) (by with_unfolding_all rfl))),(qbz (pv 1))⟩;refine qauz (qmz (i:=0) (show (["place","clock","places"]:List Str).Nodup by decide +kernel)) ?_;refine qauz (qmz (i:=1) (show (["place","clock","places"]:List Str).Nodup by decide +kernel)) qc0z;refine qnz (i:=5) sc_z21.nd (quz (qaz qaaz (qaz (qbyz hr.units T.m_tuple ?_) qcz)));refine qaz (qjyz hr.units (qhz q0z qzz (qbz (pv 6)) (q4z (qaz (qbz (pv 4)) qcz))) T.m_sorted T.m_set) qcz;refine qahz (qoz l_ne (qa4z hr.units) ?_ (qbz (pv 5)) (nomark _)) (qa5z (qakz ?_));refine qkz ((qmsz T).mono (by decide)) hr T.m_z25 T.F_z25.kp T.b_z25 (qaz (qbz (pv 0)) (qaz (qbz (pv 3)) qcz));refine qf3z (qoz l_eq (qbhz hr.units) (qpz (qbz (pv 5)) qdz) qaaz (nomark _)) (qf2z (qalz (qagz ?_)));refine qkz ((q1mz T).mono (by decide)) hr T.m_z2 T.F_z2.kp T.b_z2 ?_;refine qaz (qpz (qbz (pv 5)) qdz) qcz
 refine qbjz PassesOwn.never rfl (qa7z T.m_range (qaz qdz qcz)) (qmz (i:=7) sc_z21.nd) ?_;refine qfz ?_ ?_;refine qnz (i:=5) sc_z21.nd (qkz ((qmnz T).mono (by decide)) hr T.m_z26 T.F_z26.kp T.b_z26 (qaz (qbz (pv 0)) qcz));refine qfz (qvz (qakz ?_) (qez (qlz qafz)) qxz) ?_;refine qahz (qalz (qagz (qbkz qsoz rfl (qbz (pv 5)) T.m_isinstance T.m_list rfl (by decide) (by decide)))) ?_;refine qa5z (qoz l_ne (qa4z hr.units) (qbz (pv 5)) (qejz hr.units T.m_sorted (qaz (qbz (pv 1)) qcz)) (nomark _));refine qez (qcbz (qa8z qd3z PySem.F.slot_list_append PySem.F.type_list_append qcsz (qbz (pv 5)) (qaz (quz qcz) qcz)))
theorem q1uz:∀ds G Q,sp_law ds G Q->ds.length=1:=by
 intro ds G Q h;obtain⟨_,rfl,_⟩:=h;rfl
theorem ok_law(T:Txt K mg t):FnOk3 P w K mg base 7 t.f_law t.d_law ["script"] sp_law:=by
 refine qfn3 (k:=6) (sp:=sp_law) T.F_law sc_law (by decide) q1uz (qmdz) (fun cdv A outer s H E hr=>?_) qzyz;refine qfz ?_ (qez (qlz qafz));refine qbjz PassesOwn.never rfl (qa6z ?_) (qmz (i:=1) sc_law.nd) ?_;refine qhz q0z qzz (q4z ?_) (qeiz (qbz (pv 0)) (qc2z qdz) (qc2z qdz));refine qaz (qkz ((q07z T).mono (by decide)) hr T.m_z13 T.F_z13.kp T.b_z13 (qaz (qbz (pv 0)) (qaz qdz qcz))) (qcz);refine qfz ?_ ?_;refine qnz (i:=2) sc_law.nd (qkz ((q1az T).mono (by decide)) hr T.m_z19 T.F_z19.kp T.b_z19 (qaz (qbz (pv 1)) qcz));refine qfz (qnz (i:=3) sc_law.nd ?_) ?_;refine qkz ((q1iz T).mono (by decide)) hr T.m_z5 T.F_z5.kp T.b_z5 (qaz (qbz (pv 2)) (qaz qdz qcz));refine qfz (qnz (i:=4) sc_law.nd (qhz q0z qzz qdz ?_)) ?_;refine qkz ((qadz T).mono (by decide)) hr T.m_z24 T.F_z24.kp T.b_z24 (qaz (qbz (pv 2)) (qaz qdz qcz));refine qfz ?_ ?_;refine qekz (i:=5) rfl sc_law.nd (show CmpOk qmlz (defScope qe8z) _ ["rest"] [4] from⟨rfl,by decide +kernel,by decide +kernel,by decide +kernel,by decide +kernel,by decide +kernel⟩) ?_ ?_;refine qa7z T.m_range (qaz (qbz (pv 4)) qcz);intro s0 H0 fp0;refine⟨(qmz (i:=0) (show (["rest","step"]:List Str).Nodup by decide +kernel)),qamz,(quz (qaz (qbz (pv 1)) (qaz (qbz (pv 0)) qcz)))⟩;refine qfz ?_ ?_;refine qvz (qoz l_eq (qbhz hr.units) ?_ qdz (nomark _)) (qez (qcbz ?_)) qxz;refine qkz ((qadz T).mono (by decide)) hr T.m_z24 T.F_z24.kp T.b_z24 (qaz (qbz (pv 2)) (qaz qdz qcz));refine qa8z qfkz PySem.F.slot_list_pop PySem.F.type_list_pop qfdz (qbz (pv 5)) ?_;refine qaz (qkz ((qadz T).mono (by decide)) hr T.m_z24 T.F_z24.kp T.b_z24 (qaz (qbz (pv 2)) (qaz (qbz (pv 4)) qcz))) (qcz);refine qfz ?_ (qez ?_);refine qbjz PassesOwn.never rfl (qa6z (q4z (qaz (qbz (pv 3)) ?_))) (qmz (i:=6) sc_law.nd) (qez ?_);refine qaz (qbyz hr.units T.m_tuple (qaz (qeiz (qbz (pv 5)) qf5z (qc2z qdz)) qcz)) ?_;refine qaz (qbyz hr.units T.m_tuple (qaz ?_ qcz)) qcz;refine qkz ((qmrz T).mono (by decide)) hr T.m_z10 T.F_z10.kp T.b_z10 ?_;refine qaz (qbz (pv 2)) (qaz qdz (qaz qdz qcz));refine qvz (qalz (qagz (qkz ((q1tz T).mono (by decide)) hr T.m_z21 T.F_z21.kp T.b_z21 (qaz (qbz (pv 6)) qcz)))) ?_ ?_;refine qez (qlz qafz);refine qxz;refine qbjz PassesOwn.never rfl (qa6z ?_) (qmz (i:=7) sc_law.nd) (qez (qvz ?_ (qez (qlz qafz)) qxz));refine q4z (qaz qbxz (qaz (q4z (qaz qdz (qaz qdz qcz))) ?_));refine qaz (quz (qaz qdz (qaz qdz qcz))) (qaz (quz (qaz qdz (qaz qdz qcz))) ?_);refine qaz (quz (qaz qdz (qaz qdz qcz))) (qaz (quz (qaz (qtpz qdz) (qaz qdz qcz))) ?_);refine qaz (quz (qaz qafz (qaz qafz qcz))) (qaz (quz (qaz qaaz (qaz qaaz qcz))) ?_);refine qaz qdz (qaz qtuz (qaz (quz (qaz (quz (qaz qdz (qaz qdz qcz))) qcz)) qcz));refine qoz l_ne (qa4z hr.units) ?_ (quz (qaz qaaz (qaz qbxz qcz))) (nomark _);refine qkz ((qmsz T).mono (by decide)) hr T.m_z25 T.F_z25.kp T.b_z25 (qaz (qbz (pv 3)) (qaz (qbz (pv 7)) qcz))
end
def Has(K:PySem.W.Frag)(nm:Str)(st:Stmt):Prop:=∃f d,Fun K nm nm st f d/\PySem.W.nsIn K mainGlobals nm=some (some (.ref f))
theorem has_mk{K:PySem.W.Frag}{nm:Str}{st:Stmt}{f:Addr}{od an:Option Addr}{sl:Array (Option Value)}{oc kV dc pm cd ct:Value}(a:PySem.W.nsIn K mainGlobals nm=some (some (.ref f)))(l:K.lookup f=some ⟨oc,od,.func (PySem.W.fnOf nm nm (defArgs st) (defBody st) (defScope st) .none kV dc pm an cd ct),sl⟩)(c:PySem.W.codeIn K cd nm=true)(k:PySem.W.keepIn K (.ref f)=true):Has K nm st:=⟨f,_,qpbz l c k,a⟩
theorem txt_mk{K:PySem.W.Frag}{h:Heap}{mg:Str->Option Value}(X:K.In h)(G:h.Ns mainGlobals mg)
  (h0:Has K "whole_good" qgxz)
  (h1:Has K "place_good" qgyz)
  (h2:Has K "rising_places_good" qdmz)
  (h3:Has K "rising_once" qg0z)
  (h4:Has K "parts_of" qe2z)
  (h5:Has K "joins_of" qdnz)
  (h6:Has K "parts_from" qg2z)
  (h7:Has K "whole_from" qg3z)
  (h8:Has K "join_at" qe3z)
  (h9:Has K "_law_cell_at" qg4z)
  (h10:Has K "_law_next" qg5z)
  (h11:Has K "_law_pen_of" qg6z)
  (h12:Has K "_law_draw" qg7z)
  (h13:Has K "_law_whole" qg8z)
  (h14:Has K "_law_kind_of" qg9z)
  (h15:Has K "_law_clock_by" qhaz)
  (h16:Has K "_law_parts_by" qe4z)
  (h17:Has K "_law_clocks_by" qe5z)
  (h18:Has K "_law_clock_good" qhbz)
  (h19:Has K "_law_clocks_good" qdoz)
  (h20:Has K "_law_parts" qe6z)
  (h21:Has K "_law_whole_of" qhdz)
  (h22:Has K "_law_told" qhez)
  (h23:Has K "_law_right" qcqz)
  (h24:Has K "law" qe8z)
  {C_ClockError:Addr} (n_ClockError:PySem.W.nsIn K mainGlobals "ClockError" = some (some (.ref C_ClockError)))
  {C_NoClock:Addr} (n_NoClock:PySem.W.nsIn K mainGlobals "NoClock" = some (some (.ref C_NoClock)))
  {C_NoNumber:Addr} (n_NoNumber:PySem.W.nsIn K mainGlobals "NoNumber" = some (some (.ref C_NoNumber)))
  {C_NoPlace:Addr} (n_NoPlace:PySem.W.nsIn K mainGlobals "NoPlace" = some (some (.ref C_NoPlace)))
  {C_NoRow:Addr} (n_NoRow:PySem.W.nsIn K mainGlobals "NoRow" = some (some (.ref C_NoRow)))
  {C_NoClocks:Addr} (n_NoClocks:PySem.W.nsIn K mainGlobals "NoClocks" = some (some (.ref C_NoClocks)))
  {C_NoText:Addr} (n_NoText:PySem.W.nsIn K mainGlobals "NoText" = some (some (.ref C_NoText)))
  {C_TooGreat:Addr} (n_TooGreat:PySem.W.nsIn K mainGlobals "TooGreat" = some (some (.ref C_TooGreat)))
  (e_NoPlace:excIn K C_NoPlace (.ref C_ClockError::veTail) none "ValueError.__new__" = true)
  (v1_NoPlace:PySem.W.findIn K (.ref C_NoPlace) "__setattr__" = some (some (.builtin "object.__setattr__"))) (v2_NoPlace:PySem.W.mroIn K C_NoPlace (.type "object")=some true) (v3_NoPlace:PySem.W.keepIn K (.ref C_NoPlace)=true) (v4_NoPlace:PySem.W.findIn K (.ref C_NoPlace) "__getattribute__" = some (some (.builtin "BaseException.__getattribute__"))) (v8_NoPlace:PySem.W.findIn K (.ref C_NoPlace) "__getattr__" = some none) (v9_NoPlace:PySem.W.mroIn K C_NoPlace (.type "BaseException")=some true) (v5_NoPlace:PySem.W.hasDictIn K C_NoPlace=true) (v6_NoPlace:PySem.W.findIn K (.ref C_NoPlace) "__class__" = some (some (.builtin "object.__class__")))
  (x_NoPlace_NoClock:PySem.W.kitOne K (.ref C_NoPlace) (.ref C_NoClock)=some false)
  (x_NoPlace_NoClocks:PySem.W.kitOne K (.ref C_NoPlace) (.ref C_NoClocks)=some false)
  (x_NoPlace_NoNumber:PySem.W.kitOne K (.ref C_NoPlace) (.ref C_NoNumber)=some false)
  (x_NoPlace_NoPlace:PySem.W.kitOne K (.ref C_NoPlace) (.ref C_NoPlace)=some true)
  (x_NoPlace_NoRow:PySem.W.kitOne K (.ref C_NoPlace) (.ref C_NoRow)=some false)
  (x_NoPlace_NoText:PySem.W.kitOne K (.ref C_NoPlace) (.ref C_NoText)=some false)
  (x_NoPlace_TooGreat:PySem.W.kitOne K (.ref C_NoPlace) (.ref C_TooGreat)=some false)
  (xv_NoPlace:PySem.W.kitOne K (.ref C_NoPlace) (.type "ValueError")=some true)
  (eb:excIn K C_ClockError veTail none "ValueError.__new__" = true) (u1:PySem.W.specialIn K (.builtin "object.__class__") "__get__" = some (some (.builtin "getset_descriptor.__get__"))) (u2:PySem.W.takesIn K (.builtin "object.__class__")=some true)
  (z0:PySem.W.nsIn K mainGlobals "ValueError" = some none)
  (z1:PySem.W.nsIn K mainGlobals "all" = some none)
  (z2:PySem.W.nsIn K mainGlobals "bool" = some none)
  (z3:PySem.W.nsIn K mainGlobals "enumerate" = some none)
  (z4:PySem.W.nsIn K mainGlobals "int" = some none)
  (z5:PySem.W.nsIn K mainGlobals "isinstance" = some none)
  (z6:PySem.W.nsIn K mainGlobals "len" = some none)
  (z7:PySem.W.nsIn K mainGlobals "list" = some none)
  (z8:PySem.W.nsIn K mainGlobals "max" = some none)
  (z9:PySem.W.nsIn K mainGlobals "min" = some none)
  (z10:PySem.W.nsIn K mainGlobals "range" = some none)
  (z11:PySem.W.nsIn K mainGlobals "set" = some none)
  (z12:PySem.W.nsIn K mainGlobals "sorted" = some none)
  (z13:PySem.W.nsIn K mainGlobals "tuple" = some none)
  (z14:PySem.W.nsIn K mainGlobals "zip" = some none)
  : ∃t:Adr,Txt K mg t/\∀(s:Shared) (v:Value),BindsTo s t.d_law ⟨[v],[]⟩ [("script",v)]:=by
 obtain⟨f0,d0,F0,a0⟩:=h0;obtain⟨f1,d1,F1,a1⟩:=h1;obtain⟨f2,d2,F2,a2⟩:=h2;obtain⟨f3,d3,F3,a3⟩:=h3;obtain⟨f4,d4,F4,a4⟩:=h4;obtain⟨f5,d5,F5,a5⟩:=h5;obtain⟨f6,d6,F6,a6⟩:=h6;obtain⟨f7,d7,F7,a7⟩:=h7;obtain⟨f8,d8,F8,a8⟩:=h8;obtain⟨f9,d9,F9,a9⟩:=h9;obtain⟨f10,d10,F10,a10⟩:=h10;obtain⟨f11,d11,F11,a11⟩:=h11;obtain⟨f12,d12,F12,a12⟩:=h12;obtain⟨f13,d13,F13,a13⟩:=h13;obtain⟨f14,d14,F14,a14⟩:=h14;obtain⟨f15,d15,F15,a15⟩:=h15;obtain⟨f16,d16,F16,a16⟩:=h16;obtain⟨f17,d17,F17,a17⟩:=h17;obtain⟨f18,d18,F18,a18⟩:=h18;obtain⟨f19,d19,F19,a19⟩:=h19;obtain⟨f20,d20,F20,a20⟩:=h20;obtain⟨f21,d21,F21,a21⟩:=h21;obtain⟨f22,d22,F22,a22⟩:=h22;obtain⟨f23,d23,F23,a23⟩:=h23;obtain⟨f24,d24,F24,a24⟩:=h24;exact⟨⟨f0,d0,f1,d1,f2,d2,f3,d3,f4,d4,f5,d5,f6,d6,f7,d7,f8,d8,f9,d9,f10,d10,f11,d11,f12,d12,f13,d13,f14,d14,f15,d15,f16,d16,f17,d17,f18,d18,f19,d19,f20,d20,f21,d21,f22,d22,f23,d23,f24,d24,C_ClockError,C_NoClock,C_NoNumber,C_NoPlace,C_NoRow,C_NoClocks,C_NoText,C_TooGreat⟩,⟨F0,
  PySem.W.mg_of X G a0,
  F0.binds (ps:=["thing"]) fun _ _ _ _ _ _ us hl=>by obtain⟨_,rfl⟩:=len1 hl;rfl,
  F1,
  PySem.W.mg_of X G a1,
  F1.binds (ps:=["things","thing"]) fun _ _ _ _ _ _ us hl=>by obtain⟨_,_,rfl⟩:=len2 hl;rfl,
  F2,
  PySem.W.mg_of X G a2,
  F2.binds (ps:=["things","thing"]) fun _ _ _ _ _ _ us hl=>by obtain⟨_,_,rfl⟩:=len2 hl;rfl,
  F3,
  PySem.W.mg_of X G a3,
  F3.binds (ps:=["things"]) fun _ _ _ _ _ _ us hl=>by obtain⟨_,rfl⟩:=len1 hl;rfl,
  F4,
  PySem.W.mg_of X G a4,
  F4.binds (ps:=["clock","k"]) fun _ _ _ _ _ _ us hl=>by obtain⟨_,_,rfl⟩:=len2 hl;rfl,
  F5,
  PySem.W.mg_of X G a5,
  F5.binds (ps:=["clocks"]) fun _ _ _ _ _ _ us hl=>by obtain⟨_,rfl⟩:=len1 hl;rfl,
  F6,
  PySem.W.mg_of X G a6,
  F6.binds (ps:=["clock","k"]) fun _ _ _ _ _ _ us hl=>by obtain⟨_,_,rfl⟩:=len2 hl;rfl,
  F7,
  PySem.W.mg_of X G a7,
  F7.binds (ps:=["clock","k"]) fun _ _ _ _ _ _ us hl=>by obtain⟨_,_,rfl⟩:=len2 hl;rfl,
  F8,
  PySem.W.mg_of X G a8,
  F8.binds (ps:=["clocks","places"]) fun _ _ _ _ _ _ us hl=>by obtain⟨_,_,rfl⟩:=len2 hl;rfl,
  F9,
  PySem.W.mg_of X G a9,
  F9.binds (ps:=["script","k"]) fun _ _ _ _ _ _ us hl=>by obtain⟨_,_,rfl⟩:=len2 hl;rfl,
  F10,
  PySem.W.mg_of X G a10,
  F10.binds (ps:=["seed"]) fun _ _ _ _ _ _ us hl=>by obtain⟨_,rfl⟩:=len1 hl;rfl,
  F11,
  PySem.W.mg_of X G a11,
  F11.binds (ps:=["cell"]) fun _ _ _ _ _ _ us hl=>by obtain⟨_,rfl⟩:=len1 hl;rfl,
  F12,
  PySem.W.mg_of X G a12,
  F12.binds (ps:=["pen","many"]) fun _ _ _ _ _ _ us hl=>by obtain⟨_,_,rfl⟩:=len2 hl;rfl,
  F13,
  PySem.W.mg_of X G a13,
  F13.binds (ps:=["found"]) fun _ _ _ _ _ _ us hl=>by obtain⟨_,rfl⟩:=len1 hl;rfl,
  F14,
  PySem.W.mg_of X G a14,
  F14.binds (ps:=["e"]) fun _ _ _ _ _ _ us hl=>by obtain⟨_,rfl⟩:=len1 hl;rfl,
  F15,
  PySem.W.mg_of X G a15,
  F15.binds (ps:=["pen","most"]) fun _ _ _ _ _ _ us hl=>by obtain⟨_,_,rfl⟩:=len2 hl;rfl,
  F16,
  PySem.W.mg_of X G a16,
  F16.binds (ps:=["pen","least","most"]) fun _ _ _ _ _ _ us hl=>by obtain⟨_,_,_,rfl⟩:=len3 hl;rfl,
  F17,
  PySem.W.mg_of X G a17,
  F17.binds (ps:=["pen","most"]) fun _ _ _ _ _ _ us hl=>by obtain⟨_,_,rfl⟩:=len2 hl;rfl,
  F18,
  PySem.W.mg_of X G a18,
  F18.binds (ps:=["thing"]) fun _ _ _ _ _ _ us hl=>by obtain⟨_,rfl⟩:=len1 hl;rfl,
  F19,
  PySem.W.mg_of X G a19,
  F19.binds (ps:=["thing"]) fun _ _ _ _ _ _ us hl=>by obtain⟨_,rfl⟩:=len1 hl;rfl,
  F20,
  PySem.W.mg_of X G a20,
  F20.binds (ps:=["clock","k"]) fun _ _ _ _ _ _ us hl=>by obtain⟨_,_,rfl⟩:=len2 hl;rfl,
  F21,
  PySem.W.mg_of X G a21,
  F21.binds (ps:=["some"]) fun _ _ _ _ _ _ us hl=>by obtain⟨_,rfl⟩:=len1 hl;rfl,
  F22,
  PySem.W.mg_of X G a22,
  F22.binds (ps:=["clocks","thing"]) fun _ _ _ _ _ _ us hl=>by obtain⟨_,_,rfl⟩:=len2 hl;rfl,
  F23,
  PySem.W.mg_of X G a23,
  F23.binds (ps:=["clocks"]) fun _ _ _ _ _ _ us hl=>by obtain⟨_,rfl⟩:=len1 hl;rfl,
  F24,
  PySem.W.mg_of X G a24,
  F24.binds (ps:=["script"]) fun _ _ _ _ _ _ us hl=>by obtain⟨_,rfl⟩:=len1 hl;rfl,
  PySem.W.mg_of X G n_ClockError,
  n_ClockError,
  PySem.W.mg_of X G n_NoClock,
  n_NoClock,
  PySem.W.mg_of X G n_NoNumber,
  n_NoNumber,
  PySem.W.mg_of X G n_NoPlace,
  n_NoPlace,
  PySem.W.mg_of X G n_NoRow,
  n_NoRow,
  PySem.W.mg_of X G n_NoClocks,
  n_NoClocks,
  PySem.W.mg_of X G n_NoText,
  n_NoText,
  PySem.W.mg_of X G n_TooGreat,
  n_TooGreat,
  ⟨e_NoPlace,eb⟩,
  ⟨⟨v4_NoPlace,v8_NoPlace,v9_NoPlace⟩,qwaz e_NoPlace,v6_NoPlace,u1,u2,v2_NoPlace⟩,
  x_NoPlace_NoClock,
  x_NoPlace_NoClocks,
  x_NoPlace_NoNumber,
  x_NoPlace_NoPlace,
  x_NoPlace_NoRow,
  x_NoPlace_NoText,
  x_NoPlace_TooGreat,
  xv_NoPlace,
  PySem.W.mg_none_of X G z0,
  PySem.W.mg_none_of X G z1,
  PySem.W.mg_none_of X G z2,
  PySem.W.mg_none_of X G z3,
  PySem.W.mg_none_of X G z4,
  PySem.W.mg_none_of X G z5,
  PySem.W.mg_none_of X G z6,
  PySem.W.mg_none_of X G z7,
  PySem.W.mg_none_of X G z8,
  PySem.W.mg_none_of X G z9,
  PySem.W.mg_none_of X G z10,
  PySem.W.mg_none_of X G z11,
  PySem.W.mg_none_of X G z12,
  PySem.W.mg_none_of X G z13,
  PySem.W.mg_none_of X G z14⟩,fun s v=>by
  obtain⟨_,_,_,_,_,_,_,_,_,rfl,_⟩:=F24.ex;exact .of_eq rfl⟩
theorem q1vz(K:PySem.W.Frag)(H:Hp)(a:Addr)(ns:List Int)(hl:ns.length≤63)(ho:Only H)(hS:SqL K H a (ns.map V.int)):lowSp K sp_law [.ref a] H (fun v _=>v=.bl true) fun _ _ _=>False:=by
 refine⟨[.scr (ns.map .int)],fun _=>none,fun d _=>d=.bl true,.cons ?_ .nil,(fun _ _ e=>nomatch e),⟨ns,rfl,hl,rfl⟩,fun v H' d G' hv _ _ q=>?_⟩
 ·unfold Hv;refine⟨a,ns.map V.int,rfl,?_,Hvs.ints ns⟩;rcases hS with (h|h)|h
  ·rcases ho a with z|⟨o,xs,z⟩
   ·rw[z] at h;cases h
   ·rw[z] at h;cases h
  ·exact .inl h
  ·exact .inr h
 ·subst q;exact qbrz hv
theorem walk{l:PySem.W.OpenLaw}{q:Program}{loose:List Str}{XP:(Str->Option Value)->Heap->Prop}{YP:World->Heap->Prop}{d:DefRec}{K:Params->PySem.W.Frag}(hn:l.most=some 63)(hdf:d.params.defaults=[])
  (hY:∀(w:World) (h:Heap),YP w h->(K w.params).In h)
  (F:∀(w:World) (mg:Str->Option Value) (fa:Addr) (h:Heap),(K w.params).In h->h.Ns mainGlobals mg->mg d.name=some (.ref fa) ->
   ∃fd:FuncData,(∀(s:Shared) (u:Value),BindsTo s fd ⟨[u],[]⟩ [("script",u)])/\∀base:Heap,(K w.params).In base->base.Ns mainGlobals mg->FnOk l.prog w (K w.params) mg base CX0 7 fa fd ["script"] (lowSp (K w.params) sp_law)):
  PySem.W.WalkO q loose XP YP l.row.toRowW d [] (fun f vs=>PySem.call f vs):=
 L2.walk_of (n:=63) (k:=7) (x:="script") (CX:=fun _=>CX0) (sp:=fun w=>lowSp (K w.params) sp_law) hn (by decide) hdf ⟨rfl,by decide,by decide⟩ hY F (fun w H a ns hl ho hS=>q1vz (K w.params) H a ns hl ho hS) fun _ _ _ _ _ z=>z
end My
open PySem PySem.W PyProof.Rows
set_option maxRecDepth 100000 in
set_option maxHeartbeats 0 in
theorem PySem.Challenge.cw_coverclocks_k34_clocks_joined_holds : PySem.Challenge.rw_coverclocks_k34_clocks_joined.Holds := by
 w_on;o_law;k_head;(case hw=>w_witness2)
 k_fill
 refine My.walk (l:=PySem.Challenge.rw_coverclocks_k34_clocks_joined) rfl rfl (fun w h Y=>PySem.W.kIn_of Y) ?F
 case F=>
  intro w mg fa h KX G hmg
  refine' Exists.elim (My.txt_mk KX G (My.has_mk ?a0 ?l0 ?c0 ?k0) (My.has_mk ?a1 ?l1 ?c1 ?k1) (My.has_mk ?a2 ?l2 ?c2 ?k2) (My.has_mk ?a3 ?l3 ?c3 ?k3) (My.has_mk ?a4 ?l4 ?c4 ?k4) (My.has_mk ?a5 ?l5 ?c5 ?k5) (My.has_mk ?a6 ?l6 ?c6 ?k6) (My.has_mk ?a7 ?l7 ?c7 ?k7) (My.has_mk ?a8 ?l8 ?c8 ?k8) (My.has_mk ?a9 ?l9 ?c9 ?k9) (My.has_mk ?a10 ?l10 ?c10 ?k10) (My.has_mk ?a11 ?l11 ?c11 ?k11) (My.has_mk ?a12 ?l12 ?c12 ?k12) (My.has_mk ?a13 ?l13 ?c13 ?k13) (My.has_mk ?a14 ?l14 ?c14 ?k14) (My.has_mk ?a15 ?l15 ?c15 ?k15) (My.has_mk ?a16 ?l16 ?c16 ?k16) (My.has_mk ?a17 ?l17 ?c17 ?k17) (My.has_mk ?a18 ?l18 ?c18 ?k18) (My.has_mk ?a19 ?l19 ?c19 ?k19) (My.has_mk ?a20 ?l20 ?c20 ?k20) (My.has_mk ?a21 ?l21 ?c21 ?k21) (My.has_mk ?a22 ?l22 ?c22 ?k22) (My.has_mk ?a23 ?l23 ?c23 ?k23) (My.has_mk ?a24 ?l24 ?c24 ?k24) ?n_ClockError ?n_NoClock ?n_NoNumber ?n_NoPlace ?n_NoRow ?n_NoClocks ?n_NoText ?n_TooGreat ?e_NoPlace ?v1_NoPlace ?v2_NoPlace ?v3_NoPlace ?v4_NoPlace ?v8_NoPlace ?v9_NoPlace ?v5_NoPlace ?v6_NoPlace ?x_NoPlace_NoClock ?x_NoPlace_NoClocks ?x_NoPlace_NoNumber ?x_NoPlace_NoPlace ?x_NoPlace_NoRow ?x_NoPlace_NoText ?x_NoPlace_TooGreat ?xv_NoPlace ?eb ?u1 ?u2 ?z0 ?z1 ?z2 ?z3 ?z4 ?z5 ?z6 ?z7 ?z8 ?z9 ?z10 ?z11 ?z12 ?z13 ?z14) ?fin
  case a0|l0|c0|k0|a1|l1|c1|k1|a2|l2|c2|k2|a3|l3|c3|k3|a4|l4|c4|k4|a5|l5|c5|k5|a6|l6|c6|k6|a7|l7|c7|k7|a8|l8|c8|k8|a9|l9|c9|k9=>k_is
  case a10|l10|c10|k10|a11|l11|c11|k11|a12|l12|c12|k12|a13|l13|c13|k13|a14|l14|c14|k14|a15|l15|c15|k15|a16|l16|c16|k16|a17|l17|c17|k17|a18|l18|c18|k18|a19|l19|c19|k19=>k_is
  case a20|l20|c20|k20|a21|l21|c21|k21|a22|l22|c22|k22|a23|l23|c23|k23|a24|l24|c24|k24|n_ClockError|n_NoClock|n_NoNumber|n_NoPlace|n_NoRow|n_NoClocks|n_NoText|n_TooGreat=>k_is
  case e_NoPlace=>kernel_rfl
  case v1_NoPlace|v2_NoPlace|v3_NoPlace|v4_NoPlace|v8_NoPlace|v9_NoPlace|v5_NoPlace|v6_NoPlace=>k_is
  case x_NoPlace_NoClock|x_NoPlace_NoClocks|x_NoPlace_NoNumber|x_NoPlace_NoPlace|x_NoPlace_NoRow|x_NoPlace_NoText|x_NoPlace_TooGreat|xv_NoPlace|eb=>kernel_rfl
  case u1|u2|z0|z1|z2|z3|z4|z5|z6|z7|z8|z9|z10|z11|z12|z13|z14=>k_is
  case fin=>
   rintro t ⟨T,b⟩
   have e2:=hmg.symm.trans T.m_law
   cases e2
   exact⟨t.d_law,b,fun base _ _=>My.ok_law T⟩
