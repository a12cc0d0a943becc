import PyProof.Rows.All
import Wide.All
import OpenK.AllK
import Wide.FinOn
import Lean
import PyProof.EqAt
import PyProof.EqKinds
import PyProof.TupleCall
import PyProof.NeKinds
import KE.KSortAsk
import PySem.SetTable
import PyProof.SetKind
import PyProof.TupleKey
import PyProof.IsRules
import PyProof.DictKinds
import PyProof.FactsAll.set
import PyProof.RangeIter
import PyProof.Seq
import PyProof.ForAny
import PyProof.WalksMore
import PyProof.CollectWalk
import PyProof.CollectIter
import PyProof.WalksS
import PyProof.Rows.SetFrom
import KE.KSortTup
import PyProof.Draws
import PyProof.Rows.Range3
import PyProof.ExcClass2
import PyProof.InstSpecial
import PyProof.RaisesMany
import PyProof.Rows.Own
import KE.KTryDeep
import PyProof.InstStoreFacts
import PyProof.ExcArgs
import PySem.Challenge.RW_coverclocks_k11_cover_papers_by_anybody
set_option Elab.async false
set_option linter.all false
set_option maxRecDepth 100000
set_option maxHeartbeats 6400000
namespace PySem.W.Fast
def tw10195227581062166381:=0
def tw10211951310997776889:=0
def tw10236017203156123966:=0
def tw10428414193279933086:=0
def tw10453696671983366290:=0
def tw10524384990855880909:=0
def tw10589781151672240096:=0
def tw11076691796483875300:=0
def tw11860536077179094923:=0
def tw11902791499090463584:=0
def tw12598248353464931567:=0
def tw12730280961650427058:=0
def tw12928660584452824175:=0
def tw13522129494347762698:=0
def tw13745940992698707317:=0
def tw13749153972417801895:=0
def tw14468253480848712558:=0
def tw14662779550353231762:=0
def tw14932936575394013576:=0
def tw14966894740021202550:=0
def tw15340549566835766439:=0
def tw15621238256143112608:=0
def tw15957339160530018184:=0
def tw15970916295060203529:=0
def tw16835459988304473342:=0
def tw16915549427400960157:=0
def tw16927999283176827054:=0
def tw17175878641962572781:=0
def tw17326861944317147901:=0
def tw17327306697336980073:=0
def tw17455867304209806856:=0
def tw17555299753970801509:=0
def tw17989567932632875555:=0
def tw18080957789032377610:=0
def tw18299580271403073142:=0
def tw200324365144724858:=0
def tw211677480929315003:=0
def tw3237441739839340706:=0
def tw3302794000978817044:=0
def tw3498967482952581830:=0
def tw3967989689903471805:=0
def tw4071964661115922985:=0
def tw4809418864157053173:=0
def tw5081230413274466776:=0
def tw5298858813447129094:=0
def tw5711028139181520645:=0
def tw6066364573656332974:=0
def tw6211242394557990902:=0
def tw6277390765452613869:=0
def tw6508018996589769905:=0
def tw6696131898574625700:=0
def tw7319954195411622514:=0
def tw7394009762671663663:=0
def tw7528797347112906643:=0
def tw7876916668528026386:=0
def tw8031285923611816215:=0
def tw8224231711713454637:=0
def tw8492897662737109923:=0
def tw8811035004299399917:=0
def tw9099378548909215654:=0
def tw9128526455273026363:=0
def tw9218851632471159267:=0
def tw9357498729712255391:=0
def tw9692801277360535546:=0
def tw9779379002388658099:=0
def tw9951411375388646056:=0
def tw11211708155727341406:=0
def tw11595942336248636385:=0
def tw11719465527198325568:=0
def tw12766412412994444201:=0
def tw13792793486442531147:=0
def tw14131743021297701795:=0
def tw14320361559362627764:=0
def tw14985175629672137005:=0
def tw15017154653199589341:=0
def tw16684285721499913498:=0
def tw17064024141338454355:=0
def tw2346509006240807212:=0
def tw2380168723362162949:=0
def tw2900749122278262367:=0
def tw3076212067012243429:=0
def tw4730838788773926082:=0
def tw4949192122974843960:=0
def tw5053543344311454777:=0
def tw5194651949867600554:=0
def tw6822549372605848119:=0
def tw7020967596183724419:=0
def tw7486507711435364316:=0
def tw8095250896473497657:=0
def tw9588115280574292903:=0
def tw9626323652018920398:=0
def tw9714658590591233754:=0
def tw10567893084950917598:=0
def tw12715367376330264061:=0
def tw14215453222956334232:=0
def tw15269163295426634483:=0
def tw15429438550286614487:=0
def tw15822660237886158378:=0
def tw16203354467941331669:=0
def tw1665352033912694393:=0
def tw16960523967201632387:=0
def tw17672664976107272468:=0
def tw212949326150975606:=0
def tw2490108881856012205:=0
def tw3019844241321811110:=0
def tw3354092734808991259:=0
def tw4064301548986127961:=0
def tw5235987104621395524:=0
def tw6633238524852254500:=0
def tw6985284458091988400:=0
def tw7375698006790617364:=0
def tw74646678627927812:=0
def tw7867392405877562110:=0
def tw9093613983445242828:=0
def tw9303658569699339259:=0
def tw9736278676087496504:=0
def tw9941138531952883655:=0
def tw11427358891380305990:=0
end PySem.W.Fast
namespace L2
open PySem PySem.Spec PyProof.Rows
abbrev Key:=Sum Int Str
def keyIs:Key->Value->Bool
 |.inl k,v=>Value.isInt k v
 |.inr x,v=>Value.isStrOf x v
def keyH(w:World):Key->Int
 |.inl k=>hashInt k
 |.inr x=>hashStr w x
theorem keyIs_shape:∀{k:Key} {v:Value},keyIs k v=true->(∃i t,k=Sum.inl i/\v=Value.int i t)∨(∃x t,k=Sum.inr x/\v=Value.str x t)
 |.inl i,v,h=>by
  obtain⟨t,e⟩:=Value.isInt_shape (k:=i) (v:=v) h;exact .inl ⟨i,t,rfl,e⟩
 |.inr x,v,h=>by
  obtain⟨t,e⟩:=Value.isStrOf_shape (x:=x) (v:=v) h;exact .inr ⟨x,t,rfl,e⟩
theorem key_ll(a b:Int):decide ((Sum.inl a:Key)=Sum.inl b)=(a==b):=by
 by_cases e:a=b
 ·subst e;simp
 ·have h:¬(Sum.inl a:Key)=Sum.inl b:=fun q=>e (Sum.inl.inj q);rw[decide_eq_false h];exact (beq_eq_false_iff_ne.mpr e).symm
theorem key_rr(a b:Str):decide ((Sum.inr a:Key)=Sum.inr b)=decide (a=b):=by
 by_cases e:a=b
 ·subst e;simp
 ·have h:¬(Sum.inr a:Key)=Sum.inr b:=fun q=>e (Sum.inr.inj q);rw[decide_eq_false h,decide_eq_false e]
theorem key_lr(a:Int)(b:Str):decide ((Sum.inl a:Key)=Sum.inr b)=false:=decide_eq_false (fun q=>nomatch q)
theorem key_rl(a:Str)(b:Int):decide ((Sum.inr a:Key)=Sum.inl b)=false:=decide_eq_false (fun q=>nomatch q)
def mixKind(prog:Program)(w:World):PySem.KeyKind prog w Key where
 is:=keyIs
 hash:=keyH w
 inj:=fun v a b ha hb=>by
  rcases keyIs_shape ha with⟨i,t,rfl,rfl⟩|⟨x,t,rfl,rfl⟩
  ·rcases keyIs_shape hb with⟨j,u,rfl,e⟩|⟨y,u,rfl,e⟩
   ·injection e with e1 _;rw[e1]
   ·exact nomatch e
  ·rcases keyIs_shape hb with⟨j,u,rfl,e⟩|⟨y,u,rfl,e⟩
   ·exact nomatch e
   ·injection e with e1 _;rw[e1]
 byValue:=fun k v h=>by
  rcases keyIs_shape h with⟨i,t,rfl,rfl⟩|⟨x,t,rfl,rfl⟩<;>rfl
 pyHash:=fun hv h=>by
  rcases keyIs_shape hv with⟨i,t,rfl,rfl⟩|⟨x,t,rfl,rfl⟩
  ·exact wpAny_pyHash_int h
  ·exact wpAny_pyHash_str h
 eqBool:=fun hu hv h=>by
  rcases keyIs_shape hu with⟨i,t,rfl,rfl⟩|⟨x,t,rfl,rfl⟩
  ·rcases keyIs_shape hv with⟨j,u,rfl,rfl⟩|⟨y,u,rfl,rfl⟩
   ·rw[key_ll] at h;exact wpAny_eqBool_int h
   ·rw[key_lr] at h;exact SeqAt.EqAt.int_str i t y u _ _ _ _ h
  ·rcases keyIs_shape hv with⟨j,u,rfl,rfl⟩|⟨y,u,rfl,rfl⟩
   ·rw[key_rl] at h;exact SeqAt.EqAt.str_int x t j u _ _ _ _ h
   ·rw[key_rr] at h;exact wpAny_eqBool_str h
 «strs»:=fun k x t v h=>by
  rcases keyIs_shape h with⟨i,u,rfl,e⟩|⟨y,u,rfl,e⟩
  ·exact nomatch e
  ·injection e with e1 _;subst e1;cases v<;>rfl
end L2
namespace L2
open PySem PySem.Spec PyProof.Rows
inductive V where
 |non|bl (b:Bool)|int (i:Int)|str (x:Str)|byt (b:Array UInt8)|flt (b:UInt64)|ref (a:Addr)|ty (n:String)
 deriving DecidableEq
def RelV:V->Value->Prop
 |.non,u=>u=Value.none
 |.bl b,u=>u=Value.bool b
 |.int i,u=>∃t,u=Value.int i t
 |.str x,u=>∃t,u=Value.str x t
 |.byt b,u=>∃t,u=Value.bytes b t
 |.flt b,u=>∃t,u=Value.float b t
 |.ref a,u=>u=Value.ref a
 |.ty n,u=>u=Value.type n
abbrev Vals:List V->List Value->Prop:=Paired RelV
theorem Vals.length{xs:List V}{us:List Value}(r:Vals xs us):xs.length=us.length:=Paired.length r
theorem Vals.get:∀{xs:List V} {us:List Value} {i:Nat} {x:V},Vals xs us->xs[i]?=some x->∃u,us[i]?=some u/\RelV x u
 |_,_,_,_,.nil,e=>by simp at e
 |_,_,0,_,.cons r _,e=>by simp at e;subst e;exact⟨_,rfl,r⟩
 |_,_,i+1,x,.cons _ t,e=>by
  obtain⟨u,h1,h2⟩:=Vals.get (i:=i) (x:=x) t (by simpa using e);exact⟨u,by simpa using h1,h2⟩
theorem Vals.set{x:V}{u:Value}(r:RelV x u):∀{xs:List V} {us:List Value} (i:Nat),Vals xs us->Vals (xs.set i x) (us.set i u)
 |_,_,_,.nil=>.nil
 |_,_,0,.cons _ t=>.cons r t
 |_,_,i+1,.cons q t=>.cons q (Vals.set r i t)
theorem Vals.append:∀{xs ys:List V} {us ws:List Value},Vals xs us->Vals ys ws->Vals (xs++ys) (us++ws)
 |_,_,_,_,.nil,s=>s
 |_,_,_,_,.cons r t,s=>.cons r (Vals.append t s)
theorem Vals.take:∀{xs:List V} {us:List Value} (n:Nat),Vals xs us->Vals (xs.take n) (us.take n)
 |_,_,0,_=>.nil
 |_,_,_+1,.nil=>.nil
 |_,_,n+1,.cons r t=>.cons r (Vals.take n t)
theorem Vals.drop:∀{xs:List V} {us:List Value} (n:Nat),Vals xs us->Vals (xs.drop n) (us.drop n)
 |_,_,0,r=>r
 |_,_,_+1,.nil=>.nil
 |_,_,n+1,.cons _ t=>Vals.drop n t
def RelO:Option V->Option Value->Prop
 |some v,some u=>RelV v u
 |none,none=>True
 |_,_=>False
def KV{κ:Type}:List (κ×V)->List (κ×Value)->Prop:=Paired fun (p:κ×V) (q:κ×Value)=>p.1=q.1/\RelV p.2 q.2
def kV:Key->V
 |.inl i=>.int i
 |.inr x=>.str x
inductive HO where
 |lst (xs:List V)
 |tup (xs:List V)
 |dK (kvs:List (Key×V))|dT (kvs:List (List Key×V))
 |set (S:Int->Bool) (n:Nat)
 |ins (C dx:Addr) (fs:List (Str×V))
 |own (x:Addr)
 |xd (fs:List (Str×V))
 |met (f x:Addr)
 |rng (lo hi:Int)
 |frz (o:Obj) (u:HO)
 |tbl (ps:Array Value)
 |ext (φ:Heap->Prop)
abbrev Hp:=Addr->Option HO
def upd(H:Hp)(a:Addr)(o:HO):Hp:=fun b=>if b=a then some o else H b
theorem upd_same{H:Hp}{a:Addr}{o:HO}:upd H a o a=some o:=by unfold upd;rw[if_pos rfl]
theorem upd_ne{H:Hp}{a b:Addr}{o:HO}(h:b≠a):upd H a o b=H b:=by unfold upd;rw[if_neg h]
theorem ne_of_none{H:Hp}{a b:Addr}{o:HO}(h:H a=some o)(h':H b=none):a≠b:=by
 intro e;subst e;rw[h] at h';cases h'
section
variable (P:Program) (w:World)
def ObjOk(H:Hp)(h:Heap)(a:Addr):HO->Prop
 |.lst xs=>xs.length≤sizeLine/\∃(its:List Value) (n:Nat),Vals xs its/\h.get? a=some { cls:=.type "list",data:=.seq its.toArray n }
 |.tup xs=>xs.length≤sizeLine/\∃its:List Value,Vals xs its/\IsTup h a its.toArray
 |.dK kvs=>kvs.length≤sizeLine/\(a==sysModules)=false/\∃vs,KV kvs vs/\h.DictOf (mixKind P w) a vs
 |.dT kvs=>kvs.length≤sizeLine/\(a==sysModules)=false/\∃xs:List (List Key×Addr×Value),
   Paired (fun (p:List Key×V) (q:List Key×Addr×Value)=>p.1=q.1/\H q.2.1=some (.tup (p.1.map kV))/\RelV p.2 q.2.2) kvs xs ∧
   ∃o es ep,h.get? a=some o/\o.ExactDict/\o.data=.dict es ep/\es.toList=xs.map (entryOfKey (tupleKind (mixKind P w)))/\(xs.map (·.1)).Nodup
 |.set S n=>h.SetOf (intKind P w) a S n
 |.ins C dx fs=>H dx=some (.own a)/\fs.length≤1000/\dx≠a/\h.get? a=some (PySem.W.instObj C dx) ∧
   ∃mA,h.Ns1 dx mA/\(∀f,RelO (fs.lookup f) (mA f))/\PySem.Within mA (fs.map (·.1))
 |.own _=>∃o,h.get? a=some o
 |.xd fs=>∃mA,h.Ns1 a mA/\∀f,RelO (fs.lookup f) (mA f)
 |.rng lo hi=>∃t u v,h.get? a=some { cls:=.type "range",data:=.fields #[.int lo t,.int hi u,.int 1 v]}
 |.frz o u=>h.get? a=some o/\ObjOk H h a u
 |.tbl ps=>h.get? a=some { cls:=.none,data:=.fields ps }
 |.met f x=>h.get? a=some (PySem.W.methodObj (.ref f) (.ref x))
 |.ext φ=>φ h/\(∃o,h.get? a=some o)/\∀h1 h2:Heap,φ h1->(∀o,h1.get? a=some o->h2.get? a=some o)->φ h2
def HOk(H:Hp)(h:Heap):Prop:=∀a o,H a=some o->ObjOk P w H h a o
end
section
variable {P:Program} {w:World} {H H':Hp} {h h':Heap} {a:Addr} {o:HO}
theorem ObjOk.lt(x:ObjOk P w H h a o):a<h.objs.size:=by
 cases o with
 |lst xs=>obtain⟨_,_,_,_,e⟩:=x;exact Heap.lt_size e
 |tup xs=>obtain⟨_,_,_,p⟩:=x;exact p.lt
 |dK kvs=>obtain⟨_,_,_,_,o,_,_,e,_⟩:=x;exact Heap.lt_size e
 |dT kvs=>obtain⟨_,_,_,_,o,_,_,e,_⟩:=x;exact Heap.lt_size e
 |set S n=>obtain⟨o,_,_,_,e,_⟩:=x;exact Heap.lt_size e
 |ins C dx fs=>obtain⟨_,_,_,e,_⟩:=x;exact Heap.lt_size e
 |own y=>obtain⟨_,e⟩:=x;exact Heap.lt_size e
 |xd fs=>obtain⟨_,⟨_,_,_,e,_⟩,_⟩:=x;exact Heap.lt_size e
 |rng lo hi=>obtain⟨_,_,_,e⟩:=x;exact Heap.lt_size e
 |frz ob u=>obtain⟨e,_⟩:=x;exact Heap.lt_size e
 |tbl ps=>exact Heap.lt_size (show h.get? a=some _ from x)
 |met f y=>exact Heap.lt_size (show h.get? a=some _ from x)
 |ext φ=>obtain⟨_,⟨_,e⟩,_⟩:=x;exact Heap.lt_size e
theorem Paired.mapP{α β:Type}{F G:α->β->Prop}:∀{l₁:List α} {l₂:List β},Paired F l₁ l₂->(∀a b,F a b->G a b)->Paired G l₁ l₂
 |_,_,.nil,_=>.nil
 |_,_,.cons r t,f=>.cons (f _ _ r) (Paired.mapP t f)
theorem ObjOk.stay(x:ObjOk P w H h a o)(k:∀b u,(b=a∨H b=some (.own a))->h.get? b=some u->h'.get? b=some u)
  (ho:∀b,H b=some (.own a)->H' b=some (.own a)) (ht:∀b xs,H b=some (.tup xs)->H' b=some (.tup xs)):ObjOk P w H' h' a o:=by
 induction o with
 |lst xs=>obtain⟨z,its,n,r,e⟩:=x;exact⟨z,its,n,r,k _ _ (.inl rfl) e⟩
 |tup xs=>obtain⟨z,its,r,ob,e,c⟩:=x;exact⟨z,its,r,ob,k _ _ (.inl rfl) e,c⟩
 |dK kvs=>obtain⟨z,y,vs,r,ob,es,ep,e,c⟩:=x;exact⟨z,y,vs,r,ob,es,ep,k _ _ (.inl rfl) e,c⟩
 |dT kvs=>
  obtain⟨z,y,xs,r,ob,es,ep,e,c⟩:=x;exact⟨z,y,xs,Paired.mapP r fun p q z=>⟨z.1,ht _ _ z.2.1,z.2.2⟩,ob,es,ep,k _ _ (.inl rfl) e,c⟩
 |set S n=>obtain⟨ob,es,ep,t,e,c⟩:=x;exact⟨ob,es,ep,t,k _ _ (.inl rfl) e,c⟩
 |ins C dx fs=>
  obtain⟨d,z,ne,e,mA,⟨od,es,ep,e2,c⟩,r⟩:=x;exact⟨ho _ d,z,ne,k _ _ (.inl rfl) e,mA,⟨od,es,ep,k _ _ (.inr d) e2,c⟩,r⟩
 |own y=>obtain⟨ob,e⟩:=x;exact⟨ob,k _ _ (.inl rfl) e⟩
 |xd fs=>obtain⟨mA,⟨od,es,ep,e,c⟩,r⟩:=x;exact⟨mA,⟨od,es,ep,k _ _ (.inl rfl) e,c⟩,r⟩
 |rng lo hi=>obtain⟨t,u,v,e⟩:=x;exact⟨t,u,v,k _ _ (.inl rfl) e⟩
 |frz ob u ih=>obtain⟨e,q⟩:=x;exact⟨k _ _ (.inl rfl) e,ih q⟩
 |tbl ps=>
  have e:h.get? a=some { cls:=.none,data:=.fields ps }:=x;show h'.get? a=some { cls:=.none,data:=.fields ps };exact k a _ (.inl rfl) e
 |met f y=>
  have e:h.get? a=some (PySem.W.methodObj (.ref f) (.ref y)):=x;show h'.get? a=some (PySem.W.methodObj (.ref f) (.ref y));exact k a _ (.inl rfl) e
 |ext φ=>obtain⟨p,⟨o,e⟩,st⟩:=x;exact⟨st _ _ p fun o q=>k _ _ (.inl rfl) q,⟨o,k _ _ (.inl rfl) e⟩,st⟩
theorem HOk.lt(x:HOk P w H h)(e:H a=some o):a<h.objs.size:=(x a o e).lt
theorem HOk.fresh(x:HOk P w H h)(e:h.objs.size≤a):H a=none:=by
 cases q:H a with
 |none=>rfl
 |some u=>exact absurd (Nat.lt_of_lt_of_le (x.lt q) e) (Nat.lt_irrefl _)
theorem HOk.kept(x:HOk P w H h)(k:∀b u,h.get? b=some u->h'.get? b=some u):HOk P w H h':=fun a o e=>
 (x a o e).stay (fun b u _ q=>k b u q) (fun _ q=>q) fun _ _ q=>q
theorem HOk.laid(x:HOk P w H h)(k:∀b u,h.get? b=some u->h'.get? b=some u)(hp:h.objs.size≤a)(new:ObjOk P w (upd H a o) h' a o):HOk P w (upd H a o) h':=fun b u e=>by
 have hn:=x.fresh hp;by_cases hb:b=a
 ·subst hb;rw[upd_same] at e;cases e;exact new
 ·rw[upd_ne hb] at e;exact (x b u e).stay (fun c v _ q=>k c v q) (fun c q=>by rw[upd_ne (ne_of_none q hn)];exact q) fun c xs q=>by rw[upd_ne (ne_of_none q hn)];exact q
end
def Rd(H:Hp)(a:Addr)(u:HO):Prop:=H a=some u∨∃o,H a=some (.frz o u)
theorem Rd.ok{P:Program}{w:World}{H:Hp}{h:Heap}{a:Addr}{u:HO}(r:Rd H a u)(x:HOk P w H h):ObjOk P w H h a u:=by
 rcases r with r|⟨o,r⟩
 ·exact x a u r
 ·obtain⟨_,q⟩:=x a _ r;exact q
def Mut:Option HO->Prop
 |some (.lst _)=>True
 |some (.dK _)=>True
 |some (.dT _)=>True
 |some (.set _ _)=>True
 |some (.ins _ _ _)=>True
 |some (.ext _)=>True
 |_=>False
section
variable {P:Program} {w:World} {H:Hp} {h h':Heap} {x e:Addr} {o':HO}
theorem HOk.write(ok:HOk P w H h)(mu:Mut (H x))(he:e=x∨H e=some (.own x))(k:∀b u,b≠e->h.get? b=some u->h'.get? b=some u)(heo:∃u,h'.get? e=some u)
  (new:ObjOk P w (upd H x o') h' x o'):HOk P w (upd H x o') h':=fun b u q=>by
 have nown:∀c y,H c=some (.own y)->c≠x:=fun c y r z=>by subst z;rw[r] at mu;exact mu
 have ntup:∀c xs,H c=some (.tup xs)->c≠x:=fun c xs r z=>by subst z;rw[r] at mu;exact mu
 by_cases hb:b=x
 ·subst hb;rw[upd_same] at q;cases q;exact new
 ·rw[upd_ne hb] at q;by_cases hbe:b=e
  ·have q':H b=some (.own x):=by
    rcases he with z|z
    ·exact absurd (hbe.trans z) hb
    ·rw[hbe];exact z
   rw[q] at q';cases q';obtain⟨v,hv⟩:=heo;exact⟨v,by rw[hbe];exact hv⟩
  ·refine (ok b u q).stay (fun c v hc r=>k c v ?_ r) (fun c r=>by rw[upd_ne (nown c b r)];exact r) fun c xs r=>by rw[upd_ne (ntup c xs r)];exact r
   rcases hc with rfl|hc
   ·exact hbe
   ·rintro rfl;rcases he with z|z
    ·exact nown c b hc z
    ·rw[hc] at z;cases z;exact hb rfl
end
structure Un(fs ex:List Addr)(H H':Hp)(h h':Heap):Prop where
 keep:∀b o,h.get? b=some o->H b=none->b∉fs->b∉ex->h'.get? b=some o
 slot:∀b o,h.get? b=some o->H b=none->b∈fs->b∉ex->∃sl,h'.get? b=some { o with slots:=sl }
 free:∀b o,h.get? b=some o->H b=none->b∉ex->H' b=none
 there:∀b o,h.get? b=some o->b∉ex->∃o',h'.get? b=some o'
 tups:∀b xs,H b=some (.tup xs)->H' b=some (.tup xs)
 frzs:∀b o u,H b=some (.frz o u)->H' b=some (.frz o u)
 tbls:∀b ps,H b=some (.tbl ps)->∃more,H' b=some (.tbl (ps++more))
section
variable {fs fs' ex ex':List Addr} {H H1 H2:Hp} {h h1 h2 h':Heap} {a x e:Addr} {o:HO}
theorem Un.any(u:Un fs ex H H1 h h1){b:Addr}{ob:Obj}(q:h.get? b=some ob)(n:H b=none)(hx:b∉ex):∃sl,h1.get? b=some { ob with slots:=sl }:=by
 by_cases hb:b∈fs
 ·exact u.slot b ob q n hb hx
 ·exact⟨ob.slots,u.keep b ob q n hb hx⟩
theorem Un.kept(k:∀b u,h.get? b=some u->h'.get? b=some u):Un fs ex H H h h':=
 ⟨fun b ob q _ _ _=>k b ob q,fun b ob q _ _ _=>⟨ob.slots,k b ob q⟩,fun _ _ _ n _=>n,fun b ob q _=>⟨ob,k b ob q⟩,fun _ _ q=>q,fun _ _ _ q=>q,fun _ ps q=>⟨#[],by rw[q];simp⟩⟩
theorem Un.refl:Un fs ex H H h h:=Un.kept fun _ _ q=>q
theorem Un.laid(k:∀b u,h.get? b=some u->h'.get? b=some u)(hp:h.objs.size≤a)(hn:H a=none):Un fs ex H (upd H a o) h h' where
 keep:=fun b u q _ _ _=>k b u q
 slot:=fun b u q _ _ _=>⟨u.slots,k b u q⟩
 free:=fun b u q n _=>by rw[upd_ne (Nat.ne_of_lt (Nat.lt_of_lt_of_le (Heap.lt_size q) hp))];exact n
 there:=fun b u q _=>⟨u,k b u q⟩
 tups:=fun b xs q=>by rw[upd_ne (ne_of_none q hn)];exact q
 frzs:=fun b u xs q=>by rw[upd_ne (ne_of_none q hn)];exact q
 tbls:=fun b ps q=>⟨#[],by rw[upd_ne (ne_of_none q hn),q];simp⟩
theorem Un.write(mu:Mut (H x))(he:e=x∨H e=some (.own x))(k:∀b u,b≠e->h.get? b=some u->h'.get? b=some u)(heo:∃u,h'.get? e=some u):Un fs ex H (upd H x o) h h':=by
 have hx:∀b,H b=none->b≠x:=fun b n z=>by subst z;rw[n] at mu;exact mu
 have hb:∀b,H b=none->b≠e:=fun b n z=>by
  subst z;rcases he with r|r
  ·exact hx b n r
  ·rw[n] at r;cases r
 have hm:∀b u,H b=some u->¬Mut (some u)->b≠x:=fun b u q nm z=>by subst z;rw[q] at mu;exact nm mu
 refine⟨fun b u q n _ _=>k b u (hb b n) q,fun b u q n _ _=>⟨u.slots,k b u (hb b n) q⟩,fun b u q n _=>by rw[upd_ne (hx b n)];exact n,fun b u q _=>?_,
  fun b xs q=>by rw[upd_ne (hm b _ q fun z=>z)];exact q,fun b u xs q=>by rw[upd_ne (hm b _ q fun z=>z)];exact q,fun b ps q=>⟨#[],by rw[upd_ne (hm b _ q fun z=>z),q];simp⟩⟩
 by_cases hbe:b=e
 ·subst hbe;exact heo
 ·exact⟨u,k b u hbe q⟩
end
def trk(h:Heap)(H:Hp):List Addr:=(List.range h.objs.size).filter fun a=>(H a).isSome
def hidT(h:Heap)(H:Hp):Heap:=PySem.W.hideAll h (trk h H)
theorem hidT_size(h:Heap)(H:Hp):(hidT h H).objs.size=h.objs.size:=PySem.W.hideAll_size _ _
theorem hidT_get{h:Heap}{H:Hp}{b:Addr}{o:Obj}(e:h.get? b=some o)(n:H b=none):(hidT h H).get? b=some o:=
 PySem.W.hideAll_get _ e fun hm=>by
  have q:(H b).isSome=true:=(List.mem_filter.mp hm).2;rw[n] at q;simp at q
theorem of_hidT{h:Heap}{H:Hp}{b:Addr}{o:Obj}(e:(hidT h H).get? b=some o):h.get? b=some o/\H b=none:=by
 have e':h.get? b=some o:=PySem.W.of_hideAll (trk h H) e;refine⟨e',?_⟩;cases q:H b with
 |none=>rfl
 |some x=>
  have hm:b∈trk h H:=List.mem_filter.mpr ⟨List.mem_range.mpr (Heap.lt_size e'),by simp[q]⟩;have z:(hidT h H).get? b=none:=PySem.W.hideAll_none (trk h H) hm;rw[z] at e;cases e
end L2
namespace L2
open PySem PySem.Spec PyProof.Rows
structure Mod(K:PySem.W.Frag)(mg:Str->Option Value)(base:Heap):Prop where
 kin:K.In base
 glob:base.Ns mainGlobals mg
 blt:∃mb,base.Ns builtinsNs mb/\∀x:Str,x≠"__name__"->mb x=bootBuiltins x
 nolimit:base.NoLimit
structure Cx where
 prog:Program
 w:World
 K:PySem.W.Frag
 mg:Str->Option Value
 base:Heap
 A:Around
 N:List Str
 s₀:Shared
 H₀:Hp
 env:Env
 outer:List Env
 stack:List Env
 ex:List Addr
 fn:Str->Bool
 calm:Bool
 pn:List (Addr×Obj)
 xe:Value->Shared->Prop
def frs(l:List Env):List Addr:=l.filterMap (·.frame)
abbrev Cx.fs(X:Cx):List Addr:=frs X.outer
def Vis(sc:Scope)(x:Str):Prop:=sc.names.lookup x=some .local∨sc.names.lookup x=some .cell∨sc.names.lookup x=some .free
def Loc(sc:Scope)(x:Str):Prop:=sc.names.lookup x=some .local∨sc.names.lookup x=some .cell
def Look(env:Env)(h:Heap)(m:Str->Option Value)(x:Str)(u:Value):Prop:=
 (env.kindOf x=some .local/\m x=some u)∨((env.kindOf x=some .cell∨env.kindOf x=some .free)/\∃c,env.cells.lookup x=some c/\h.IsCell c (some u))
structure Cx.Ok(X:Cx):Prop where
 mod:Mod X.K X.mg X.base
 kind:X.env.scope.kind=.function
 glob:X.env.globals=mainGlobals
 blt:X.env.builtins=builtinsNs
 above:X.s₀.heap.objs.size≤X.env.locals
 inj:∀x y c,X.env.cells.lookup x=some c->X.env.cells.lookup y=some c->x=y
 has:∀x,(X.env.kindOf x=some .cell∨X.env.kindOf x=some .free)->∃c,X.env.cells.lookup x=some c
 cab:∀x c,X.fn x=true->X.env.cells.lookup x=some c->X.s₀.heap.objs.size≤c
 hd:X.calm=true->X.A.handled=none
 frames:X.A.frames=some X.stack
 stk:X.stack=X.outer∨(X.stack=X.env::X.outer/\X.env.frame=some X.env.locals)
 exf:∀b∈X.ex,b≠X.env.locals/\∀x c,X.env.cells.lookup x=some c->c≠b
 bs:∀b o,X.base.get? b=some o->X.s₀.heap.get? b=some o/\X.H₀ b=none
 bsz:X.base.objs.size≤X.s₀.heap.objs.size
 noex:∀b o,X.base.get? b=some o->b∉X.ex
 exfs:∀b∈X.ex,b∉X.fs
 funs:X.s₀.heap.FunFrames X.base X.outer
 frf:∀b∈X.fs,X.H₀ b=none
structure Inv(X:Cx)(pins:List (Addr×Obj))(σ:List (Option V))(H:Hp)(s:Shared):Prop where
 ok:X.Ok
 os:s.os=X.s₀.os
 bare:AllBare s.gens
 base:Un X.fs X.ex X.H₀ H X.s₀.heap s.heap
 loc:∃m,s.heap.Ns X.env.locals m/\∀(i:Nat) (x:Str) (v:V),X.N[i]?=some x->σ[i]?=some (some v)->Vis X.env.scope x->∃u,RelV v u/\Look X.env s.heap m x u
 cell:∀x c,X.env.cells.lookup x=some c->∃v,s.heap.IsCell c v
 free:H X.env.locals=none
 freeC:∀x c,X.env.cells.lookup x=some c->H c=none
 pin:∀p∈X.pn++pins,s.heap.get? p.1=some p.2/\H p.1=none/\p.1≠X.env.locals/\p.1∉X.fs/\∀v,p.2.data≠.cell v
 hok:HOk X.prog X.w H s.heap
 len:σ.length=X.N.length
section
variable {X:Cx} {pins:List (Addr×Obj)} {σ:List (Option V)} {H H':Hp} {s:Shared} {h':Heap}
theorem Cx.Ok.nofr(ok:X.Ok){b:Addr}{o:Obj}(e:X.base.get? b=some o):b∉X.fs:=fun hb=>by
 have:=(ok.funs.mem hb).1;rw[e] at this;cases this
theorem Inv.bs(I:Inv X pins σ H s):∀b o,X.base.get? b=some o->s.heap.get? b=some o/\H b=none:=fun b o e=>
 ⟨I.base.keep b o (I.ok.bs b o e).1 (I.ok.bs b o e).2 (I.ok.nofr e) (I.ok.noex b o e),I.base.free b o (I.ok.bs b o e).1 (I.ok.bs b o e).2 (I.ok.noex b o e)⟩
theorem Inv.bk(I:Inv X pins σ H s):∀b o,X.base.get? b=some o->s.heap.get? b=some o:=fun b o e=>(I.bs b o e).1
theorem Inv.mod(I:Inv X pins σ H s):Mod X.K X.mg X.base:=I.ok.mod
theorem Inv.kIn(I:Inv X pins σ H s):X.K.In s.heap:=I.ok.mod.kin.keeps I.bk
theorem Inv.lt(I:Inv X pins σ H s):X.env.locals<s.heap.objs.size:=let ⟨_,hn,_⟩:=I.loc;hn.lt
theorem Inv.sz(I:Inv X pins σ H s):X.s₀.heap.objs.size≤s.heap.objs.size:=Nat.le_trans I.ok.above (Nat.le_of_lt I.lt)
theorem Inv.nofs(I:Inv X pins σ H s){a:Addr}(h:s.heap.objs.size≤a):a∉X.fs:=fun hb=>by
 obtain⟨_,o,ho,_⟩:=I.ok.funs.mem hb;exact absurd (Nat.lt_of_lt_of_le (Heap.lt_size ho) (Nat.le_trans I.sz h)) (Nat.lt_irrefl _)
theorem Inv.cne(I:Inv X pins σ H s):∀x c,X.env.cells.lookup x=some c->c≠X.env.locals:=fun x c e z=>by
 obtain⟨v,o,ho,hd⟩:=I.cell x c e;obtain⟨m,⟨o',es,ep,ho',hd',_⟩,_⟩:=I.loc;rw[z,ho'] at ho;cases ho;rw[hd'] at hd;cases hd
theorem Inv.funs(I:Inv X pins σ H s):s.heap.FunFrames X.base X.outer:=by
 have all:∀(l:List Env),(∀b∈frs l,b∈X.fs)->X.s₀.heap.FunFrames X.base l->s.heap.FunFrames X.base l:=by
  intro l
  induction l with
  |nil=>intro _ _;trivial
  |cons env r ih=>
   intro hs hl;obtain⟨hk,⟨L,o,hf,hn,ho,hd⟩,hr⟩:=hl;have hL:L∈X.fs:=hs L (by unfold frs;rw[List.filterMap_cons,hf];exact List.mem_cons_self);obtain⟨sl,e⟩:=I.base.slot L o ho (I.ok.frf L hL) hL fun z=>I.ok.exfs L z hL;exact⟨hk,⟨L,_,hf,hn,e,hd⟩,ih (fun b hb=>hs b (by unfold frs;rw[List.filterMap_cons,hf];exact List.mem_cons_of_mem _ hb)) hr⟩
 exact all X.outer (fun _ hb=>hb) I.ok.funs
theorem Inv.stack(I:Inv X pins σ H s):s.heap.FunFrames X.base X.stack:=by
 rcases I.ok.stk with e|⟨e,hf⟩
 ·rw[e];exact I.funs
 ·rw[e];obtain⟨m,hn,_⟩:=I.loc;refine .cons (by rw[I.ok.kind];decide) hf hn ?_ I.funs;exact Heap.get?_none_of_le (Nat.le_trans I.ok.bsz I.ok.above)
theorem Inv.stkSub(I:Inv X pins σ H s):∀b∈frs X.stack,b∈X.env.locals::X.fs:=fun b hb=>by
 rcases I.ok.stk with e|⟨e,hf⟩
 ·rw[e] at hb;exact List.mem_cons_of_mem _ hb
 ·rw[e] at hb;unfold frs at hb;rw[List.filterMap_cons,hf] at hb;exact hb
theorem Inv.stkFree(I:Inv X pins σ H s):∀b∈frs X.stack,H b=none:=fun b hb=>by
 rcases List.mem_cons.mp (I.stkSub b hb) with e|hb
 ·rw[e];exact I.free
 ·obtain⟨_,o,ho,_⟩:=I.ok.funs.mem hb;exact I.base.free b o ho (I.ok.frf b hb) fun z=>I.ok.exfs b z hb
theorem Inv.step{g':Array GenState}{t':Nat}{d':Drawn}{ch:List Addr}(I:Inv X pins σ H s)
  (hch:∀b∈ch,(b∈X.ex∨X.s₀.heap.objs.size≤b)/\b≠X.env.locals/\(∀x c,X.env.cells.lookup x=some c->c≠b)/\∀p∈X.pn++pins,p.1≠b)
  (keep:∀b o,b≠X.env.locals->b∉X.fs->b∉ch->s.heap.get? b=some o->H b=none->h'.get? b=some o)
  (slot:∀b o,b≠X.env.locals->b∈X.fs->b∉ch->s.heap.get? b=some o->H b=none->∃sl,h'.get? b=some { o with slots:=sl }) (free:∀b o,b∉ch->s.heap.get? b=some o->H b=none->H' b=none)
  (there:∀b o,b∉ch->s.heap.get? b=some o->∃o',h'.get? b=some o')
  (tups:∀b xs,H b=some (.tup xs)->H' b=some (.tup xs)) (frzs:∀b o u,H b=some (.frz o u)->H' b=some (.frz o u)) (tbls:∀b ps,H b=some (.tbl ps)->∃more,H' b=some (.tbl (ps++more)))
  (ns:∀m,s.heap.Ns X.env.locals m->h'.Ns X.env.locals m) (hok:HOk X.prog X.w H' h') (hg:AllBare g'):
  Inv X pins σ H' { s with heap:=h',gens:=g',drawn:=d',toks:=t' }:=by
 have neL:∀b o,X.s₀.heap.get? b=some o->b≠X.env.locals:=fun b o e=>Nat.ne_of_lt (Nat.lt_of_lt_of_le (Heap.lt_size e) I.ok.above);have neC:∀b o,X.s₀.heap.get? b=some o->b∉X.ex->b∉ch:=fun b o e hx hb=>by
  rcases (hch b hb).1 with z|z
  ·exact hx z
  ·exact absurd (Nat.lt_of_lt_of_le (Heap.lt_size e) z) (Nat.lt_irrefl _)
 have cellK:∀x c,X.env.cells.lookup x=some c->∀v,s.heap.IsCell c v->h'.IsCell c v:=fun x c e v ⟨o,ho,hd⟩=>by
  have nch:c∉ch:=fun z=>(hch c z).2.2.1 x c e rfl;by_cases hc:c∈X.fs
  ·obtain⟨sl,q⟩:=slot c o (I.cne x c e) hc nch ho (I.freeC x c e);exact⟨_,q,hd⟩
  ·exact⟨o,keep c o (I.cne x c e) hc nch ho (I.freeC x c e),hd⟩
 refine⟨I.ok,I.os,hg,⟨fun b o e n hb hx=>?_,fun b o e n hb hx=>?_,fun b o e n hx=>?_,fun b o e hx=>?_,fun b xs e=>tups b xs (I.base.tups b xs e),fun b o xs e=>frzs b o xs (I.base.frzs b o xs e),fun b ps e=>?_⟩,?_,fun x c e=>?_,?_,fun x c e=>?_,fun p hp=>?_,hok,I.len⟩
 ·exact keep b o (neL b o e) hb (neC b o e hx) (I.base.keep b o e n hb hx) (I.base.free b o e n hx)
 ·obtain⟨sl,e1⟩:=I.base.slot b o e n hb hx;obtain⟨sl',e2⟩:=slot b _ (neL b o e) hb (neC b o e hx) e1 (I.base.free b o e n hx);exact⟨sl',e2⟩
 ·obtain⟨o',e1⟩:=I.base.there b o e hx;exact free b o' (neC b o e hx) e1 (I.base.free b o e n hx)
 ·obtain⟨o',e1⟩:=I.base.there b o e hx;exact there b o' (neC b o e hx) e1
 ·obtain⟨m1,e1⟩:=I.base.tbls b ps e;obtain⟨m2,e2⟩:=tbls b _ e1;exact⟨m1++m2,by rw[e2,Array.append_assoc]⟩
 ·obtain⟨m,hn,hl⟩:=I.loc;refine⟨m,ns m hn,fun i x v e1 e2 e3=>?_⟩;obtain⟨u,r,l⟩:=hl i x v e1 e2 e3;refine⟨u,r,?_⟩;rcases l with l|⟨k,c,e,z⟩
  ·exact .inl l
  ·exact .inr ⟨k,c,e,cellK x c e _ z⟩
 ·obtain⟨v,z⟩:=I.cell x c e;exact⟨v,cellK x c e v z⟩
 ·obtain⟨m,⟨o,_,_,ho,_⟩,_⟩:=I.loc;exact free _ o (fun z=>(hch _ z).2.1 rfl) ho I.free
 ·obtain⟨v,o,ho,hd⟩:=I.cell x c e;exact free c o (fun z=>(hch c z).2.2.1 x c e rfl) ho (I.freeC x c e)
 ·obtain⟨e,n,ne,nf,d⟩:=I.pin p hp;have nch:p.1∉ch:=fun z=>(hch p.1 z).2.2.2 p hp rfl;exact⟨keep p.1 p.2 ne nf nch e n,free p.1 p.2 nch e n,ne,nf,d⟩
theorem Inv.un{t':Nat}(I:Inv X pins σ H s)(u:Un X.fs [] H H' s.heap h')(hok:HOk X.prog X.w H' h'):Inv X pins σ H' { s with heap:=h',toks:=t' }:=by
 obtain⟨m,⟨o,es,ep,ho,r⟩,_⟩:=id I.loc;obtain⟨sl,hL⟩:=u.any ho I.free (by simp);exact I.step (g':=s.gens) (d':=s.drawn) (ch:=[]) (fun _ z=>nomatch z) (fun b o _ hb _ e n=>u.keep b o e n hb (by simp)) (fun b o _ hb _ e n=>u.slot b o e n hb (by simp)) (fun b o _ e n=>u.free b o e n (by simp)) (fun b o _ e=>u.there b o e (by simp)) u.tups u.frzs u.tbls (fun m' hm=>by
  obtain⟨o',es',ep',ho',r'⟩:=hm;rw[ho] at ho';cases ho';exact⟨_,es',ep',hL,r'⟩) hok I.bare
theorem Inv.call{g':Array GenState}{t':Nat}{d':Drawn}{ch:List Addr}(I:Inv X pins σ H s)(u:Un (frs X.stack) ch H H' s.heap h')(hok:HOk X.prog X.w H' h')(hg:AllBare g')
  (hch:∀b∈ch,(b∈X.ex∨X.s₀.heap.objs.size≤b)/\b≠X.env.locals/\(∀x c,X.env.cells.lookup x=some c->c≠b)/\∀p∈X.pn++pins,p.1≠b):
  Inv X pins σ H' { s with heap:=h',gens:=g',drawn:=d',toks:=t' }:=by
 obtain⟨m,⟨o,es,ep,ho,r⟩,_⟩:=id I.loc;obtain⟨sl,hL⟩:=u.any ho I.free fun z=>(hch _ z).2.1 rfl;exact I.step (ch:=ch) hch (fun b o hL hb hc e n=>u.keep b o e n (fun z=>(List.mem_cons.mp (I.stkSub b z)).elim hL hb) hc) (fun b o _ _ hc e n=>u.any e n hc) (fun b o hc e n=>u.free b o e n hc) (fun b o hc e=>u.there b o e hc) u.tups u.frzs u.tbls (fun m' hm=>by
  obtain⟨o',es',ep',ho',r'⟩:=hm;rw[ho] at ho';cases ho';exact⟨_,es',ep',hL,r'⟩) hok hg
theorem Inv.turned{t':Nat}{it:Addr}(I:Inv X pins σ H s)(k:∀b o,b≠it->s.heap.get? b=some o->h'.get? b=some o)(hn:H it=none)(hL:it≠X.env.locals)
  (h1:it∈X.ex∨X.s₀.heap.objs.size≤it) (h2:∀x c,X.env.cells.lookup x=some c->c≠it) (h3:∀p∈X.pn++pins,p.1≠it):Inv X pins σ H { s with heap:=h',toks:=t' }:=by
 have nit:∀b u,H b=some u->b≠it:=fun b u e z=>by rw[z,hn] at e;cases e
 refine I.step (g':=s.gens) (d':=s.drawn) (ch:=[it]) (fun b hb=>?_) (fun b o _ _ hc e _=>k b o (fun z=>hc (by simp[z])) e) (fun b o _ _ hc e _=>⟨o.slots,k b o (fun z=>hc (by simp[z])) e⟩) (fun _ _ _ _ n=>n)
  (fun b o hc e=>⟨o,k b o (fun z=>hc (by simp[z])) e⟩) (fun _ _ e=>e) (fun _ _ _ e=>e) (fun b ps e=>⟨#[],by rw[e];simp⟩) (fun m hm=>?_) (fun b u e=>?_) I.bare
 ·have e:b=it:=by simpa using hb
  subst e;exact⟨h1,hL,h2,h3⟩
 ·obtain⟨o,es,ep,ho,r⟩:=hm;exact⟨o,es,ep,k _ o (Ne.symm hL) ho,r⟩
 ·refine (I.hok b u e).stay (fun c v hc q=>k c v ?_ q) (fun _ q=>q) fun _ _ q=>q;rcases hc with z|z
  ·rw[z];exact nit b u e
  ·exact nit c _ z
theorem Inv.tok(I:Inv X pins σ H s)(t:Nat):Inv X pins σ H { s with toks:=t }:=I.un (h':=s.heap) (t':=t) Un.refl I.hok
theorem Inv.kept{t':Nat}(I:Inv X pins σ H s)(k:∀b u,s.heap.get? b=some u->h'.get? b=some u):Inv X pins σ H { s with heap:=h',toks:=t' }:=I.un (Un.kept k) (I.hok.kept k)
theorem Inv.laid{a:Addr}{o:HO}{t':Nat}(I:Inv X pins σ H s)(k:∀b u,s.heap.get? b=some u->h'.get? b=some u)(hp:s.heap.objs.size≤a)(new:ObjOk X.prog X.w (upd H a o) h' a o):
  Inv X pins σ (upd H a o) { s with heap:=h',toks:=t' }:=I.un (Un.laid k hp (I.hok.fresh hp)) (I.hok.laid k hp new)
theorem Inv.write{x e:Addr}{o:HO}{t':Nat}(I:Inv X pins σ H s)(mu:Mut (H x))(he:e=x∨H e=some (.own x))(k:∀b u,b≠e->s.heap.get? b=some u->h'.get? b=some u)(heo:∃u,h'.get? e=some u)
  (new:ObjOk X.prog X.w (upd H x o) h' x o):Inv X pins σ (upd H x o) { s with heap:=h',toks:=t' }:=I.un (Un.write mu he k heo) (I.hok.write mu he k heo new)
theorem Inv.pins_of{pins':List (Addr×Obj)}(I:Inv X pins σ H s)(h:∀p∈pins',s.heap.get? p.1=some p.2/\H p.1=none/\p.1≠X.env.locals/\p.1∉X.fs/\∀v,p.2.data≠.cell v):Inv X pins' σ H s:=
 ⟨I.ok,I.os,I.bare,I.base,I.loc,I.cell,I.free,I.freeC,fun p hp=>(List.mem_append.mp hp).elim (fun z=>I.pin p (List.mem_append_left _ z)) (h p),I.hok,I.len⟩
theorem nodup_ix{N:List Str}(hN:N.Nodup){i j:Nat}{x:Str}(a:N[i]?=some x)(b:N[j]?=some x):i=j:=by
 obtain⟨h1,e1⟩:=List.getElem?_eq_some_iff.mp a;obtain⟨h2,e2⟩:=List.getElem?_eq_some_iff.mp b;exact (List.getElem_inj hN).mp (e1.trans e2.symm)
theorem store_ok2{M:Model}{A:Around}{E:Value->Shared->Prop}{i:Nat}{x:Str}{v:V}{u:Value}{Q:Unit->Shared->Prop}(I:Inv X pins σ H s)(hN:X.N.Nodup)(hi:X.N[i]?=some x)(hx:Loc X.env.scope x)(r:RelV v u)
  (h:∀s',Inv X pins (σ.set i (some v)) H s'->(∃a,Heap.SameBut a s.heap s'.heap/\(a=X.env.locals∨X.env.cells.lookup x=some a))->Q () s') (hf:X.fn x=true∨X.env.scope.names.lookup x=some .local:=by first|exact .inl rfl|exact .inr rfl|assumption):wpAny M A (storeName X.env x u) Q E s:=by
 obtain⟨m,hn,hl⟩:=id I.loc;have hcls:(X.env.scope.kind==.class||(X.env.scope.kind==.module&&X.env.locals != X.env.globals))=false:=by rw[I.ok.kind];rfl
 have hiσ:i<σ.length:=by rw[I.len];exact (List.getElem?_eq_some_iff.mp hi).1
 have cne:=I.cne;have tracked:∀{a:Addr} {h':Heap},(∃o,s.heap.get? a=some o/\H a=none)->Heap.SameBut a s.heap h'->HOk X.prog X.w H h':=fun {a h'} ha hs b ob e=>by
  obtain⟨_,_,hfree⟩:=ha;refine (I.hok b ob e).stay (fun c w' hc q=>(hs.2 c ?_).trans q) (fun _ q=>q) fun _ _ q=>q;rintro rfl;rcases hc with rfl|hc
  ·rw[hfree] at e;cases e
  ·rw[hfree] at hc;cases hc
 rcases hx with hk|hk
 ·refine wpAny_storeName_local hk hn (fun h' hn' hs=>?_) hcls;obtain⟨oL,_,_,hoL,_⟩:=id hn;refine h _ ⟨I.ok,I.os,I.bare,⟨fun b o e n hb hx=>?_,fun b o e n hb hx=>?_,I.base.free,fun b o e hx=>?_,I.base.tups,I.base.frzs,I.base.tbls⟩,⟨_,hn',fun j y v' e1 e2 e3=>?_⟩,fun y c e=>?_,I.free,I.freeC,fun p hp=>?_,tracked ⟨oL,hoL,I.free⟩ hs,by simpa using I.len⟩ ⟨_,hs,.inl rfl⟩
  ·exact (hs.2 b (Nat.ne_of_lt (Nat.lt_of_lt_of_le (Heap.lt_size e) I.ok.above))).trans (I.base.keep b o e n hb hx)
  ·obtain⟨sl,e1⟩:=I.base.slot b o e n hb hx;exact⟨sl,(hs.2 b (Nat.ne_of_lt (Nat.lt_of_lt_of_le (Heap.lt_size e) I.ok.above))).trans e1⟩
  ·obtain⟨o',e1⟩:=I.base.there b o e hx;exact⟨o',(hs.2 b (Nat.ne_of_lt (Nat.lt_of_lt_of_le (Heap.lt_size e) I.ok.above))).trans e1⟩
  ·by_cases hj:j=i
   ·subst hj;rw[hi] at e1;cases e1;rw[List.getElem?_set_self hiσ] at e2;cases e2;exact⟨u,r,.inl ⟨hk,by simp⟩⟩
   ·rw[List.getElem?_set_ne (Ne.symm hj)] at e2;obtain⟨u',r',q⟩:=hl j y v' e1 e2 e3;refine⟨u',r',?_⟩;rcases q with⟨k,e⟩|⟨k,c,e,z⟩
    ·refine .inl ⟨k,?_⟩;have:y≠x:=fun e=>hj (nodup_ix hN e1 (e▸hi));simp[this,e]
    ·exact .inr ⟨k,c,e,z.sameBut hs (cne y c e)⟩
  ·obtain⟨w',z⟩:=I.cell y c e;exact⟨w',z.sameBut hs (cne y c e)⟩
  ·obtain⟨e,n,ne,nf,d⟩:=I.pin p hp;exact⟨(hs.2 p.1 ne).trans e,n,ne,nf,d⟩
 ·have hfn:X.fn x=true:=by
   rcases hf with z|z
   ·exact z
   ·rw[z] at hk;cases hk
  obtain⟨c,hc⟩:=I.ok.has x (.inl hk);obtain⟨w',z⟩:=I.cell x c hc;refine wpAny_storeName_cell I.ok.kind hk hc z (fun h' hc' hs=>?_);obtain⟨oc,hoc,hocd⟩:=id z;refine h { s with heap:=h' } ⟨I.ok,I.os,I.bare,⟨fun b o e n hb hx=>?_,fun b o e n hb hx=>?_,I.base.free,fun b o e hx=>?_,I.base.tups,I.base.frzs,I.base.tbls⟩,⟨m,hn.sameBut hs (Ne.symm (cne x c hc)),fun j y v' e1 e2 e3=>?_⟩,fun y c' e=>?_,I.free,I.freeC,fun p hp=>?_,tracked ⟨oc,hoc,I.freeC x c hc⟩ hs,by simpa using I.len⟩ ⟨c,hs,.inr hc⟩
  ·exact (hs.2 b (Nat.ne_of_lt (Nat.lt_of_lt_of_le (Heap.lt_size e) (I.ok.cab x c hfn hc)))).trans (I.base.keep b o e n hb hx)
  ·obtain⟨sl,e1⟩:=I.base.slot b o e n hb hx;exact⟨sl,(hs.2 b (Nat.ne_of_lt (Nat.lt_of_lt_of_le (Heap.lt_size e) (I.ok.cab x c hfn hc)))).trans e1⟩
  ·obtain⟨o',e1⟩:=I.base.there b o e hx;exact⟨o',(hs.2 b (Nat.ne_of_lt (Nat.lt_of_lt_of_le (Heap.lt_size e) (I.ok.cab x c hfn hc)))).trans e1⟩
  ·by_cases hj:j=i
   ·subst hj;rw[hi] at e1;cases e1;rw[List.getElem?_set_self hiσ] at e2;cases e2;exact⟨u,r,.inr ⟨.inl hk,c,hc,hc'⟩⟩
   ·rw[List.getElem?_set_ne (Ne.symm hj)] at e2;obtain⟨u',r',q⟩:=hl j y v' e1 e2 e3;refine⟨u',r',?_⟩;rcases q with q|⟨k,c',e,z'⟩
    ·exact .inl q
    ·refine .inr ⟨k,c',e,z'.sameBut hs ?_⟩;rintro rfl;exact hj (nodup_ix hN e1 (I.ok.inj _ _ _ e hc▸hi))
  ·by_cases hcc:c'=c
   ·subst hcc;exact⟨_,hc'⟩
   ·obtain⟨w2,z2⟩:=I.cell y c' e;exact⟨w2,z2.sameBut hs hcc⟩
  ·obtain⟨e,n,ne,nf,d⟩:=I.pin p hp;refine⟨(hs.2 p.1 ?_).trans e,n,ne,nf,d⟩;intro q;rw[q,hoc] at e;have q':oc=p.2:=Option.some.inj e;exact d w' (by rw[←q'];exact hocd)
theorem store_ok{M:Model}{A:Around}{E:Value->Shared->Prop}{i:Nat}{x:Str}{v:V}{u:Value}{Q:Unit->Shared->Prop}(I:Inv X pins σ H s)(hN:X.N.Nodup)(hi:X.N[i]?=some x)(hx:Loc X.env.scope x)(r:RelV v u)
  (h:∀s',Inv X pins (σ.set i (some v)) H s'->Q () s') (hf:X.fn x=true∨X.env.scope.names.lookup x=some .local:=by first|exact .inl rfl|exact .inr rfl|assumption):wpAny M A (storeName X.env x u) Q E s:=
 store_ok2 I hN hi hx r (fun s' I' _=>h s' I') hf
theorem Inv.call'{s':Shared}{ch:List Addr}(I:Inv X pins σ H s)(ho:s'.os=s.os)(u:Un (frs X.stack) ch H H' s.heap s'.heap)(hok:HOk X.prog X.w H' s'.heap)(hg:AllBare s'.gens)
  (hch:∀b∈ch,(b∈X.ex∨X.s₀.heap.objs.size≤b)/\b≠X.env.locals/\(∀x c,X.env.cells.lookup x=some c->c≠b)/\∀p∈X.pn++pins,p.1≠b):Inv X pins σ H' s':=by
 obtain⟨h',g',d',t',o'⟩:=s';have e:o'=s.os:=ho;subst e;exact I.call (g':=g') (t':=t') (d':=d') u hok hg hch
end
abbrev XK:=Value->Option Addr->Hp->Prop
abbrev St:=List (Option V)
abbrev VK:=V->Hp->Prop
abbrev TE:=St->Hp->VK->Prop
abbrev TT:=St->Hp->(Bool->Hp->Prop)->Prop
abbrev TA:=St->Hp->(List V->Hp->Prop)->Prop
structure Ends where
 nx:St->Hp->Prop
 rt:VK
 bk:St->Hp->Prop:=fun _ _=>False
 ct:St->Hp->Prop:=fun _ _=>False
abbrev TS:=Ends->St->Hp->Prop
def EP(X:Cx)(pins:List (Addr×Obj))(σ:St)(Q:VK)(u:Value)(s':Shared):Prop:=∃v H',Inv X pins σ H' s'/\RelV v u/\Q v H'
def TP(X:Cx)(pins:List (Addr×Obj))(σ:St)(Q:Bool->Hp->Prop)(b:Bool)(s':Shared):Prop:=∃H',Inv X pins σ H' s'/\Q b H'
def AP(X:Cx)(pins:List (Addr×Obj))(σ:St)(Q:List V->Hp->Prop)(us:List Value)(s':Shared):Prop:=∃vs H',Inv X pins σ H' s'/\Vals vs us/\Q vs H'
def SP(X:Cx)(pins:List (Addr×Obj))(D:Ends)(f:Flow)(s':Shared):Prop:=
 match f with
 |.next=>∃σ' H',Inv X pins σ' H' s'/\D.nx σ' H'
 |.brk=>∃σ' H',Inv X pins σ' H' s'/\D.bk σ' H'
 |.cont=>∃σ' H',Inv X pins σ' H' s'/\D.ct σ' H'
 |.ret u=>∃v σ' H',Inv X pins σ' H' s'/\RelV v u/\D.rt v H'
def PE(X:Cx)(e:Expr)(t:TE):Prop:=
 ∀(pins:List (Addr×Obj)) (s:Shared) (σ:St) (H:Hp) (Q:VK),Inv X pins σ H s->t σ H Q->wpAny (model X.prog X.w) X.A (eval e X.env) (EP X pins σ Q) X.xe s
def PT(X:Cx)(e:Expr)(t:TT):Prop:=
 ∀(pins:List (Addr×Obj)) (s:Shared) (σ:St) (H:Hp) (Q:Bool->Hp->Prop),Inv X pins σ H s->t σ H Q->wpAny (model X.prog X.w) X.A (isTrue e X.env (eval e X.env)) (TP X pins σ Q) X.xe s
def PW(X:Cx)(e:Expr)(t:TT):Prop:=
 ∀(whole:Sem Value) (pins:List (Addr×Obj)) (s:Shared) (σ:St) (H:Hp) (Q:Bool->Hp->Prop),Inv X pins σ H s->t σ H Q->wpAny (model X.prog X.w) X.A (isTrue e X.env whole) (TP X pins σ Q) X.xe s
theorem PW.pt{X:Cx}{e:Expr}{t:TT}(h:PW X e t):PT X e t:=h _
def PA(X:Cx)(es:List Expr)(t:TA):Prop:=
 ∀(pos:Pos) (pins:List (Addr×Obj)) (s:Shared) (σ:St) (H:Hp) (Q:List V->Hp->Prop),Inv X pins σ H s->t σ H Q->wpAny (model X.prog X.w) X.A (spliced (backTo pos (starEach es X.env))) (AP X pins σ Q) X.xe s
def PS(X:Cx)(st:Stmt)(t:TS):Prop:=
 ∀(pins:List (Addr×Obj)) (s:Shared) (σ:St) (H:Hp) (D:Ends),Inv X pins σ H s->t D σ H->wpAny (model X.prog X.w) X.A (exec st X.env) (SP X pins D) X.xe s
def PSs(X:Cx)(st:List Stmt)(t:TS):Prop:=
 ∀(pins:List (Addr×Obj)) (s:Shared) (σ:St) (H:Hp) (D:Ends),Inv X pins σ H s->t D σ H->wpAny (model X.prog X.w) X.A (execs st X.env) (SP X pins D) X.xe s
theorem thn{α:Type}{t:Sem α}{Q Q':α->Shared->Prop}{M:Model}{A:Around}{E:Value->Shared->Prop}{s:Shared}(h:wpAny M A t Q E s)(hQ:∀a s,Q a s->Q' a s):wpAny M A t Q' E s:=wpAny_mono h hQ fun _ _ x=>x
end L2
namespace L2
open PySem PySem.Spec PyProof.Rows
section
variable {X:Cx}
theorem bin{a b:Expr}{ta tb:TE}(ha:PE X a ta)(hb:PE X b tb){pins:List (Addr×Obj)}{s:Shared}{σ:St}{H:Hp}{R:V->V->Hp->Prop}(I:Inv X pins σ H s)(h:ta σ H fun x H1=>tb σ H1 fun y H2=>R x y H2)
  {α:Type} {Q:α->Shared->Prop} {f:Value->Value->Sem α}
  (hf:∀v u s2 x y H2,Inv X pins σ H2 s2->RelV x v->RelV y u->R x y H2->wpAny (model X.prog X.w) X.A (f v u) Q X.xe s2):
  wpAny (model X.prog X.w) X.A (eval a X.env) (fun v s₁=>wpAny (model X.prog X.w) X.A (eval b X.env) (fun u s₂=>wpAny (model X.prog X.w) X.A (f v u) Q X.xe s₂) X.xe s₁) X.xe s:=by
 refine thn (ha pins s σ H _ I h) fun v s1 ⟨x,H1,I1,r1,q1⟩=>?_;refine thn (hb pins s1 σ H1 _ I1 q1) fun u s2 ⟨y,H2,I2,r2,q2⟩=>?_;exact hf v u s2 x y H2 I2 r1 r2 q2
def tVar(i:Nat):TE:=fun σ H Q=>∃v,σ[i]?=some (some v)/\Q v H
def tC(v:V):TE:=fun _ H Q=>Q v H
theorem pe_var{i:Nat}{x:Str}{pos:Pos}(hN:X.N[i]?=some x)(hv:Vis X.env.scope x)(hd:(x==("__debug__":Str))=false:=by decide)(hcd:(x==("__classdict__":Str))=false:=by decide):PE X (.Name x pos) (tVar i):=by
 intro pins s σ H Q I h;obtain⟨v,e,h⟩:=h;obtain⟨m,hn,hl⟩:=I.loc;obtain⟨u,r,l⟩:=hl i x v hN e hv;have fin:EP X pins σ Q u s:=⟨v,H,I,r,h⟩;rcases l with⟨hk,hm⟩|⟨hk,c,hc,hcell⟩
 ·exact wpAny_Name (wpAny_loadName_local I.ok.kind hk hn hm fin) hd
 ·rcases hk with hk|hk
  ·exact wpAny_Name (wpAny_loadName_cell I.ok.kind hk hc hcell fin) hd
  ·exact wpAny_Name (wpAny_loadName_free I.ok.kind hk hc hcell fin hcd) hd
theorem pe_int{i j pos}:PE X (.Constant (.int i) j pos) (tC (.int i)):=fun _ _ _ H _ I h=>wpAny_Constant_int ⟨.int i,H,I.tok _,⟨_,rfl⟩,h⟩
theorem pe_bl{b j pos}:PE X (.Constant (.bool b) j pos) (tC (.bl b)):=fun _ _ _ H _ I h=>Constant_bool ⟨.bl b,H,I,rfl,h⟩
theorem pe_non{j pos}:PE X (.Constant .none j pos) (tC .non):=fun _ _ _ H _ I h=>Constant_none ⟨.non,H,I,rfl,h⟩
theorem pe_str{x j pos}:PE X (.Constant (.str x) j pos) (tC (.str x)):=fun _ _ _ H _ I h=>Calls.Constant_str ⟨.str x,H,I.tok _,⟨_,rfl⟩,h⟩
def Gl(X:Cx)(x:Str):Prop:=X.env.kindOf x=some .globalImplicit
theorem ld_glob{E:Value->Shared->Prop}{pins:List (Addr×Obj)}{s:Shared}{σ:St}{H:Hp}{x:Str}{u:Value}{pos:Pos}{Q:Value->Shared->Prop}(I:Inv X pins σ H s)(hg:Gl X x)(hm:X.mg x=some u)(h:Q u s)
  (hd:(x==("__debug__":Str))=false:=by decide):wpAny (model X.prog X.w) X.A (eval (.Name x pos) X.env) Q E s:=
 Calls.Name_function_global I.ok.kind hg (Calls.loadGlobal_global (by rw[I.ok.glob];exact I.mod.glob.keeps I.bk) hm h) hd
theorem ld_blt{E:Value->Shared->Prop}{pins:List (Addr×Obj)}{s:Shared}{σ:St}{H:Hp}{x:Str}{u:Value}{pos:Pos}{Q:Value->Shared->Prop}(I:Inv X pins σ H s)(hg:Gl X x)(hm:X.mg x=none)(hv:bootBuiltins x=some u)(h:Q u s)
  (hn:x≠"__name__":=by decide) (hd:(x==("__debug__":Str))=false:=by decide):wpAny (model X.prog X.w) X.A (eval (.Name x pos) X.env) Q E s:=by
 obtain⟨mb,h1,h2⟩:=I.mod.blt;exact Calls.Name_function_global I.ok.kind hg (Calls.loadGlobal_builtin (by rw[I.ok.glob];exact I.mod.glob.keeps I.bk) hm (by rw[I.ok.blt];exact h1.keeps I.bk) ((h2 x hn).trans hv) h) hd
theorem pe_bltn{x:Str}{v:V}{u:Value}{pos:Pos}(hg:Gl X x)(hm:X.mg x=none)(hv:bootBuiltins x=some u)(r:RelV v u)(hn:x≠"__name__":=by decide)(hd:(x==("__debug__":Str))=false:=by decide):PE X (.Name x pos) (tC v):=
 fun _ _ _ H _ I h=>ld_blt I hg hm hv ⟨v,H,I,r,h⟩ hn hd
variable {a b:Expr} {ta tb:TE} {pos:Pos}
def PC(X:Cx)(op:CmpOp)(a b:Expr)(t:TE):Prop:=
 ∀(pins:List (Addr×Obj)) (s:Shared) (σ:St) (H:Hp) (Q:VK),Inv X pins σ H s->t σ H Q ->
  wpAny (model X.prog X.w) X.A (eval a X.env) (fun v s₁=>wpAny (model X.prog X.w) X.A (eval b X.env) (fun u s₂=>wpAny (model X.prog X.w) X.A (compareOp op v u) (EP X pins σ Q) X.xe s₂) X.xe s₁) X.xe s
def tB(t:TE):TT:=fun σ H Q=>t σ H fun x H1=>∃c,x=.bl c/\Q c H1
theorem pt_cmp{op:CmpOp}{t:TE}(h:PC X op a b t)(h1:behindInMarks op b=false:=by first|exact nobehind _ (by decide) (by decide)|rfl):PT X (.Compare a [op] [b] pos) (tB t):=by
 intro pins s σ H Q I hw;refine wpAny_isTrue_Compare1 (thn (h pins s σ H _ I hw) fun v s1 h1=>thn h1 fun u s2 h2=>thn h2 fun c s3 ⟨x,H1,I1,r1,q1⟩=>?_) h1;obtain⟨d,rfl,q⟩:=q1;cases r1;exact wpAny_truthy_bool ⟨H1,I1,q⟩
variable {tA tB':TT} {rest:List Expr}
def tAnd(t u:TT):TT:=fun σ H Q=>t σ H fun c H1=>if c=true then u σ H1 Q else Q false H1
def tOr(t u:TT):TT:=fun σ H Q=>t σ H fun c H1=>if c=true then Q true H1 else u σ H1 Q
def tNot(t:TT):TT:=fun σ H Q=>t σ H fun c H1=>Q (!c) H1
theorem pw_and1(ha:PT X a tA):PW X (.BoolOp .And [a] pos) tA:=by
 intro wh pins s σ H Q I h;refine isTrue_and (thn (ha pins s σ H Q I h) fun c s1 e=>?_);cases c with
 |true=>exact isTrue_and_nil e
 |false=>exact e
theorem pw_or1(ha:PT X a tA):PW X (.BoolOp .Or [a] pos) tA:=by
 intro wh pins s σ H Q I h;refine isTrue_or (thn (ha pins s σ H Q I h) fun c s1 e=>?_);cases c with
 |false=>exact isTrue_or_nil e
 |true=>exact e
theorem pw_and(ha:PT X a tA)(hb:PW X (.BoolOp .And (b::rest) pos) tB'):PW X (.BoolOp .And (a::b::rest) pos) (tAnd tA tB'):=by
 intro wh pins s σ H Q I h;refine isTrue_and (thn (ha pins s σ H _ I h) fun c s1 ⟨H1,I1,q1⟩=>?_);cases c with
 |true=>exact hb wh pins s1 σ H1 Q I1 q1
 |false=>exact⟨H1,I1,q1⟩
theorem pw_or(ha:PT X a tA)(hb:PW X (.BoolOp .Or (b::rest) pos) tB'):PW X (.BoolOp .Or (a::b::rest) pos) (tOr tA tB'):=by
 intro wh pins s σ H Q I h;refine isTrue_or (thn (ha pins s σ H _ I h) fun c s1 ⟨H1,I1,q1⟩=>?_);cases c with
 |true=>exact⟨H1,I1,q1⟩
 |false=>exact hb wh pins s1 σ H1 Q I1 q1
theorem pt_not(ha:PT X a tA):PT X (.UnaryOp .Not a pos) (tNot tA):=by
 intro pins s σ H Q I h;exact isTrue_not (ha pins s σ H (fun c H1=>Q (!c) H1) I h)
def tAndV(ta tb:TE):TE:=fun σ H Q=>ta σ H fun x H1=>∃c,x=.bl c/\if c=true then tb σ H1 Q else Q (.bl false) H1
def tNotV(ta:TE):TE:=fun σ H Q=>ta σ H fun x H1=>∃c,x=.bl c/\Q (.bl (!c)) H1
theorem pe_one{op}{t:TE}(h:PE X a t):PE X (.BoolOp op [a] pos) t:=fun pins s σ H Q I hw=>BoolOp_one (h pins s σ H Q I hw)
theorem pe_and(ha:PE X a ta)(hb:PE X (.BoolOp .And (b::rest) pos) tb):PE X (.BoolOp .And (a::b::rest) pos) (tAndV ta tb):=by
 intro pins s σ H Q I h;refine BoolOp_and (thn (ha pins s σ H _ I h) fun v s1 ⟨x,H1,I1,r1,q1⟩=>?_);obtain⟨c,rfl,q1⟩:=q1;cases r1;refine wpAny_truthy_bool ?_;cases c with
 |true=>exact hb pins s1 σ H1 Q I1 q1
 |false=>exact⟨.bl false,H1,I1,rfl,q1⟩
theorem pe_not(ha:PE X a ta):PE X (.UnaryOp .Not a pos) (tNotV ta):=by
 intro pins s σ H Q I h;refine UnaryOp_ (thn (ha pins s σ H _ I h) fun v s1 ⟨x,H1,I1,r1,q1⟩=>?_);obtain⟨c,rfl,q1⟩:=q1;cases r1;exact not_of (wpAny_truthy_bool ⟨.bl (!c),H1,I1,rfl,q1⟩)
end
end L2
namespace L2
open PySem PySem.Spec PyProof.Rows
def SqL(K:PySem.W.Frag)(H:Hp)(a:Addr)(xs:List V):Prop:=
 Rd H a (.lst xs) ∨
  ∃(o:Obj) (its:Array Value) (n:Nat),K.lookup a=some o/\o.cls=.type "list"/\o.dict=none/\o.data=.seq its n/\its.size≤sizeLine/\Vals xs its.toList
def SqT(K:PySem.W.Frag)(H:Hp)(a:Addr)(xs:List V):Prop:=
 Rd H a (.tup xs) ∨
  ∃(o:Obj) (its:Array Value) (n:Nat),K.lookup a=some o/\o.cls=.type "tuple"/\o.data=.seq its n/\its.size≤sizeLine/\Vals xs its.toList
def absV:Value->Option V
 |.none=>some .non
 |.bool b=>some (.bl b)
 |.int i _=>some (.int i)
 |.str x _=>some (.str x)
 |.bytes b _=>some (.byt b)
 |.float b _=>some (.flt b)
 |.ref a=>some (.ref a)
 |.type n=>some (.ty n)
 |_=>none
theorem RelV.abs{x:V}{u:Value}(r:RelV x u):absV u=some x:=by
 cases x with
 |non=>cases r;rfl
 |bl _=>cases r;rfl
 |int _=>obtain⟨t,rfl⟩:=r;rfl
 |str _=>obtain⟨t,rfl⟩:=r;rfl
 |byt _=>obtain⟨t,rfl⟩:=r;rfl
 |flt _=>obtain⟨t,rfl⟩:=r;rfl
 |ref _=>cases r;rfl
 |ty _=>cases r;rfl
theorem RelV.inj{x y:V}{u:Value}(r:RelV x u)(q:RelV y u):x=y:=Option.some.inj (r.abs.symm.trans q.abs)
theorem Vals.inj:∀{xs ys:List V} {us:List Value},Vals xs us->Vals ys us->xs=ys
 |_,_,_,.nil,.nil=>rfl
 |_,_,_,.cons r t,.cons r' t'=>by rw[r.inj r',Vals.inj t t']
section
variable {X:Cx} {pins:List (Addr×Obj)} {σ:St} {H:Hp} {s:Shared} {a:Addr} {xs ys:List V}
theorem SqL.of{K:PySem.W.Frag}(h:H a=some (.lst xs)):SqL K H a xs:=.inl (.inl h)
theorem SqT.of{K:PySem.W.Frag}(h:H a=some (.tup xs)):SqT K H a xs:=.inl (.inl h)
theorem Inv.list(I:Inv X pins σ H s)(h:SqL X.K H a xs):∃its:List Value,Vals xs its/\PlainL s.heap a its.toArray/\xs.length≤sizeLine:=by
 rcases h with h|⟨o,its,n,hk,hc,hd,hs,hz,r⟩
 ·obtain⟨z,its,n,r,e⟩:=h.ok I.hok;exact⟨its,r,⟨_,n,e,rfl,rfl,rfl⟩,z⟩
 ·refine⟨its.toList,r,⟨o,n,I.kIn a o hk,hc,hd,by simpa using hs⟩,?_⟩;have e:=r.length;simp only[Array.length_toList] at e;lia
theorem Inv.tuple(I:Inv X pins σ H s)(h:SqT X.K H a xs):∃its:List Value,Vals xs its/\IsTup s.heap a its.toArray/\xs.length≤sizeLine:=by
 rcases h with h|⟨o,its,n,hk,hc,hs,hz,r⟩
 ·obtain⟨z,its,r,p⟩:=h.ok I.hok;exact⟨its,r,p,z⟩
 ·refine⟨its.toList,r,⟨o,I.kIn a o hk,hc,n,by simpa using hs⟩,?_⟩;have e:=r.length;simp only[Array.length_toList] at e;lia
theorem Inv.list_inj(I:Inv X pins σ H s)(h:SqL X.K H a xs)(h':SqL X.K H a ys):xs=ys:=by
 obtain⟨its,r,⟨o,n,e,_,_,d⟩,_⟩:=I.list h;obtain⟨its',r',⟨o',n',e',_,_,d'⟩,_⟩:=I.list h';rw[e] at e';cases e';rw[d] at d';injection d' with d1 _
 have:its=its':=by simpa using congrArg Array.toList d1
 subst this;exact r.inj r'
theorem Inv.tuple_inj(I:Inv X pins σ H s)(h:SqT X.K H a xs)(h':SqT X.K H a ys):xs=ys:=by
 obtain⟨its,r,⟨o,e,_,n,d⟩,_⟩:=I.tuple h;obtain⟨its',r',⟨o',e',_,n',d'⟩,_⟩:=I.tuple h';rw[e] at e';cases e';rw[d] at d';injection d' with d1 _
 have:its=its':=by simpa using congrArg Array.toList d1
 subst this;exact r.inj r'
end
abbrev Cx.wish(X:Cx)(E:Value->Shared->Prop):Cx:={ X with xe:=E }
abbrev Cx.nox(X:Cx):Cx:=X.wish fun _ _=>False
theorem Cx.Ok.wish{X:Cx}(ok:X.Ok)(E:Value->Shared->Prop):(X.wish E).Ok:=
 ⟨ok.mod,ok.kind,ok.glob,ok.blt,ok.above,ok.inj,ok.has,ok.cab,ok.hd,ok.frames,ok.stk,ok.exf,ok.bs,ok.bsz,ok.noex,ok.exfs,ok.funs,ok.frf⟩
theorem Cx.Ok.unwish{X:Cx}{E:Value->Shared->Prop}(ok:(X.wish E).Ok):X.Ok:=
 ⟨ok.mod,ok.kind,ok.glob,ok.blt,ok.above,ok.inj,ok.has,ok.cab,ok.hd,ok.frames,ok.stk,ok.exf,ok.bs,ok.bsz,ok.noex,ok.exfs,ok.funs,ok.frf⟩
section
variable {X:Cx} {pins:List (Addr×Obj)} {σ:St} {H:Hp} {s:Shared} {E:Value->Shared->Prop}
theorem Inv.wish(I:Inv X pins σ H s)(E:Value->Shared->Prop):Inv (X.wish E) pins σ H s:=⟨I.ok.wish E,I.os,I.bare,I.base,I.loc,I.cell,I.free,I.freeC,I.pin,I.hok,I.len⟩
theorem Inv.unwish(I:Inv (X.wish E) pins σ H s):Inv X pins σ H s:=⟨I.ok.unwish,I.os,I.bare,I.base,I.loc,I.cell,I.free,I.freeC,I.pin,I.hok,I.len⟩
theorem SP.unwish{D:Ends}{f:Flow}{s':Shared}(h:SP (X.wish E) pins D f s'):SP X pins D f s':=by
 cases f with
 |next=>obtain⟨σ',H',I,q⟩:=h;exact⟨σ',H',I.unwish,q⟩
 |brk=>obtain⟨σ',H',I,q⟩:=h;exact⟨σ',H',I.unwish,q⟩
 |cont=>obtain⟨σ',H',I,q⟩:=h;exact⟨σ',H',I.unwish,q⟩
 |ret u=>obtain⟨v,σ',H',I,r,q⟩:=h;exact⟨v,σ',H',I.unwish,r,q⟩
theorem PSs.nox{st:List Stmt}{t:TS}(h:PSs X.nox st t):PSs X st t:=fun pins s σ H D I hw=>
 wpAny_mono (h pins s σ H D (I.wish _) hw) (fun _ _ q=>q.unwish) fun _ _ z=>False.elim z
end
section
variable {X:Cx} {st:Stmt} {rest:List Stmt} {t u:TS} {e:Expr} {te:TE} {pos:Pos}
def tNext:TS:=fun D σ H=>D.nx σ H
def tSeq(t u:TS):TS:=fun D σ H=>t { D with nx:=u D } σ H
theorem pss_nil:PSs X [] tNext:=fun _ _ σ H _ I h=>wpAny_execs_nil ⟨σ,H,I,h⟩
theorem pss_cons(h1:PS X st t)(h2:PSs X rest u):PSs X (st::rest) (tSeq t u):=by
 intro pins s σ H D I h;refine wpAny_execs_cons (thn (h1 pins s σ H { D with nx:=u D } I h) fun f s1 q=>?_);cases f with
 |next=>
  obtain⟨σ',H',I',q⟩:=q;exact h2 pins s1 σ' H' D I' q
 |ret v=>exact q
 |brk=>exact q
 |cont=>exact q
theorem pss_one(h1:PS X st t):PSs X [st] t:=by
 intro pins s σ H D I h;refine wpAny_execs_cons (thn (h1 pins s σ H D I h) fun f s1 q=>?_);cases f with
 |next=>exact wpAny_execs_nil q
 |ret v=>exact q
 |brk=>exact q
 |cont=>exact q
theorem Inv.quiet{pins:List (Addr×Obj)}{σ:St}{H:Hp}{s:Shared}(I:Inv X pins σ H s):interactive X.env=false:=by simp[interactive,I.ok.kind]
def tDrop(te:TE):TS:=fun D σ H=>te σ H fun _ H1=>D.nx σ H1
theorem ps_expr(he:PE X e te)(hs:swapsWith e none pos.line X.env=pure false:=by rfl):PS X (.Expr e pos) (tDrop te):=by
 intro pins s σ H D I h;exact wpAny_Expr_any (thn (he pins s σ H _ I h) fun v s1 ⟨x,H1,I1,r1,q1⟩=>⟨σ,H1,I1,q1⟩) I.quiet hs
def tRet(te:TE):TS:=fun D σ H=>te σ H D.rt
theorem ps_ret(he:PE X e te):PS X (.Return (some e) pos) (tRet te):=by
 intro pins s σ H D I h;exact wpAny_Return_some (thn (he pins s σ H _ I h) fun v s1 ⟨x,H1,I1,r1,q1⟩=>⟨x,σ,H1,I1,r1,q1⟩)
def tIfS(c:TT)(t u:TS):TS:=fun D σ H=>c σ H fun b H1=>if b=true then t D σ H1 else u D σ H1
theorem ps_if{c:Expr}{a b:List Stmt}{tc:TT}(hc:PT X c tc)(ha:PSs X a t)(hb:PSs X b u):PS X (.If c a b pos) (tIfS tc t u):=by
 intro pins s σ H D I h;refine wpAny_If (thn (hc pins s σ H _ I h) fun d s1 ⟨H1,I1,q1⟩=>?_);cases d with
 |true=>exact ha pins s1 σ H1 D I1 q1
 |false=>exact hb pins s1 σ H1 D I1 q1
end
abbrev TG:=V->St->Hp->(St->Hp->Prop)->Prop
abbrev TGs:=List V->St->Hp->(St->Hp->Prop)->Prop
def PG(X:Cx)(target:Expr)(t:TG):Prop:=
 ∀(pins:List (Addr×Obj)) (s:Shared) (σ:St) (H:Hp) (v:V) (u:Value) (Q:St->Hp->Prop),Inv X pins σ H s->RelV v u->t v σ H Q ->
  wpAny (model X.prog X.w) X.A (assign target X.env u) (fun _ s'=>∃σ' H',Inv X pins σ' H' s'/\Q σ' H') X.xe s
def PGs(X:Cx)(ts:List Expr)(t:TGs):Prop:=
 ∀(pins:List (Addr×Obj)) (s:Shared) (σ:St) (H:Hp) (vs:List V) (us:List Value) (Q:St->Hp->Prop),Inv X pins σ H s->Vals vs us->t vs σ H Q ->
  wpAny (model X.prog X.w) X.A (assignInOrder ((assignEach ts X.env).map (·.2)) us) (fun _ s'=>∃σ' H',Inv X pins σ' H' s'/\Q σ' H') X.xe s
abbrev TSet:=V->V->V->Hp->(Hp->Prop)->Prop
def PSet(X:Cx)(t:TSet):Prop:=
 ∀(pins:List (Addr×Obj)) (s:Shared) (σ:St) (H:Hp) (o i v:V) (ov iv u:Value) (Q:Hp->Prop),Inv X pins σ H s->RelV o ov->RelV i iv->RelV v u->t o i v H Q ->
  wpAny (model X.prog X.w) X.A (setItem ov iv u) (fun _ s'=>∃H',Inv X pins σ H' s'/\Q H') X.xe s
section
variable {X:Cx} {pos:Pos}
def gName(i:Nat):TG:=fun v σ H Q=>Q (σ.set i (some v)) H
theorem pg_name{i:Nat}{x:Str}(hN:X.N.Nodup)(hi:X.N[i]?=some x)(hx:Loc X.env.scope x)(hf:X.fn x=true∨X.env.scope.names.lookup x=some .local:=by first|exact .inl rfl|exact .inr rfl|assumption):PG X (.Name x pos) (gName i):=by
 intro pins s σ H v u Q I r h;exact wpAny_assign_Name (store_ok I hN hi hx r (fun s' I'=>⟨_,H,I',h⟩) hf)
def gNil:TGs:=fun vs σ H Q=>vs=[]/\Q σ H
def gCons(t:TG)(u:TGs):TGs:=fun vs σ H Q=>∃v r,vs=v::r/\t v σ H fun σ' H'=>u r σ' H' Q
theorem pgs_nil:PGs X [] gNil:=by
 intro pins s σ H vs us Q I r h;obtain⟨e,h⟩:=h;subst e;cases r;exact assignInOrder_nil ⟨σ,H,I,h⟩
theorem pgs_cons{e:Expr}{es:List Expr}{t:TG}{u:TGs}(h1:PG X e t)(h2:PGs X es u)
  (hs:(assignEach (e::es) X.env).map (·.2)=assign e X.env::(assignEach es X.env).map (·.2):=by rfl):PGs X (e::es) (gCons t u):=by
 intro pins s σ H vs us Q I r h;obtain⟨v,vr,e1,h⟩:=h;subst e1;cases r with
 |cons r rr=>
  rw[hs];refine assignInOrder_cons (thn (h1 pins s σ H _ _ _ I r h) fun _ s1 ⟨σ1,H1,I1,q1⟩=>?_);exact h2 pins s1 σ1 H1 _ _ Q I1 rr q1
def gTup(K:PySem.W.Frag)(n:Nat)(t:TGs):TG:=fun v σ H Q=>∃a xs,v=.ref a/\SqT K H a xs/\xs.length=n/\t xs σ H Q
theorem pg_tup{es:List Expr}{k:Nat}{t:TGs}{n:Nat}(hc:X.calm=true)(h:PGs X es t)
  (hn:(assignEach es X.env).length=n:=by rfl) (hst:(assignEach es X.env).findIdx? (·.1)=none:=by rfl):PG X (.Tuple es k pos) (gTup X.K n t):=by
 intro pins s σ H v u Q I r hw;obtain⟨a,xs,e1,hq,hl,hw⟩:=hw;subst e1;cases r;obtain⟨its,rv,ht,hz⟩:=I.tuple hq;refine assign_Tuple_tuple (I.ok.hd hc) ht (by simp[hn,←hl,rv.length]) hst fun h' hx=>?_;have I1:Inv X pins σ H { s with heap:=h' }:=I.kept (t':=s.toks) fun b o e=>hx b o (Nat.ne_of_lt (Heap.lt_size e)) e
 exact h pins _ σ H xs _ Q I1 (by simpa using rv) hw
def gSub(to ti:TE)(t:TSet):TG:=fun v σ H Q=>to σ H fun o H1=>ti σ H1 fun i H2=>t o i v H2 fun H3=>Q σ H3
theorem pg_sub{o i:Expr}{to ti:TE}{t:TSet}(ho:PE X o to)(hi:PE X i ti)(hs:PSet X t)
  (ha:∀v,assign (.Subscript o i pos) X.env v=(do
   let ov ←holding [v] (eval o X.env)
   let iv ←holding [v,ov] (eval i X.env)
   standAt pos
   holding [v,ov,iv] (setItem ov iv v)
   release [v,ov,iv] []):=by intro _;rfl):PG X (.Subscript o i pos) (gSub to ti t):=by
 intro pins s σ H v u Q I r h
 rw[ha]
 refine wpAny_bind (wpAny_holding (thn (ho pins s σ H _ I h) fun ov s1 ⟨x,H1,I1,r1,q1⟩=>?_))
 refine wpAny_bind (wpAny_holding (thn (hi pins s1 σ H1 _ I1 q1) fun iv s2 ⟨y,H2,I2,r2,q2⟩=>?_))
 refine wpAny_bind (wpAny_standAt (wpAny_bind (wpAny_holding (thn (hs pins s2 σ H2 x y v ov iv u _ I2 r1 r2 r q2) fun _ s3 ⟨H3,I3,q3⟩=>?_))))
 exact wpAny_release ⟨σ,H3,I3,q3⟩
def tAsg(te:TE)(g:TG):TS:=fun D σ H=>te σ H fun x H1=>g x σ H1 D.nx
theorem ps_asg{tg e:Expr}{te:TE}{g:TG}(he:PE X e te)(hg:PG X tg g)(hs:swapsWithSole [tg] e pos.line X.env=pure false:=by rfl)(hw:swappedStores [tg] e X.env=pure none:=by rfl)
  (h1:(assignEach [tg] X.env).map (·.2)=[assign tg X.env]:=by rfl):PS X (.Assign [tg] e pos) (tAsg te g):=by
 intro pins s σ H D I h;refine wpAny_Assign_stores (thn (he pins s σ H _ I h) fun v s1 ⟨x,H1,I1,r1,q1⟩=>?_) hs hw;rw[h1];exact thn (hg pins s1 σ H1 x v _ I1 r1 q1) fun _ s2 q=>q
theorem ps_set{i:Nat}{x:Str}{e:Expr}{te:TE}{pos':Pos}(hN:X.N.Nodup)(hi:X.N[i]?=some x)(hx:Loc X.env.scope x)(he:PE X e te)(hs:swapsWith e (some (.Name x pos')) pos.line X.env=pure false:=by rfl)(hf:X.fn x=true∨X.env.scope.names.lookup x=some .local:=by first|exact .inl rfl|exact .inr rfl|assumption):
  PS X (.Assign [.Name x pos'] e pos) (tAsg te (gName i)):=by
 intro pins s σ H D I h;refine wpAny_Assign_Name (thn (he pins s σ H _ I h) fun v s1 ⟨y,H1,I1,r1,q1⟩=>?_) hs;exact store_ok I1 hN hi hx r1 (fun s2 I2=>⟨_,H1,I2,q1⟩) hf
def tPar(i j:Nat)(ta:TA):TS:=fun D σ H=>ta σ H fun vs H1=>∃v w,vs=[v,w]/\D.nx ((σ.set i (some v)).set j (some w)) H1
theorem ps_par{i j:Nat}{x y:Str}{a b:Expr}{ta:TA}{px py pt:Pos}{kt k2 pt2}(hc:X.calm=true)(hN:X.N.Nodup)(hi:X.N[i]?=some x)(hj:X.N[j]?=some y)(hij:i≠j)
  (hx:X.env.scope.names.lookup x=some .local) (hy:X.env.scope.names.lookup y=some .local) (ha:PA X [a,b] ta)
  (hw:swappedStores [.Tuple [.Name x px,.Name y py] kt pt] (.Tuple [a,b] k2 pt2) X.env=pure (some [x,y]))
  (hs:swapsWithSole [.Tuple [.Name x px,.Name y py] kt pt] (.Tuple [a,b] k2 pt2) pos.line X.env=pure false:=by rfl):
  PS X (.Assign [.Tuple [.Name x px,.Name y py] kt pt] (.Tuple [a,b] k2 pt2) pos) (tPar i j ta):=by
 intro pins s σ H D I h;rw[exec_Assign_arm];refine wpAny_bind (wpAny_standAt ?_);rw[hs];refine wpAny_bind (wpAny_pure ?_);rw[if_neg (by decide)];refine wpAny_bind (Tuple_ (thn (ha _ pins s σ H _ I h) fun us s1 ⟨vs,H1,I1,r1,q1⟩=>?_));obtain⟨v,w,e1,q1⟩:=q1;subst e1;obtain⟨u1,u2,rfl,rv,rw'⟩:∃u1 u2,us=[u1,u2]/\RelV v u1/\RelV w u2:=by
  cases r1 with
  |cons p q=>
   cases q with
   |cons p' q'=>
    cases q';exact⟨_,_,rfl,p,p'⟩
 refine wpAny_newObj_type ?_ (by show 2≤sizeLine;decide);have I2:Inv X pins σ H1 { s1 with heap:=s1.heap.push { cls:=.type "tuple",data:=.seq [u1,u2].toArray }}:=I1.kept (t':=s1.toks) fun b o e=>Heap.get?_push_of_some _ e;rw[hw];refine wpAny_bind (wpAny_pure ?_);show wpAny (model X.prog X.w) X.A (do rule "assign.swapped-stores";let items ←unpackItems (.ref s1.heap.objs.size) 2 none;assignInOrder [fun v=>bindName X.env y v,fun v=>bindName X.env x v] items.reverse;pure Flow.next) _ _ _
 refine wpAny_bind (wpAny_rule (wpAny_bind (unpackItems_tuple (items:=#[u1,u2]) (I.ok.hd hc) (IsTup.new s1.heap _) fun h' hx'=>?_)));have I3:=I2.kept (h':=h') (t':=s1.toks) fun b o e=>hx' b o (Nat.ne_of_lt (Heap.lt_size e)) e;show wpAny _ _ (assignInOrder [fun v=>bindName X.env y v,fun v=>bindName X.env x v] [u2,u1] >>= fun _=>pure Flow.next) _ _ _
 refine wpAny_bind (assignInOrder_cons (wpAny_bindName (store_ok I3 hN hj (.inl hy) rw' (fun s2 I4=>?_) (.inr hy))));refine assignInOrder_cons (wpAny_bindName (store_ok I4 hN hi (.inl hx) rv (fun s3 I5=>assignInOrder_nil (wpAny_pure ?_)) (.inr hx)));rw[List.set_comm _ _ (Ne.symm hij)] at I5;exact⟨_,H1,I5,q1⟩
end
section
variable {X:Cx} {pos:Pos}
def tWhile(c:TT)(tb:TS):TS:=fun D σ H=>∃W:Nat->St->Hp->Prop,(∃m,W m σ H)/\∀m σ H,W m σ H ->
 c σ H fun b H1=>if b=true then ∃N:St->Hp->Prop,(∀σ' H',N σ' H'->∃m',m' < m/\W m' σ' H')/\tb { D with nx:=N,ct:=N,bk:=D.nx } σ H1 else D.nx σ H1
theorem ps_while{c:Expr}{body:List Stmt}{tc:TT}{tb:TS}(hp:PassesOwn (model X.prog X.w) X.A X.env X.xe)(hc:PT X c tc)(hb:PSs X body tb):PS X (.While c body [] pos) (tWhile tc tb):=by
 intro pins s σ H D I h;obtain⟨W,⟨m0,w0⟩,turn⟩:=h;refine wpAny_While (codeAny_whileLoop (fun n s'=>∃σ' H',Inv X pins σ' H' s'/\W n σ' H') ?_ m0 ⟨σ,H,I,w0⟩);rintro n s1 ⟨σ1,H1,I1,w1⟩;refine wpAny_passesOwn hp (thn (hc pins s1 σ1 H1 _ I1 (turn n σ1 H1 w1)) fun b s2 ⟨H2,I2,q2⟩=>?_);cases b with
 |true=>
  obtain⟨N,hN,q2⟩:=q2;rw[if_pos rfl];refine wpAny_passesOwn hp (thn (hb pins s2 σ1 H2 _ I2 q2) fun f s3 q3=>?_);cases f with
  |next=>
   obtain⟨σ3,H3,I3,n3⟩:=q3;obtain⟨m',hm,w3⟩:=hN σ3 H3 n3;exact⟨m',hm,σ3,H3,I3,w3⟩
  |cont=>
   obtain⟨σ3,H3,I3,n3⟩:=q3;obtain⟨m',hm,w3⟩:=hN σ3 H3 n3;exact⟨m',hm,σ3,H3,I3,w3⟩
  |brk=>exact q3
  |ret v=>exact q3
 |false=>
  rw[if_neg Bool.false_ne_true];exact wpAny_execs_nil ⟨σ1,H2,I2,q2⟩
end
structure It where
 go:Nat->Hp->Prop
 yld:Nat->Hp->V->Hp->Prop
 stop:Nat->Hp->Prop
def FpOk(X:Cx)(pins:List (Addr×Obj))(H:Hp)(b:Addr):Prop:=
 H b=none/\b≠X.env.locals/\b∉X.fs/\(b∈X.ex∨X.s₀.heap.objs.size≤b)/\(∀x c,X.env.cells.lookup x=some c->c≠b)/\∀p∈X.pn++pins,p.1≠b
theorem Inv.fpOk{X:Cx}{pins:List (Addr×Obj)}{σ:St}{H H':Hp}{s:Shared}{b:Addr}(I:Inv X pins σ H s)(hb:s.heap.objs.size≤b)(hn:H' b=none):FpOk X pins H' b:=by
 refine⟨hn,Nat.ne_of_gt (Nat.lt_of_lt_of_le I.lt hb),I.nofs hb,.inr (Nat.le_trans I.sz hb),fun x c e z=>?_,fun p hp z=>?_⟩
 ·obtain⟨v,q⟩:=I.cell x c e;exact absurd (Nat.lt_of_lt_of_le q.lt (by rw[z];exact hb)) (Nat.lt_irrefl _)
 ·exact absurd (Nat.lt_of_lt_of_le (Heap.lt_size (I.pin p hp).1) (by rw[z];exact hb)) (Nat.lt_irrefl _)
structure Turn(P:Program)(w:World)(K:PySem.W.Frag)(tg:Expr)(J:It)(fp:List Addr)(it:Addr)(tn:Nat->Heap->Prop):Prop where
 mem:it∈fp
 obj:∀i h,tn i h->∀b∈fp,∃o,h.get? b=some o/\∀v,o.data≠.cell v
 keep:∀i h h',tn i h->(∀b∈fp,∀o,h.get? b=some o->h'.get? b=some o)->tn i h'
 item:∀(X:Cx),X.prog=P->X.w=w->X.K=K->X.calm=true->∀(i:Nat) (pins:List (Addr×Obj)) (s:Shared) (σ:St) (H:Hp) (E:Value->Shared->Prop),Inv X pins σ H s->(∀b∈fp,FpOk X pins H b)->tn i s.heap->J.go i H ->
  wpAny (model P w) X.A (pyNext (.ref it)) (fun r s1=>∃u,r=some u ∧
   wpAny (model P w) X.A (letOwnedTupleGo tg (.ref it) u) (fun _ s2=>∃x H',Inv X pins σ H' s2/\RelV x u/\J.yld i H x H'/\tn (i+1) s2.heap/\∀b∈fp,H' b=none) E s1) E s
 done:∀(X:Cx),X.prog=P->X.w=w->X.K=K->X.calm=true->∀(i:Nat) (pins:List (Addr×Obj)) (s:Shared) (σ:St) (H:Hp) (E:Value->Shared->Prop),Inv X pins σ H s->(∀b∈fp,FpOk X pins H b)->tn i s.heap->J.stop i H ->
  wpAny (model P w) X.A (pyNext (.ref it)) (fun r s1=>r=none/\Inv X pins σ H s1) E s
 self:∀(A:Around) (i:Nat) (s:Shared) (Q:Value->Shared->Prop) (E:Value->Shared->Prop),tn i s.heap->Q (.ref it) s->wpAny (model P w) A (pyIter (.ref it)) Q E s
abbrev TI:=St->Hp->(It->Hp->Prop)->Prop
def PIE(X:Cx)(pins:List (Addr×Obj))(σ:St)(tg:Expr)(R:It->Hp->Prop)(itv:Value)(s2:Shared):Prop:=
 ∃(it:Addr) (fp:List Addr) (tn:Nat->Heap->Prop) (J:It) (H':Hp),itv=.ref it/\Inv X pins σ H' s2/\Turn X.prog X.w X.K tg J fp it tn/\tn 0 s2.heap/\(∀b∈fp,FpOk X pins H' b)/\R J H'
def PI(X:Cx)(tg iter:Expr)(wi:TI):Prop:=
 ∀(pins:List (Addr×Obj)) (s:Shared) (σ:St) (H:Hp) (R:It->Hp->Prop),Inv X pins σ H s->wi σ H R ->
  wpAny (model X.prog X.w) X.A (eval iter X.env) (fun v s1=>wpAny (model X.prog X.w) X.A (pyIter v) (PIE X pins σ tg R) X.xe s1) X.xe s
theorem go_of{M:Model}{A:Around}{E:Value->Shared->Prop}{s:Shared}{tg:Expr}{it:Addr}{u:Value}{o:Obj}{n:String}{vs:Array Value}{Q:Unit->Shared->Prop}(ho:s.heap.get? it=some o)(hc:o.cls=.type n)(hd:o.data=.fields vs)
    (hn:["enumerate","zip","dict_itemiterator","dict_reverseitemiterator","odict_iterator","itertools.zip_longest","itertools.pairwise"].contains n=false) (hQ:Q () s):wpAny M A (letOwnedTupleGo tg (.ref it) u) Q E s:=by
  unfold letOwnedTupleGo;cases tg<;>first
    |exact wpAny_pure hQ
    | (cases u<;>first
        |exact wpAny_pure hQ
        | (refine wpAny_bind (wpAny_load ho ?_)
           rw[hc,hd];show wpAny M A (if (["enumerate","zip","dict_itemiterator","dict_reverseitemiterator","odict_iterator","itertools.zip_longest","itertools.pairwise"].contains n&&vs[0]?==some (rawInt _))=true then _ else _) Q E s;rw[if_neg (by intro h;rw[hn,Bool.false_and] at h;cases h)];exact wpAny_pure hQ))
def Itl(K:PySem.W.Frag)(a:Addr):It:=
 ⟨fun i H=>∃xs x,SqL K H a xs/\xs[i]?=some x,fun i H x H'=>H'=H/\∀xs,SqL K H a xs->xs[i]?=some x,fun i H=>∃xs,SqL K H a xs/\xs.length≤i⟩
def Itt(K:PySem.W.Frag)(a:Addr):It:=
 ⟨fun i H=>∃xs x,SqT K H a xs/\xs[i]?=some x,fun i H x H'=>H'=H/\∀xs,SqT K H a xs->xs[i]?=some x,fun i H=>∃xs,SqT K H a xs/\xs.length≤i⟩
def Itr(lo:Int)(n:Nat):It:=⟨fun i _=>i<n,fun i H x H'=>H'=H/\x=.int (lo+i),fun i _=>n≤i⟩
theorem turn_list{P:Program}{w:World}{K:PySem.W.Frag}{tg:Expr}(a it:Addr):Turn P w K tg (Itl K a) [it] it (fun i h=>h.IsListIter it a i) where
 mem:=by simp
 obj:=fun i h st b hb=>by
  have e:b=it:=by simpa using hb
  subst e;obtain⟨o,e,c,d⟩:=st;exact⟨o,e,fun v z=>by rw[d] at z;cases z⟩
 keep:=fun i h h' st k=>st.at fun o e=>k it (by simp) o e
 item:=by
  intro X hP hw hK hc i pins s σ H E I hf st hg;subst hP hw hK;obtain⟨xs,x,hq,hx⟩:=hg;obtain⟨its,rv,p,hz⟩:=I.list hq;obtain⟨u,hu,ru⟩:=rv.get hx;obtain⟨f0,f1,f2,f3,f4,f5⟩:=hf it (by simp);refine wpAny_pyNext_list_item st p.isList (x:=u) (by simpa using hu) fun h' st' sb=>?_;have I1:Inv X pins σ H { s with heap:=h' }:=I.turned (t':=s.toks) (fun b o hb e=>(sb.2 b hb).trans e) f0 f1 f3 f4 f5;obtain⟨o,e,c,d⟩:=id st';exact⟨u,rfl,go_of (s:={ s with heap:=h' }) e c d (by decide) ⟨x,H,I1,ru,⟨rfl,fun ys hy=>by rw[I.list_inj hy hq];exact hx⟩,st',fun b hb=>(hf b hb).1⟩⟩
 done:=by
  intro X hP hw hK hc i pins s σ H E I hf st hg;subst hP hw hK;obtain⟨xs,hq,hx⟩:=hg;obtain⟨its,rv,p,hz⟩:=I.list hq;obtain⟨f0,f1,f2,f3,f4,f5⟩:=hf it (by simp);have hl:=rv.length;exact wpAny_pyNext_list_end (I.ok.hd hc) st p.isList (by simp;lia) fun h' eb=>⟨rfl,I.turned (t':=s.toks) (fun b o hb e=>eb b o hb e) f0 f1 f3 f4 f5⟩
 self:=fun _ _ _ _ _ st h=>wpAny_pyIter_listiter st h
theorem turn_tuple{P:Program}{w:World}{K:PySem.W.Frag}{tg:Expr}(a it:Addr):Turn P w K tg (Itt K a) [it] it (fun i h=>h.IsTupleIter it a i) where
 mem:=by simp
 obj:=fun i h st b hb=>by
  have e:b=it:=by simpa using hb
  subst e;obtain⟨o,e,c,d⟩:=st;exact⟨o,e,fun v z=>by rw[d] at z;cases z⟩
 keep:=fun i h h' st k=>st.at fun o e=>k it (by simp) o e
 item:=by
  intro X hP hw hK hc i pins s σ H E I hf st hg;subst hP hw hK;obtain⟨xs,x,hq,hx⟩:=hg;obtain⟨its,rv,p,hz⟩:=I.tuple hq;obtain⟨u,hu,ru⟩:=rv.get hx;obtain⟨f0,f1,f2,f3,f4,f5⟩:=hf it (by simp);refine wpAny_pyNext_tuple_item st (show s.heap.IsTuple a its.toArray from p) (x:=u) (by simpa using hu) fun h' st' sb=>?_;have I1:Inv X pins σ H { s with heap:=h' }:=I.turned (t':=s.toks) (fun b o hb e=>(sb.2 b hb).trans e) f0 f1 f3 f4 f5;obtain⟨o,e,c,d⟩:=id st';exact⟨u,rfl,go_of (s:={ s with heap:=h' }) e c d (by decide) ⟨x,H,I1,ru,⟨rfl,fun ys hy=>by rw[I.tuple_inj hy hq];exact hx⟩,st',fun b hb=>(hf b hb).1⟩⟩
 done:=by
  intro X hP hw hK hc i pins s σ H E I hf st hg;subst hP hw hK;obtain⟨xs,hq,hx⟩:=hg;obtain⟨its,rv,p,hz⟩:=I.tuple hq;obtain⟨f0,f1,f2,f3,f4,f5⟩:=hf it (by simp);have hl:=rv.length;exact wpAny_pyNext_tuple_end (I.ok.hd hc) st (show s.heap.IsTuple a its.toArray from p) (by simp;lia) fun h' eb=>⟨rfl,I.turned (t':=s.toks) (fun b o hb e=>eb b o hb e) f0 f1 f3 f4 f5⟩
 self:=fun _ _ _ _ _ st h=>wpAny_pyIter_tupleiter st h
theorem turn_range{P:Program}{w:World}{K:PySem.W.Frag}{tg:Expr}(it:Addr)(lo:Int)(n:Nat):Turn P w K tg (Itr lo n) [it] it (fun i h=>IsRangeIter h it (lo+(i:Nat)*1) ((n:Int)-(i:Nat)) 1) where
 mem:=by simp
 obj:=fun i h st b hb=>by
  have e:b=it:=by simpa using hb
  subst e;exact⟨_,st,fun v z=>by
   have z':Data.fields _=Data.cell v:=z;cases z'⟩
 keep:=fun i h h' st k=>k it (by simp) _ st
 item:=by
  intro X hP hw hK hc i pins s σ H E I hf st hg;subst hP hw hK;obtain⟨f0,f1,f2,f3,f4,f5⟩:=hf it (by simp);have W:=Walks.range (prog:=X.prog) (w:=X.w) (I.ok.hd hc) it lo 1 n;refine W.item i s _ _ hg st fun v h' tk hv st' kk=>?_;obtain⟨t,rfl⟩:=hv;have I1:Inv X pins σ H { s with heap:=h',toks:=tk }:=I.turned (fun b o hb e=>kk b o (by simpa using hb) e) f0 f1 f3 f4 f5;refine⟨_,rfl,go_of (s:={ s with heap:=h',toks:=tk }) (n:="range_iterator") st' rfl rfl (by decide) ⟨.int (lo+i),H,I1,⟨t,?_⟩,⟨rfl,rfl⟩,st',fun b hb=>(hf b hb).1⟩⟩;rw[Int.mul_one]
 done:=by
  intro X hP hw hK hc i pins s σ H E I hf st hg;subst hP hw hK;obtain⟨f0,f1,f2,f3,f4,f5⟩:=hf it (by simp);exact wpAny_pyNext_range_end (I.ok.hd hc) st (by have:n≤i:=hg;lia) fun h' eb=>⟨rfl,I.turned (t':=s.toks) (fun b o hb e=>eb b o hb e) f0 f1 f3 f4 f5⟩
 self:=fun _ _ _ _ _ st h=>wpAny_pyIter_rangeiter st h
end L2
namespace L2
open PySem PySem.Spec PyProof.Rows
section
variable {X:Cx} {tg:Expr}
theorem range_it{pins:List (Addr×Obj)}{σ:St}{H:Hp}{s:Shared}{R:It->Hp->Prop}{E:Value->Shared->Prop}{lo hi:Int}{t u v:Tok}{tk:Nat}(I:Inv X pins σ H s)(h1:-(2^62)≤lo)(h2:lo<2^62)(h3:-(2^62)≤hi)(h4:hi<2^62)
  (q:R (Itr lo (hi-lo).toNat) H):wpAny (model X.prog X.w) X.A (pyIter (.ref s.heap.objs.size)) (PIE X pins σ tg R) E { s with heap:=s.heap.push { cls:=.type "range",data:=.fields #[.int lo t,.int hi u,.int 1 v]},toks:=tk }:=by
 refine wpAny_pyIter_range (IsRange.new ..) (small_one h1 h2 h3 h4) ?_;have I1:Inv X pins σ H { s with heap:=s.heap.push { cls:=.type "range",data:=.fields #[.int lo t,.int hi u,.int 1 v]},toks:=tk }:=I.kept fun b o e=>Heap.get?_push_of_some _ e;refine⟨(s.heap.push { cls:=.type "range",data:=.fields #[.int lo t,.int hi u,.int 1 v]}).objs.size,[(s.heap.push { cls:=.type "range",data:=.fields #[.int lo t,.int hi u,.int 1 v]}).objs.size],_,_,H,rfl,
  I1.kept (t':=tk) fun b o e=>Heap.get?_push_of_some _ e,turn_range _ lo (hi-lo).toNat,?_,fun b hb=>?_,q⟩
 ·have e1:lo+((0:Nat):Int)*1=lo:=by simp
  have e2:(((hi-lo).toNat:Nat):Int)-((0:Nat):Int)=Builtin.Range.rangeSize lo hi 1:=by rw[rangeSize_one];split<;>lia
  show IsRangeIter _ _ (lo+((0:Nat):Int)*1) ((((hi-lo).toNat:Nat):Int)-((0:Nat):Int)) 1;rw[e1,e2];exact Heap.get?_push_size _ rfl
 ·have e:b=(s.heap.push { cls:=.type "range",data:=.fields #[.int lo t,.int hi u,.int 1 v]}).objs.size:=by simpa using hb
  subst e;exact I1.fpOk (Nat.le_refl _) (I1.hok.fresh (Nat.le_refl _))
def iRng1(ta:TA):TI:=fun σ H R=>ta σ H fun vs H1=>∃j:Int,vs=[.int j]/\-(2^62)≤j/\j<2^62/\R (Itr 0 j.toNat) H1
theorem pi_range1{a:Expr}{ta:TA}{p pos:Pos}(hg:Gl X "range")(hm:X.mg "range" = none)(ha:PA X [a] ta)(hs:starEach [a] X.env=[(false,eval a X.env)]:=by rfl):PI X tg (.Call (.Name "range" p) [a] [] pos) (iRng1 ta):=by
 intro pins s σ H R I h;refine Call_ (ld_blt I hg hm boot_range (PyProof.Rows.callWith_type1 (thn (ha pos pins s σ H _ I h) fun us s1 ⟨vs,H1,I1,r1,q1⟩=>?_) hs rfl));obtain⟨j,e,q1,q2,q⟩:=q1;subst e;cases r1 with
 |cons r rr=>
  cases rr;obtain⟨t,rfl⟩:=r;exact call_range_1 (range_it I1 (by lia) (by lia) q1 q2 (by simpa using q))
def tFor(wi:TI)(g:TG)(tb:TS):TS:=fun D σ H=>wi σ H fun J H1=>∃W:Nat->Nat->St->Hp->Prop,(∃m,W 0 m σ H1)/\∀i m σ H,W i m σ H ->
 (J.stop i H/\D.nx σ H)∨(J.go i H/\∃N:St->Hp->Prop,(∀σ' H',N σ' H'->∃m',m' < m/\W (i+1) m' σ' H')/\∀x H',J.yld i H x H'->g x σ H' fun σ2 H2=>tb { D with nx:=N,ct:=N,bk:=D.nx } σ2 H2)
def pinsAt(fp:List Addr)(h:Heap):List (Addr×Obj):=fp.filterMap fun b=>(h.get? b).map fun o=>(b,o)
theorem mem_pinsAt{fp:List Addr}{h:Heap}{b:Addr}{o:Obj}(hb:b∈fp)(e:h.get? b=some o):(b,o)∈pinsAt fp h:=List.mem_filterMap.mpr ⟨b,hb,by rw[e];rfl⟩
theorem of_pinsAt{fp:List Addr}{h:Heap}{p:Addr×Obj}(hp:p∈pinsAt fp h):p.1∈fp/\h.get? p.1=some p.2:=by
 obtain⟨b,hb,e⟩:=List.mem_filterMap.mp hp;cases q:h.get? b with
 |none=>rw[q] at e;cases e
 |some o=>
  rw[q] at e;have e':(b,o)=p:=Option.some.inj e;subst e';exact⟨hb,q⟩
theorem Inv.pinned{pins:List (Addr×Obj)}{σ:St}{H:Hp}{s:Shared}{fp:List Addr}(I:Inv X pins σ H s)(hf:∀b∈fp,FpOk X pins H b)(ho:∀b∈fp,∃o,s.heap.get? b=some o/\∀v,o.data≠.cell v):Inv X (pins++pinsAt fp s.heap) σ H s:=
 I.pins_of fun p hp=>(List.mem_append.mp hp).elim (fun z=>I.pin p (List.mem_append_right _ z)) fun z=>by
  obtain⟨hb,e⟩:=of_pinsAt z;obtain⟨f0,f1,f2,_⟩:=hf p.1 hb;obtain⟨o,e',d⟩:=ho p.1 hb;rw[e] at e';cases e';exact⟨e,f0,f1,f2,d⟩
theorem Inv.unpinned{pins pl:List (Addr×Obj)}{σ:St}{H:Hp}{s:Shared}(I:Inv X (pins++pl) σ H s):Inv X pins σ H s:=I.pins_of fun p hp=>I.pin p (List.mem_append_right _ (List.mem_append_left _ hp))
theorem ps_for{iter:Expr}{body:List Stmt}{wi:TI}{g:TG}{tb:TS}{pos:Pos}(hp:PassesOwn (model X.prog X.w) X.A X.env X.xe)(hc:X.calm=true)(hi:PI X tg iter wi)(hg:PG X tg g)(hb:PSs X body tb)
  (hs:∀x,foldedSetIterable iter X.env x=pure x:=by intro _;rfl):PS X (.For tg iter body [] pos) (tFor wi g tb):=by
 intro pins s σ H D I h;refine wpAny_For (thn (hi pins s σ H _ I h) fun v s1 h1=>thn h1 fun itv s2 h2=>?_) hs;obtain⟨it,fp,tn,J,H2,e,I2,T,st2,f2,W,⟨m0,w0⟩,turn⟩:=h2;subst e
 -- what stays true of the iterator's objects through the loop
 have stat:∀{H':Hp},(∀b∈fp,H' b=none)->∀b∈fp,FpOk X pins H' b:=fun hn b hb=>⟨hn b hb,(f2 b hb).2⟩;refine codeAny_forLoop_any (fun n s'=>∃i σ' H',Inv X pins σ' H' s'/\tn i s'.heap/\(∀b∈fp,H' b=none)/\W i n σ' H') ?_ m0 ⟨0,σ,H2,I2,st2,fun b hb=>(f2 b hb).1,w0⟩;rintro n s3 ⟨i,σ3,H3,I3,st3,fr3,w3⟩;rcases turn i n σ3 H3 w3 with⟨stop,qn⟩|⟨go,N,hN,step⟩
 ·refine wpAny_passesOwn hp (thn (T.done X rfl rfl rfl hc i pins s3 σ3 H3 X.xe I3 (stat fr3) st3 stop) fun r s4 ⟨hr,I4⟩=>?_);subst hr;exact wpAny_execs_nil ⟨σ3,H3,I4,qn⟩
 ·refine wpAny_passesOwn hp (thn (T.item X rfl rfl rfl hc i pins s3 σ3 H3 X.xe I3 (stat fr3) st3 go) fun r s4 ⟨u,hr,h4⟩=>?_);subst hr;refine wpAny_passesOwn hp (thn h4 fun _ s5 ⟨x,H5,I5,r5,y5,st5,fr5⟩=>?_);have I5':=I5.pinned (stat fr5) (T.obj _ _ st5);refine wpAny_passesOwn hp (thn (hg _ s5 σ3 H5 x u _ I5' r5 (step x H5 y5)) fun _ s6 ⟨σ6,H6,I6,q6⟩=>?_);refine wpAny_passesOwn hp (thn (hb _ s6 σ6 H6 _ I6 q6) fun f s7 q7=>?_);have again:∀{σ7:St} {H7:Hp},Inv X (pins++pinsAt fp s5.heap) σ7 H7 s7->N σ7 H7->∃m,m<n/\∃i σ' H',Inv X pins σ' H' s7/\tn i s7.heap/\(∀b∈fp,H' b=none)/\W i m σ' H':=fun {σ7 H7} I7 n7=>by
   obtain⟨m',hm,w7⟩:=hN σ7 H7 n7;refine⟨m',hm,i+1,σ7,H7,I7.unpinned,T.keep _ _ _ st5 fun b hb o e=>(I7.pin (b,o) (List.mem_append_right _ (List.mem_append_right _ (mem_pinsAt hb e)))).1,fun b hb=>?_,w7⟩;obtain⟨o,e,d⟩:=T.obj _ _ st5 b hb;exact (I7.pin (b,o) (List.mem_append_right _ (List.mem_append_right _ (mem_pinsAt hb e)))).2.1
  cases f with
  |next=>obtain⟨σ7,H7,I7,n7⟩:=q7;exact again I7 n7
  |cont=>obtain⟨σ7,H7,I7,n7⟩:=q7;exact again I7 n7
  |brk=>obtain⟨σ7,H7,I7,q7⟩:=q7;exact⟨σ7,H7,I7.unpinned,q7⟩
  |ret v=>obtain⟨x7,σ7,H7,I7,r7,q7⟩:=q7;exact⟨x7,σ7,H7,I7.unpinned,r7,q7⟩
end
end L2
namespace L2
open PySem PySem.Spec PyProof.Rows
abbrev R2:=V->V->Hp->VK->Prop
def OpR(X:Cx)(f:Value->Value->Sem Value)(r:R2):Prop:=
 ∀(pins:List (Addr×Obj)) (s:Shared) (σ:St) (H:Hp) (x y:V) (v u:Value) (Q:VK),Inv X pins σ H s->RelV x v->RelV y u->r x y H Q ->
  wpAny (model X.prog X.w) X.A (f v u) (EP X pins σ Q) X.xe s
def UnR(X:Cx)(f:Value->Sem Value)(r:V->Hp->VK->Prop):Prop:=
 ∀(pins:List (Addr×Obj)) (s:Shared) (σ:St) (H:Hp) (x:V) (v:Value) (Q:VK),Inv X pins σ H s->RelV x v->r x H Q ->
  wpAny (model X.prog X.w) X.A (f v) (EP X pins σ Q) X.xe s
def CallR(X:Cx)(f:Value)(r:List V->Hp->VK->Prop):Prop:=
 ∀(pins:List (Addr×Obj)) (s:Shared) (σ:St) (H:Hp) (xs:List V) (us:List Value) (Q:VK),Inv X pins σ H s->Vals xs us->r xs H Q ->
  wpAny (model X.prog X.w) X.A (call f us) (EP X pins σ Q) X.xe s
def TruR(X:Cx)(r:V->Hp->(Bool->Hp->Prop)->Prop):Prop:=
 ∀(pins:List (Addr×Obj)) (s:Shared) (σ:St) (H:Hp) (x:V) (v:Value) (Q:Bool->Hp->Prop),Inv X pins σ H s->RelV x v->r x H Q ->
  wpAny (model X.prog X.w) X.A (truthy v) (TP X pins σ Q) X.xe s
def tOp(r:R2)(ta tb:TE):TE:=fun σ H Q=>ta σ H fun x H1=>tb σ H1 fun y H2=>r x y H2 Q
def tUn(r:V->Hp->VK->Prop)(ta:TE):TE:=fun σ H Q=>ta σ H fun x H1=>r x H1 Q
def rI(C:Int->Int->Prop)(g:Int->Int->V):R2:=fun x y H Q=>∃i j,x=.int i/\y=.int j/\C i j/\Q (g i j) H
def rI0(g:Int->Int->V):R2:=fun x y H Q=>∃i j,x=.int i/\y=.int j/\Q (g i j) H
def rU(g:Int->V):V->Hp->VK->Prop:=fun x H Q=>∃i,x=.int i/\Q (g i) H
section
variable {X:Cx} {a b c:Expr} {ta tb tc:TE} {pos:Pos}
theorem binT(ha:PE X a ta)(hb:PE X b tb){pins:List (Addr×Obj)}{s:Shared}{σ:St}{H:Hp}{R:V->V->Hp->Prop}(I:Inv X pins σ H s)
  (h:ta σ H fun x H1=>tb σ H1 fun y H2=>R x y H2) {Q:Value->Shared->Prop} {f:Value->Value->Sem Value}
  (hf:∀v u s2 x y H2,Inv X pins σ H2 s2->RelV x v->RelV y u->R x y H2->wpAny (model X.prog X.w) X.A (f v u) Q X.xe s2):
  wpAny (model X.prog X.w) X.A (eval a X.env) (fun v s₁=>wpAny (model X.prog X.w) X.A (eval b X.env) (fun u s₂=>wpAny (model X.prog X.w) X.A (f v u) Q X.xe s₂) X.xe s₁) X.xe s:=by
 refine thn (ha pins s σ H _ I h) fun v s1 ⟨x,H1,I1,r1,q1⟩=>?_;refine thn (hb pins s1 σ H1 _ I1 q1) fun u s2 ⟨y,H2,I2,r2,q2⟩=>?_;exact hf v u s2 x y H2 I2 r1 r2 q2
theorem pe_op{op:Operator}{r:R2}(ho:OpR X (binaryOp op) r)(ha:PE X a ta)(hb:PE X b tb):PE X (.BinOp a op b pos) (tOp r ta tb):=by
 intro pins s σ H Q I h;exact wpAny_BinOp (binT ha hb I h fun v u s2 x y H2 I2 rx ry q=>ho pins s2 σ H2 x y v u Q I2 rx ry q)
theorem pe_un{op:UnaryOp}{r:V->Hp->VK->Prop}(ho:UnR X (unaryOp op) r)(ha:PE X a ta):PE X (.UnaryOp op a pos) (tUn r ta):=by
 intro pins s σ H Q I h;exact UnaryOp_ (thn (ha pins s σ H _ I h) fun v s1 ⟨x,H1,I1,r1,q1⟩=>ho pins s1 σ H1 x v Q I1 r1 q1)
theorem opI{f:Value->Value->Sem Value}{C:Int->Int->Prop}{g:Int->Int->Int}
  (rule:∀(i j:Int) (t u:Tok) (s:Shared) (Q:Value->Shared->Prop) (E:Value->Shared->Prop),C i j->Q (.int (g i j) s.toks) { s with toks:=s.toks+1 }->wpAny (model X.prog X.w) X.A (f (.int i t) (.int j u)) Q E s):
  OpR X f (rI C fun i j=>.int (g i j)):=by
 intro pins s σ H x y v u Q I rx ry h;obtain⟨i,j,rfl,rfl,hc,q⟩:=h;obtain⟨t,rfl⟩:=rx;obtain⟨t',rfl⟩:=ry;exact rule i j t t' s _ _ hc ⟨.int (g i j),H,I.tok _,⟨_,rfl⟩,q⟩
theorem opI0{f:Value->Value->Sem Value}{g:Int->Int->Int}
  (rule:∀(i j:Int) (t u:Tok) (s:Shared) (Q:Value->Shared->Prop) (E:Value->Shared->Prop),Q (.int (g i j) s.toks) { s with toks:=s.toks+1 }->wpAny (model X.prog X.w) X.A (f (.int i t) (.int j u)) Q E s):
  OpR X f (rI0 fun i j=>.int (g i j)):=by
 intro pins s σ H x y v u Q I rx ry h;obtain⟨i,j,rfl,rfl,q⟩:=h;obtain⟨t,rfl⟩:=rx;obtain⟨t',rfl⟩:=ry;exact rule i j t t' s _ _ ⟨.int (g i j),H,I.tok _,⟨_,rfl⟩,q⟩
theorem opB0{f:Value->Value->Sem Value}{g:Int->Int->Bool}
  (rule:∀(i j:Int) (t u:Tok) (s:Shared) (Q:Value->Shared->Prop) (E:Value->Shared->Prop),Q (.bool (g i j)) s->wpAny (model X.prog X.w) X.A (f (.int i t) (.int j u)) Q E s):
  OpR X f (rI0 fun i j=>.bl (g i j)):=by
 intro pins s σ H x y v u Q I rx ry h;obtain⟨i,j,rfl,rfl,q⟩:=h;obtain⟨t,rfl⟩:=rx;obtain⟨t',rfl⟩:=ry;exact rule i j t t' s _ _ ⟨.bl (g i j),H,I,rfl,q⟩
def CPow(i j:Int):Prop:=0≤j/\j≤1000000/\i.natAbs<2^64
theorem op_add:OpR X (binaryOp .Add) (rI0 fun i j=>.int (i+j)):=opI0 fun _ _ _ _ _ _ _ q=>add_int q
theorem op_sub:OpR X (binaryOp .Sub) (rI0 fun i j=>.int (i-j)):=opI0 fun _ _ _ _ _ _ _ q=>sub_int q
theorem op_mod:OpR X (binaryOp .Mod) (rI (fun _ j=>0<j) fun i j=>.int (i%j)):=opI fun i j _ _ _ _ _ hc q=>by
 have h1:(0:Int)<j:=hc;exact mod_int' (by lia) (by rw[Int.fmod_eq_emod_of_nonneg i (by lia)];exact q)
theorem op_pow:OpR X (binaryOp .Pow) (rI CPow fun i j=>.int (i^j.toNat)):=opI fun _ _ _ _ _ _ _ hc q=>pow_int_small hc.1 hc.2.1 hc.2.2 q
theorem unI{f:Value->Sem Value}{g:Int->Int}
  (rule:∀(i:Int) (t:Tok) (s:Shared) (Q:Value->Shared->Prop) (E:Value->Shared->Prop),Q (.int (g i) s.toks) { s with toks:=s.toks+1 }->wpAny (model X.prog X.w) X.A (f (.int i t)) Q E s):
  UnR X f (rU fun i=>.int (g i)):=by
 intro pins s σ H x v Q I rx h;obtain⟨i,rfl,q⟩:=h;obtain⟨t,rfl⟩:=rx;exact rule i t s _ _ ⟨.int (g i),H,I.tok _,⟨_,rfl⟩,q⟩
theorem un_neg:UnR X (unaryOp .USub) (rU fun i=>.int (-i)):=unI fun _ _ _ _ _ q=>neg_int q
end
section
variable {X:Cx} {a b c:Expr} {ta tb tc:TE} {pos:Pos}
theorem fin_bl{pins:List (Addr×Obj)}{σ:St}{H:Hp}{s:Shared}{Q:VK}{k k':Bool}(I:Inv X pins σ H s)(q:Q (.bl k) H)(e:k=k'):EP X pins σ Q (.bool k') s:=by
 subst e;exact⟨.bl k,H,I,rfl,q⟩
theorem op_lt:OpR X (compareOp .Lt) (rI0 fun i j=>.bl (decide (i<j))):=opB0 fun _ _ _ _ _ _ _ q=>lt_int q
theorem op_le:OpR X (compareOp .LtE) (rI0 fun i j=>.bl (decide (i≤j))):=opB0 fun _ _ _ _ _ _ _ q=>le_int q
theorem op_gt:OpR X (compareOp .Gt) (rI0 fun i j=>.bl (decide (j<i))):=opB0 fun _ _ _ _ _ _ _ q=>gt_int q
theorem op_ge:OpR X (compareOp .GtE) (rI0 fun i j=>.bl (decide (j≤i))):=opB0 fun _ _ _ _ _ _ _ q=>ge_int q
theorem OpR.or{f:Value->Value->Sem Value}{r r':R2}(h:OpR X f r)(h':OpR X f r'):OpR X f (fun x y H Q=>r x y H Q∨r' x y H Q):=by
 intro pins s σ H x y v u Q I rx ry q;rcases q with q|q
 ·exact h pins s σ H x y v u Q I rx ry q
 ·exact h' pins s σ H x y v u Q I rx ry q
theorem nomark(b:Expr){op:CmpOp}(h:op≠.In:=by decide)(h2:op≠.NotIn:=by decide):behindInMarks op b=false:=by
 have e1:(op==CmpOp.In)=false:=by cases op<;>first|rfl|exact absurd rfl h
 have e2:(op==CmpOp.NotIn)=false:=by cases op<;>first|rfl|exact absurd rfl h2
 cases b<;>simp[behindInMarks,e1,e2]
theorem pe_cmpR{op:CmpOp}{r:R2}(ho:OpR X (compareOp op) r)(ha:PE X a ta)(hb:PE X b tb)(hm:behindInMarks op b=false):PE X (.Compare a [op] [b] pos) (tOp r ta tb):=by
 intro pins s σ H Q I h;exact wpAny_Compare1 (binT ha hb I h fun v u s2 x y H2 I2 rx ry q=>ho pins s2 σ H2 x y v u Q I2 rx ry q) hm
def tTest(t:TE):TT:=fun σ H Q=>t σ H fun x H'=>∃k,x=.bl k/\Q k H'
theorem pt_cmpR{op:CmpOp}{r:R2}(ho:OpR X (compareOp op) r)(ha:PE X a ta)(hb:PE X b tb)(hm:behindInMarks op b=false):PT X (.Compare a [op] [b] pos) (tTest (tOp r ta tb)):=by
 intro pins s σ H Q I h;refine wpAny_isTrue_Compare1 (thn (ha pins s σ H _ I h) fun v s1 ⟨x,H1,I1,r1,q1⟩=>thn (hb pins s1 σ H1 _ I1 q1) fun u s2 ⟨y,H2,I2,r2,q2⟩=>
  thn (ho pins s2 σ H2 x y v u _ I2 r1 r2 q2) fun c s3 ⟨z,H3,I3,r3,k,e,q3⟩=>?_) hm
 subst e;cases r3;exact wpAny_truthy_bool ⟨H3,I3,q3⟩
def tChain(r r':R2)(ta tb tc:TE):TE:=fun σ H Q=>ta σ H fun x H1=>tb σ H1 fun y H2=>r x y H2 fun z H3=>∃k,z=.bl k ∧
 (if k=true then tc σ H3 fun w' H4=>r' y w' H4 Q else Q (.bl false) H3)
theorem pe_chain{op op':CmpOp}{r r':R2}(ho:OpR X (compareOp op) r)(ho':OpR X (compareOp op') r')(ha:PE X a ta)(hb:PE X b tb)(hc:PE X c tc)
  (hm:lastMarks [op,op'] [b,c]=false:=by with_unfolding_all rfl):PE X (.Compare a [op,op'] [b,c] pos) (tChain r r' ta tb tc):=by
 intro pins s σ H Q I h;refine Compare_chain (thn (ha pins s σ H _ I h) fun v s1 ⟨x,H1,I1,r1,q1⟩=>chain_link (thn (hb pins s1 σ H1 _ I1 q1) fun u s2 ⟨y,H2,I2,r2,q2⟩=>
  thn (ho pins s2 σ H2 x y v u _ I2 r1 r2 q2) fun d s3 ⟨z,H3,I3,r3,k,e,q3⟩=>?_)) hm
 subst e;cases r3;refine wpAny_truthy_bool ?_;cases k with
 |false=>exact ite_ff ⟨.bl false,H3,I3,rfl,q3⟩
 |true=>exact ite_tt (chain_last (thn (hc pins s3 σ H3 _ I3 q3) fun w' s4 ⟨z',H4,I4,r4,q4⟩=>ho' pins s4 σ H4 y z' u w' Q I4 r2 r4 q4))
def TruV(K:PySem.W.Frag)(x:V)(H:Hp)(k:Bool):Prop:=
 match x with
 |.non=>k=false
 |.bl b=>k=b
 |.int i=>k=(i != 0)
 |.str y=>y.length≤sizeLine/\k=((y.length:Int) != 0)
 |.byt y=>y.size≤sizeLine/\k=((y.size:Int) != 0)
 |.ref p=>(∃xs,SqL K H p xs/\k = !xs.isEmpty)∨(∃xs,SqT K H p xs/\k = !xs.isEmpty)∨∃kvs,H p=some (.dK kvs)/\k = !kvs.isEmpty
 |_=>False
theorem isEmpty_kv{κ:Type}{kvs:List (κ×V)}{vs:List (κ×Value)}(r:KV kvs vs):(!vs.isEmpty) = !kvs.isEmpty:=by
 cases r<;>rfl
theorem isEmpty_of{xs:List V}{its:List Value}(r:Vals xs its):(!its.toArray.isEmpty) = !xs.isEmpty:=by
 cases r<;>simp
theorem line63:(sizeLine:Nat)<2^63:=by rw[sizeLine_eq];decide
theorem tru_ok:TruR X (fun x H Q=>∃k,TruV X.K x H k/\Q k H):=by
 intro pins s σ H x v Q I rx h;obtain⟨k,e,q⟩:=h;have hl:=line63;have hs:sizeLine=16777216:=sizeLine_eq;cases x with
 |non=>
  cases rx;have e':k=false:=e;subst e';exact truthy_none ⟨H,I,q⟩
 |bl b=>
  cases rx;have e':k=b:=e;subst e';exact wpAny_truthy_bool ⟨H,I,q⟩
 |int i=>
  obtain⟨t,rfl⟩:=rx;have e':k=(i != 0):=e;subst e';exact PySem.P.truthy_int ⟨H,I,q⟩
 |str y=>
  obtain⟨t,rfl⟩:=rx;obtain⟨hy,e'⟩:y.length≤sizeLine/\k=((y.length:Int) != 0):=e;subst e';exact PySem.P.truthy_str (by lia) ⟨H,I.tok _,q⟩
 |byt y=>
  obtain⟨t,rfl⟩:=rx;obtain⟨hy,e'⟩:y.size≤sizeLine/\k=((y.size:Int) != 0):=e;subst e';exact PySem.W.truthy_bytes (by lia) ⟨H,I.tok _,q⟩
 |ref p=>
  cases rx;have e':(∃xs,SqL X.K H p xs/\k = !xs.isEmpty)∨(∃xs,SqT X.K H p xs/\k = !xs.isEmpty)∨∃kvs,H p=some (.dK kvs)/\k = !kvs.isEmpty:=e;rcases e' with⟨xs,hx,e'⟩|⟨xs,hx,e'⟩|⟨kvs,hx,e'⟩
  ·subst e';obtain⟨its,r,pl,hz⟩:=I.list hx;have hlen:=r.length;exact wpAny_truthy_list pl.isList (by simp only[List.size_toArray];lia) ⟨H,I.tok _,by rw[isEmpty_of r];exact q⟩
  ·subst e';obtain⟨its,r,pl,hz⟩:=I.tuple hx;have hlen:=r.length;exact truthy_tuple pl (by simp only[List.size_toArray];lia) ⟨H,I.tok _,by rw[isEmpty_of r];exact q⟩
  ·subst e';obtain⟨hz,hS,vs,r,m⟩:kvs.length≤sizeLine/\(p==sysModules)=false/\∃vs,KV kvs vs/\s.heap.DictOf (mixKind X.prog X.w) p vs:=I.hok p _ hx;have hlen:kvs.length=vs.length:=Paired.length r;exact wpAny_truthy_dict hS m (by lia) ⟨H,I.tok _,by rw[isEmpty_kv r];exact q⟩
 |_=>exact (show False from e).elim
theorem pt_truth(ha:PE X a ta)(he:∀whole,isTrue a X.env whole=(do let v ←whole;standAt a.pos;holding [v] (truthy v))):
  PT X a (fun σ H Q=>ta σ H fun x H'=>∃k,TruV X.K x H' k/\Q k H'):=by
 intro pins s σ H Q I h;exact isTrue_plain (thn (ha pins s σ H _ I h) fun v s1 ⟨x,H1,I1,r1,q1⟩=>tru_ok pins s1 σ H1 x v Q I1 r1 q1) (he _)
theorem vals1{x:V}{us:List Value}(r:Vals [x] us):∃u,us=[u]/\RelV x u:=by
 cases r with
 |cons r1 r2=>cases r2;exact⟨_,rfl,r1⟩
theorem vals2{x y:V}{us:List Value}(r:Vals [x,y] us):∃u w',us=[u,w']/\RelV x u/\RelV y w':=by
 cases r with
 |cons r1 r2=>
  cases r2 with
  |cons r3 r4=>cases r4;exact⟨_,_,rfl,r1,r3⟩
theorem call_max2(hc:X.calm=true):CallR X (.builtin "max") (fun xs H Q=>∃i j,xs=[.int i,.int j]/\Q (.int (if j > i then j else i)) H):=by
 intro pins s σ H xs us Q I r h;obtain⟨i,j,rfl,q⟩:=h;obtain⟨u,w',rfl,⟨t,rfl⟩,⟨t',rfl⟩⟩:=vals2 r;refine max_two_ints (I.ok.hd hc) fun h' tk k=>⟨_,H,I.kept k,?_,q⟩;by_cases hj:j > i
 ·rw[if_pos hj,if_pos hj];exact⟨_,rfl⟩
 ·rw[if_neg hj,if_neg hj];exact⟨_,rfl⟩
theorem call_int1:CallR X (.type "int") (fun xs H Q=>(∃i,xs=[.int i]/\Q (.int i) H)∨∃k,xs=[.bl k]/\Q (.int (if k then 1 else 0)) H):=by
 intro pins s σ H xs us Q I r h;rcases h with⟨i,rfl,q⟩|⟨k,rfl,q⟩
 ·obtain⟨u,rfl,t,rfl⟩:=vals1 r;exact call_int_int ⟨.int i,H,I,⟨_,rfl⟩,q⟩
 ·obtain⟨u,rfl,r1⟩:=vals1 r;cases r1;exact call_int_bool ⟨.int (if k then 1 else 0),H,I.tok _,⟨_,rfl⟩,q⟩
end
end L2
namespace L2
open PySem PySem.Spec PyProof.Rows
structure Room(k:Nat)(A:Around):Prop where
 hd:A.handled=none
 dp:A.depth+3*k+5<recursionLimit
 un:A.units+16*k+200<cLine
theorem Room.mono{j k:Nat}{A:Around}(r:Room k A)(h:j≤k):Room j A:=⟨r.hd,by have:=r.dp;lia,by have:=r.un;lia⟩
theorem Room.deeper{k:Nat}{A:Around}(r:Room (k+1) A)(env:Env):Room k (A.deeper env):=
 ⟨r.hd,by have:=r.dp;show A.depth+1+3*k+5<_;lia,by have:=r.un;show A.units+3+16*k+200<_;lia⟩
theorem Room.depth{k:Nat}{A:Around}(r:Room k A):A.depth<recursionLimit:=by have:=r.dp;lia
theorem Room.units{k:Nat}{A:Around}(r:Room k A):A.units+64<cLine:=by have:=r.un;lia
theorem Room.units0{k:Nat}{A:Around}(r:Room k A):A.units<cLine:=by have:=r.un;lia
def tNil:TA:=fun _ H Q=>Q [] H
def tCons(ta:TE)(tr:TA):TA:=fun σ H Q=>ta σ H fun x H1=>tr σ H1 fun xs H2=>Q (x::xs) H2
section
variable {X:Cx} {e:Expr} {es:List Expr} {te:TE} {t:TA} {pos:Pos}
theorem pa_nil:PA X [] tNil:=fun _ _ _ _ H Q I h=>Calls.spliced_nil ⟨[],H,I,.nil,h⟩
theorem pa_cons(ha:PE X e te)(hr:PA X es t)(hs:starEach (e::es) X.env=(false,eval e X.env)::starEach es X.env:=by rfl):PA X (e::es) (tCons te t):=by
 intro pos pins s σ H Q I h;rw[hs];show wpAny _ _ (spliced ((false,eval e X.env)::backTo pos (starEach es X.env))) _ _ s;refine Calls.spliced_cons (thn (ha pins s σ H _ I h) fun u s1 ⟨x,H1,I1,r1,q1⟩=>?_);exact thn (hr pos pins s1 σ H1 _ I1 q1) fun us s2 ⟨xs,H2,I2,r2,q2⟩=>⟨x::xs,H2,I2,.cons r1 r2,q2⟩
def tTup(t:TA):TE:=fun σ H Q=>t σ H fun xs H1=>xs.length≤sizeLine/\∀p,H1 p=none->Q (.ref p) (upd H1 p (.tup xs))
def tLst(t:TA):TE:=fun σ H Q=>t σ H fun xs H1=>xs.length≤sizeLine/\∀p,H1 p=none->Q (.ref p) (upd H1 p (.lst xs))
theorem pe_tup{x1}(h:PA X es t):PE X (.Tuple es x1 pos) (tTup t):=by
 intro pins s σ H Q I hq;refine wpAny_Tuple_spliced (thn (h pos pins s σ H _ I hq) fun us s1 ⟨xs,H1,I1,r,z,q⟩=>⟨by rw[←r.length];exact z,?_⟩);have hf:H1 s1.heap.objs.size=none:=I1.hok.fresh (Nat.le_refl _);refine⟨.ref s1.heap.objs.size,upd H1 s1.heap.objs.size (.tup xs),I1.laid (t':=s1.toks) (fun b u e=>Heap.get?_push_of_some _ e) (Nat.le_refl _) ?_,rfl,q _ hf⟩;exact⟨z,us,r,⟨_,Heap.get?_push_size _ rfl,rfl,_,rfl⟩⟩
theorem pe_lst(h:PA X es t):PE X (.List es pos) (tLst t):=by
 intro pins s σ H Q I hq;refine wpAny_List_spliced (thn (h pos pins s σ H _ I hq) fun us s1 ⟨xs,H1,I1,r,z,q⟩=>⟨by rw[←r.length];exact z,?_⟩);have hf:H1 s1.heap.objs.size=none:=I1.hok.fresh (Nat.le_refl _);refine⟨.ref s1.heap.objs.size,upd H1 s1.heap.objs.size (.lst xs),I1.laid (t':=s1.toks) (fun b u e=>Heap.get?_push_of_some _ e) (Nat.le_refl _) ?_,rfl,q _ hf⟩;exact⟨z,us,0,r,Heap.get?_push_size _ rfl⟩
end
abbrev Sp:=List V->Hp->VK->XK->Prop
abbrev CXT:=List Env->Hp->Shared->XK->Value->Shared->Prop
structure Env0(P:Program)(w:World)(K:PySem.W.Frag)(mg:Str->Option Value)(base:Heap)(A:Around)(outer:List Env)(s:Shared)(H:Hp):Prop where
 frames:A.frames=some outer
 mod:Mod K mg base
 bs:∀b o,base.get? b=some o->s.heap.get? b=some o/\H b=none
 bsz:base.objs.size≤s.heap.objs.size
 funs:s.heap.FunFrames base outer
 frf:∀b∈frs outer,H b=none
 hok:HOk P w H s.heap
 bare:AllBare s.gens
def CE(outer:List Env)(P:Program)(w:World)(H:Hp)(s:Shared)(Q:VK)(u:Value)(s':Shared):Prop:=
 ∃v H',s'.os=s.os/\AllBare s'.gens/\Un (frs outer) [] H H' s.heap s'.heap/\HOk P w H' s'.heap/\RelV v u/\Q v H'
def CR(CX:CXT)(outer:List Env)(P:Program)(w:World)(H:Hp)(s:Shared)(Q:VK)(E:XK)(r:Result)(s':Shared):Prop:=
 match r with
 |.ok (.ret u)=>CE outer P w H s Q u s'
 |.ok _=>False
 |.error e=>CX outer H s E e s'
structure FnOk(P:Program)(w:World)(K:PySem.W.Frag)(mg:Str->Option Value)(base:Heap)(CX:CXT)(k:Nat)(f:Addr)(fd:FuncData)(ps:List Str)(sp:Sp):Prop where
 len:∀vs H Q E,sp vs H Q E->vs.length=ps.length
 run:∀(A:Around) (outer:List Env) (s:Shared) (H:Hp) (args:Args) (us:List Value) (vs:List V) (Q:VK) (E:XK),Room k A->Env0 P w K mg base A outer s H->BindsTo s fd args (ps.zip us)->Vals vs us->sp vs H Q E ->
  codeAny (model P w) A (.call (.ref f) args) (CR CX outer P w H s Q E) s
theorem FnOk.mono{P:Program}{w:World}{K:PySem.W.Frag}{mg:Str->Option Value}{base:Heap}{CX:CXT}{j k:Nat}{f:Addr}{fd:FuncData}{ps:List Str}{sp:Sp}(F:FnOk P w K mg base CX j f fd ps sp)(h:j≤k):
  FnOk P w K mg base CX k f fd ps sp:=⟨F.len,fun A outer s H args us vs Q E hr=>F.run A outer s H args us vs Q E (hr.mono h)⟩
theorem FnOk.imp{P:Program}{w:World}{K:PySem.W.Frag}{mg:Str->Option Value}{base:Heap}{CX:CXT}{k:Nat}{f:Addr}{fd:FuncData}{ps:List Str}{sp sp':Sp}(F:FnOk P w K mg base CX k f fd ps sp)
  (h:∀vs H Q E,sp' vs H Q E->sp vs H Q E):FnOk P w K mg base CX k f fd ps sp':=
 ⟨fun vs H Q E q=>F.len vs H Q E (h _ _ _ _ q),fun A outer s H args us vs Q E hr he hb hv hs=>F.run A outer s H args us vs Q E hr he hb hv (h _ _ _ _ hs)⟩
section
variable {X:Cx} {pins:List (Addr×Obj)} {σ:St} {H:Hp} {s s':Shared}
theorem Inv.env0(I:Inv X pins σ H s):Env0 X.prog X.w X.K X.mg X.base X.A X.stack s H:=
 ⟨I.ok.frames,I.ok.mod,I.bs,Nat.le_trans I.ok.bsz I.sz,I.stack,I.stkFree,I.hok,I.bare⟩
theorem Inv.after{Q:VK}{u:Value}(I:Inv X pins σ H s)(h:CE X.stack X.prog X.w H s Q u s'):EP X pins σ Q u s':=by
 obtain⟨v,H',os,bare,un,hok,r,q⟩:=h;obtain⟨hh,g,d,t,os'⟩:=s';obtain rfl:os'=s.os:=os;exact⟨v,H',I.call (h':=hh) (g':=g) (d':=d) (t':=t) (ch:=[]) un hok bare (fun b z=>absurd z (by simp)),r,q⟩
end
def tCall(sp:Sp)(dvs:List V)(E:XK)(t:TA):TE:=fun σ H Q=>t σ H fun vs H1=>sp (vs++dvs) H1 Q E
def Binds(K:PySem.W.Frag)(fd:FuncData)(ps:List Str)(ds:List Value):Prop:=
 ∀(s:Shared) (us:List Value),K.In s.heap->(us++ds).length=ps.length->BindsTo s fd ⟨us,[]⟩ (ps.zip (us++ds))
theorem Binds.all{K:PySem.W.Frag}{fd:FuncData}{ps:List Str}(h:∀us:List Value,us.length=ps.length->bindArgs fd ⟨us,[]⟩=pure (ps.zip us)):Binds K fd ps []:=fun s us _ hl=>by
 rw[List.append_nil] at hl ⊢;exact .of_eq (h us hl)
def Passes(CX:CXT)(X:Cx)(E:XK):Prop:=∀(pins:List (Addr×Obj)) (σ:St) (H:Hp) (s:Shared) (e:Value) (s':Shared),Inv X pins σ H s->CX X.stack H s E e s'->X.xe e s'
section
variable {X:Cx} {CX:CXT} {k:Nat} {f C:Addr} {fd:FuncData} {ps:List Str} {sp:Sp} {dvs:List V} {ds:List Value} {E:XK} {x m:Str} {p pos apos:Pos} {e o:Expr} {es:List Expr} {ta:TE} {t:TA}
theorem run_fn{pins:List (Addr×Obj)}{σ:St}{H:Hp}{s:Shared}{Q:VK}{us:List Value}{vs:List V}(F:FnOk X.prog X.w X.K X.mg X.base CX k f fd ps sp)(hr:Room k X.A)(hb:Binds X.K fd ps ds)(hd:Vals dvs ds)(hx:Passes CX X E)
  (I:Inv X pins σ H s) (r:Vals vs us) (h:sp (vs++dvs) H Q E):wpAny (model X.prog X.w) X.A (call (.ref f) us) (EP X pins σ Q) X.xe s:=by
 have r2:Vals (vs++dvs) (us++ds):=r.append hd;have hl:(us++ds).length=ps.length:=by rw[←r2.length];exact F.len _ _ _ _ h
 refine wpAny_call (codeAny_mono (F.run X.A X.stack s H ⟨us,[]⟩ (us++ds) (vs++dvs) Q E hr I.env0 (hb s us I.kIn hl) r2 h) fun r s' hq=>?_);cases r with
 |error e=>exact hx pins σ H s e s' I hq
 |ok fl=>
  cases fl with
  |ret u=>exact I.after hq
  |next=>exact False.elim hq
  |brk=>exact False.elim hq
  |cont=>exact False.elim hq
theorem pe_call(F:FnOk X.prog X.w X.K X.mg X.base CX k f fd ps sp)(hr:Room k X.A)(hg:Gl X x)(hm:X.mg x=some (.ref f))(hk:PySem.W.keepIn X.K (.ref f)=true)(hb:Binds X.K fd ps ds)(hd:Vals dvs ds)(hx:Passes CX X E)
  (ha:PA X (e::es) t) (hdb:(x==("__debug__":Str))=false:=by decide) (he:starEach (e::es) X.env=(false,eval e X.env)::starEach es X.env:=by rfl) (hpl:(backTo pos (starEach es X.env)).any (·.1)=false:=by rfl):
  PE X (.Call (.Name x p) (e::es) [] pos) (tCall sp dvs E t):=by
 intro pins s σ H Q I h;refine wpAny_Call_Name_kw (ld_glob I hg hm ?_ hdb);refine PySem.W.callWith_K (h₀:=X.base) I.ok.mod.kin hk (thn (ha pos pins s σ H _ I h) fun us s1 ⟨vs,H1,I1,r,q⟩=>⟨I1.kIn,?_⟩) he hpl;exact run_fn F hr hb hd hx I1 r q
end
structure FnScope(N P:List Str)(sc:Scope):Prop where
 kind:sc.kind=.function
 co:sc.isCoroutine=false
 gen:sc.isGenerator=false
 nd:N.Nodup
 pre:N.take P.length=P
 par:∀x∈P,sc.names.lookup x=some .local∨sc.names.lookup x=some .cell
 nofree:∀y∈sc.names,y.2≠.free
theorem bindL_out{kindOf:Str->Option NameKind}{x:Str}:∀{binds:List (Str×Value)} {m:Str->Option Value},(∀v,(x,v)∉binds)->bindL kindOf binds m x=m x
 |[],_,_=>rfl
 | (n,v)::r,m,h=>by
  unfold bindL;rw[bindL_out fun w hw=>h w (List.mem_cons_of_mem _ hw)];split
  ·have:x≠n:=by rintro rfl;exact h v List.mem_cons_self
   simp[this]
  ·rfl
theorem bindC_out{kindOf:Str->Option NameKind}{x:Str}:∀{binds:List (Str×Value)} {m:Str->Option Value},(∀v,(x,v)∉binds)->bindC kindOf binds m x=m x
 |[],_,_=>rfl
 | (n,v)::r,m,h=>by
  unfold bindC;rw[bindC_out fun w hw=>h w (List.mem_cons_of_mem _ hw)];split
  ·rfl
  ·have:x≠n:=by rintro rfl;exact h v List.mem_cons_self
   simp[this]
theorem bindL_get{kindOf:Str->Option NameKind}{x:Str}{v:Value}:∀{P:List Str} {vs:List Value} {i:Nat} {m:Str->Option Value},P.Nodup->P[i]?=some x->vs[i]?=some v->kindOf x=some .local ->
  bindL kindOf (P.zip vs) m x=some v
 |[],_,_,_,_,h,_,_=>by simp at h
 |_::_,[],_,_,_,_,h,_=>by simp at h
 |p::P,w::vs,0,m,nd,h1,h2,hk=>by
  simp at h1 h2;subst h1;subst h2;show bindL kindOf ((p,w)::P.zip vs) m p=_;unfold bindL;rw[bindL_out fun v hv=>(List.nodup_cons.mp nd).1 (List.of_mem_zip hv).1,if_pos hk];simp
 |p::P,w::vs,i+1,m,nd,h1,h2,hk=>by
  show bindL kindOf ((p,w)::P.zip vs) m x=_;unfold bindL;exact bindL_get (i:=i) (List.nodup_cons.mp nd).2 (by simpa using h1) (by simpa using h2) hk
theorem bindC_get{kindOf:Str->Option NameKind}{x:Str}{v:Value}:∀{P:List Str} {vs:List Value} {i:Nat} {m:Str->Option Value},P.Nodup->P[i]?=some x->vs[i]?=some v->kindOf x≠some .local ->
  bindC kindOf (P.zip vs) m x=some v
 |[],_,_,_,_,h,_,_=>by simp at h
 |_::_,[],_,_,_,_,h,_=>by simp at h
 |p::P,w::vs,0,m,nd,h1,h2,hk=>by
  simp at h1 h2;subst h1;subst h2;show bindC kindOf ((p,w)::P.zip vs) m p=_;unfold bindC;rw[bindC_out fun v hv=>(List.nodup_cons.mp nd).1 (List.of_mem_zip hv).1,if_neg hk];simp
 |p::P,w::vs,i+1,m,nd,h1,h2,hk=>by
  show bindC kindOf ((p,w)::P.zip vs) m x=_;unfold bindC;exact bindC_get (i:=i) (List.nodup_cons.mp nd).2 (by simpa using h1) (by simpa using h2) hk
def start(N:List Str)(vs:List V):St:=vs.map some++List.replicate (N.length-vs.length) none
def cxOf(CX:CXT)(P:Program)(w:World)(K:PySem.W.Frag)(mg:Str->Option Value)(base:Heap)(N:List Str)(qual:Str)(scope:Scope)(f:Addr)(cd:Value)(A:Around)(outer:List Env)(s:Shared)(H:Hp)(E:XK):Cx where
 prog:=P
 w:=w
 K:=K
 mg:=mg
 base:=base
 A:=A.deeper (envOfC qual scope s.heap.objs.size f cd)
 N:=N
 s₀:=s
 H₀:=H
 env:=envOfC qual scope s.heap.objs.size f cd
 outer:=outer
 stack:=envOfC qual scope s.heap.objs.size f cd::outer
 ex:=[]
 calm:=true
 fn:=fun _=>true
 pn:=[]
 xe:=fun e s'=>wpAny (model P w) (A.deeper (envOfC qual scope s.heap.objs.size f cd)) (leaving (envOfC qual scope s.heap.objs.size f cd) e) (fun _ s''=>CX outer H s E e s'') (fun e' s''=>CX outer H s E e' s'') s'
theorem cell_has{sc:Scope}{n:Nat}{x:Str}(h:sc.names.lookup x=some .cell):∃c,(cellsFrom n sc.names []).lookup x=some c:=by
 have q:=PySem.W.cellsFrom_some sc.names n [] (.inl h);exact Option.isSome_iff_exists.mp q
theorem inv_start{CX:CXT}{P:Program}{w:World}{K:PySem.W.Frag}{mg:Str->Option Value}{base:Heap}{N ps:List Str}{qual:Str}{scope:Scope}{f:Addr}{cd:Value}{A:Around}{outer:List Env}{s s1:Shared}{H:Hp}{E:XK}{us:List Value}{vs:List V}
  (S:FnScope N ps scope) (hd:A.handled=none) (e0:Env0 P w K mg base A outer s H) (hl:vs.length=ps.length) (r:Vals vs us)
  (x:InCallC s s.heap.objs.size (bindL (envOfC qual scope s.heap.objs.size f cd).kindOf (ps.zip us) fun _=>none) (cellsFrom (s.heap.objs.size+1) scope.names []) (bindC (envOfC qual scope s.heap.objs.size f cd).kindOf (ps.zip us) fun _=>none) s1):
  Inv (cxOf CX P w K mg base N qual scope f cd A outer s H E) [] (start N vs) H s1:=by
 have hpl:ps.length≤N.length:=by have:=congrArg List.length S.pre;rw[List.length_take] at this;lia
 obtain⟨h1,tk,rfl,hk⟩:=x.done;have noA:∀b:Addr,b∉(cxOf CX P w K mg base N qual scope f cd A outer s H E).ex:=fun b z=>absurd (show b∈([]:List Addr) from z) (by simp);refine⟨⟨e0.mod,S.kind,rfl,rfl,Nat.le_refl _,fun y z c h1 h2=>?_,fun y hy=>?_,fun y c _ h=>?_,fun _=>hd,Around.frames_deeper e0.frames,.inr ⟨rfl,rfl⟩,fun b z=>absurd z (noA b),e0.bs,e0.bsz,fun b _ _=>noA b,fun b z=>absurd z (noA b),e0.funs,e0.frf⟩,
  rfl,e0.bare,Un.kept hk,⟨_,x.toInCall.ns,fun i y v h1 h2 h3=>?_⟩,fun y c h=>⟨_,x.cell y c h⟩,e0.hok.fresh (Nat.le_refl _),fun y c h=>?_,fun p hp=>absurd (show p∈([]:List (Addr×Obj)) from hp) (by simp),e0.hok.kept hk,?_⟩
 ·exact name_of_addr x.apart (PySem.mem_of_lookup h1) (PySem.mem_of_lookup h2)
 ·have hy:scope.names.lookup y=some .cell∨scope.names.lookup y=some .free:=hy;rcases hy with hy|hy
  ·exact cell_has hy
  ·exact absurd rfl (S.nofree _ (PySem.mem_of_lookup hy))
 ·exact Nat.le_of_lt (x.above y c (PySem.mem_of_lookup h))
 ·have hi:i<vs.length:=by
   unfold start at h2;by_cases hi:i<vs.length
   ·exact hi
   ·rw[List.getElem?_append_right (by simpa using hi)] at h2;rw[List.getElem?_replicate] at h2;split at h2<;>cases h2
  have ha:vs[i]?=some v:=by
   unfold start at h2;rw[List.getElem?_append_left (by simpa using hi),List.getElem?_map] at h2;cases e:vs[i]? with
   |none=>rw[e] at h2;cases h2
   |some a=>rw[e] at h2;cases h2;rfl
  obtain⟨u,hu,rv⟩:=r.get ha;have hp:ps[i]?=some y:=by
   rw[←S.pre,List.getElem?_take_of_lt (by lia)];exact h1
  have ndP:ps.Nodup:=by rw[←S.pre];exact S.nd.sublist (List.take_sublist _ _)
  refine⟨u,rv,?_⟩;rcases S.par y (List.mem_of_getElem? hp) with k|k
  ·exact .inl ⟨k,bindL_get ndP hp hu k⟩
  ·obtain⟨c,e⟩:=cell_has (n:=s.heap.objs.size+1) k;refine .inr ⟨.inl k,c,e,?_⟩;have q:=x.cell y c e;rw[bindC_get ndP hp hu (by show scope.names.lookup y≠_;rw[k];decide)] at q;exact q
 ·exact e0.hok.fresh (Nat.le_of_lt (x.above y c (PySem.mem_of_lookup h)))
 ·unfold start;show _=N.length;rw[List.length_append,List.length_map,List.length_replicate];lia
theorem fn_of{CX:CXT}{P:Program}{w:World}{K:PySem.W.Frag}{mg:Str->Option Value}{base:Heap}{k:Nat}{f:Addr}{name qual:Str}{params:Arguments}{body:List Stmt}{scope:Scope}{dV kV doc pm cdv ct oc:Value}{an od:Option Addr}
  {osl:Array (Option Value)} {N ps:List Str} {sp:Sp} (lk:K.lookup f=some ⟨oc,od,.func (PySem.W.fnOf name qual params body scope dV kV doc pm an cdv ct),osl⟩) (hcd:PySem.W.codeIn K cdv qual=true) (S:FnScope N ps scope)
  (len:∀vs H Q E,sp vs H Q E->vs.length=ps.length)
  (hbody:∀(A:Around) (outer:List Env) (s:Shared) (H:Hp) (vs:List V) (Q:VK) (E:XK),Room k (A.deeper (envOfC qual scope s.heap.objs.size f cdv))->sp vs H Q E ->
   ∃t,PSs (cxOf CX P w K mg base N qual scope f cdv A outer s H E) body t/\t { nx:=fun _ H'=>Q .non H',rt:=Q } (start N vs) H):
  FnOk P w K mg base CX (k+1) f (PySem.W.fnOf name qual params body scope dV kV doc pm an cdv ct) ps sp:=by
 refine⟨len,fun A outer s H args us vs Q E hr e0 hb r hsp=>?_⟩;have hl:=len _ _ _ _ hsp;have KX:K.In s.heap:=e0.mod.kin.keeps fun b o e=>(e0.bs b o e).1;have lim:s.heap.NoLimit:=e0.mod.nolimit.keeps fun b o e=>(e0.bs b o e).1;have hkind:∀y∈ps.zip us,scope.names.lookup y.1=some .local∨(scope.names.lookup y.1=some .cell/\((cellsFrom (s.heap.objs.size+1) scope.names []).lookup y.1).isSome=true):=fun⟨n,v⟩ hy=>by
  rcases S.par n (List.of_mem_zip hy).1 with q|q
  ·exact .inl q
  ·exact .inr ⟨q,PySem.W.cellsFrom_some _ _ _ (.inl q)⟩
 refine codeAny_call_function hr.depth (KX _ _ lk) rfl S.co S.gen rfl (PySem.W.codeRec_of KX hcd) (hb _ _ _ _ ?_);refine wpAny_newFunctionEnv_cells S.kind hkind fun env he s1 x=>?_;subst he;refine⟨lim.keeps x.toInCall.keep,codeAny_func ?_⟩;obtain⟨t,ht,hq⟩:=hbody A outer s H vs Q E (hr.deeper _) hsp;have I:Inv (cxOf CX P w K mg base N qual scope f cdv A outer s H E) [] (start N vs) H s1:=inv_start S hr.hd e0 hl r x;refine wpAny_mono (ht [] s1 (start N vs) H _ I hq) (fun fl s' hs=>?_) fun e s' hs=>hs;have fin:∀{σ':St} {H':Hp} {v:V} {u:Value},Inv (cxOf CX P w K mg base N qual scope f cdv A outer s H E) [] σ' H' s'->RelV v u->Q v H'->CE outer P w H s Q u s':=
  fun {σ' H' v u} J rv q=>⟨v,H',J.os,J.bare,J.base,J.hok,rv,q⟩
 cases fl with
 |ret u=>
  obtain⟨v,σ',H',J,rv,q⟩:=hs;exact fin J rv q
 |next=>
  obtain⟨σ',H',J,q⟩:=hs;exact fin (v:=V.non) (u:=Value.none) J rfl q
 |brk=>
  obtain⟨_,_,_,q⟩:=hs;exact False.elim q
 |cont=>
  obtain⟨_,_,_,q⟩:=hs;exact False.elim q
end L2
namespace L2
open PySem PySem.Spec PyProof.Rows
section
variable {X:Cx} {x:Str} {p pos:Pos} {e:Expr} {es:List Expr} {t:TA} {id T:String} {r:List V->Hp->VK->Prop}
def tCB(r:List V->Hp->VK->Prop)(t:TA):TE:=fun σ H Q=>t σ H fun vs H1=>r vs H1 Q
theorem pe_callB(hc:CallR X (.builtin id) r)(hg:Gl X x)(hm:X.mg x=none)(hv:bootBuiltins x=some (.builtin id))(ha:PA X (e::es) t)(hn:x≠"__name__":=by decide)(hdb:(x==("__debug__":Str))=false:=by decide)
  (he:starEach (e::es) X.env=(false,eval e X.env)::starEach es X.env:=by rfl) (hpl:(backTo pos (starEach es X.env)).any (·.1)=false:=by rfl):PE X (.Call (.Name x p) (e::es) [] pos) (tCB r t):=by
 intro pins s σ H Q I h;refine wpAny_Call_Name_kw (ld_blt I hg hm hv ?_ hn hdb);exact PyProof.Rows.callWith_builtin1 (thn (ha pos pins s σ H _ I h) fun us s1 ⟨vs,H1,I1,r1,q1⟩=>hc pins s1 σ H1 vs us Q I1 r1 q1) he hpl
theorem pe_callTy(hc:CallR X (.type T) r)(hg:Gl X x)(hm:X.mg x=none)(hv:bootBuiltins x=some (.type T))(ha:PA X (e::es) t)(hn:x≠"__name__":=by decide)(hdb:(x==("__debug__":Str))=false:=by decide)
  (he:starEach (e::es) X.env=(false,eval e X.env)::starEach es X.env:=by rfl) (hpl:(backTo pos (starEach es X.env)).any (·.1)=false:=by rfl):PE X (.Call (.Name x p) (e::es) [] pos) (tCB r t):=by
 intro pins s σ H Q I h;refine wpAny_Call_Name_kw (ld_blt I hg hm hv ?_ hn hdb);exact PyProof.Rows.callWith_type1 (thn (ha pos pins s σ H _ I h) fun us s1 ⟨vs,H1,I1,r1,q1⟩=>hc pins s1 σ H1 vs us Q I1 r1 q1) he hpl
end
end L2
namespace HT
open PySem PyProof.Rows
def lexLt:List Int->List Int->Bool
 |[],[]=>false
 |[],_::_=>true
 |_::_,[]=>false
 |x::xs,y::ys=>if x=y then lexLt xs ys else decide (x<y)
theorem lexLt_cons(x y:Int)(xs ys:List Int):lexLt (x::xs) (y::ys)=if x=y then lexLt xs ys else decide (x<y):=rfl
theorem lexLt_nil_nil:lexLt [] []=false:=rfl
theorem lexLt_nil_cons(y:Int)(ys:List Int):lexLt [] (y::ys)=true:=rfl
theorem lexLt_cons_nil(x:Int)(xs:List Int):lexLt (x::xs) []=false:=rfl
theorem eqAt_int(A:Around)(s:Shared)(a:Int)(t:Tok)(c:Int)(u:Tok):∃e,SeqAt.EqAt A s (.int a t) (.int c u) e/\(e=true↔a=c):=
 ⟨(a==c),SeqAt.EqAt.int_int a t c u,by simp⟩
theorem rcLt_int(A:Around)(s:Shared)(a:Int)(t:Tok)(c:Int)(u:Tok)(prog:Program)(w:World)(E:Value->Shared->Prop)(Q:Value->Shared->Prop)(h:Q (.bool (decide (a<c))) s):
  wpAny (model prog w) A (richCompare .Lt (.int a t) (.int c u)) Q E s:=
 (PyProof.Rows.lt_int h:wpAny (model prog w) A (compareOp .Lt (.int a t) (.int c u)) Q E s)
section
open PySem.SeqAt
open PySem.AutoSeq1 (wpAny_loadPart')
open PySem.MeetsSeq PySem.MeetsSeq2 PySem.MeetsSeq3
theorem tuple_lt_ints(l b:Addr)(items items2:Array Value)(n n2:Nat)(dd dd2:Option Addr)(sl sl2:Array (Option Value))(ns ms:List Int)(hi:IntsAre items.toList ns)(hj:IntsAre items2.toList ms):
  Meets (Builtin.«tuple.__lt__» ⟨[.ref l,.ref b],[]⟩)
   (fun _ R s=>s.heap.get? l=some { cls:=.type "tuple",dict:=dd,data:=.seq items n,slots:=sl }/\s.heap.get? b=some { cls:=.type "tuple",dict:=dd2,data:=.seq items2 n2,slots:=sl2 } ∧
    R (.ok (.ret (.bool (lexLt ns ms)))) s):=
 .of_wp fun prog w A R s h=>by
  obtain⟨hp,g,d,tk,os⟩:=s;obtain⟨hl,hb,h⟩:=h;have f2:=AutoSeq1.sub_tuple_tuple;have z1:items.size=ns.length:=by rw[←hi.length];simp
  have z2:items2.size=ms.length:=by rw[←hj.length];simp
  wp_walk using wpAny_loadPart' hl,wpAny_loadPart' hb,wpAny_forIn_list _ (fun rest b s'=>b.1=none/\s'=⟨hp,g,d,tk,os⟩/\∃(vs ws:List Value) (ns' ms':List Int),rest=vs.zip ws ∧
   IntsAre vs ns'/\IntsAre ws ms'/\ns'.length+items2.size=ms'.length+items.size/\R (.ok (.ret (.bool (lexLt ns' ms')))) ⟨hp,g,d,tk,os⟩) _
  case turn=>
   rintro⟨y,x⟩ rest b s' ⟨hb',rfl,vs,ws,ns',ms',hz,hvi,hwi,hlen,hR⟩;cases hvi with
   |nil=>rw[List.zip_nil_left] at hz;cases hz
   |cons a t hvi'=>
    cases hwi with
    |nil=>rw[List.zip_nil_right] at hz;cases hz
    |cons c u hwi'=>
     rw[List.zip_cons_cons] at hz;injection hz with hyx hrest;injection hyx with hy hx;subst hy hx;rw[lexLt_cons] at hR;simp only[List.length_cons] at hlen;obtain⟨e,he,hiff⟩:=eqAt_int A.in1 ⟨hp,g,d,tk,os⟩ a t c u;refine wpAny_bind (he prog w _ _ ?_);cases e with
     |true=>
      rw[if_pos (hiff.mp rfl)] at hR;wp_walk;exact⟨rfl,rfl,_,_,_,_,hrest,hvi',hwi',by lia,hR⟩
     |false=>
      rw[if_neg (fun q=>absurd (hiff.mpr q) Bool.false_ne_true)] at hR;have hri:=rcLt_int A.in1 ⟨hp,g,d,tk,os⟩ a t c u prog w;wp_walk using hri;exact⟨_,rfl,by simpa using hR⟩
  case fin=>
   rintro⟨b1,b2⟩ s' ⟨hb',rfl,vs,ws,ns',ms',hz,hvi,hwi,hlen,hR⟩;simp only at hb';subst hb';have hv:lexLt ns' ms'=decide (items.size<items2.size):=by
    cases hvi with
    |nil=>
     cases hwi with
     |nil=>
      simp only[List.length_nil] at hlen;rw[lexLt_nil_nil];exact (decide_eq_false (by lia)).symm
     |cons c u hw=>
      simp only[List.length_nil,List.length_cons] at hlen;rw[lexLt_nil_cons];exact (decide_eq_true (by lia)).symm
    |cons a t hv=>
     cases hwi with
     |nil=>
      simp only[List.length_nil,List.length_cons] at hlen;rw[lexLt_cons_nil];exact (decide_eq_false (by lia)).symm
     |cons c u hw=>
      rw[List.zip_cons_cons] at hz;cases hz
   rw[hv] at hR;wp_walk;exact⟨_,rfl,by simpa [Builtin.Tuple.tupleCompareSizes] using hR⟩
  case h=>
   exact⟨rfl,rfl,items.toList,items2.toList,ns,ms,rfl,hi,hj,by lia,h⟩
end
section
variable {prog:Program} {w:World} {A:Around} {E:Value->Shared->Prop} {s:Shared}
theorem lt_tupInts{l b:Addr}{items items2:Array Value}{ns ms:List Int}{Q:Value->Shared->Prop}(hl:IsTup s.heap l items)(hb:IsTup s.heap b items2)(hi:IntsAre items.toList ns)(hj:IntsAre items2.toList ms)
  (hu:A.units<cLine) (h:Q (.bool (lexLt ns ms)) s):wpAny (model prog w) A (compareOp .Lt (.ref l) (.ref b)) Q E s:=by
 obtain⟨⟨cls,dd,data,sl⟩,ho,hc,n,hd⟩:=id hl;obtain⟨⟨cls2,dd2,data2,sl2⟩,ho2,hc2,n2,hd2⟩:=id hb;simp only at hc hd hc2 hd2;subst hc hd hc2 hd2;exact richCompare_meets_room (op:=.Lt) ⟨_,ho,rfl⟩ ⟨_,ho2,rfl⟩ PySem.F.slot_tuple_lt PySem.F.entry_tuple_lt (PySem.F.args_tuple_lt_2 _ _) (tuple_lt_ints l b items items2 n n2 dd dd2 sl sl2 ns ms hi hj)
  ⟨ho,ho2,show Value.bool (lexLt ns ms)≠Value.notImplemented/\Q (.bool (lexLt ns ms)) s from⟨(fun x=>nomatch x),h⟩⟩ hu
theorem cat_tup{t b:Addr}{vs ws:List Value}{Q:Value->Shared->Prop}(ht:IsTup s.heap t vs.toArray)(hb:IsTup s.heap b ws.toArray)(hv:vs≠[])
  (h1:ws=[]->Q (.ref t) s) (h2:ws≠[]->Q (.ref s.heap.objs.size) { s with heap:=s.heap.push { cls:=.type "tuple",data:=.seq (vs++ws).toArray }})
  (hsz:vs.length+ws.length≤sizeLine):wpAny (model prog w) A (binaryOp .Add (.ref t) (.ref b)) Q E s:=by
 obtain⟨⟨cls,dd,data,sl⟩,ho,hc,n,hd⟩:=id ht;obtain⟨⟨cls2,dd2,data2,sl2⟩,ho2,hc2,n2,hd2⟩:=id hb;simp only at hc hd hc2 hd2;subst hc hd hc2 hd2;have e:vs.toArray++ws.toArray=(vs++ws).toArray:=by simp
 by_cases hw:ws=[]
 ·exact concat_meets ⟨_,ho,rfl⟩ ⟨_,ho2,rfl⟩ noFill_tuple_add seq_tuple_add PySem.F.slot_tuple_add PySem.F.entry_tuple_add (PySem.F.args_tuple_add_2 _ _)
   (tuple_addW1 t b vs.toArray ws.toArray n n2 dd dd2 sl sl2 (by simpa using hv) (by simp[hw])) ⟨ho,ho2,h1 hw⟩
 ·refine concat_meets ⟨_,ho,rfl⟩ ⟨_,ho2,rfl⟩ noFill_tuple_add seq_tuple_add PySem.F.slot_tuple_add PySem.F.entry_tuple_add (PySem.F.args_tuple_add_2 _ _)
   (tuple_addW2 t b vs.toArray ws.toArray n n2 dd dd2 sl sl2 (by simpa using hv) (by simpa using hw) (by rw[List.size_toArray,List.size_toArray];exact hsz)) ⟨ho,ho2,?_⟩
  rw[e];exact h2 hw
def sIx(n d:Nat):Option Int->Nat
 |none=>d
 |some v=>if v<0 then (v+(n:Int)).toNat else min v.toNat n
theorem sIx_none(n d:Nat):sIx n d none=d:=rfl
theorem sIx_nat(n d k:Nat):sIx n d (some (k:Int))=min k n:=by
 show (if (k:Int)<0 then ((k:Int)+(n:Int)).toNat else min (k:Int).toNat n)=min k n;rw[if_neg (by lia),Int.toNat_natCast]
theorem sIx_le(n d:Nat)(hd:d≤n)(o:Option Int):sIx n d o≤n:=by
 cases o with
 |none=>exact hd
 |some v=>
  show (if v<0 then (v+(n:Int)).toNat else min v.toNat n)≤n;by_cases hv:v<0
  ·rw[if_pos hv];lia
  ·rw[if_neg hv];exact Nat.min_le_right _ _
theorem clip_eq(v:Int)(n d:Nat):(if v<0 then max (v+(n:Int)) 0 else min v (n:Int))=((sIx n d (some v):Nat):Int):=by
 show (if v<0 then max (v+(n:Int)) 0 else min v (n:Int))=(((if v<0 then (v+(n:Int)).toNat else min v.toNat n):Nat):Int);by_cases hv:v<0
 ·simp only[if_pos hv];lia
 ·simp only[if_neg hv];lia
theorem adjust_gen(lo hi:Option Int)(n:Nat):Builtin.Slice.sliceAdjust lo hi 1 (n:Int)=(((sIx n 0 lo:Nat):Int),((sIx n n hi:Nat):Int)):=by
 have h1:¬((1:Int)<0):=by lia
 unfold Builtin.Slice.sliceAdjust;simp only[h1,if_false];refine Prod.ext ?_ ?_
 ·cases lo with
  |none=>rfl
  |some v=>exact clip_eq v n 0
 ·cases hi with
  |none=>rfl
  |some v=>exact clip_eq v n n
theorem places_gen(i j:Nat):Builtin.Slice.slicePlaces (i:Int) (j:Int) 1=j-i:=by
 unfold Builtin.Slice.slicePlaces;have h1:(1:Int) > 0:=by lia
 simp only[h1,if_true,Int.ediv_one];split<;>lia
theorem slicePart_{v:Value}{o:Option Int}{Q:Option Int->Shared->Prop}(p:IsPart v o)(h:Q o s):wpAny (model prog w) A (Builtin.Slice.slicePartIndex v) Q E s:=by
 cases p with
 |none=>exact slicePart_none h
 |int i t=>exact slicePart_int h
theorem sliceApplied_gen{sl:Addr}{vl vu:Value}{lo hi:Option Int}{n:Nat}{Q:Int×Int×Nat->Shared->Prop}(hs:s.heap.IsSliceOf sl vl vu .none)(pl:IsPart vl lo)(pu:IsPart vu hi)
  (h:Q (((sIx n 0 lo:Nat):Int),1,sIx n n hi-sIx n 0 lo) s):wpAny (model prog w) A (Builtin.Slice.sliceApplied (.ref sl) (pure (n:Int))) Q E s:=by
 obtain⟨os,hos,hcs,hds⟩:=id hs;unfold Builtin.Slice.sliceApplied Builtin.Slice.sliceFields;refine wpAny_bind (wpAny_bind (wpAny_field hos hds (x:=vl) rfl (wpAny_bind (wpAny_field hos hds (x:=vu) rfl (wpAny_bind (wpAny_field hos hds (x:=.none) rfl (wpAny_pure ?_)))))));refine wpAny_bind (slicePart_none ?_);show wpAny _ _ (if ((1:Int)==0)=true then _ else _) _ _ s;rw[if_neg (by decide)];refine wpAny_bind (slicePart_ pl (wpAny_bind (slicePart_ pu (wpAny_bind (wpAny_pure ?_)))));show wpAny _ _ (match Builtin.Slice.sliceAdjust lo hi 1 (n:Int) with|(lo,hi)=>pure (lo,(1:Int),Builtin.Slice.slicePlaces lo hi 1)) _ _ s
 rw[adjust_gen lo hi n];show wpAny _ _ (pure (((sIx n 0 lo:Nat):Int),(1:Int),Builtin.Slice.slicePlaces ((sIx n 0 lo:Nat):Int) ((sIx n n hi:Nat):Int) 1)) _ _ s;rw[places_gen];exact wpAny_pure h
theorem pick_gen(xs:Array Value)(i k:Nat):((List.range k).filterMap fun (m:Nat)=>xs[((i:Int)+(m:Int)*1).toNat]?).toArray=((xs.toList.drop i).take k).toArray:=by
 have e:(fun (m:Nat)=>xs[((i:Int)+(m:Int)*1).toNat]?)=fun m=>xs[i+m]?:=by
  funext m;have:((i:Int)+(m:Int)*1).toNat=i+m:=by lia
  rw[this]
 rw[e];have:=pick_run xs i k;rw[List.filterMap_map] at this;have e2:((fun x=>xs[x]?) ∘ fun x=>i+x)=fun m=>xs[i+m]?:=rfl;rw[e2] at this;rw[this]
theorem getItem_tuple_cut{t sl:Addr}{items:Array Value}{vl vu:Value}{lo hi:Option Int}{Q:Value->Shared->Prop}(ht:IsTup s.heap t items)(hs:s.heap.IsSliceOf sl vl vu .none)(pl:IsPart vl lo)(pu:IsPart vu hi)
  (hw:¬(sIx items.size 0 lo=0/\sIx items.size items.size hi=items.size))
  (h:Q (.ref s.heap.objs.size) { s with heap:=s.heap.push { cls:=.type "tuple",data:=.seq ((items.toList.drop (sIx items.size 0 lo)).take (sIx items.size items.size hi-sIx items.size 0 lo)).toArray }})
  (hsz:items.size≤sizeLine):wpAny (model prog w) A (getItem (.ref t) (.ref sl)) Q E s:=by
 have htake:sizeOk (.seq ((items.toList.drop (sIx items.size 0 lo)).take (sIx items.size items.size hi-sIx items.size 0 lo)).toArray):=by
  show ((items.toList.drop (sIx items.size 0 lo)).take (sIx items.size items.size hi-sIx items.size 0 lo)).toArray.size≤sizeLine;rw[List.size_toArray,List.length_take,List.length_drop,Array.length_toList];lia
 have hj:sIx items.size items.size hi≤items.size:=sIx_le _ _ (Nat.le_refl _) hi;obtain⟨os,hos,hcs,hds⟩:=id hs;have hTs:s.TypeIs (.ref sl) "slice":=⟨os,hos,hcs⟩;unfold getItem
 try with_reducible refine wpAny_holding ?_
 first|refine wpAny_bind (wpAny_pure ?_)|skip
 refine wpAny_bind (wpAny_sequenceKey ht.typeIs (by decide) ?_);refine wpAny_bind (wpAny_callSpecial?_slot (name:=Str.ofString "__getitem__") ht.typeIs PyProof.Rows.slot_tuple_getitem
  (wpAny_call_entry PyProof.Rows.slot_tuple_getitem ht.typeIs entry_tuple_getitem ?_ (args_tuple_getitem _ _)))
 show wpAny _ _ (Builtin.Tuple.tupleItemsOf (.ref t) >>= _) _ _ s;refine wpAny_bind (tupleItemsOf_ ht ?_);refine wpAny_bind (wpAny_typeOf hTs ?_);rw[if_pos (by decide)];refine wpAny_bind (sliceApplied_gen hs pl pu ?_);have hno:¬((((sIx items.size 0 lo:Nat):Int)==0&&(1:Int)==1&&(sIx items.size items.size hi-sIx items.size 0 lo)==items.size)=true):=by
  intro q;rw[Bool.and_eq_true,Bool.and_eq_true] at q;have q1:((sIx items.size 0 lo:Nat):Int)=0:=eq_of_beq q.1.1;have q2:sIx items.size items.size hi-sIx items.size 0 lo=items.size:=eq_of_beq q.2;exact hw ⟨by lia,by lia⟩
 show wpAny _ _ (if (((sIx items.size 0 lo:Nat):Int)==0&&(1:Int)==1&&(sIx items.size items.size hi-sIx items.size 0 lo)==items.size)=true then _ else _) _ _ s;rw[if_neg hno,pick_gen]
 first
  |exact wpAny_bind (m:=Builtin.Tuple.tupleExact _) (wpAny_newObj_type (wpAny_pure ⟨_,rfl,wpAny_pure h⟩) htake)
  |exact wpAny_bind (m:=Builtin.Tuple.tupleExact _) (wpAny_newObj_type (wpAny_bind (wpAny_pure (wpAny_pure ⟨_,rfl,wpAny_pure h⟩))) htake)
  |exact wpAny_bind (wpAny_bind (m:=Builtin.Tuple.tupleExact _) (wpAny_newObj_type (wpAny_pure (wpAny_pure ⟨_,rfl,wpAny_pure h⟩)) htake))
  |exact wpAny_bind (wpAny_bind (m:=Builtin.Tuple.tupleExact _) (wpAny_newObj_type (wpAny_pure ⟨_,rfl,wpAny_pure h⟩) htake))
end
end HT
namespace L2
open PySem PySem.Spec PyProof.Rows
abbrev TO:=St->Hp->(Option Int->Hp->Prop)->Prop
def PO(X:Cx)(e:Option Expr)(t:TO):Prop:=
 ∀(pins:List (Addr×Obj)) (s:Shared) (σ:St) (H:Hp) (Q:Option Int->Hp->Prop),Inv X pins σ H s->t σ H Q ->
  wpAny (model X.prog X.w) X.A (evalPart e X.env) (fun u s'=>∃o H',Inv X pins σ H' s'/\IsPart u o/\Q o H') X.xe s
def tNoPart:TO:=fun _ H Q=>Q none H
def tPart(t:TE):TO:=fun σ H Q=>t σ H fun x H1=>∃i,x=.int i/\Q (some i) H1
theorem intsAre_of{ns:List Int}:∀{us:List Value},Vals (ns.map V.int) us->IntsAre us ns:=by
 induction ns with
 |nil=>intro us r;rw[List.map_nil] at r;cases r;exact .nil
 |cons n ns ih=>
  intro us r;rw[List.map_cons] at r;cases r with
  |cons r1 r2=>
   obtain⟨t,e⟩:=r1;subst e;exact .cons n t (ih r2)
section
variable {X:Cx} {e:Expr} {te:TE} {lo hi:Option Expr} {tl th:TO} {pos p2:Pos}
theorem po_none:PO X none tNoPart:=by
 intro pins s σ H Q I h;rw[evalPart_none];exact wpAny_pure ⟨none,H,I,.none,h⟩
theorem po_some(h:PE X e te):PO X (some e) (tPart te):=by
 intro pins s σ H Q I hw;rw[evalPart_some];refine thn (h pins s σ H _ I hw) fun u s1 ⟨x,H1,I1,r1,q1⟩=>?_;obtain⟨i,rfl,q⟩:=q1;obtain⟨t,rfl⟩:=r1;exact⟨some i,H1,I1,.int i t,q⟩
def SlR(X:Cx)(r:V->Option Int->Option Int->Hp->VK->Prop):Prop:=
 ∀(pins:List (Addr×Obj)) (s:Shared) (σ:St) (H:Hp) (x:V) (v vl vu:Value) (lo hi:Option Int) (sl:Addr) (Q:VK),Inv X pins σ H s->RelV x v->s.heap.IsSliceOf sl vl vu .none->IsPart vl lo->IsPart vu hi->r x lo hi H Q ->
  ∃T id,typeLookup (.type T) "__getitem__" = pure (some (.builtin id))/\s.TypeIs v T/\wpAny (model X.prog X.w) X.A (getItem v (.ref sl)) (EP X pins σ Q) X.xe s
theorem SlR.or{r r':V->Option Int->Option Int->Hp->VK->Prop}(h:SlR X r)(h':SlR X r'):SlR X (fun x lo hi H Q=>r x lo hi H Q∨r' x lo hi H Q):=by
 intro pins s σ H x v vl vu lo hi sl Q I rx hs pl pu q;rcases q with q|q
 ·exact h pins s σ H x v vl vu lo hi sl Q I rx hs pl pu q
 ·exact h' pins s σ H x v vl vu lo hi sl Q I rx hs pl pu q
def tSl(r:V->Option Int->Option Int->Hp->VK->Prop)(te:TE)(tl th:TO):TE:=fun σ H Q=>te σ H fun x H1=>tl σ H1 fun l H2=>th σ H2 fun u H3=>r x l u H3 Q
theorem pe_slice{r:V->Option Int->Option Int->Hp->VK->Prop}(hr:SlR X r)(he:PE X e te)(hl:PO X lo tl)(hu:PO X hi th):PE X (.Subscript e (.Slice lo hi none p2) pos) (tSl r te tl th):=by
 intro pins s σ H Q I h;refine Subscript_ (thn (he pins s σ H _ I h) fun v s1 ⟨x,H1,I1,r1,q1⟩=>?_);refine wpAny_Slice (thn (hl pins s1 σ H1 _ I1 q1) fun vl s2 ⟨l,H2,I2,pl,q2⟩=>thn (hu pins s2 σ H2 _ I2 q2) fun vu s3 ⟨u,H3,I3,pu,q3⟩=>?_);rw[evalPart_none];refine wpAny_pure ?_;have I4:Inv X pins σ H3 { s3 with heap:=s3.heap.push { cls:=.type "slice",data:=.fields #[vl,vu,.none]}}:=I3.kept (t':=s3.toks) fun b ob q=>Heap.get?_push_of_some _ q;obtain⟨T,id,hT,ht,hg⟩:=hr pins { s3 with heap:=s3.heap.push { cls:=.type "slice",data:=.fields #[vl,vu,.none]}} σ H3 x v vl vu l u s3.heap.objs.size Q I4 r1 (Heap.IsSliceOf.new ..) pl pu q3;show wpAny (model X.prog X.w) X.A (subscriptTail e (.Slice lo hi none p2) v (.ref s3.heap.objs.size)) (EP X pins σ Q) X.xe { s3 with heap:=s3.heap.push { cls:=.type "slice",data:=.fields #[vl,vu,.none]}};exact tail_any (ops:=[.ref s3.heap.objs.size,v]) ht hT hg (by with_unfolding_all rfl)
def cutV(xs:List V)(lo hi:Option Int):List V:=(xs.drop (HT.sIx xs.length 0 lo)).take (HT.sIx xs.length xs.length hi-HT.sIx xs.length 0 lo)
theorem cutV_length(xs:List V)(lo hi:Option Int):(cutV xs lo hi).length≤xs.length:=by
 unfold cutV;rw[List.length_take,List.length_drop];lia
def rSlT(K:PySem.W.Frag):V->Option Int->Option Int->Hp->VK->Prop:=fun x lo hi H Q=>∃a xs,x=.ref a/\SqT K H a xs ∧
 ¬(HT.sIx xs.length 0 lo=0/\HT.sIx xs.length xs.length hi=xs.length)/\∀p,H p=none->Q (.ref p) (upd H p (.tup (cutV xs lo hi)))
theorem sl_tup:SlR X (rSlT X.K):=by
 intro pins s σ H x v vl vu lo hi sl Q I rx hs pl pu h;obtain⟨a,xs,rfl,hx,hw,q⟩:=h;cases rx;obtain⟨its,r,ht,hz⟩:=I.tuple hx;have hlen:its.toArray.size=xs.length:=by rw[List.size_toArray];exact r.length.symm
 refine⟨"tuple",_,PyProof.Rows.slot_tuple_getitem.lookup,ht.typeIs,?_⟩;refine HT.getItem_tuple_cut ht hs pl pu (by rw[hlen];exact hw) ?_ (by rw[hlen];exact hz);rw[hlen];refine⟨.ref s.heap.objs.size,_,I.laid (t':=s.toks) (o:=.tup (cutV xs lo hi)) (fun b ob q=>Heap.get?_push_of_some _ q) (Nat.le_refl _) ?_,rfl,q _ (I.hok.fresh (Nat.le_refl _))⟩;exact⟨Nat.le_trans (cutV_length xs lo hi) hz,_,(r.drop (HT.sIx xs.length 0 lo)).take (HT.sIx xs.length xs.length hi-HT.sIx xs.length 0 lo),IsTup.new _ _⟩
def rLtT(K:PySem.W.Frag):R2:=fun x y H Q=>∃a b ns ms,x=.ref a/\y=.ref b/\SqT K H a (ns.map V.int)/\SqT K H b (ms.map V.int)/\Q (.bl (HT.lexLt ns ms)) H
theorem op_ltT(hu:X.A.units<cLine):OpR X (compareOp .Lt) (rLtT X.K):=by
 intro pins s σ H x y v u Q I rx ry h;obtain⟨a,b,ns,ms,rfl,rfl,ha,hb,q⟩:=h;cases rx;cases ry;obtain⟨its,r1,p1,_⟩:=I.tuple ha;obtain⟨its2,r2,p2,_⟩:=I.tuple hb;have i1:IntsAre its.toArray.toList ns:=intsAre_of r1;have i2:IntsAre its2.toArray.toList ms:=intsAre_of r2;exact HT.lt_tupInts p1 p2 i1 i2 hu ⟨.bl (HT.lexLt ns ms),H,I,rfl,q⟩
def rCatT(K:PySem.W.Frag):R2:=fun x y H Q=>∃a b xs ys,x=.ref a/\y=.ref b/\SqT K H a xs/\SqT K H b ys/\xs≠[]/\xs.length+ys.length≤sizeLine ∧
 (ys=[]->Q (.ref a) H)/\(ys≠[]->∀p,H p=none->Q (.ref p) (upd H p (.tup (xs++ys))))
theorem Vals.nil_iff{xs:List V}{us:List Value}(r:Vals xs us):us=[]↔xs=[]:=by
 cases r with
 |nil=>simp
 |cons _ _=>simp
theorem op_catT:OpR X (binaryOp .Add) (rCatT X.K):=by
 intro pins s σ H x y v u Q I rx ry h;obtain⟨a,b,xs,ys,rfl,rfl,ha,hb,hx,hz,q1,q2⟩:=h;cases rx;cases ry;obtain⟨its,r1,p1,_⟩:=I.tuple ha;obtain⟨its2,r2,p2,_⟩:=I.tuple hb;refine HT.cat_tup p1 p2 (fun z=>hx (r1.nil_iff.mp z)) (fun z=>⟨.ref a,H,I,rfl,q1 (r2.nil_iff.mp z)⟩) (fun z=>?_) (by rw[←r1.length,←r2.length];exact hz);refine⟨.ref s.heap.objs.size,_,I.laid (t':=s.toks) (o:=.tup (xs++ys)) (fun b ob q=>Heap.get?_push_of_some _ q) (Nat.le_refl _) ?_,rfl,q2 (fun w=>z (r2.nil_iff.mpr w)) _ (I.hok.fresh (Nat.le_refl _))⟩;exact⟨by rw[List.length_append];exact hz,_,r1.append r2,IsTup.new _ _⟩
end
end L2
namespace L2
open PySem PySem.Spec PyProof.Rows
def ixN(n:Nat)(i:Int):Option Nat:=if 0≤i then (if i<n then some i.toNat else none) else if -(n:Int)≤i then some (i+n).toNat else none
def atI{α:Type}(xs:List α)(i:Int):Option α:=(ixN xs.length i).bind fun j=>xs[j]?
theorem ixN_seq{n:Nat}{i:Int}{j:Nat}(h:ixN n i=some j):seqIndex? i n=some j/\j<n/\-(n:Int)≤i/\i<n:=by
 unfold ixN at h;by_cases h0:0≤i
 ·rw[if_pos h0] at h;by_cases h1:i<n
  ·rw[if_pos h1] at h;have e:i.toNat=j:=Option.some.inj h;exact⟨by rw[seqIndex_of h0 h1,e],by lia,by lia,h1⟩
  ·rw[if_neg h1] at h;cases h
 ·rw[if_neg h0] at h;by_cases h1:-(n:Int)≤i
  ·rw[if_pos h1] at h;have e:(i+n).toNat=j:=Option.some.inj h;exact⟨by rw[seqIndex_neg (by lia) h1,e],by lia,h1,by lia⟩
  ·rw[if_neg h1] at h;cases h
theorem atI_get{α:Type}{xs:List α}{i:Int}{v:α}(h:atI xs i=some v):∃j,seqIndex? i xs.length=some j/\xs[j]?=some v/\j<xs.length/\-(xs.length:Int)≤i/\i<xs.length:=by
 unfold atI at h;cases e:ixN xs.length i with
 |none=>rw[e] at h;cases h
 |some j=>
  rw[e] at h;obtain⟨h1,h2,h3,h4⟩:=ixN_seq e;exact⟨j,h1,h,h2,h3,h4⟩
theorem atI_nat{α:Type}{xs:List α}{j:Nat}{v:α}(h:xs[j]?=some v):atI xs (j:Int)=some v:=by
 have hj:j<xs.length:=(List.getElem?_eq_some_iff.mp h).1;have e:ixN xs.length (j:Int)=some j:=by
  unfold ixN;rw[if_pos (by lia),if_pos (by lia)];simp
 unfold atI;rw[e];exact h
def PlainIx(b:Expr):Prop:=∀o i,subscripted b false o i=operate [o,i] (getItem o i)
def IxR(X:Cx)(r:R2):Prop:=
 ∀(value slice:Expr) (pins:List (Addr×Obj)) (s:Shared) (σ:St) (H:Hp) (x y:V) (v u:Value) (Q:VK),Inv X pins σ H s->RelV x v->RelV y u->r x y H Q ->
  subscripted slice false v u=operate [v,u] (getItem v u)->wpAny (model X.prog X.w) X.A (subscriptTail value slice v u) (EP X pins σ Q) X.xe s
def MtR(X:Cx)(id:String)(r:V->List V->Hp->VK->Prop):Prop:=
 ∀(pins:List (Addr×Obj)) (s:Shared) (σ:St) (H:Hp) (x:V) (xs:List V) (v:Value) (us:List Value) (Q:VK),Inv X pins σ H s->RelV x v->Vals xs us->r x xs H Q ->
  wpAny (model X.prog X.w) X.A (call (.builtin id) (v::us)) (EP X pins σ Q) X.xe s
section
variable {X:Cx} {a b:Expr} {ta tb:TE} {pos:Pos}
theorem IxR.or{r r':R2}(h:IxR X r)(h':IxR X r'):IxR X (fun x y H Q=>r x y H Q∨r' x y H Q):=by
 intro value slice pins s σ H x y v u Q I rx ry q hs;rcases q with q|q
 ·exact h value slice pins s σ H x y v u Q I rx ry q hs
 ·exact h' value slice pins s σ H x y v u Q I rx ry q hs
theorem pe_ix{r:R2}(hr:IxR X r)(ha:PE X a ta)(hb:PE X b tb)(hs:PlainIx b):PE X (.Subscript a b pos) (tOp r ta tb):=by
 intro pins s σ H Q I h;exact Subscript_ (binT ha hb I h fun v u s2 x y H2 I2 rx ry q=>hr a b pins s2 σ H2 x y v u Q I2 rx ry q (hs _ _))
def rIxL(K:PySem.W.Frag):R2:=fun x y H Q=>∃p xs i v,x=.ref p/\y=.int i/\SqL K H p xs/\atI xs i=some v/\Q v H
def rIxT(K:PySem.W.Frag):R2:=fun x y H Q=>∃p xs i v,x=.ref p/\y=.int i/\SqT K H p xs/\atI xs i=some v/\Q v H
def rIxS:R2:=fun x y H Q=>∃z i c,x=.str z/\y=.int i/\z.length≤sizeLine/\atI z.cps.toList i=some c/\Q (.str ⟨#[c]⟩) H
theorem ix_list:IxR X (rIxL X.K):=by
 intro value slice pins s σ H x y v u Q I rx ry h hs;obtain⟨p,xs,i,z,rfl,rfl,hq,he,q⟩:=h;cases rx;obtain⟨t,rfl⟩:=ry;obtain⟨its,r,pl,hz⟩:=I.list hq;obtain⟨j,h1,h2,h3,h4,h5⟩:=atI_get he;obtain⟨w,ew,rw'⟩:=r.get h2;have hl:=r.length;have hn:=line63;have fin:EP X pins σ Q w s:=⟨z,H,I,rw',q⟩;by_cases h0:0≤i
 ·have hj:i.toNat=j:=by
   rw[seqIndex_of h0 h5] at h1;exact Option.some.inj h1
  exact item_listR pl.isList h0 (by lia) (by rw[hj];simpa using ew) fin hs
 ·have hj:(i+(its.toArray.size:Int)).toNat=j:=by
   rw[seqIndex_neg (by lia) h4] at h1;rw[List.size_toArray,←hl];exact Option.some.inj h1
  exact subscriptTail_builtinR (x:=w) pl.isList.typeIs slot_list_getitem.lookup
   (wpAny_getItem_list_neg (Q:=fun r s'=>r=w/\EP X pins σ Q r s') pl.isList (by lia) (by rw[List.size_toArray]<;>lia) (by lia) (by rw[hj];simpa using ew) ⟨rfl,fin⟩) hs
theorem ix_tup:IxR X (rIxT X.K):=by
 intro value slice pins s σ H x y v u Q I rx ry h hs;obtain⟨p,xs,i,z,rfl,rfl,hq,he,q⟩:=h;cases rx;obtain⟨t,rfl⟩:=ry;obtain⟨its,r,pl,hz⟩:=I.tuple hq;obtain⟨j,h1,h2,h3,h4,h5⟩:=atI_get he;obtain⟨w,ew,rw'⟩:=r.get h2;have hl:=r.length;have hn:=line63;have fin:EP X pins σ Q w s:=⟨z,H,I,rw',q⟩;exact subscriptTail_builtinR (x:=w) pl.typeIs slot_tuple_getitem.lookup
  (getItem_tuple (j:=j) (Q:=fun r s'=>r=w/\EP X pins σ Q r s') pl (by lia) (by lia) (by rw[List.size_toArray,←hl];exact h1) (by simpa using ew) ⟨rfl,fin⟩) hs
theorem ix_str:IxR X rIxS:=by
 intro value slice pins s σ H x y v u Q I rx ry h hs;obtain⟨z,i,c,rfl,rfl,hz,he,q⟩:=h;obtain⟨t,rfl⟩:=rx;obtain⟨t',rfl⟩:=ry;obtain⟨j,h1,h2,h3,h4,h5⟩:=atI_get he;have hl:z.cps.toList.length=z.length:=by simp[Str.length]
 rw[hl] at h1 h4 h5;have hn:=line63;exact tail_any (typeIs_str s z t) slot_str_getitem.lookup (getItem_str (c:=c) (by
  have e1:decide (i < -(2^63:Int))=false:=decide_eq_false (by lia);have e2:decide (i≥2^63)=false:=decide_eq_false (by lia);rw[e1,e2,Bool.or_false]) (by rw[h1];simpa using h2) ⟨.str ⟨#[c]⟩,H,I.tok _,⟨_,rfl⟩,q⟩) hs
def rIx(K:PySem.W.Frag):R2:=fun x y H Q=>rIxL K x y H Q∨rIxT K x y H Q∨rIxS x y H Q
theorem ix_seq:IxR X (rIx X.K):=ix_list.or (ix_tup.or ix_str)
theorem mapSeq_set(its:List Value)(n j:Nat)(u:Value):Obj.mapSeq (·.setIfInBounds j u) { cls:=.type "list",data:=.seq its.toArray n }={ cls:=.type "list",data:=.seq (its.set j u).toArray n }:=by
 simp[Obj.mapSeq]
theorem Inv.lst{pins:List (Addr×Obj)}{σ:St}{H:Hp}{s:Shared}{p:Addr}{xs:List V}(I:Inv X pins σ H s)(h:H p=some (.lst xs)):
  ∃(its:List Value) (n:Nat),Vals xs its/\s.heap.get? p=some { cls:=.type "list",data:=.seq its.toArray n }/\xs.length≤sizeLine:=by
 obtain⟨z,its,n,r,e⟩:=I.hok p _ h;exact⟨its,n,r,e,z⟩
theorem Inv.lstUpd{pins:List (Addr×Obj)}{σ:St}{H:Hp}{s:Shared}{p:Addr}{xs ys:List V}{its its':List Value}{n n':Nat}{f:Obj->Obj}(I:Inv X pins σ H s)(h:H p=some (.lst xs))
  (ho:s.heap.get? p=some { cls:=.type "list",data:=.seq its.toArray n }) (hf:f { cls:=.type "list",data:=.seq its.toArray n }={ cls:=.type "list",data:=.seq its'.toArray n' }) (r:Vals ys its') (hz:ys.length≤sizeLine) (t:Nat):
  Inv X pins σ (upd H p (.lst ys)) { s with heap:=s.heap.update p f,toks:=t }:=by
 have e:(s.heap.update p f).get? p=some { cls:=.type "list",data:=.seq its'.toArray n' }:=by
  rw[Heap.get?_update_self f ho (by rw[hf]<;>rfl),hf]
 refine I.write (x:=p) (e:=p) (by rw[h];trivial) (.inl rfl) (fun b u hb q=>(Heap.get?_update_other _ _ (Ne.symm hb)).trans q) ⟨_,e⟩ ?_;exact⟨hz,its',n',r,e⟩
def rSetL:V->V->V->Hp->(Hp->Prop)->Prop:=fun o i v H Q=>∃p xs k j,o=.ref p/\i=.int k/\H p=some (.lst xs)/\ixN xs.length k=some j/\Q (upd H p (.lst (xs.set j v)))
theorem set_list:PSet X rSetL:=by
 intro pins s σ H o i v ov iv u Q I ro ri rv h;obtain⟨p,xs,k,j,rfl,rfl,hp,hj,q⟩:=h;cases ro;obtain⟨t,rfl⟩:=ri;obtain⟨its,n,r,ho,hz⟩:=I.lst hp;obtain⟨h1,h2,h3,h4⟩:=ixN_seq hj;have hl:=r.length;have hn:=line63;have I':Inv X pins σ (upd H p (.lst (xs.set j v))) { s with heap:=s.heap.update p (Obj.mapSeq (·.setIfInBounds j u))}:=
  I.lstUpd hp ho (mapSeq_set its n j u) (r.set rv j) (by rw[List.length_set];exact hz) s.toks
 by_cases h0:0≤k
 ·have hk:k.toNat=j:=by
   rw[seqIndex_of h0 h4] at h1;exact Option.some.inj h1
  exact PySem.W.ki_setAt ho h0 (by lia) (by rw[List.size_toArray,←hl];exact h4) (by rw[hk];exact⟨_,I',q⟩)
 ·have hk:(k+(its.toArray.size:Int)).toNat=j:=by
   rw[seqIndex_neg (by lia) h3] at h1;rw[List.size_toArray,←hl];exact Option.some.inj h1
  exact PySem.W.ki_setBack ho (by lia) (by rw[List.size_toArray,←hl];exact h3) (by lia) (by rw[hk];exact⟨_,I',q⟩)
theorem slice_bounds(lo hi:Option Int)(n:Nat):(sliceBounds lo hi none n).1=((HT.sIx n 0 lo:Nat):Int)/\(sliceBounds lo hi none n).2.1=((HT.sIx n n hi:Nat):Int)/\(sliceBounds lo hi none n).2.2=1:=by
 refine⟨?_,?_,rfl⟩
 ·cases lo with
  |none=>simp[sliceBounds,HT.sIx]
  |some i=>
   simp only[sliceBounds,HT.sIx,Option.getD_none,show (1:Int) > 0 by decide,if_true];by_cases h:i<0
   ·simp only[h,if_true]<;>lia
   ·simp only[h,if_false]<;>lia
 ·cases hi with
  |none=>simp[sliceBounds,HT.sIx]
  |some i=>
   simp only[sliceBounds,HT.sIx,Option.getD_none,show (1:Int) > 0 by decide,if_true];by_cases h:i<0
   ·simp only[h,if_true]<;>lia
   ·simp only[h,if_false]<;>lia
theorem slicePick_cut(its:List Value)(lo hi:Option Int):slicePick its.toArray lo hi none=((its.drop (HT.sIx its.length 0 lo)).take (HT.sIx its.length its.length hi-HT.sIx its.length 0 lo)).toArray:=by
 obtain⟨h1,h2,h3⟩:=slice_bounds lo hi its.toArray.size;unfold slicePick;rw[h1,h2,h3];simp only[sliceRange_one,pick_run,List.size_toArray]<;>rfl
def rSlL(K:PySem.W.Frag):V->Option Int->Option Int->Hp->VK->Prop:=fun x lo hi H Q=>∃a xs,x=.ref a/\SqL K H a xs/\∀p,H p=none->Q (.ref p) (upd H p (.lst (cutV xs lo hi)))
theorem sl_list:SlR X (rSlL X.K):=by
 intro pins s σ H x v vl vu lo hi sl Q I rx hs pl pu h;obtain⟨a,xs,rfl,hx,q⟩:=h;cases rx;obtain⟨its,r,ht,hz⟩:=I.list hx;have hlen:=r.length;refine⟨"list",_,slot_list_getitem.lookup,ht.isList.typeIs,?_⟩;refine wpAny_getItem_list_slice ht.isList hs pl pu .none (by simp) ?_ (by rw[List.size_toArray]<;>lia)
 rw[slicePick_cut,←hlen];refine⟨.ref s.heap.objs.size,_,I.laid (t':=s.toks) (o:=.lst (cutV xs lo hi)) (fun b ob q=>Heap.get?_push_of_some _ q) (Nat.le_refl _) ?_,rfl,q _ (I.hok.fresh (Nat.le_refl _))⟩;exact⟨Nat.le_trans (cutV_length xs lo hi) hz,_,0,(r.drop (HT.sIx xs.length 0 lo)).take (HT.sIx xs.length xs.length hi-HT.sIx xs.length 0 lo),Heap.get?_push_size _ rfl⟩
theorem call_len_seq:CallR X (.builtin "len") (fun xs H Q=>∃p ys,xs=[.ref p]/\(SqL X.K H p ys∨SqT X.K H p ys)/\Q (.int ys.length) H):=by
 intro pins s σ H xs us Q I r h;obtain⟨p,ys,rfl,hq,q⟩:=h;obtain⟨u,rfl,rx⟩:=vals1 r;cases rx;have hn:=line63;rcases hq with hq|hq
 ·obtain⟨its,r',pl,hz⟩:=I.list hq;have hlen:=r'.length;exact Calls.call_len_list pl.isList (by simp only[List.size_toArray]<;>lia) ⟨.int ys.length,H,I.tok _,⟨s.toks+1,by rw[List.size_toArray,hlen]⟩,q⟩
 ·obtain⟨its,r',pl,hz⟩:=I.tuple hq;have hlen:=r'.length;exact len_tuple pl (by simp only[List.size_toArray]<;>lia) ⟨.int ys.length,H,I.tok _,⟨s.toks+1,by rw[List.size_toArray,hlen]⟩,q⟩
theorem call_list_of:CallR X (.type "list") (fun xs H Q=>∃p ys,xs=[.ref p]/\(SqL X.K H p ys∨SqT X.K H p ys)/\∀l,H l=none->Q (.ref l) (upd H l (.lst ys))):=by
 intro pins s σ H xs us Q I r h;obtain⟨p,ys,rfl,hq,q⟩:=h;obtain⟨u,rfl,rx⟩:=vals1 r;cases rx;have fin:∀(its:List Value),Vals ys its->ys.length≤sizeLine->∀(h':Heap) (c':Nat),(∀b o',s.heap.get? b=some o'->h'.get? b=some o') ->
   h'.get? s.heap.objs.size=some { cls:=.type "list",dict:=none,data:=.seq its.toArray c',slots:=#[]}->EP X pins σ Q (.ref s.heap.objs.size) { s with heap:=h' }:=fun its r' hz h' c' kp e=>
  ⟨.ref s.heap.objs.size,_,I.laid (t':=s.toks) kp (Nat.le_refl _) (show ObjOk X.prog X.w _ h' _ (.lst ys) from⟨hz,its,c',r',e⟩),rfl,q _ (I.hok.fresh (Nat.le_refl _))⟩
 rcases hq with hq|hq
 ·obtain⟨its,r',pl,hz⟩:=I.list hq;have hlen:=r'.length;obtain⟨o,ho,hc,n,hd⟩:=pl.isList;exact call_list_seq p (.inl rfl) ho hc hd (fun h' c' kp e=>fin its r' hz h' c' kp e) (by simp only[List.size_toArray]<;>lia)
 ·obtain⟨its,r',pl,hz⟩:=I.tuple hq;have hlen:=r'.length;obtain⟨o,ho,hc,n,hd⟩:=pl;exact call_list_seq p (.inr rfl) ho hc hd (fun h' c' kp e=>fin its r' hz h' c' kp e) (by simp only[List.size_toArray]<;>lia)
theorem call_tuple_of:CallR X (.type "tuple") (fun xs H Q=>∃p ys,xs=[.ref p]/\((SqL X.K H p ys/\∀l,H l=none->Q (.ref l) (upd H l (.tup ys)))∨(SqT X.K H p ys/\Q (.ref p) H))):=by
 intro pins s σ H xs us Q I r h;obtain⟨p,ys,rfl,h⟩:=h;obtain⟨u,rfl,rx⟩:=vals1 r;cases rx;rcases h with⟨hq,q⟩|⟨hq,q⟩
 ·obtain⟨its,r',pl,hz⟩:=I.list hq;have hlen:=r'.length;refine call_tuple_list pl.isList (fun h' kp=>?_) (by simp only[List.size_toArray]<;>lia)
  have I1:Inv X pins σ H { s with heap:=h' }:=I.kept (t':=s.toks) kp;have I2:Inv X pins σ (upd H h'.objs.size (.tup ys)) { s with heap:=h'.push { cls:=.type "tuple",data:=.seq its.toArray }}:=
   I1.laid (t':=s.toks) (fun b o e=>Heap.get?_push_of_some _ e) (Nat.le_refl _) (show ObjOk X.prog X.w _ _ _ (.tup ys) from⟨hz,its,r',IsTup.new _ _⟩)
  exact⟨.ref h'.objs.size,_,I2,rfl,q _ (I1.hok.fresh (Nat.le_refl _))⟩
 ·obtain⟨its,r',pl,hz⟩:=I.tuple hq;exact call_tuple_same pl ⟨.ref p,H,I,rfl,q⟩
def tyV(K:PySem.W.Frag)(T:String)(x:V)(H:Hp):Prop:=match x with
 |.str _=>T="str"
 |.int _=>T="int"
 |.ref p=>(T="list"/\∃xs,SqL K H p xs)∨(T="tuple"/\∃o,K.lookup p=some o/\o.cls=.type "tuple"/\o.dict=none) ∨
   (T="dict"/\((∃kvs,H p=some (.dK kvs))∨∃kvs,H p=some (.dT kvs)))∨(T="set"/\∃S n,H p=some (.set S n))
 |_=>False
theorem tyV_is{pins:List (Addr×Obj)}{σ:St}{H:Hp}{s:Shared}{T:String}{x:V}{v:Value}(I:Inv X pins σ H s)(r:RelV x v)(ty:tyV X.K T x H):
  s.TypeIs v T/\∀a,v=.ref a->∃ob,s.heap.get? a=some ob/\ob.dict=none:=by
 cases x with
 |str z=>
  obtain⟨t,rfl⟩:=r;cases (show T="str" from ty);exact⟨typeIs_str s z t,fun _ e=>nomatch e⟩
 |int i=>
  obtain⟨t,rfl⟩:=r;cases (show T="int" from ty);exact⟨typeIs_int s i t,fun _ e=>nomatch e⟩
 |ref p=>
  cases r;rcases ty with⟨rfl,xs,hq⟩|⟨rfl,o,hk,hc,hd⟩|⟨rfl,hk⟩|⟨rfl,S,n,hk⟩
  ·obtain⟨its,_,pl,_⟩:=I.list hq;refine⟨pl.isList.typeIs,fun a e=>?_⟩;cases e;obtain⟨o,n,e,c,hd,_⟩:=pl;exact⟨o,e,hd⟩
  ·refine⟨⟨o,I.kIn p o hk,hc⟩,fun a e=>?_⟩;cases e;exact⟨o,I.kIn _ o hk,hd⟩
  ·have z:∃o,s.heap.get? p=some o/\o.ExactDict:=by
    rcases hk with⟨kvs,hk⟩|⟨kvs,hk⟩
    ·obtain⟨_,_,_,_,o,_,_,e,ex,_⟩:=I.hok p _ hk;exact⟨o,e,ex⟩
    ·obtain⟨_,_,_,_,o,_,_,e,ex,_⟩:=I.hok p _ hk;exact⟨o,e,ex⟩
   obtain⟨o,e,ex⟩:=z;refine⟨⟨o,e,ex.1⟩,fun a e2=>?_⟩;cases e2;exact⟨o,e,ex.2.1⟩
  ·obtain⟨o,_,_,_,e,ex,_⟩:=I.hok p _ hk;refine⟨⟨o,e,ex.1⟩,fun a e2=>?_⟩;cases e2;exact⟨o,e,ex.2.1⟩
 |_=>exact False.elim ty
def tBM(K:PySem.W.Frag)(T:String)(r:V->List V->Hp->VK->Prop)(to:TE)(t:TA):TE:=fun σ H Q=>to σ H fun x H1=>tyV K T x H1/\t σ H1 fun xs H2=>r x xs H2 Q
variable {o e:Expr} {es:List Expr} {to:TE} {t:TA} {name:Str} {apos cpos:Pos} {T id:String} {r:V->List V->Hp->VK->Prop}
theorem pe_bm(pa:PlainAttrs T)(slot:Slot T name id)(hty:typeOf (.builtin id)=pure (.type "method_descriptor"))(hm:MtR X id r)(ho:PE X o to)(ha:PA X (e::es) t)
  (hbase:attributeBase o name X.env (eval o X.env)=eval o X.env:=by rfl)
  (hfew:((backTo cpos (starEach (e::es) X.env)).all (fun x=>!x.1)&&(backToKw cpos (keywordEach [] X.env)).all (fun x=>x.1.isSome)
   && decide ((e::es).length+([]:List Keyword).length+(if ([]:List Keyword).isEmpty then 0 else 1)<30))=true:=by rfl)
  (hline:(apos.endLine==cpos.line)=true:=by rfl) (hs:starEach (e::es) X.env=(false,eval e X.env)::starEach es X.env:=by rfl) (hplain:(backTo cpos (starEach es X.env)).any (·.1)=false:=by rfl):
  PE X (.Call (.Attribute o name apos) (e::es) [] cpos) (tBM X.K T r to t):=by
 intro pins s σ H Q I h;refine wpAny_Call_method_late hbase hfew hline rfl (thn (ho pins s σ H _ I h) fun v s1 ⟨x,H1,I1,r1,ty,q1⟩=>?_);obtain⟨h1,h2⟩:=tyV_is I1 r1 ty;refine⟨T,id,pa,slot,hty,h1,h2,?_⟩;have hA:=ha cpos pins s1 σ H1 _ I1 q1;rw[hs] at hA ⊢;refine Calls.callWith_builtin (by show (false||(backTo cpos (starEach es X.env)).any (·.1))=false;rw[hplain]<;>rfl) (Calls.evalArgs_plain ?_)
 exact thn hA fun us s2 ⟨vs,H2,I2,r2,q2⟩=>hm pins s2 σ H2 x vs v us Q I2 r1 r2 q2
/- xs.append(e),list.index on a module's tuple .. are MtR facts of 06m -/
end
end L2
namespace L2
open PySem PySem.Spec PyProof.Rows
def MtM(X:Cx)(id:String)(r:V->List V->Hp->VK->Prop):Prop:=
 ∀(pins:List (Addr×Obj)) (s:Shared) (σ:St) (H:Hp) (x:V) (xs:List V) (v:Value) (us:List Value) (Q:VK),Inv X pins σ H s->RelV x v->Vals xs us->r x xs H Q ->
  wpAny (model X.prog X.w) X.A (call (.builtin id) (v::us)) (EP X pins σ Q) X.xe s
theorem Vals.one:∀{x:V} {us:List Value},Vals [x] us->∃u,us=[u]/\RelV x u
 |_,_,.cons r .nil=>⟨_,rfl,r⟩
theorem Vals.eraseIdx:∀{xs:List V} {us:List Value} (i:Nat),Vals xs us->Vals (xs.eraseIdx i) (us.eraseIdx i)
 |_,_,_,.nil=>.nil
 |_,_,0,.cons _ t=>t
 |_,_,i+1,.cons r t=>.cons r (Vals.eraseIdx i t)
theorem Vals.reverse{xs:List V}{us:List Value}(h:Vals xs us):Vals xs.reverse us.reverse:=by
 induction h with
 |nil=>exact .nil
 |cons r t ih=>rw[List.reverse_cons,List.reverse_cons];exact Vals.append ih (.cons r .nil)
theorem Vals.rep{xs:List V}{us:List Value}(h:Vals xs us):∀k:Nat,Vals (List.replicate k xs).flatten (List.replicate k us).flatten
 |0=>.nil
 |k+1=>by
  rw[List.replicate_succ,List.replicate_succ,List.flatten_cons,List.flatten_cons];exact Vals.append h (Vals.rep h k)
theorem len_erase{α:Type}:∀(l:List α) (i:Nat),(l.eraseIdx i).length≤l.length
 |[],_=>Nat.le_refl _
 |_::_,0=>Nat.le_succ _
 |_::r,i+1=>Nat.succ_le_succ (len_erase r i)
theorem foldl_rep(its:List Value):∀(k:Nat) (acc:List Value),
  List.foldl (fun x1 x2=>x1++x2) acc.toArray (List.replicate k its.toArray)=(acc++(List.replicate k its).flatten).toArray
 |0,acc=>by simp
 |k+1,acc=>by
  have e:acc.toArray++its.toArray=(acc++its).toArray:=by simp
  have e2:(acc++its)++(List.replicate k its).flatten=acc++(List.replicate (k+1) its).flatten:=by
   rw[List.replicate_succ,List.flatten_cons,List.append_assoc]
  rw[←e2,←foldl_rep its k (acc++its),←e,List.replicate_succ,List.foldl_cons]
section
variable {X:Cx} {pins:List (Addr×Obj)} {σ:St} {H:Hp} {s:Shared} {l b:Addr} {xs ys zs:List V}
theorem Inv.lset{its its':List Value}{n:Nat}{f:Array Value->Array Value}{t':Nat}(I:Inv X pins σ H s)(hH:H l=some (.lst xs))
  (e:s.heap.get? l=some { cls:=.type "list",data:=.seq its.toArray n }) (hf:f its.toArray=its'.toArray) (hv:Vals ys its') (hz:ys.length≤sizeLine):
  Inv X pins σ (upd H l (.lst ys)) { s with heap:=s.heap.update l (Obj.mapSeq f),toks:=t' }:=by
 have q:=PySem.IsL.update e f;rw[hf] at q;refine I.write (x:=l) (e:=l) (by rw[hH];exact trivial) (.inl rfl) (fun b' u hb hu=>(Heap.get?_update_other s.heap (Obj.mapSeq f) (Ne.symm hb)).trans hu) ⟨_,q⟩ ?_;exact⟨hz,its',_,hv,q⟩
theorem Inv.lnew{its:List Value}{t':Nat}(I:Inv X pins σ H s)(hv:Vals ys its)(hz:ys.length≤sizeLine):
  Inv X pins σ (upd H s.heap.objs.size (.lst ys)) { s with heap:=s.heap.push { cls:=.type "list",data:=.seq its.toArray },toks:=t' }:=
 I.laid (fun _ _ q=>Heap.get?_push_of_some _ q) (Nat.le_refl _) ⟨hz,its,0,hv,Heap.get?_push_size _ rfl⟩
theorem Inv.fresh(I:Inv X pins σ H s):H s.heap.objs.size=none:=I.hok.fresh (Nat.le_refl _)
theorem Inv.lstM(I:Inv X pins σ H s)(hH:H l=some (.lst xs)):xs.length≤sizeLine/\∃(its:List Value) (n:Nat),Vals xs its/\xs.length=its.length/\s.heap.get? l=some { cls:=.type "list",data:=.seq its.toArray n }:=by
 obtain⟨z,its,n,r,e⟩:=I.hok l _ hH;exact⟨z,its,n,r,r.length,e⟩
theorem notLongL{n:Nat}(h:n≤sizeLine):Builtin.List.listTooLong n=false:=by
 unfold Builtin.List.listTooLong;exact decide_eq_false (by lia)
end
section
variable {X:Cx}
def rAppend:V->List V->Hp->VK->Prop:=fun x vs H Q=>∃l xs y,x=.ref l/\vs=[y]/\H l=some (.lst xs)/\xs.length<sizeLine/\Q .non (upd H l (.lst (xs++[y])))
theorem mt_append:MtM X "list.append" rAppend:=by
 intro pins s σ H x vs v us Q I rx rv h;obtain⟨l,xs,y,rfl,rfl,hH,hz,q⟩:=h;cases rx;obtain⟨u,rfl,ru⟩:=rv.one;obtain⟨z,its,n,r,hl,e⟩:=I.lstM hH;refine call_meets F.slot_list_append ⟨_,e,rfl⟩ F.entry_list_append (F.args_list_append_2 _ _) (PySem.list_append l its.toArray n u (by rw[List.size_toArray];lia)) ⟨e,?_⟩;refine⟨.non,_,I.lset (its':=its++[u]) hH e (by simp) (r.append (.cons ru .nil)) ?_,rfl,q⟩;rw[List.length_append,List.length_singleton];lia
def rExtend:V->List V->Hp->VK->Prop:=fun x vs H Q=>∃l b xs zs,x=.ref l/\vs=[.ref b]/\H l=some (.lst xs)/\H b=some (.lst zs)/\xs.length+zs.length≤sizeLine/\Q .non (upd H l (.lst (xs++zs)))
theorem mt_extend:MtM X "list.extend" rExtend:=by
 intro pins s σ H x vs v us Q I rx rv h;obtain⟨l,b,xs,zs,rfl,rfl,hH,hB,hz,q⟩:=h;cases rx;obtain⟨u,rfl,ru⟩:=rv.one;cases ru;obtain⟨z,its,n,r,hl,e⟩:=I.lstM hH;obtain⟨z2,its2,n2,r2,hl2,e2⟩:=I.lstM hB;have hsz:its.toArray.size+its2.toArray.size≤sizeLine:=by rw[List.size_toArray,List.size_toArray];lia
 have hlong:¬(!its.toArray.isEmpty&&Builtin.List.listTooLong (its.toArray.size+its2.toArray.size))=true:=by
  rw[notLongL hsz,Bool.and_false];exact Bool.false_ne_true
 refine call_meets F.slot_list_extend ⟨_,e,rfl⟩ F.entry_list_extend (F.args_list_extend_2 _ _)
  (AutoSeq1.list_extend_list_list_0 l its.toArray n b its2.toArray n2 hlong (by rw[List.size_toArray];lia) (by lia)) ⟨e,e2,?_⟩
 refine⟨.non,_,I.lset (its':=its++its2) hH e (by simp) (r.append r2) ?_,rfl,q⟩;rw[List.length_append];lia
def rPopAt:V->List V->Hp->VK->Prop:=fun x vs H Q=>∃l xs i k y,x=.ref l/\vs=[.int i]/\H l=some (.lst xs)/\-(2^63)≤i/\i<2^63/\seqIndex? i xs.length=some k/\xs[k]?=some y/\Q y (upd H l (.lst (xs.eraseIdx k)))
theorem mt_popAt:MtM X "list.pop" rPopAt:=by
 intro pins s σ H x vs v us Q I rx rv h;obtain⟨l,xs,i,k,y,rfl,rfl,hH,h1,h2,hk,hy,q⟩:=h;cases rx;obtain⟨u,rfl,ru⟩:=rv.one;obtain⟨t,rfl⟩:=ru;obtain⟨z,its,n,r,hl,e⟩:=I.lstM hH;obtain⟨w,hw,rw'⟩:=r.get hy;refine call_meets F.slot_list_pop ⟨_,e,rfl⟩ F.entry_list_pop (F.args_list_pop_2 _ _)
  (MeetsSeq.list_pop_at l its.toArray n i t k w (fitsIndex_both h1 h2) (by rw[List.size_toArray,←hl];exact hk) (by rw[←Array.getElem?_toList];exact hw) (by rw[List.size_toArray];lia)) ⟨e,?_⟩
 refine⟨y,_,I.lset (its':=its.eraseIdx k) hH e ?_ (r.eraseIdx k) ?_,rw',q⟩
 ·show its.toArray.eraseIdxIfInBounds k=(its.eraseIdx k).toArray;rw[List.eraseIdxIfInBounds_toArray]
 ·have:=len_erase xs k;lia
def rCat:R2:=fun x y H Q=>∃l b xs zs,x=.ref l/\y=.ref b/\H l=some (.lst xs)/\H b=some (.lst zs)/\xs.length+zs.length≤sizeLine/\∀p,H p=none->Q (.ref p) (upd H p (.lst (xs++zs)))
theorem op_cat:OpR X (binaryOp .Add) rCat:=by
 intro pins s σ H x y v u Q I rx ry h;obtain⟨l,b,xs,zs,rfl,rfl,hH,hB,hz,q⟩:=h;cases rx;cases ry;obtain⟨z,its,n,r,hl,e⟩:=I.lstM hH;obtain⟨z2,its2,n2,r2,hl2,e2⟩:=I.lstM hB;refine PySem.P.add_list e e2 ?_ (by rw[List.size_toArray,List.size_toArray];lia);have ea:its.toArray++its2.toArray=(its++its2).toArray:=by simp
 rw[ea];exact⟨.ref _,_,I.lnew (t':=s.toks) (r.append r2) (by rw[List.length_append];lia),rfl,q _ I.fresh⟩
def rRep:R2:=fun x y H Q=>∃l k xs,x=.ref l/\y=.int k/\H l=some (.lst xs)/\-(2^63)≤k/\k<2^63/\xs.length*k.toNat≤sizeLine ∧
 ∀p,H p=none->Q (.ref p) (upd H p (.lst (List.replicate k.toNat xs).flatten))
theorem len_rep{α:Type}(xs:List α)(k:Nat):(List.replicate k xs).flatten.length=k*xs.length:=by
 induction k with
 |zero=>simp
 |succ k ih=>rw[List.replicate_succ,List.flatten_cons,List.length_append,ih,Nat.succ_mul,Nat.add_comm]
theorem op_rep:OpR X (binaryOp .Mult) rRep:=by
 intro pins s σ H x y v u Q I rx ry h;obtain⟨l,k,xs,rfl,rfl,hH,h1,h2,hz,q⟩:=h;cases rx;obtain⟨t,rfl⟩:=ry;obtain⟨z,its,n,r,hl,e⟩:=I.lstM hH;have hlen:its.toArray.size*k.toNat≤sizeLine:=by rw[List.size_toArray,←hl];exact hz
 have hcap:¬its.toArray.size*k.toNat > (2^63-1) / 8:=by
  have:(sizeLine:Nat)≤(2^63-1) / 8:=by decide
  lia
 have hfit:¬(!Builtin.List.listFitsIndex k)=true:=by
  rw[fitsIndex_both h1 h2];exact Bool.false_ne_true
 have hlong:¬Builtin.List.listTooLong (its.toArray.size*k.toNat)=true:=by
  rw[notLongL hlen];exact Bool.false_ne_true
 have hnew:List.foldl (fun x1 x2=>x1++x2) #[] (List.replicate (if its.toArray.isEmpty=true then 0 else k.toNat) its.toArray)=(List.replicate k.toNat its).flatten.toArray:=by
  have f0:∀m:Nat,List.foldl (fun x1 x2=>x1++x2) #[] (List.replicate m its.toArray)=(List.replicate m its).flatten.toArray:=fun m=>by
   have:=foldl_rep its m [];rw[List.nil_append] at this;exact this
  rw[f0];cases its with
  |nil=>simp
  |cons a r'=>rw[if_neg (by simp)]
 refine wpAny_binaryOp_repeat_ref (T:="list") (U:="int") (by decide) ⟨_,e,rfl⟩ (fun s'=>typeIs_int s' k t) noFill_list_mul F.fills_int_mul F.slot_int_rmul repeat_list F.slot_int_index.lookup
  (call_meets F.slot_int_rmul (typeIs_int s k t) F.entry_int_rmul (F.args_int_rmul_2 _ _) (int___rmul___int_list k t l its.toArray n)
   ⟨e,rfl,⟨_,e,rfl⟩,call_meets F.slot_list_mul ⟨_,e,rfl⟩ F.entry_list_mul (F.args_list_mul_2 _ _) (AutoListH.list___mul___list_int_3 l its.toArray n k t hfit hcap hlong) ⟨e,?_⟩⟩)
 rw[hnew];exact⟨.ref _,_,I.lnew (t':=s.toks) (r.rep k.toNat) (by rw[len_rep,Nat.mul_comm];exact hz),rfl,q _ I.fresh⟩
end
end L2
namespace Att
open PySem PySem.W PySem.Calls PyProof.Rows
theorem ints_of_wellAll{P:Params}{h:Heap}:∀(ns:List Int) (vs:List Value),WellAll P h vs (ns.map WData.int)->IntsAre vs ns:=by
 intro ns
 induction ns with
 |nil=>
  intro vs w;rw[List.map_nil] at w;cases w;exact .nil
 |cons n ns ih=>
  intro vs w;rw[List.map_cons] at w;cases w with
  |cons a b=>
   cases a;exact .cons _ _ (ih _ b)
theorem script_of{l:OpenLaw}{n:Nat}(hn:l.most=some n){P:Params}{h:Heap}{args:List WData}{vals:List Value}
  (hpre:l.row.toRowW.claim.pre args=true) (hwl:WellAll P h vals args):
  ∃a vs ns,vals=[Value.ref a]/\args=[WData.list (ns.map WData.int)]/\h.get? a=some { cls:=.type "list",data:=.seq vs.toArray }/\IntsAre vs ns/\ns.length≤n:=by
 have hsh:WShape.hasAll [] args [.list .int]=true:=(pre_splitW hpre).1;have hc:l.pre.holds [] { args:=args }=true:=(pre_splitW hpre).2;obtain⟨d,r,rfl,h1,h2⟩:=hasAllW_cons hsh;obtain rfl:=hasAllW_nil h2;obtain⟨xs,rfl,h3⟩:=hasW_list h1;obtain⟨ns,rfl⟩:=items_int h3;have hlen:ns.length≤n:=by
  unfold OpenLaw.pre at hc;have h4:(WTm.not (.lt (.lit (.int (n:Int))) (.len (.arg 0)))).holds [] { args:=[.list (ns.map .int)]}=true:=by
   have h4:=(holds_andW hc).1;rw[hn] at h4;exact h4
  have h5:=condW_of h4 (w_not (w_lt w_lit (w_len_list (w_arg rfl))));rw[List.length_map] at h5;refine Nat.le_of_not_lt fun q=>?_;have q':(n:Int)<((ns.length:Nat):Int):=by lia
  first
   | (rw[decide_eq_true q'] at h5;exact absurd h5 (by decide))
   | (simp at h5;lia)
 cases hwl with
 |cons w1 w2=>
  cases w2;cases w1 with
  |list ho hall=>exact⟨_,_,ns,rfl,rfl,ho,ints_of_wellAll ns _ hall,hlen⟩
theorem post_true(l:OpenLaw)(args:List WData):l.row.toRowW.claim.post args (.bool true) args=true:=
 postW_of (r:=l.row.toRowW) (X:=(true==true))
  (show WShape.has [] (.bool true) .bool=true by first|rfl|decide|simp[WShape.has,WShape.arms,WShape.armsAll])
  (show (WTm.eq .res (.lit (.bool true))).value [] { args:=args,res:=some (.bool true),after:=args }=some (.bool (true==true)) from w_eq_bool (w_res rfl) w_lit) rfl
theorem attach_call{l:OpenLaw}{n:Nat}{q:Program}{loose:List Str}{XP:(Str->Option Value)->Heap->Prop}{YP:World->Heap->Prop}{d:DefRec}
  (hn:l.most=some n) (hdf:d.params.defaults=[])
  (call:∀(w:World) (s₀ s₁:Shared) (mg mb:Str->Option Value) (fa:Addr) (o:Obj) (pm cd doc:Value) (a:Addr) (vs:List Value) (ns:List Int),
   Ground q loose [] XP w s₀ mg mb s₁.heap->YP w s₁.heap ->
   s₁.heap.get? fa=some o->o.data=.func (docDef d.name d.params d.body d.scope pm cd doc)->s₁.heap.CodeRec cd d.name->mg d.name=some (.ref fa) ->
   s₁.heap.get? a=some { cls:=.type "list",data:=.seq vs.toArray }->IntsAre vs ns->ns.length≤n->s₁.gens = #[] ->
   codeAny (model l.prog w) callerA (.call (.ref fa) ⟨[.ref a],[]⟩) (fun r s'=>r=.ok (.ret (.bool true))/\OldK s₁.heap s'.heap/\s'.os=s₁.os/\AllBare s'.gens) s₁):
  WalkO q loose XP YP l.row.toRowW d [] (fun f vs=>PySem.call f vs):=by
 intro w s₀ s₁ mg mb G Y fa o pm cd doc dV kV ho hd hcd hD hmg hg args vals as hpre hlay hrd hwl hlo;obtain rfl:dV=.none:=Dflts.none hD hdf;obtain rfl:kV=.none:=Dflts.noKw hD;obtain⟨a,vs,ns,rfl,rfl,hobj,hints,hlen⟩:=script_of hn hpre hwl;refine enter_call (codeAny_mono (call w s₀ s₁ mg mb fa o pm cd doc a vs ns G Y ho (fd_plain hd) hcd hmg hobj hints hlen hg) fun r s' hq=>?_);obtain⟨rfl,h2,h3,h4⟩:=hq;exact⟨.inl ⟨.bool true,.bool true,[],rfl,fun _=>rfl,.bool true,post_true l _,fun _=>⟨List.Pairwise.nil,fun _ hm=>(nomatch hm)⟩⟩,h2,h3,h4⟩
end Att
namespace L2
open PySem PySem.Spec PyProof.Rows
theorem vals_ints:∀{vs:List Value} {ns:List Int},IntsAre vs ns->Vals (ns.map V.int) vs
 |_,_,.nil=>.nil
 |_,_,.cons n t h=>.cons ⟨t,rfl⟩ (vals_ints h)
def Only(H:Hp):Prop:=∀b,H b=none∨∃o xs,H b=some (.frz o (.lst xs))
theorem law_call{P:Program}{w:World}{K:PySem.W.Frag}{mg mb:Str->Option Value}{CX:CXT}{k:Nat}{fa a:Addr}{fd:FuncData}{x:Str}{sp:Sp}{s₁:Shared}{vs:List Value}{ns:List Int}
  (KX:K.In s₁.heap) (hns:s₁.heap.Ns mainGlobals mg) (hb:s₁.heap.Ns builtinsNs mb) (hbb:∀x:Str,x≠"__name__"->mb x=bootBuiltins x) (hlim:s₁.heap.NoLimit) (hg:s₁.gens = #[])
  (ha:s₁.heap.get? a=some { cls:=.type "list",data:=.seq vs.toArray }) (hi:IntsAre vs ns) (hl:ns.length≤sizeLine) (hr:Room k callerA)
  (F:∀base:Heap,K.In base->base.Ns mainGlobals mg->FnOk P w K mg base CX k fa fd [x] sp) (hbind:∀(s:Shared) (u:Value),BindsTo s fd ⟨[u],[]⟩ [(x,u)])
  (hsp:∀H:Hp,Only H->SqL K H a (ns.map V.int)->sp [.ref a] H (fun v _=>v=.bl true) fun _ _ _=>False)
  (hCX:∀H e s',CX [] H s₁ (fun _ _ _=>False) e s'->False):
  codeAny (model P w) callerA (.call (.ref fa) ⟨[.ref a],[]⟩) (fun r s'=>r=.ok (.ret (.bool true))/\OldK s₁.heap s'.heap/\s'.os=s₁.os/\AllBare s'.gens) s₁:=by
 have rv:=vals_ints hi;have lenV:=hi.length
 -- from an abstract heap in which nothing but the script may be tracked
 have core:∀H:Hp,Only H->SqL K H a (ns.map V.int)->HOk P w H s₁.heap->(∀b,H b≠none->b=a)->(H a≠none->K.lookup a=none) ->
   codeAny (model P w) callerA (.call (.ref fa) ⟨[.ref a],[]⟩) (fun r s'=>r=.ok (.ret (.bool true))/\OldK s₁.heap s'.heap/\s'.os=s₁.os/\AllBare s'.gens) s₁:=by
  intro H hO hS hok hA hK;have base_of:∀{b:Addr} {o:Obj},s₁.heap.get? b=some o->H b=none->(hidT s₁.heap H).get? b=some o:=fun e n=>hidT_get e n;have noA:∀{b:Addr} {o:Obj} {es:Array DictEntry} {ep:Nat},s₁.heap.get? b=some o->o.data=.dict es ep->H b=none:=fun {b o es ep} e d=>by
   cases q:H b with
   |none=>rfl
   |some u=>
    have e':b=a:=hA b (by rw[q];simp);subst e';rw[ha] at e;cases e;have d':Data.seq vs.toArray _=Data.dict es ep:=d;cases d'
  have nsK:∀{b:Addr} {m:Str->Option Value},s₁.heap.Ns b m->(hidT s₁.heap H).Ns b m:=fun {b m} ⟨o,es,ep,e,d,r⟩=>⟨o,es,ep,base_of e (noA e d),d,r⟩;have hKb:K.In (hidT s₁.heap H):=fun b o e=>base_of (KX b o e) (by
   cases q:H b with
   |none=>rfl
   |some u=>
    have e':b=a:=hA b (by rw[q];simp);subst e';rw[hK (by rw[q];simp)] at e;cases e)
  have hM:Mod K mg (hidT s₁.heap H):=⟨hKb,nsK hns,⟨mb,nsK hb,hbb⟩,let ⟨mc,h1,h2⟩:=hlim;⟨mc,nsK h1,h2⟩⟩
  have e0:Env0 P w K mg (hidT s₁.heap H) callerA [] s₁ H:=⟨rfl,hM,fun b o e=>of_hidT e,Nat.le_of_eq (hidT_size _ _),trivial,fun b hb=>absurd (show b∈([]:List Addr) from hb) (by simp),hok,.of_eq hg⟩;refine codeAny_mono ((F _ hKb (nsK hns)).run callerA [] s₁ H ⟨[.ref a],[]⟩ [.ref a] [.ref a] _ _ hr e0 (hbind s₁ (.ref a)) (.cons rfl .nil) (hsp H hO hS)) fun r s' h=>?_;cases r with
  |error e=>exact (hCX H e s' h).elim
  |ok fl=>
   cases fl with
   |next=>exact False.elim h
   |brk=>exact False.elim h
   |cont=>exact False.elim h
   |ret u=>
    obtain⟨v,H',os,bare,un,hok',r',q⟩:=h;have q':v=.bl true:=q;subst q';obtain rfl:u=Value.bool true:=r';refine⟨rfl,OldK.of_keep fun b o e=>?_,os,bare⟩;cases q:H b with
    |none=>exact un.keep b o e q (by intro z;exact absurd (show b∈([]:List Addr) from z) (by simp)) (by simp)
    |some u=>
     rcases hO b with z|⟨ob,xs,z⟩
     ·rw[q] at z;cases z
     ·have z2:=un.frzs b ob _ z;obtain⟨e1,_⟩:=hok b _ z;obtain⟨e2,_⟩:=hok' b _ z2;rw[e] at e1;cases e1;exact e2
 cases hk:K.lookup a with
 |some o=>
  -- the script is one of the module's own objects
  have e:=KX a o hk;rw[ha] at e;cases e;refine core (fun _=>none) (fun _=>.inl rfl) (.inr ⟨_,vs.toArray,_,hk,rfl,rfl,rfl,by rw[List.size_toArray,lenV];exact hl,by simpa using rv⟩) (fun b u z=>by have z':(none:Option HO)=some u:=z;cases z') (fun b z=>absurd rfl z) fun z=>absurd rfl z
 |none=>
  refine core (fun b=>if b=a then some (.frz { cls:=.type "list",data:=.seq vs.toArray } (.lst (ns.map V.int))) else none) (fun b=>?_) (.inl (.inr ⟨{ cls:=.type "list",data:=.seq vs.toArray },if_pos rfl⟩)) (fun b u z=>?_) (fun b z=>?_) fun _=>hk
  ·by_cases hb:b=a
   ·exact .inr ⟨_,_,if_pos hb⟩
   ·exact .inl (if_neg hb)
  ·by_cases hb:b=a
   ·have z':=(if_pos hb).symm.trans z;cases z';subst hb;exact⟨ha,by rw[List.length_map];exact hl,vs,_,rv,ha⟩
   ·have z':=(if_neg hb).symm.trans z;cases z'
  ·by_cases hb:b=a
   ·exact hb
   ·exact absurd (if_neg hb) z
end L2
namespace L2
open PySem PySem.Spec PyProof.Rows
theorem walk_of{l:PySem.W.OpenLaw}{n k:Nat}{q:Program}{loose:List Str}{XP:(Str->Option Value)->Heap->Prop}{YP:World->Heap->Prop}{d:DefRec}{K:Params->PySem.W.Frag}{CX:World->CXT}{sp:World->Sp}{x:Str}
  (hn:l.most=some n) (hn2:n≤sizeLine) (hdf:d.params.defaults=[]) (hr:Room k callerA)
  (hY:∀(w:World) (h:Heap),YP w h->(K w.params).In h)
  (F:∀(w:World) (mg:Str->Option Value) (fa:Addr) (h:Heap),(K w.params).In h->h.Ns mainGlobals mg->mg d.name=some (.ref fa) ->
   ∃fd:FuncData,(∀(s:Shared) (u:Value),BindsTo s fd ⟨[u],[]⟩ [(x,u)]) ∧
    ∀base:Heap,(K w.params).In base->base.Ns mainGlobals mg->FnOk l.prog w (K w.params) mg base (CX w) k fa fd [x] (sp w))
  (hsp:∀(w:World) (H:Hp) (a:Addr) (ns:List Int),ns.length≤n->Only H->SqL (K w.params) H a (ns.map V.int)->sp w [.ref a] H (fun v _=>v=.bl true) fun _ _ _=>False)
  (hCX:∀(w:World) (H:Hp) (s:Shared) (e:Value) (s':Shared),CX w [] H s (fun _ _ _=>False) e s'->False):
  PySem.W.WalkO q loose XP YP l.row.toRowW d [] (fun f vs=>PySem.call f vs):=by
 refine Att.attach_call hn hdf fun w s₀ s₁ mg mb fa o pm cd doc a vs ns G Y ho hd hcd hmg hobj hints hlen hg=>?_;have KX:=hY w _ Y;obtain⟨fd,hb,hF⟩:=F w mg fa _ KX G.T.g hmg;exact law_call KX G.T.g G.T.b G.T.builtins G.T.nolimit hg hobj hints (Nat.le_trans hlen hn2) hr hF hb (fun H hO hS=>hsp w H a ns hlen hO hS) fun H e s'=>hCX w H s₁ e s'
end L2
/- THE LAST THEOREM (shape;LID,My.* are yours):
  My.Adr: a structure of the addresses that your layer names (classes,functions);My.Txt K t: a structure (Prop) of the equations over K;
  My.txt_mk:{K} {implicit addresses ..} (e1:nsIn K mainGlobals "law" = some (some (.ref f))) (e2:K.lookup f=some ⟨oc,od,.func (fnOf "law" "law" params body scope dV kV doc pm an cdv ct),sl⟩) (e3:codeIn K cdv "law" = true) ..:∃t,My.Txt K t
set_option maxRecDepth 100000 in
set_option maxHeartbeats 0 in
theorem PySem.Challenge.cw_LID_holds : PySem.Challenge.rw_LID.Holds := by
 w_on;o_law;k_head;(case hw=>w_witness2)
 k_fill
 refine L2.walk_of (l:=PySem.Challenge.rw_LID) (n:=63) (k:=40) (x:="script") (CX:=fun w=>..) (sp:=fun _=>My.sp_law) rfl (by decide) rfl ⟨rfl,by decide,by decide⟩ (fun w h Y=>PySem.W.kIn_of Y) ?F ?S ?C
 case F=>
  intro w mg fa h KX G hmg
  have T:∃t,My.Txt (L2.KOf KX) t:=by
   dsimp only[L2.KOf]                          -- K must stand as «<heap const> w.params» for k_is
   refine' My.txt_mk ?e1 ?e2 ?e3 ..
   (case e1=>PySem.W.k_is)                    -- in the order: a name -> its address -> its object -> its parts
   (case e2=>PySem.W.k_is)
   ..
  obtain⟨t,T⟩:=T
  have e0:=hmg.symm.trans (PySem.W.mg_of KX G T.law)
  cases e0                                       -- fa is the law's own address
  exact⟨_,fun s u=>.of_eq rfl,fun base kb nb=>My.law_fn T kb nb⟩     -- if «.of_eq rfl» comes too early: refine' ⟨_,?b,fun base kb nb=>My.law_fn T kb nb⟩;exact fun s u=>.of_eq rfl
 case S=>exact fun w H a ns hl hO hS=>..
 case C=>exact ..
(the tactic k_is has no namespace: write k_is) -/
namespace L2
open PySem PySem.Spec PyProof.Rows
def defArgs(s:Stmt):Arguments:=match s with
 |.FunctionDef _ a _ _ _ _ _ _ _ _=>a
 |_=>{ posonlyargs:=[],args:=[],vararg:=none,kwonlyargs:=[],kw_defaults:=[],kwarg:=none,defaults:=[]}
def defBody(s:Stmt):List Stmt:=match s with
 |.FunctionDef _ _ b _ _ _ _ _ _ _=>b
 |_=>[]
def defScope(s:Stmt):Scope:=match s with
 |.FunctionDef _ _ _ _ _ _ sc _ _ _=>sc
 |_=>{ kind:=.function,names:=[],isGenerator:=false,isCoroutine:=false }
abbrev CX0:CXT:=fun _ _ _ _ _ _=>False
abbrev E0:XK:=fun _ _ _=>False
theorem pass0{X:Cx}:Passes CX0 X E0:=fun _ _ _ _ _ _ _ h=>h.elim
structure Fun(K:PySem.W.Frag)(x qual:Str)(st:Stmt)(f:Addr)(fd:FuncData):Prop where
 ex:∃(oc:Value) (od:Option Addr) (kV doc pm:Value) (an:Option Addr) (cdv ct:Value) (osl:Array (Option Value)),
  fd=PySem.W.fnOf x qual (defArgs st) (defBody st) (defScope st) .none kV doc pm an cdv ct/\K.lookup f=some ⟨oc,od,.func fd,osl⟩/\PySem.W.codeIn K cdv qual=true
 kp:PySem.W.keepIn K (.ref f)=true
section
variable {P:Program} {w:World} {K:PySem.W.Frag} {mg:Str->Option Value} {base:Heap}
theorem Fun.ok{x qual:Str}{st:Stmt}{f:Addr}{fd:FuncData}{N ps:List Str}{k:Nat}{sp:Sp}(F:Fun K x qual st f fd)(S:FnScope N ps (defScope st))(len:∀vs H Q E,sp vs H Q E->vs.length=ps.length)
  (hbody:∀(cdv:Value) (A:Around) (outer:List Env) (s:Shared) (H:Hp) (vs:List V) (Q:VK) (E:XK),Room k (A.deeper (envOfC qual (defScope st) s.heap.objs.size f cdv))->sp vs H Q E ->
   ∃t,PSs (cxOf CX0 P w K mg base N qual (defScope st) f cdv A outer s H E).nox (defBody st) t/\t { nx:=fun _ H'=>Q .non H',rt:=Q } (start N vs) H):FnOk P w K mg base CX0 (k+1) f fd ps sp:=by
 obtain⟨oc,od,kV,doc,pm,an,cdv,ct,osl,rfl,lk,hcd⟩:=F.ex;refine fn_of lk hcd S len fun A outer s H vs Q E hr hsp=>?_;obtain⟨t,h,q⟩:=hbody cdv A outer s H vs Q E hr hsp;exact⟨t,h.nox,q⟩
theorem Fun.binds{x qual:Str}{st:Stmt}{f:Addr}{fd:FuncData}{ps:List Str}(F:Fun K x qual st f fd)
  (h:∀(kV doc pm:Value) (an:Option Addr) (cdv ct:Value) (us:List Value),us.length=ps.length->bindArgs (PySem.W.fnOf x qual (defArgs st) (defBody st) (defScope st) .none kV doc pm an cdv ct) ⟨us,[]⟩=pure (ps.zip us)):Binds K fd ps []:=by
 obtain⟨oc,od,kV,doc,pm,an,cdv,ct,osl,rfl,lk,hcd⟩:=F.ex;exact .all (h kV doc pm an cdv ct)
theorem fun_mk{x qual:Str}{st:Stmt}{f:Addr}{oc:Value}{od an:Option Addr}{osl:Array (Option Value)}{kV doc pm cdv ct:Value}(l:K.lookup f=some ⟨oc,od,.func (PySem.W.fnOf x qual (defArgs st) (defBody st) (defScope st) .none kV doc pm an cdv ct),osl⟩)
  (c:PySem.W.codeIn K cdv qual=true) (k:PySem.W.keepIn K (.ref f)=true):Fun K x qual st f (PySem.W.fnOf x qual (defArgs st) (defBody st) (defScope st) .none kV doc pm an cdv ct):=⟨⟨oc,od,kV,doc,pm,an,cdv,ct,osl,rfl,l,c⟩,k⟩
end
section
variable {X:Cx}
theorem pv(i:Nat){x:Str}{pos:Pos}(hN:X.N[i]?=some x:=by rfl)(hv:Vis X.env.scope x:=by first|exact Or.inl rfl|exact Or.inr (Or.inl rfl)|exact Or.inr (Or.inr rfl))(hd:(x==("__debug__":Str))=false:=by decide)
  (hcd:(x==("__classdict__":Str))=false:=by decide):PE X (.Name x pos) (tVar i):=pe_var hN hv hd hcd
end
end L2
namespace L3
open PySem PySem.Spec PyProof.Rows L2
inductive D where
 |non|bl (b:Bool)|int (i:Int)|str (x:Str)|tup (xs:List D)|scr (xs:List D)|obj (a:Addr)|dc (a:Addr)
def SqF(K:PySem.W.Frag)(H:Hp)(a:Addr)(xs:List V):Prop:=
 (∃o,H a=some (.frz o (.lst xs))) ∨
  ∃(o:Obj) (its:Array Value) (n:Nat),K.lookup a=some o/\o.cls=.type "list"/\o.dict=none/\o.data=.seq its n/\its.size≤sizeLine/\Vals xs its.toList
theorem SqF.l{K:PySem.W.Frag}{H:Hp}{a:Addr}{xs:List V}(h:SqF K H a xs):SqL K H a xs:=by
 rcases h with h|h
 ·exact .inl (.inr h)
 ·exact .inr h
mutual
def Hv(K:PySem.W.Frag)(H:Hp):D->V->Prop
 |.non,v=>v=.non
 |.bl b,v=>v=.bl b
 |.int i,v=>v=.int i
 |.str x,v=>v=.str x
 |.tup ds,v=>∃a vs,v=.ref a/\SqT K H a vs/\Hvs K H ds vs
 |.scr ds,v=>∃a vs,v=.ref a/\SqF K H a vs/\Hvs K H ds vs
 |.obj a,v=>v=.ref a
 |.dc a,v=>v=.ref a/\∃ob φ,H a=some (.frz ob (.ext φ))/\ob.cls=.type "dict"
def Hvs(K:PySem.W.Frag)(H:Hp):List D->List V->Prop
 |[],vs=>vs=[]
 |d::ds,vs=>∃v r,vs=v::r/\Hv K H d v/\Hvs K H ds r
end
inductive GO where
 |lst (ds:List D)|pen|dct
 |gen (R:PySem.W.Frag->Addr->Hp->Prop)
def GO.plain:GO->Prop
 |.gen _=>False
 |_=>True
abbrev Gp:=Addr->Option GO
def upd3(G:Gp)(a:Addr)(o:GO):Gp:=fun b=>if b=a then some o else G b
theorem upd3_same{G:Gp}{a:Addr}{o:GO}:upd3 G a o a=some o:=by simp[upd3]
theorem upd3_ne{G:Gp}{a b:Addr}{o:GO}(h:b≠a):upd3 G a o b=G b:=by simp[upd3,h]
theorem upd3_old{G:Gp}{a b:Addr}{o u:GO}(hn:G a=none)(h:G b=some u):upd3 G a o b=some u:=by
 rw[upd3_ne]
 ·exact h
 ·intro e;rw[e,hn] at h;cases h
theorem upd3_upd3{G:Gp}{a:Addr}{o u:GO}:upd3 (upd3 G a o) a u=upd3 G a u:=by
 funext b;unfold upd3;by_cases h:b=a
 ·rw[if_pos h,if_pos h]
 ·rw[if_neg h,if_neg h,if_neg h]
def PenOk(a b c:Int):Prop:=0≤a/\0≤c/\c<2147483647
def GOk(K:PySem.W.Frag)(H:Hp)(a:Addr):GO->Prop
 |.lst ds=>∃vs,H a=some (.lst vs)/\Hvs K H ds vs
 |.pen=>∃i j k,H a=some (.lst [.int i,.int j,.int k])/\PenOk i j k
 |.dct=>H a=some (.ext fun h=>∃o,h.get? a=some o/\o.cls=.type "dict")
 |.gen R=>R K a H/\(∃o,H a=some o/\(∀xs,o≠.tup xs)/\∀ob u,o≠.frz ob u)/\∀H1 H2:Hp,(∀b xs,H1 b=some (.tup xs)->H2 b=some (.tup xs))->(∀b o u,H1 b=some (.frz o u)->H2 b=some (.frz o u))->H2 a=H1 a->R K a H1->R K a H2
def RepG(K:PySem.W.Frag)(G:Gp)(H:Hp):Prop:=∀a o,G a=some o->GOk K H a o
structure Ext(H H':Hp):Prop where
 tup:∀b xs,H b=some (.tup xs)->H' b=some (.tup xs)
 frz:∀b o u,H b=some (.frz o u)->H' b=some (.frz o u)
theorem Ext.refl(H:Hp):Ext H H:=⟨fun _ _ h=>h,fun _ _ _ h=>h⟩
theorem Ext.trans{H H1 H2:Hp}(a:Ext H H1)(b:Ext H1 H2):Ext H H2:=⟨fun c x h=>b.tup c x (a.tup c x h),fun c o u h=>b.frz c o u (a.frz c o u h)⟩
structure Step(H:Hp)(G:Gp)(H':Hp)(G':Gp):Prop where
 fr:∀a o,H a=some o->G a=none->H' a=some o
 trk:∀a,H a≠none->H' a≠none
 new:∀a,G a=none->G' a≠none->H a=none
theorem Step.refl(H:Hp)(G:Gp):Step H G H G:=⟨fun _ _ h _=>h,fun _ h=>h,fun _ h1 h2=>absurd h1 h2⟩
theorem Step.trans{H H1 H2:Hp}{G G1 G2:Gp}(a:Step H G H1 G1)(b:Step H1 G1 H2 G2):Step H G H2 G2 where
 fr:=fun c o h n=>b.fr c o (a.fr c o h n) (by
  refine Classical.byContradiction fun q=>?_;rw[a.new c n q] at h;cases h)
 trk:=fun c h=>b.trk c (a.trk c h)
 new:=fun c n q=>by
  by_cases h1:G1 c=none
  ·have h2:=b.new c h1 q;refine Classical.byContradiction fun z=>?_;exact a.trk c z h2
  ·exact a.new c n h1
def Sub(G' G:Gp):Prop:=∀a o,G' a=some o->G a=some o
theorem Sub.refl(G:Gp):Sub G G:=fun _ _ h=>h
theorem Sub.trans{A B C:Gp}(a:Sub A B)(b:Sub B C):Sub A C:=fun x o h=>b x o (a x o h)
theorem Sub.upd{G:Gp}{a:Addr}{o:GO}(h:G a=none):Sub G (upd3 G a o):=fun _ _ e=>upd3_old h e
theorem Sub.of_none{G' G:Gp}(s:Sub G' G){a:Addr}(h:G a=none):G' a=none:=by
 cases e:G' a with
 |none=>rfl
 |some o=>
  rw[s a o e] at h;cases h
structure New(G:Gp)(p:Addr)(o:GO)(G':Gp):Prop where
 non:G p=none
 sub:Sub G G'
 at_:G' p=some o
theorem New.mk'{G:Gp}{p:Addr}{o:GO}(h:G p=none):New G p o (upd3 G p o):=⟨h,Sub.upd h,upd3_same⟩
theorem Step.sub{H:Hp}{G G':Gp}(s:Sub G' G):Step H G H G':=⟨fun _ _ h _=>h,fun _ h=>h,fun a n q=>by
 exact absurd (s.of_none n) q⟩
section
variable {K:PySem.W.Frag} {H H':Hp} {G G':Gp}
theorem RepG.sub(R:RepG K G H)(s:Sub G' G):RepG K G' H:=fun a o e=>R a o (s a o e)
theorem GOk.mut{a:Addr}{o:GO}(h:GOk K H a o):∃o,H a=some o/\(∀xs,o≠.tup xs)/\∀ob u,o≠.frz ob u:=by
 cases o with
 |lst ds=>obtain⟨vs,e,_⟩:=h;exact⟨_,e,fun _=>nofun,fun _ _=>nofun⟩
 |pen=>obtain⟨i,j,k,e,_⟩:=h;exact⟨_,e,fun _=>nofun,fun _ _=>nofun⟩
 |dct=>exact⟨_,h,fun _=>nofun,fun _ _=>nofun⟩
 |gen R=>exact h.2.1
theorem RepG.outT(R:RepG K G H){a:Addr}{xs:List V}(e:H a=some (.tup xs)):G a=none:=by
 cases q:G a with
 |none=>rfl
 |some u=>
  obtain⟨o,z,h1,_⟩:=(R a u q).mut;rw[e] at z;exact absurd (Option.some.inj z).symm (h1 xs)
theorem RepG.outF(R:RepG K G H){a:Addr}{ob:Obj}{u:HO}(e:H a=some (.frz ob u)):G a=none:=by
 cases q:G a with
 |none=>rfl
 |some g=>
  obtain⟨o,z,_,h1⟩:=(R a g q).mut;rw[e] at z;exact absurd (Option.some.inj z).symm (h1 ob u)
theorem RepG.free(R:RepG K G H){a:Addr}(e:H a=none):G a=none:=by
 cases q:G a with
 |none=>rfl
 |some u=>
  obtain⟨o,z,_⟩:=(R a u q).mut;rw[e] at z;cases z
theorem Step.ext(S:Step H G H' G')(R:RepG K G H):Ext H H':=⟨fun b xs h=>S.fr b _ h (R.outT h),fun b o u h=>S.fr b _ h (R.outF h)⟩
theorem SqT.ext{a:Addr}{xs:List V}(E:Ext H H')(h:SqT K H a xs):SqT K H' a xs:=by
 rcases h with (h|⟨o,h⟩)|h
 ·exact .inl (.inl (E.tup _ _ h))
 ·exact .inl (.inr ⟨o,E.frz _ _ _ h⟩)
 ·exact .inr h
theorem SqF.ext{a:Addr}{xs:List V}(E:Ext H H')(h:SqF K H a xs):SqF K H' a xs:=by
 rcases h with⟨o,h⟩|h
 ·exact .inl ⟨o,E.frz _ _ _ h⟩
 ·exact .inr h
mutual
theorem Hv.ext(E:Ext H H'):∀{d:D} {v:V},Hv K H d v->Hv K H' d v
 |.non,_,h=>by simpa [Hv] using h
 |.bl _,_,h=>by simpa [Hv] using h
 |.int _,_,h=>by simpa [Hv] using h
 |.str _,_,h=>by simpa [Hv] using h
 |.obj _,_,h=>by simpa [Hv] using h
 |.dc a,v,h=>by
  unfold Hv at h ⊢;obtain⟨e,ob,φ,q,c⟩:=h;exact⟨e,ob,φ,E.frz _ _ _ q,c⟩
 |.tup ds,v,h=>by
  unfold Hv at h ⊢;obtain⟨a,vs,e,q,r⟩:=h;exact⟨a,vs,e,SqT.ext E q,Hvs.ext E r⟩
 |.scr ds,v,h=>by
  unfold Hv at h ⊢;obtain⟨a,vs,e,q,r⟩:=h;exact⟨a,vs,e,SqF.ext E q,Hvs.ext E r⟩
theorem Hvs.ext(E:Ext H H'):∀{ds:List D} {vs:List V},Hvs K H ds vs->Hvs K H' ds vs
 |[],_,h=>by simpa [Hvs] using h
 |d::ds,vs,h=>by
  unfold Hvs at h ⊢;obtain⟨v,r,e,q,z⟩:=h;exact⟨v,r,e,Hv.ext E q,Hvs.ext E z⟩
end
theorem Hvs.nil:Hvs K H [] []:=by simp[Hvs]
theorem Hvs.cons{d:D}{v:V}{ds:List D}{vs:List V}(h:Hv K H d v)(r:Hvs K H ds vs):Hvs K H (d::ds) (v::vs):=by
 unfold Hvs;exact⟨v,vs,rfl,h,r⟩
theorem Hvs.inv{d:D}{ds:List D}{vs:List V}(h:Hvs K H (d::ds) vs):∃v r,vs=v::r/\Hv K H d v/\Hvs K H ds r:=by
 unfold Hvs at h;exact h
theorem Hvs.inv0{vs:List V}(h:Hvs K H [] vs):vs=[]:=by
 unfold Hvs at h;exact h
theorem Hvs.length:∀{ds:List D} {vs:List V},Hvs K H ds vs->ds.length=vs.length
 |[],_,h=>by rw[h.inv0];rfl
 |d::ds,vs,h=>by
  obtain⟨v,r,rfl,_,q⟩:=h.inv;simp[q.length]
theorem Hvs.get:∀{ds:List D} {vs:List V} {i:Nat} {d:D},Hvs K H ds vs->ds[i]?=some d->∃v,vs[i]?=some v/\Hv K H d v
 |[],_,_,_,_,e=>by simp at e
 |x::ds,vs,0,d,h,e=>by
  obtain⟨v,r,rfl,q,_⟩:=h.inv;simp at e;subst e;exact⟨v,rfl,q⟩
 |x::ds,vs,i+1,d,h,e=>by
  obtain⟨v,r,rfl,_,q⟩:=h.inv;simp at e;obtain⟨u,e2,q2⟩:=q.get e;exact⟨u,by simpa using e2,q2⟩
theorem Hvs.append:∀{ds es:List D} {vs us:List V},Hvs K H ds vs->Hvs K H es us->Hvs K H (ds++es) (vs++us)
 |[],es,_,_,h,q=>by rw[h.inv0];exact q
 |d::ds,es,vs,us,h,q=>by
  obtain⟨v,r,rfl,z,w⟩:=h.inv;exact .cons z (w.append q)
theorem Hvs.drop:∀{ds:List D} {vs:List V} (n:Nat),Hvs K H ds vs->Hvs K H (ds.drop n) (vs.drop n)
 |ds,vs,0,h=>h
 |[],_,n+1,h=>by rw[h.inv0];exact .nil
 |d::ds,vs,n+1,h=>by
  obtain⟨v,r,rfl,_,q⟩:=h.inv;exact q.drop n
theorem Hvs.take:∀{ds:List D} {vs:List V} (n:Nat),Hvs K H ds vs->Hvs K H (ds.take n) (vs.take n)
 |ds,vs,0,h=>by simpa using Hvs.nil
 |[],_,n+1,h=>by rw[h.inv0];exact .nil
 |d::ds,vs,n+1,h=>by
  obtain⟨v,r,rfl,q,z⟩:=h.inv;exact .cons q (z.take n)
theorem Hvs.set:∀{ds:List D} {vs:List V} (i:Nat) {d:D} {v:V},Hvs K H ds vs->Hv K H d v->Hvs K H (ds.set i d) (vs.set i v)
 |[],_,i,d,v,h,_=>by rw[h.inv0];exact .nil
 |x::ds,vs,0,d,v,h,q=>by
  obtain⟨u,r,rfl,_,z⟩:=h.inv;exact .cons q z
 |x::ds,vs,i+1,d,v,h,q=>by
  obtain⟨u,r,rfl,y,z⟩:=h.inv;exact .cons y (z.set i q)
theorem Hvs.erase:∀{ds:List D} {vs:List V} (i:Nat),Hvs K H ds vs->Hvs K H (ds.eraseIdx i) (vs.eraseIdx i)
 |[],_,i,h=>by rw[h.inv0];exact .nil
 |x::ds,vs,0,h=>by
  obtain⟨u,r,rfl,_,z⟩:=h.inv;exact z
 |x::ds,vs,i+1,h=>by
  obtain⟨u,r,rfl,y,z⟩:=h.inv;exact .cons y (z.erase i)
theorem Hvs.rev:∀{ds:List D} {vs:List V},Hvs K H ds vs->Hvs K H ds.reverse vs.reverse
 |[],_,h=>by rw[h.inv0];exact .nil
 |x::ds,vs,h=>by
  obtain⟨u,r,rfl,y,z⟩:=h.inv;rw[List.reverse_cons,List.reverse_cons];exact z.rev.append (.cons y .nil)
theorem Hvs.rep{ds:List D}{vs:List V}(h:Hvs K H ds vs):∀k:Nat,Hvs K H (List.replicate k ds).flatten (List.replicate k vs).flatten
 |0=>.nil
 |k+1=>by
  simp only[List.replicate_succ,List.flatten_cons];exact h.append (h.rep k)
theorem Hvs.ints:∀(ns:List Int),Hvs K H (ns.map D.int) (ns.map V.int)
 |[]=>.nil
 |n::ns=>.cons (by simp[Hv]) (Hvs.ints ns)
theorem Ext.laid{p:Addr}{o:HO}(h:H p=none):Ext H (upd H p o):=⟨fun b xs e=>by rw[upd_ne (ne_of_none e h)];exact e,fun b x u e=>by rw[upd_ne (ne_of_none e h)];exact e⟩
theorem GOk.ext{a:Addr}{o:GO}(h:GOk K H a o)(E:Ext H H')(e:H' a=H a):GOk K H' a o:=by
 cases o with
 |lst ds=>
  obtain⟨vs,z,q⟩:=h;exact⟨vs,e.trans z,q.ext E⟩
 |pen=>
  obtain⟨i,j,k,z,q⟩:=h;exact⟨i,j,k,e.trans z,q⟩
 |dct=>exact e.trans h
 |gen R=>
  obtain⟨h1,h2,h3⟩:=h;exact⟨h3 H H' E.tup E.frz e h1,by rw[e];exact h2,h3⟩
theorem RepG.laid{p:Addr}{o:HO}(R:RepG K G H)(h:H p=none):RepG K G (upd H p o):=fun a u e=>by
 have hne:a≠p:=fun z=>by
  rw[z,R.free h] at e;cases e
 exact (R a u e).ext (Ext.laid h) (upd_ne hne)
theorem RepG.laidG{p:Addr}{o:HO}{g:GO}(R:RepG K G H)(h:H p=none)(new:GOk K (upd H p o) p g):RepG K (upd3 G p g) (upd H p o):=fun a u e=>by
 by_cases z:a=p
 ·subst z;rw[upd3_same] at e;cases e;exact new
 ·rw[upd3_ne z] at e;exact (R.laid h) a u e
theorem Step.laid{p:Addr}{o:HO}(h:H p=none):Step H G (upd H p o) G:=⟨fun a u e _=>by rw[upd_ne (ne_of_none e h)];exact e,fun a q=>by
 by_cases z:a=p
 ·rw[z,upd_same];simp
 ·rw[upd_ne z];exact q,fun a n q=>absurd n q⟩
theorem Step.laidG{p:Addr}{o:HO}{g:GO}(h:H p=none):Step H G (upd H p o) (upd3 G p g):=⟨(Step.laid (G:=G) h).fr,(Step.laid (G:=G) h).trk,fun a n q=>by
 by_cases z:a=p
 ·rw[z];exact h
 ·rw[upd3_ne z] at q;exact absurd n q⟩
theorem lst_ne_tup{p b:Addr}{xs ys:List V}(h:H p=some (.lst xs))(e:H b=some (.tup ys)):b≠p:=fun z=>by
 rw[z,h] at e;cases e
theorem lst_ne_frz{p b:Addr}{xs:List V}{o:Obj}{u:HO}(h:H p=some (.lst xs))(e:H b=some (.frz o u)):b≠p:=fun z=>by
 rw[z,h] at e;cases e
theorem Ext.wrote{p:Addr}{xs:List V}{o:HO}(h:H p=some (.lst xs)):Ext H (upd H p o):=
 ⟨fun b ys e=>by rw[upd_ne (lst_ne_tup h e)];exact e,fun b x u e=>by rw[upd_ne (lst_ne_frz h e)];exact e⟩
theorem RepG.wrote{p:Addr}{xs:List V}{o:HO}{g:GO}(R:RepG K G H)(h:H p=some (.lst xs))(new:GOk K (upd H p o) p g):RepG K (upd3 G p g) (upd H p o):=fun a u e=>by
 by_cases z:a=p
 ·subst z;rw[upd3_same] at e;cases e;exact new
 ·rw[upd3_ne z] at e;exact (R a u e).ext (Ext.wrote h) (upd_ne z)
theorem RepG.newL{p:Addr}{xs:List V}{ds:List D}(R:RepG K G H)(h:H p=none)(hv:Hvs K H ds xs):RepG K (upd3 G p (.lst ds)) (upd H p (.lst xs)):=R.laidG h ⟨xs,upd_same,hv.ext (.laid h)⟩
theorem RepG.wroteL{p:Addr}{xs ys:List V}{ds:List D}(R:RepG K G H)(e:H p=some (.lst xs))(hv:Hvs K H ds ys):RepG K (upd3 G p (.lst ds)) (upd H p (.lst ys)):=R.wrote e ⟨ys,upd_same,hv.ext (.wrote e)⟩
theorem Step.wrote{p:Addr}{o:HO}{g u:GO}(h:G p=some u):Step H G (upd H p o) (upd3 G p g):=⟨fun a x e n=>by
 have hne:a≠p:=fun z=>by
  rw[z,h] at n;cases n
 rw[upd_ne hne];exact e,fun a q=>by
 by_cases z:a=p
 ·rw[z,upd_same];simp
 ·rw[upd_ne z];exact q,fun a n q=>by
 have hne:a≠p:=fun z=>by
  rw[z,h] at n;cases n
 rw[upd3_ne hne] at q;exact absurd n q⟩
end
abbrev S3:=List (Option D)
def at3:S3->Nat->Option D
 |[],_=>none
 |x::_,0=>x
 |_::r,n+1=>at3 r n
def set3:S3->Nat->D->S3
 |[],_,_=>[]
 |_::r,0,d=>some d::r
 |x::r,n+1,d=>x::set3 r n d
structure RepS(K:PySem.W.Frag)(τ:S3)(σ:L2.St)(H:Hp):Prop where
 len:τ.length=σ.length
 at_:∀(i:Nat) d,at3 τ i=some d->∃v,σ[i]?=some (some v)/\Hv K H d v
theorem set3_length:∀(τ:S3) (i:Nat) (d:D),(set3 τ i d).length=τ.length
 |[],_,_=>rfl
 |_::r,0,d=>rfl
 |x::r,n+1,d=>by simp[set3,set3_length r n d]
theorem at3_set3:∀(τ:S3) (i j:Nat) (d:D),at3 (set3 τ i d) j=if j=i/\i<τ.length then some d else at3 τ j
 |[],i,j,d=>by simp[set3,at3]
 |x::r,0,0,d=>by simp[set3,at3]
 |x::r,0,j+1,d=>by simp[set3,at3]
 |x::r,i+1,0,d=>by simp[set3,at3]
 |x::r,i+1,j+1,d=>by
  simp only[set3,at3,at3_set3 r i j d,List.length_cons];by_cases h:j=i/\i<r.length
  ·rw[if_pos h,if_pos (by lia)]
  ·rw[if_neg h,if_neg (by lia)]
section
variable {K:PySem.W.Frag} {τ:S3} {σ:L2.St} {H H':Hp}
theorem RepS.ext(R:RepS K τ σ H)(E:Ext H H'):RepS K τ σ H':=⟨R.len,fun i d h=>by
 obtain⟨v,e,q⟩:=R.at_ i d h;exact⟨v,e,q.ext E⟩⟩
theorem RepS.set(R:RepS K τ σ H){i:Nat}{d:D}{v:V}(h:Hv K H d v):RepS K (set3 τ i d) (σ.set i (some v)) H:=⟨by rw[set3_length,List.length_set];exact R.len,fun j e q=>by
 rw[at3_set3] at q;by_cases c:j=i/\i<τ.length
 ·rw[if_pos c] at q;cases q;refine⟨v,?_,h⟩;rw[c.1,List.getElem?_set_self (by rw[←R.len];exact c.2)]
 ·rw[if_neg c] at q;obtain⟨u,e1,e2⟩:=R.at_ j e q;refine⟨u,?_,e2⟩;by_cases hij:i=j
  ·subst hij;have:σ.length≤i:=by
    have:=R.len;have:¬i<τ.length:=fun z=>c ⟨rfl,z⟩;lia
   rw[List.getElem?_eq_none_iff.mpr this] at e1;cases e1
  ·rw[List.getElem?_set_ne hij];exact e1⟩
end
def start3:List Str->List D->S3
 |[],_=>[]
 |_::N,[]=>none::start3 N []
 |_::N,d::ds=>some d::start3 N ds
theorem start3_len:∀(N:List Str) (ds:List D),(start3 N ds).length=N.length
 |[],_=>rfl
 |_::N,[]=>by simp[start3,start3_len N []]
 |_::N,d::ds=>by simp[start3,start3_len N ds]
theorem start3_nil:∀(N:List Str) (i:Nat),at3 (start3 N []) i=none
 |[],i=>rfl
 |_::N,0=>rfl
 |_::N,i+1=>start3_nil N i
theorem start3_at:∀(N:List Str) (ds:List D) (i:Nat) (d:D),at3 (start3 N ds) i=some d->ds[i]?=some d
 |[],_,_,_,h=>by cases h
 |_::N,[],i,d,h=>by
  rw[start3_nil] at h;cases h
 |_::N,x::ds,0,d,h=>by
  simp only[start3,at3] at h;simpa using h
 |_::N,x::ds,i+1,d,h=>by
  simp only[start3,at3] at h;simpa using start3_at N ds i d h
theorem RepS.start{K:PySem.W.Frag}{N:List Str}{ds:List D}{vs:List V}{H:Hp}(h:Hvs K H ds vs)(hl:vs.length≤N.length):RepS K (start3 N ds) (L2.start N vs) H:=⟨by
 rw[start3_len];simp[L2.start];lia,fun i d e=>by
 obtain⟨v,e1,q⟩:=h.get (start3_at N ds i d e);refine⟨v,?_,q⟩;unfold L2.start;have hi:i<vs.length:=(List.getElem?_eq_some_iff.mp e1).1;rw[List.getElem?_append_left (by simpa using hi),List.getElem?_map,e1];rfl⟩
abbrev V3:=D->Gp->Prop
abbrev TE3:=S3->Gp->V3->Prop
abbrev TT3:=S3->Gp->(Bool->Gp->Prop)->Prop
abbrev TA3:=S3->Gp->(List D->Gp->Prop)->Prop
structure Ends3 where
 nx:S3->Gp->Prop
 rt:V3
 bk:S3->Gp->Prop:=fun _ _=>False
 ct:S3->Gp->Prop:=fun _ _=>False
abbrev TS3:=Ends3->S3->Gp->Prop
def low(K:PySem.W.Frag)(t:TE3):TE:=fun σ H Q=>∃τ G Q3,RepS K τ σ H/\RepG K G H/\t τ G Q3/\∀v H' d G',Hv K H' d v->Step H G H' G'->RepG K G' H'->Q3 d G'->Q v H'
def lowT(K:PySem.W.Frag)(t:TT3):TT:=fun σ H Q=>∃τ G Q3,RepS K τ σ H/\RepG K G H/\t τ G Q3/\∀b H' G',Step H G H' G'->RepG K G' H'->Q3 b G'->Q b H'
def lowA(K:PySem.W.Frag)(t:TA3):TA:=fun σ H Q=>∃τ G Q3,RepS K τ σ H/\RepG K G H/\t τ G Q3/\∀vs H' ds G',Hvs K H' ds vs->Step H G H' G'->RepG K G' H'->Q3 ds G'->Q vs H'
structure EndsLow(K:PySem.W.Frag)(H:Hp)(G:Gp)(D3:Ends3)(D2:Ends):Prop where
 nx:∀τ σ G' H',RepS K τ σ H'->Step H G H' G'->RepG K G' H'->D3.nx τ G'->D2.nx σ H'
 bk:∀τ σ G' H',RepS K τ σ H'->Step H G H' G'->RepG K G' H'->D3.bk τ G'->D2.bk σ H'
 ct:∀τ σ G' H',RepS K τ σ H'->Step H G H' G'->RepG K G' H'->D3.ct τ G'->D2.ct σ H'
 rt:∀d v G' H',Hv K H' d v->Step H G H' G'->RepG K G' H'->D3.rt d G'->D2.rt v H'
theorem EndsLow.step{K:PySem.W.Frag}{H H1:Hp}{G G1:Gp}{D3:Ends3}{D2:Ends}(E:EndsLow K H G D3 D2)(S:Step H G H1 G1):EndsLow K H1 G1 D3 D2:=
 ⟨fun τ σ G' H' a b c q=>E.nx τ σ G' H' a (S.trans b) c q,fun τ σ G' H' a b c q=>E.bk τ σ G' H' a (S.trans b) c q,fun τ σ G' H' a b c q=>E.ct τ σ G' H' a (S.trans b) c q,fun d v G' H' a b c q=>E.rt d v G' H' a (S.trans b) c q⟩
def lowS(K:PySem.W.Frag)(t:TS3):TS:=fun D2 σ H=>∃τ G D3,RepS K τ σ H/\RepG K G H/\t D3 τ G/\EndsLow K H G D3 D2
abbrev PE3(X:Cx)(e:Expr)(t:TE3):Prop:=PE X e (low X.K t)
abbrev PT3(X:Cx)(e:Expr)(t:TT3):Prop:=PT X e (lowT X.K t)
abbrev PW3(X:Cx)(e:Expr)(t:TT3):Prop:=PW X e (lowT X.K t)
abbrev PA3(X:Cx)(es:List Expr)(t:TA3):Prop:=PA X es (lowA X.K t)
abbrev PS3(X:Cx)(st:Stmt)(t:TS3):Prop:=PS X st (lowS X.K t)
abbrev PSs3(X:Cx)(st:List Stmt)(t:TS3):Prop:=PSs X st (lowS X.K t)
section
variable {X:Cx} {e:Expr}
theorem pe_of{t t':TE}(h:PE X e t)(f:∀σ H Q,t' σ H Q->t σ H Q):PE X e t':=fun pins s σ H Q I q=>h pins s σ H Q I (f σ H Q q)
theorem pt_of{t t':TT}(h:PT X e t)(f:∀σ H Q,t' σ H Q->t σ H Q):PT X e t':=fun pins s σ H Q I q=>h pins s σ H Q I (f σ H Q q)
theorem pw_of{t t':TT}(h:PW X e t)(f:∀σ H Q,t' σ H Q->t σ H Q):PW X e t':=fun w pins s σ H Q I q=>h w pins s σ H Q I (f σ H Q q)
theorem pa_of{es:List Expr}{t t':TA}(h:PA X es t)(f:∀σ H Q,t' σ H Q->t σ H Q):PA X es t':=fun p pins s σ H Q I q=>h p pins s σ H Q I (f σ H Q q)
theorem ps_of{st:Stmt}{t t':TS}(h:PS X st t)(f:∀D σ H,t' D σ H->t D σ H):PS X st t':=fun pins s σ H Q I q=>h pins s σ H Q I (f Q σ H q)
theorem pss_of{st:List Stmt}{t t':TS}(h:PSs X st t)(f:∀D σ H,t' D σ H->t D σ H):PSs X st t':=fun pins s σ H Q I q=>h pins s σ H Q I (f Q σ H q)
end
def Br(b:Bool)(A B:Prop):Prop:=(b=true->A)/\(b=false->B)
theorem Br.ite{b:Bool}{A B A' B':Prop}(h:Br b A B)(f:A->A')(g:B->B'):if b=true then A' else B':=by
 cases b with
 |true=>rw[if_pos rfl];exact f (h.1 rfl)
 |false=>rw[if_neg Bool.false_ne_true];exact g (h.2 rfl)
section
variable {X:Cx} {a b e c:Expr} {ta tb te:TE3} {tA tB:TT3} {pos:Pos} {es rest:List Expr}
def eC(d:D):TE3:=fun _ G Q=>Q d G
def eVar(i:Nat):TE3:=fun τ G Q=>match at3 τ i with
 |some d=>Q d G
 |none=>False
theorem e_var{i:Nat}{x:Str}(h:PE X (.Name x pos) (tVar i)):PE3 X (.Name x pos) (eVar i):=pe_of h fun σ H Q ⟨τ,G,Q3,RS,RG,h,k⟩=>by
 unfold eVar at h;cases hd:at3 τ i with
 |none=>rw[hd] at h;exact h.elim
 |some d=>
  rw[hd] at h;obtain⟨v,e1,e2⟩:=RS.at_ i d hd;exact⟨v,e1,k v H d G e2 (.refl H G) RG h⟩
theorem e_const{v:V}{d:D}(h:PE X e (tC v))(r:∀H,Hv X.K H d v):PE3 X e (eC d):=pe_of h fun σ H Q ⟨τ,G,Q3,RS,RG,h,k⟩=>k v H d G (r H) (.refl H G) RG h
theorem e_int{i:Int}{j}:PE3 X (.Constant (.int i) j pos) (eC (.int i)):=e_const pe_int fun H=>by simp[Hv]
theorem e_bl{i:Bool}{j}:PE3 X (.Constant (.bool i) j pos) (eC (.bl i)):=e_const pe_bl fun H=>by simp[Hv]
theorem e_non{j}:PE3 X (.Constant .none j pos) (eC .non):=e_const pe_non fun H=>by simp[Hv]
theorem e_str{x:Str}{j}:PE3 X (.Constant (.str x) j pos) (eC (.str x)):=e_const pe_str fun H=>by simp[Hv]
abbrev R3:=D->D->Gp->V3->Prop
def eOp(r:R3)(ta tb:TE3):TE3:=fun τ G Q=>ta τ G fun x G1=>tb τ G1 fun y G2=>r x y G2 Q
def LowR(K:PySem.W.Frag)(r:R3)(r2:R2):Prop:=∀x y vx vy G H Q3 Q,Hv K H x vx->Hv K H y vy->RepG K G H->r x y G Q3->(∀v H' d G',Hv K H' d v->Step H G H' G'->RepG K G' H'->Q3 d G'->Q v H')->r2 vx vy H Q
theorem low_bin{K:PySem.W.Frag}{r:R3}{r2:R2}(L:LowR K r r2){σ:L2.St}{H:Hp}{Q:VK}(h:low K (eOp r ta tb) σ H Q):tOp r2 (low K ta) (low K tb) σ H Q:=by
 obtain⟨τ,G,Q3,RS,RG,h,k⟩:=h;refine⟨τ,G,_,RS,RG,h,fun v1 H1 d1 G1 h1 S1 R1 q1=>?_⟩;refine⟨τ,G1,_,RS.ext (S1.ext RG),R1,q1,fun v2 H2 d2 G2 h2 S2 R2 q2=>?_⟩;exact L _ _ _ _ _ _ _ _ (h1.ext (S2.ext R1)) h2 R2 q2 fun v H' d G' z1 z2 z3 z4=>k v H' d G' z1 ((S1.trans S2).trans z2) z3 z4
theorem e_op{op:Operator}{r:R3}{r2:R2}(L:LowR X.K r r2)(ho:OpR X (binaryOp op) r2)(ha:PE3 X a ta)(hb:PE3 X b tb):PE3 X (.BinOp a op b pos) (eOp r ta tb):=
 pe_of (pe_op ho ha hb) fun _ _ _ h=>low_bin L h
theorem e_cmp{op:CmpOp}{r:R3}{r2:R2}(L:LowR X.K r r2)(ho:OpR X (compareOp op) r2)(ha:PE3 X a ta)(hb:PE3 X b tb)(hm:behindInMarks op b=false):PE3 X (.Compare a [op] [b] pos) (eOp r ta tb):=
 pe_of (pe_cmpR ho ha hb hm) fun _ _ _ h=>low_bin L h
def eTest(t:TE3):TT3:=fun τ G Q=>t τ G fun x G1=>match x with
 |.bl k=>Q k G1
 |_=>False
theorem low_test{K:PySem.W.Frag}{t:TE3}{σ:L2.St}{H:Hp}{Q:Bool->Hp->Prop}(h:lowT K (eTest t) σ H Q):tTest (low K t) σ H Q:=by
 obtain⟨τ,G,Q3,RS,RG,h,k⟩:=h;refine⟨τ,G,_,RS,RG,h,fun v H' d G' h1 h2 h3 h4=>?_⟩;cases d with
 |bl c=>
  unfold Hv at h1;exact⟨c,h1,k c H' G' h2 h3 h4⟩
 |_=>exact h4.elim
theorem tt_cmp{op:CmpOp}{r:R3}{r2:R2}(L:LowR X.K r r2)(ho:OpR X (compareOp op) r2)(ha:PE3 X a ta)(hb:PE3 X b tb)(hm:behindInMarks op b=false):PT3 X (.Compare a [op] [b] pos) (eTest (eOp r ta tb)):=
 pt_of (pt_cmpR ho ha hb hm) fun σ H Q h=>by
  obtain⟨τ,G,Q3,RS,RG,h,k⟩:=low_test h;exact low_bin L ⟨τ,G,Q3,RS,RG,h,k⟩
theorem tt_val(h:PE3 X a ta)(he:∀whole,isTrue a X.env whole=(do let v ←whole;standAt a.pos;holding [v] (truthy v)):=by intro _;rfl):PT3 X a (eTest ta):=
 pt_of (pt_truth h he) fun σ H Q h=>by
  obtain⟨τ,G,Q3,RS,RG,h,k⟩:=low_test h;refine⟨τ,G,Q3,RS,RG,h,fun v H' d G' h1 h2 h3 h4=>?_⟩;obtain⟨c,rfl,q⟩:=k v H' d G' h1 h2 h3 h4;exact⟨c,rfl,q⟩
def eChain(r r':R3)(ta tb tc:TE3):TE3:=fun τ G Q=>ta τ G fun x G1=>tb τ G1 fun y G2=>r x y G2 fun z G3=>match z with
 |.bl k=>Br k (tc τ G3 fun w G4=>r' y w G4 Q) (Q (.bl false) G3)
 |_=>False
theorem low_chain{K:PySem.W.Frag}{r r':R3}{r2 r2':R2}(L:LowR K r r2)(L':LowR K r' r2'){tc:TE3}{σ:L2.St}{H:Hp}{Q:VK}(h:low K (eChain r r' ta tb tc) σ H Q):tChain r2 r2' (low K ta) (low K tb) (low K tc) σ H Q:=by
 obtain⟨τ,G,Q3,RS,RG,h,k⟩:=h;refine⟨τ,G,_,RS,RG,h,fun v1 H1 d1 G1 h1 S1 R1 q1=>?_⟩;refine⟨τ,G1,_,RS.ext (S1.ext RG),R1,q1,fun v2 H2 d2 G2 h2 S2 R2 q2=>?_⟩;refine L _ _ _ _ _ _ _ _ (h1.ext (S2.ext R1)) h2 R2 q2 fun v H3 d G3 z1 S3 R3 z4=>?_;cases d with
 |bl c=>
  unfold Hv at z1;refine⟨c,z1,Br.ite z4 (fun q=>?_) fun q=>?_⟩
  ·refine⟨τ,G3,_,((RS.ext (S1.ext RG)).ext (S2.ext R1)).ext (S3.ext R2),R3,q,fun v4 H4 d4 G4 h4 S4 R4 q4=>?_⟩;exact L' _ _ _ _ _ _ _ _ ((h2.ext (S3.ext R2)).ext (S4.ext R3)) h4 R4 q4 fun v H' d G' y1 y2 y3 y4=>k v H' d G' y1 ((((S1.trans S2).trans S3).trans S4).trans y2) y3 y4
  ·exact k _ H3 (.bl false) G3 (by simp[Hv]) ((S1.trans S2).trans S3) R3 q
 |_=>exact z4.elim
theorem e_chain{op op':CmpOp}{r r':R3}{r2 r2':R2}{tc:TE3}(L:LowR X.K r r2)(L':LowR X.K r' r2')(h:PE X e (tChain r2 r2' (low X.K ta) (low X.K tb) (low X.K tc))):PE3 X e (eChain r r' ta tb tc):=
 pe_of h fun _ _ _ h=>low_chain L L' h
def eUn(r:D->Gp->V3->Prop)(ta:TE3):TE3:=fun τ G Q=>ta τ G fun x G1=>r x G1 Q
def rNeg3:D->Gp->V3->Prop:=fun x G Q=>match x with
 |.int i=>Q (.int (-i)) G
 |_=>False
theorem e_neg(ha:PE3 X a ta):PE3 X (.UnaryOp .USub a pos) (eUn rNeg3 ta):=pe_of (pe_un un_neg ha) fun σ H Q h=>by
 obtain⟨τ,G,Q3,RS,RG,h,k⟩:=h;refine⟨τ,G,_,RS,RG,h,fun v H' d G' h1 h2 h3 h4=>?_⟩;cases d with
 |int i=>
  unfold Hv at h1;exact⟨i,h1,k _ H' (.int (-i)) G' (by simp[Hv]) h2 h3 h4⟩
 |_=>exact h4.elim
def eAnd(t u:TT3):TT3:=fun τ G Q=>t τ G fun c G1=>Br c (u τ G1 Q) (Q false G1)
def eOr(t u:TT3):TT3:=fun τ G Q=>t τ G fun c G1=>Br c (Q true G1) (u τ G1 Q)
def eNot(t:TT3):TT3:=fun τ G Q=>t τ G fun c G1=>Q (!c) G1
theorem tw_and1(ha:PT3 X a tA):PW3 X (.BoolOp .And [a] pos) tA:=pw_and1 ha
theorem tw_or1(ha:PT3 X a tA):PW3 X (.BoolOp .Or [a] pos) tA:=pw_or1 ha
theorem tw_and(ha:PT3 X a tA)(hb:PW3 X (.BoolOp .And (b::rest) pos) tB):PW3 X (.BoolOp .And (a::b::rest) pos) (eAnd tA tB):=pw_of (pw_and ha hb) fun σ H Q h=>by
 obtain⟨τ,G,Q3,RS,RG,h,k⟩:=h;refine⟨τ,G,_,RS,RG,h,fun c H1 G1 S1 R1 q1=>?_⟩;exact Br.ite q1 (fun q=>⟨τ,G1,Q3,RS.ext (S1.ext RG),R1,q,fun b' H' G' y1 y2 y3=>k b' H' G' (S1.trans y1) y2 y3⟩) fun q=>k false H1 G1 S1 R1 q
theorem tw_or(ha:PT3 X a tA)(hb:PW3 X (.BoolOp .Or (b::rest) pos) tB):PW3 X (.BoolOp .Or (a::b::rest) pos) (eOr tA tB):=pw_of (pw_or ha hb) fun σ H Q h=>by
 obtain⟨τ,G,Q3,RS,RG,h,k⟩:=h;refine⟨τ,G,_,RS,RG,h,fun c H1 G1 S1 R1 q1=>?_⟩;exact Br.ite q1 (fun q=>k true H1 G1 S1 R1 q) fun q=>⟨τ,G1,Q3,RS.ext (S1.ext RG),R1,q,fun b' H' G' y1 y2 y3=>k b' H' G' (S1.trans y1) y2 y3⟩
theorem tt_w(h:PW3 X a tA):PT3 X a tA:=h.pt
theorem tt_not(ha:PT3 X a tA):PT3 X (.UnaryOp .Not a pos) (eNot tA):=pt_of (pt_not ha) fun σ H Q h=>by
 obtain⟨τ,G,Q3,RS,RG,h,k⟩:=h;exact⟨τ,G,_,RS,RG,h,fun c H1 G1 S1 R1 q1=>k _ H1 G1 S1 R1 q1⟩
def eAndV(ta tb:TE3):TE3:=fun τ G Q=>ta τ G fun x G1=>match x with
 |.bl c=>Br c (tb τ G1 Q) (Q (.bl false) G1)
 |_=>False
def eNotV(ta:TE3):TE3:=fun τ G Q=>ta τ G fun x G1=>match x with
 |.bl c=>Q (.bl (!c)) G1
 |_=>False
theorem e_one{op}(h:PE3 X a ta):PE3 X (.BoolOp op [a] pos) ta:=pe_one h
theorem e_and(ha:PE3 X a ta)(hb:PE3 X (.BoolOp .And (b::rest) pos) tb):PE3 X (.BoolOp .And (a::b::rest) pos) (eAndV ta tb):=pe_of (pe_and ha hb) fun σ H Q h=>by
 obtain⟨τ,G,Q3,RS,RG,h,k⟩:=h;refine⟨τ,G,_,RS,RG,h,fun v H1 d G1 h1 S1 R1 q1=>?_⟩;cases d with
 |bl c=>
  unfold Hv at h1;exact⟨c,h1,Br.ite q1 (fun q=>⟨τ,G1,Q3,RS.ext (S1.ext RG),R1,q,fun b' H' d' G' y0 y1 y2 y3=>k b' H' d' G' y0 (S1.trans y1) y2 y3⟩) fun q=>k _ H1 (.bl false) G1 (by simp[Hv]) S1 R1 q⟩
 |_=>exact q1.elim
theorem e_not(ha:PE3 X a ta):PE3 X (.UnaryOp .Not a pos) (eNotV ta):=pe_of (pe_not ha) fun σ H Q h=>by
 obtain⟨τ,G,Q3,RS,RG,h,k⟩:=h;refine⟨τ,G,_,RS,RG,h,fun v H1 d G1 h1 S1 R1 q1=>?_⟩;cases d with
 |bl c=>
  unfold Hv at h1;exact⟨c,h1,k _ H1 (.bl (!c)) G1 (by simp[Hv]) S1 R1 q1⟩
 |_=>exact q1.elim
def notStar:Expr->Bool
 |.Starred ..=>false
 |_=>true
theorem star_of{e:Expr}{es:List Expr}{env:Env}(h:notStar e=true):starEach (e::es) env=(false,eval e env)::starEach es env:=by
 cases e<;>first|rfl|(simp[notStar] at h)
theorem star_any{pos:Pos}{env:Env}:∀{es:List Expr},es.all notStar=true->(backTo pos (starEach es env)).any (·.1)=false
 |[],_=>rfl
 |e::es,h=>by
  rw[List.all_cons,Bool.and_eq_true] at h;rw[star_of h.1];show (false||(backTo pos (starEach es env)).any (·.1))=false;rw[star_any h.2];rfl
def aNil:TA3:=fun _ G Q=>Q [] G
def aCons(ta:TE3)(tr:TA3):TA3:=fun τ G Q=>ta τ G fun x G1=>tr τ G1 fun xs G2=>Q (x::xs) G2
theorem a_nil:PA3 X [] aNil:=pa_of pa_nil fun σ H Q ⟨τ,G,Q3,RS,RG,h,k⟩=>k [] H [] G .nil (.refl H G) RG h
theorem a_cons{tr:TA3}(ha:PE3 X a ta)(hr:PA3 X es tr)(hs:notStar a=true:=by rfl):PA3 X (a::es) (aCons ta tr):=pa_of (pa_cons ha hr (star_of hs)) fun σ H Q h=>by
 obtain⟨τ,G,Q3,RS,RG,h,k⟩:=h;refine⟨τ,G,_,RS,RG,h,fun v1 H1 d1 G1 h1 S1 R1 q1=>?_⟩;refine⟨τ,G1,_,RS.ext (S1.ext RG),R1,q1,fun vs H2 ds G2 h2 S2 R2 q2=>?_⟩;exact k _ H2 _ G2 (.cons (h1.ext (S2.ext R1)) h2) (S1.trans S2) R2 q2
def smallL{α:Type}(P:Prop):List α->Nat->Prop
 |[],_=>P
 |_::_,0=>False
 |_::xs,n+1=>smallL P xs n
theorem smallL_of{α:Type}{P:Prop}:∀{xs:List α} {n:Nat},smallL P xs n->xs.length≤n/\P
 |[],n,h=>⟨Nat.zero_le _,h⟩
 |_::_,0,h=>h.elim
 |_::xs,n+1,h=>by
  obtain⟨h1,h2⟩:=smallL_of (xs:=xs) (n:=n) h;exact⟨Nat.succ_le_succ h1,h2⟩
theorem line64{n:Nat}(h:n≤64):n≤sizeLine:=Nat.le_trans h (by decide)
def eTup(t:TA3):TE3:=fun τ G Q=>t τ G fun ds G1=>smallL (Q (.tup ds) G1) ds 64
def eLst(t:TA3):TE3:=fun τ G Q=>t τ G fun ds G1=>smallL (∀p G2,New G1 p (.lst ds) G2->Q (.obj p) G2) ds 64
theorem e_tup{t:TA3}{x1}(h:PA3 X es t):PE3 X (.Tuple es x1 pos) (eTup t):=pe_of (pe_tup h) fun σ H Q h=>by
 obtain⟨τ,G,Q3,RS,RG,h,k⟩:=h;refine⟨τ,G,_,RS,RG,h,fun vs H1 ds G1 h1 S1 R1 q1=>?_⟩;obtain⟨z,q1⟩:=smallL_of q1;refine⟨by rw[←h1.length];exact line64 z,fun p hp=>?_⟩;refine k _ _ (.tup ds) G1 ?_ (S1.trans (.laid hp)) (R1.laid hp) q1;unfold Hv;exact⟨p,vs,rfl,.of upd_same,h1.ext (.laid hp)⟩
theorem e_lst{t:TA3}(h:PA3 X es t):PE3 X (.List es pos) (eLst t):=pe_of (pe_lst h) fun σ H Q h=>by
 obtain⟨τ,G,Q3,RS,RG,h,k⟩:=h;refine⟨τ,G,_,RS,RG,h,fun vs H1 ds G1 h1 S1 R1 q1=>?_⟩;obtain⟨z,q1⟩:=smallL_of q1;refine⟨by rw[←h1.length];exact line64 z,fun p hp=>?_⟩;exact k _ _ (.obj p) (upd3 G1 p (.lst ds)) (by simp[Hv]) (S1.trans (.laidG hp)) (R1.laidG hp ⟨vs,upd_same,h1.ext (.laid hp)⟩) (q1 p _ (.mk' (R1.free hp)))
end
end L3
namespace L2
open PySem PySem.Spec PyProof.Rows
def clos(env:Env):List (Str×NameKind)->List (Str×Addr)->List (Str×Addr)
 |[],acc=>acc
 | (n,k)::r,acc=>clos env r (if k=.free then (n,(env.cells.lookup n).getD 0)::acc else acc)
theorem closureFor_clos{scope:Scope}{env:Env}(h:∀y∈scope.names,y.2=.free->∃c,env.cells.lookup y.1=some c):closureFor scope env=pure (clos env scope.names []):=by
 have key:∀(l:List (Str×NameKind)) (acc:List (Str×Addr)),(∀y∈l,y.2=.free->∃c,env.cells.lookup y.1=some c) ->
   (forIn l acc fun (x:Str×NameKind) (r:List (Str×Addr))=>(do
    if (x.2==NameKind.free)=true then do
     let a ←cellOf env x.1
     pure (ForInStep.yield ((x.1,a)::r))
    else pure (ForInStep.yield r):Sem (ForInStep (List (Str×Addr)))))=pure (clos env l acc):=by
  intro l
  induction l with
  |nil=>intro acc _;rfl
  |cons y r ih=>
   intro acc hy;obtain⟨n,k⟩:=y;rw[List.forIn_cons];by_cases hk:k=.free
   ·obtain⟨c,hc⟩:=hy (n,k) List.mem_cons_self hk;have e1:cellOf env n=pure c:=by unfold cellOf;rw[show env.cells.lookup n=some c from hc]
    subst hk;simp only[beq_self_eq_true,if_true,e1,pure_bind];rw[ih _ fun y hy'=>hy y (List.mem_cons_of_mem _ hy')];show _=pure (clos env r (if NameKind.free=NameKind.free then (n,(env.cells.lookup n).getD 0)::acc else acc));rw[if_pos rfl,show env.cells.lookup n=some c from hc];rfl
   ·have hb:(k==NameKind.free)=false:=by simpa using hk
    simp only[hb,Bool.false_eq_true,if_false,pure_bind];rw[ih _ fun y hy'=>hy y (List.mem_cons_of_mem _ hy')];show _=pure (clos env r (if k=NameKind.free then (n,(env.cells.lookup n).getD 0)::acc else acc));rw[if_neg hk]
 have:=key scope.names [] h;unfold closureFor
 first
  |exact (by simpa using this)
  | (simp only[bind_pure];exact this)
theorem clos_lookup{env:Env}{x:Str}{c:Addr}:∀(l:List (Str×NameKind)) (acc:List (Str×Addr)),(clos env l acc).lookup x=some c ->
  acc.lookup x=some c∨((x,NameKind.free)∈l/\c=(env.cells.lookup x).getD 0)
 |[],_,h=>.inl h
 | (n,k)::r,acc,h=>by
  rcases clos_lookup r _ h with q|⟨q1,q2⟩
  ·by_cases hk:k=.free
   ·rw[if_pos hk,List.lookup_cons] at q;by_cases hx:(x==n)=true
    ·rw[hx] at q;have hx':x=n:=by simpa using hx
     subst hx' hk;exact .inr ⟨List.mem_cons_self,(Option.some.inj q).symm⟩
    ·have hx2:(x==n)=false:=by simpa using hx
     rw[hx2] at q;exact .inl q
   ·rw[if_neg hk] at q;exact .inl q
  ·exact .inr ⟨List.mem_cons_of_mem _ q1,q2⟩
theorem clos_keep{env:Env}{x:Str}:∀(l:List (Str×NameKind)) (acc:List (Str×Addr)),acc.lookup x=some ((env.cells.lookup x).getD 0)->(clos env l acc).lookup x=some ((env.cells.lookup x).getD 0)
 |[],_,h=>h
 | (n,k)::r,acc,h=>by
  refine clos_keep r _ ?_;by_cases hk:k=.free
  ·rw[if_pos hk,List.lookup_cons];by_cases hx:(x==n)=true
   ·rw[hx];have hx':x=n:=by simpa using hx
    rw[hx']
   ·have hx2:(x==n)=false:=by simpa using hx
    rw[hx2];exact h
  ·rw[if_neg hk];exact h
theorem clos_has{env:Env}{x:Str}:∀(l:List (Str×NameKind)) (acc:List (Str×Addr)),(x,NameKind.free)∈l->(clos env l acc).lookup x=some ((env.cells.lookup x).getD 0)
 |[],_,h=>by cases h
 | (n,k)::r,acc,h=>by
  rcases List.mem_cons.mp h with e|e
  ·cases e;refine clos_keep r _ ?_;rw[if_pos rfl,List.lookup_cons,beq_self_eq_true]
  ·exact clos_has r _ e
structure CmpOk(N:List Str)(sc scope:Scope)(own:List Str)(js:List Nat):Prop where
 kind:scope.kind=.function
 nocell:∀y∈scope.names,y.2≠.cell
 names:∀y∈scope.names,y.2=.local->scope.names.lookup y.1=some .local
 free:∀y∈scope.names,y.2=.free->sc.names.lookup y.1=some .cell/\own.contains y.1=false
 only:∀y∈scope.names,y.2=.free->scope.names.lookup y.1=some .free
 js:∀j∈js,j<N.length/\(N.getD j Str.empty,NameKind.free)∈scope.names
def cmpN(N own:List Str)(js:List Nat):List Str:=own++js.map fun j=>N.getD j Str.empty
def cmpSt(own:List Str)(js:List Nat)(σ:St):St:=List.replicate own.length none++js.map fun j=>(σ[j]?).getD none
def Cx.cmp(X:Cx)(scope:Scope)(own:List Str)(js:List Nat)(s:Shared)(H:Hp)(fp:List Addr):Cx:=
 { X with N:=cmpN X.N own js,s₀:=s,H₀:=H,env:=compEnvC scope (clos X.env scope.names []) s.heap.objs.size X.env,outer:=X.stack,ex:=fp,fn:=fun x=>own.contains x,pn:=[],xe:=fun _ _=>False }
theorem lookup_relabel{sc:Scope}{env:Env}{x:Str}{k:NameKind}:∀(names:List (Str×NameKind)),
  (names.map fun (n,k)=>if (k==NameKind.free&&env.scope.kind==.function&&env.kindOf n==some .cell) then (n,NameKind.cell) else (n,k)).lookup x=some k ->
  (names.lookup x=some k/\(k≠.free∨k=.free))∨(k=.cell/\names.lookup x=some .free)
 |[],h=>by simp at h
 | (n,k')::r,h=>by
  have ih:=@lookup_relabel sc env x k r;have h':List.lookup x ((if (k'==NameKind.free&&env.scope.kind==.function&&env.kindOf n==some .cell)=true then (n,NameKind.cell) else (n,k'))::_)=some k:=h;rw[List.lookup_cons];by_cases hc:(k'==NameKind.free&&env.scope.kind==.function&&env.kindOf n==some .cell)=true
  ·rw[if_pos hc,List.lookup_cons] at h';cases hx:x==n with
   |true=>
    rw[hx] at h';have e:NameKind.cell=k:=Option.some.inj h';have hk':k'=.free:=by
     rw[Bool.and_eq_true,Bool.and_eq_true] at hc;simpa using hc.1.1
    exact .inr ⟨e.symm,by rw[hk']⟩
   |false=>
    rw[hx] at h';exact ih h'
  ·rw[if_neg hc,List.lookup_cons] at h';cases hx:x==n with
   |true=>
    rw[hx] at h';have e:k'=k:=Option.some.inj h';subst e;exact .inl ⟨rfl,by by_cases z:k'=.free;exact .inr z;exact .inl z⟩
   |false=>
    rw[hx] at h';exact ih h'
theorem mem_of_look{x:Str}{k:NameKind}{l:List (Str×NameKind)}(h:l.lookup x=some k):(x,k)∈l:=PySem.mem_of_lookup h
section
variable {X:Cx} {pins:List (Addr×Obj)} {σ:St} {H:Hp} {s:Shared} {scope:Scope} {own:List Str} {js:List Nat} {fp:List Addr}
theorem CmpOk.cells(C:CmpOk X.N X.env.scope scope own js)(ok:X.Ok):∀y∈scope.names,y.2=.free->∃c,X.env.cells.lookup y.1=some c:=fun y hy e=>
 ok.has y.1 (.inl (C.free y hy e).1)
theorem CmpOk.cl_of(C:CmpOk X.N X.env.scope scope own js)(ok:X.Ok){x:Str}{c:Addr}(h:(clos X.env scope.names []).lookup x=some c):(x,NameKind.free)∈scope.names/\X.env.cells.lookup x=some c:=by
 rcases clos_lookup scope.names [] h with q|⟨q1,q2⟩
 ·cases q
 ·obtain⟨c',e⟩:=C.cells ok _ q1 rfl;refine⟨q1,?_⟩;rw[q2,show X.env.cells.lookup x=some c' from e];rfl
theorem CmpOk.cl_has(C:CmpOk X.N X.env.scope scope own js)(ok:X.Ok){x:Str}(h:(x,NameKind.free)∈scope.names):∃c,(clos X.env scope.names []).lookup x=some c/\X.env.cells.lookup x=some c:=by
 obtain⟨c,e⟩:=C.cells ok _ h rfl;refine⟨c,?_,e⟩;rw[clos_has scope.names [] h,show X.env.cells.lookup x=some c from e];rfl
theorem Inv.cmpOk(I:Inv X pins σ H s)(C:CmpOk X.N X.env.scope scope own js)(hf:∀b∈fp,FpOk X pins H b/\b<s.heap.objs.size):(X.cmp scope own js s H fp).Ok where
 mod:=I.ok.mod
 kind:=C.kind
 glob:=I.ok.glob
 blt:=I.ok.blt
 above:=Nat.le_refl _
 inj:=fun x y c h1 h2=>I.ok.inj x y c (C.cl_of I.ok h1).2 (C.cl_of I.ok h2).2
 has:=fun x h=>by
  have hfree:(x,NameKind.free)∈scope.names:=by
   rcases h with h|h
   ·rcases lookup_relabel (sc:=scope) (env:=X.env) scope.names h with⟨q,_⟩|⟨_,q⟩
    ·exact absurd rfl (C.nocell _ (mem_of_look q))
    ·exact mem_of_look q
   ·rcases lookup_relabel (sc:=scope) (env:=X.env) scope.names h with⟨q,_⟩|⟨q,_⟩
    ·exact mem_of_look q
    ·cases q
  obtain⟨c,e,_⟩:=C.cl_has I.ok hfree;exact⟨c,e⟩
 cab:=fun x c h1 h2=>by
  have q:=(C.free _ (C.cl_of I.ok h2).1 rfl).2;have h1':own.contains x=true:=h1;rw[q] at h1';cases h1'
 hd:=I.ok.hd
 frames:=I.ok.frames
 stk:=.inl rfl
 exf:=fun b hb=>⟨Nat.ne_of_lt (hf b hb).2,fun x c e=>(hf b hb).1.2.2.2.2.1 x c (C.cl_of I.ok e).2⟩
 bs:=I.bs
 bsz:=Nat.le_trans I.ok.bsz I.sz
 noex:=fun b o e hb=>by
  rcases (hf b hb).1.2.2.2.1 with z|z
  ·exact I.ok.noex b o e z
  ·exact absurd (Nat.lt_of_lt_of_le (Heap.lt_size e) (Nat.le_trans I.ok.bsz z)) (Nat.lt_irrefl _)
 exfs:=fun b hb z=>by
  rcases List.mem_cons.mp (I.stkSub b z) with e|e
  ·exact (hf b hb).1.2.1 e
  ·exact (hf b hb).1.2.2.1 e
 funs:=I.stack
 frf:=I.stkFree
theorem getD_map_get{N:List Str}{js:List Nat}{i:Nat}{x:Str}(h:(js.map fun j=>N.getD j Str.empty)[i]?=some x):∃j,js[i]?=some j/\x=N.getD j Str.empty:=by
 rw[List.getElem?_map] at h;cases e:js[i]? with
 |none=>rw[e] at h;cases h
 |some j=>rw[e] at h;exact⟨j,rfl,(Option.some.inj h).symm⟩
theorem Inv.cmp(I:Inv X pins σ H s)(C:CmpOk X.N X.env.scope scope own js)(hf:∀b∈fp,FpOk X pins H b/\b<s.heap.objs.size){h':Heap}{tk:Nat}(hn:h'.Ns s.heap.objs.size fun _=>none)
  (kept:∀b o,s.heap.get? b=some o->h'.get? b=some o):Inv (X.cmp scope own js s H fp) [] (cmpSt own js σ) H { s with heap:=h',toks:=tk }:=by
 have ok:=I.cmpOk C hf;refine⟨ok,rfl,I.bare,Un.kept kept,⟨_,hn,fun i x v h1 h2 h3=>?_⟩,fun x c e=>?_,I.hok.fresh (Nat.le_refl _),fun x c e=>I.freeC x c (C.cl_of I.ok e).2,fun p hp=>?_,I.hok.kept kept,?_⟩
 ·have h1':(own++js.map fun j=>X.N.getD j Str.empty)[i]?=some x:=h1;have h2':(List.replicate own.length none++js.map fun j=>(σ[j]?).getD none)[i]?=some (some v):=h2;by_cases hi:i<own.length
  ·rw[List.getElem?_append_left (by simpa using hi),List.getElem?_replicate,if_pos hi] at h2';cases h2'
  ·rw[List.getElem?_append_right (by lia)] at h1';rw[List.getElem?_append_right (by simp;lia),List.length_replicate] at h2';obtain⟨j,hj,rfl⟩:=getD_map_get h1';rw[List.getElem?_map,hj] at h2';have h2'':(σ[j]?).getD none=some v:=Option.some.inj h2';have hσ:σ[j]?=some (some v):=by
    cases e:σ[j]? with
    |none=>rw[e] at h2'';cases h2''
    |some o=>
     rw[e] at h2'';have:o=some v:=h2'';rw[this]
   obtain⟨jl,jf⟩:=C.js j (List.mem_of_getElem? hj);have hN:X.N[j]?=some (X.N.getD j Str.empty):=by
    rw[List.getD_eq_getElem?_getD,List.getElem?_eq_getElem jl];rfl
   have hcell:=(C.free _ jf rfl).1;obtain⟨m,hm,hl⟩:=I.loc;obtain⟨u,ru,lk⟩:=hl j _ v hN hσ (.inr (.inl hcell));refine⟨u,ru,?_⟩;obtain⟨c,e1,e2⟩:=C.cl_has I.ok jf;rcases lk with⟨z,_⟩|⟨_,c',z1,z2⟩
   ·have z':X.env.scope.names.lookup (X.N.getD j Str.empty)=some .local:=z;rw[show X.env.scope.names.lookup (X.N.getD j Str.empty)=some .cell from hcell] at z';cases z'
   ·rw[e2] at z1;cases z1;have ic:h'.IsCell c (some u):=by
     obtain⟨o,q1,q2⟩:=z2;exact⟨o,kept _ _ q1,q2⟩
    rcases h3 with h3|h3|h3
    ·exfalso;rcases lookup_relabel (sc:=scope) (env:=X.env) scope.names h3 with⟨q,_⟩|⟨q,_⟩
     ·have z:=C.only _ jf rfl;rw[q] at z;cases z
     ·cases q
    ·exact .inr ⟨.inl h3,c,e1,ic⟩
    ·exact .inr ⟨.inr h3,c,e1,ic⟩
 ·obtain⟨v,o,q1,q2⟩:=I.cell x c (C.cl_of I.ok e).2;exact⟨v,o,kept _ _ q1,q2⟩
 ·exact absurd (show p∈([]:List (Addr×Obj)) from hp) (by simp)
 ·show (List.replicate own.length none++js.map fun j=>(σ[j]?).getD none).length=(own++js.map fun j=>X.N.getD j Str.empty).length;simp
theorem Inv.uncmp{σ':St}{H':Hp}{s':Shared}{pl:List (Addr×Obj)}(I:Inv X pins σ H s)(hf:∀b∈fp,FpOk X pins H b/\b<s.heap.objs.size)(J:Inv (X.cmp scope own js s H fp) pl σ' H' s'):Inv X pins σ H' s':=by
 refine I.call' (ch:=fp) J.os J.base J.hok J.bare fun b hb=>?_;obtain⟨f0,f1,f2,f3,f4,f5⟩:=(hf b hb).1;exact⟨f3,f1,f4,f5⟩
theorem Inv.other{H':Hp}{s':Shared}{h':Heap}{b:Addr}(I0:Inv X pins σ H s)(I:Inv X pins σ H' s')(hb:s.heap.objs.size≤b)(hn:H' b=none)(sb:Heap.SameBut b s'.heap h'):Inv X pins σ H' { s' with heap:=h' }:=by
 obtain⟨f0,f1,f2,f3,f4,f5⟩:=I0.fpOk hb hn;exact I.turned (t':=s'.toks) (fun c o hc e=>(sb.2 c hc).trans e) f0 f1 f3 f4 f5
end
def PCt(X:Cx)(ifs:List Expr)(t:TT):Prop:=
 ∀(pins:List (Addr×Obj)) (s:Shared) (σ:St) (H:Hp) (Q:Bool->Hp->Prop),Inv X pins σ H s->t σ H Q ->
  wpAny (model X.prog X.w) X.A (forIn ifs true fun c r=>if r=true then do let ok ←isTrue c X.env (eval c X.env);pure (ForInStep.yield ok) else pure (ForInStep.yield r)) (TP X pins σ Q) X.xe s
def tNoTest:TT:=fun _ H Q=>Q true H
theorem pct_nil{X:Cx}:PCt X [] tNoTest:=fun _ _ _ H _ I h=>wpAny_tests_nil ⟨H,I,h⟩
theorem pct_one{X:Cx}{c:Expr}{t:TT}(h:PT X c t):PCt X [c] t:=fun pins s σ H Q I hq=>wpAny_tests_one (h pins s σ H Q I hq)
section
variable {prog:Program} {w:World} {A:Around} {R:Result->Shared->Prop} {s:Shared}
theorem compLoop_turns{elt target iter:Expr}{ifs:List Expr}{scope:Scope}{pos:Pos}{it acc:Value}{env:Env}(I:Nat->Shared->Prop)
  (turn:∀n s,I n s->wpAny (model prog w) A (pyNext it) (fun r s₁=>match r with
   |none=>R (.ok .next) s₁
   | some v=>wpAny (model prog w) A (letOwnedTupleGo target it v) (fun _ s₁'=>wpAny (model prog w) A (assign target env v) (fun _ s₂=>
     wpAny (model prog w) A (forIn ifs true fun c r=>if r=true then do let ok ←isTrue c env (eval c env);pure (ForInStep.yield ok) else pure (ForInStep.yield r)) (fun ok s₃=>
      if ok=true then wpAny (model prog w) A (eval elt env) (fun x s₄=>
       wpAny (model prog w) A (call (.builtin "list.append") [acc,x]) (fun _ s₅=>∃m,m<n/\I m s₅) (fun _ _=>False) s₄) (fun _ _=>False) s₃
      else ∃m,m<n/\I m s₃) (fun _ _=>False) s₂) (fun _ _=>False) s₁') (fun _ _=>False) s₁) (fun _ _=>False) s)
  (n:Nat) (h:I n s):
  codeAny (model prog w) A (.compLoop (.ListComp elt [⟨target,iter,ifs,0⟩] scope pos) 0 it acc env) R s:=by
 refine codeAny_loop rfl I (fun n s hI=>?_) n h;show wpAny _ A ((compTurn (.ListComp elt [⟨target,iter,ifs,0⟩] scope pos) 0 it acc env).onRaise (fun x=>do noteFrame x env;theTreesLotGoes x)) _ _ s
 refine wpAny_noted ?_;rw[compTurn_list];refine wpAny_bind (wpAny_standAt (wpAny_bind (wpAny_mono (turn n s hI) (fun r s₁ h₁=>?_) fun _ _ h'=>h'.elim)));cases r with
 |none=>exact wpAny_pure h₁
 |some v=>
  refine wpAny_bind (wpAny_mono h₁ (fun _ s₁' h₁'=>?_) fun _ _ h'=>h'.elim);refine wpAny_bind (wpAny_mono h₁' (fun _ s₂ h₂=>wpAny_bind (wpAny_mono h₂ (fun ok s₃ h₃=>?_) fun _ _ h'=>h'.elim)) fun _ _ h'=>h'.elim);cases ok with
  |false=>exact wpAny_pure ⟨rfl,h₃⟩
  |true=>
   exact wpAny_bind (wpAny_bind (wpAny_mono h₃ (fun x s₄ h₄=>wpAny_bind (wpAny_mono h₄ (fun _ s₅ h₅=>wpAny_pure (wpAny_pure ⟨rfl,h₅⟩)) fun _ _ h'=>h'.elim)) fun _ _ h'=>h'.elim))
end
def LcRd(own:List Str)(js:List Nat)(g:TG)(tc:TT)(te:TE)(J:It)(σ:St)(H:Hp)(Q:VK):Prop:=
 ∀D,H D=none->∃W:Nat->Nat->List V->St->Hp->Prop,(∃m,W 0 m [] (cmpSt own js σ) (upd H D (.lst [])))/\∀i m ys σ' H',W i m ys σ' H'->H' D=some (.lst ys) ∧
  ((J.stop i H'/\Q (.ref D) H')∨(J.go i H'/\ys.length<sizeLine/\∀x H2,J.yld i H' x H2->g x σ' H2 fun σ2 H3=>tc σ2 H3 fun b H4=>
   if b=true then te σ2 H4 fun v H5=>H5 D=some (.lst ys)/\∃m',m' < m/\W (i+1) m' (ys++[v]) σ2 (upd H5 D (.lst (ys++[v]))) else ∃m',m' < m/\W (i+1) m' ys σ2 H4))
def tLc(own:List Str)(js:List Nat)(wi:TI)(g:TG)(tc:TT)(te:TE):TE:=fun σ H Q=>wi σ H fun J H1=>LcRd own js g tc te J σ H1 Q
section
variable {X:Cx} {tg iter elt:Expr} {ifs:List Expr} {scope:Scope} {pos:Pos} {own:List Str} {js:List Nat} {g:TG} {tc:TT} {te:TE}
theorem comp_block{pins:List (Addr×Obj)}{σ:St}{H:Hp}{s:Shared}{Q:VK}{it:Addr}{fp:List Addr}{tn:Nat->Heap->Prop}{J:It}{E:Value->Shared->Prop}{RR:Value->Addr->Result->Shared->Prop}
  (hc:X.calm=true) (C:CmpOk X.N X.env.scope scope own js)
  (hb:∀s H fp,PG (X.cmp scope own js s H fp) tg g/\PCt (X.cmp scope own js s H fp) ifs tc/\PE (X.cmp scope own js s H fp) elt te)
  (I:Inv X pins σ H s) (T:Turn X.prog X.w X.K tg J fp it tn) (st:tn 0 s.heap) (hf:∀b∈fp,FpOk X pins H b) (rd:LcRd own js g tc te J σ H Q)
  (hRR:∀D N s' H',Inv X pins σ H' s'->Q (.ref D) H'->s.heap.objs.size≤N->H' N=none->(∃m,s'.heap.Ns N m)->RR (.ref D) N (.ok .next) s'):
  wpAny (model X.prog X.w) X.A (newList []) (fun acc s₃=>wpAny (model X.prog X.w) X.A (newFunctionEnv scope X.env.globals (clos X.env scope.names []) [] X.env.qual none .none (some X.env)) (fun cenv s₄=>
   codeAny (model X.prog X.w) X.A (.compStart (.ListComp elt [⟨tg,iter,ifs,0⟩] scope pos) 0 (.ref it) acc { cenv with scope:=relabel scope X.env }) (RR acc cenv.locals) s₄) E s₃) E s:=by
 have hD:H s.heap.objs.size=none:=I.fresh;obtain⟨W,⟨m0,w0⟩,turn⟩:=rd s.heap.objs.size hD;refine wpAny_newObj_type ?_;have hI3:Inv X pins σ (upd H s.heap.objs.size (.lst [])) { s with heap:=s.heap.push { cls:=.type "list",data:=.seq ([]:List Value).toArray }}:=
  I.lnew (t':=s.toks) (its:=[]) (ys:=[]) .nil (Nat.zero_le _)
 have hlt:∀b∈fp,b<s.heap.objs.size:=fun b hb=>by
  obtain⟨o,e,_⟩:=T.obj 0 _ st b hb;exact Heap.lt_size e
 have st3:tn 0 (s.heap.push { cls:=.type "list",data:=.seq ([]:List Value).toArray }):=T.keep 0 _ _ st fun b _ o e=>Heap.get?_push_of_some _ e;generalize hs3:({ s with heap:=s.heap.push { cls:=.type "list",data:=.seq ([]:List Value).toArray }}:Shared)=s3 at hI3 ⊢;have hsz3:s3.heap.objs.size=s.heap.objs.size+1:=by rw[←hs3];exact Heap.size_push ..
 have st3':tn 0 s3.heap:=by rw[←hs3];exact st3
 have hf3:∀b∈fp,FpOk X pins (upd H s.heap.objs.size (.lst [])) b/\b<s3.heap.objs.size:=fun b hb=>by
  obtain⟨f0,f1⟩:=hf b hb;refine⟨⟨?_,f1⟩,by rw[hsz3];exact Nat.lt_succ_of_lt (hlt b hb)⟩;rw[upd_ne (Nat.ne_of_lt (hlt b hb))];exact f0
 refine wpAny_newFunctionEnv C.nocell (by intro y hy;simp at hy) (fun h₁ hns₁ hsb₁=>?_) C.kind;have kept1:∀b o,s3.heap.get? b=some o->h₁.get? b=some o:=fun b o e=>(hsb₁.2 b (Nat.ne_of_lt (Heap.lt_size e))).trans (Heap.get?_push_of_some _ e);have I4:Inv (X.cmp scope own js s3 (upd H s.heap.objs.size (.lst [])) fp) [] (cmpSt own js σ) (upd H s.heap.objs.size (.lst [])) { s3 with heap:=h₁,toks:=s3.toks+([]:List (Str×Value)).length }:=
  hI3.cmp C hf3 hns₁ kept1
 have st4:tn 0 h₁:=T.keep 0 _ _ st3' fun b _ o e=>kept1 b o e;obtain⟨hg,ht,he⟩:=hb s3 (upd H s.heap.objs.size (.lst [])) fp
 -- the iterator's objects in the block's context
 have stat:∀{H':Hp},(∀b∈fp,H' b=none)->∀b∈fp,FpOk (X.cmp scope own js s3 (upd H s.heap.objs.size (.lst [])) fp) [] H' b:=fun {H'} hn b hb=>by
  have q:=I4.ok;exact⟨hn b hb,(q.exf b hb).1,q.exfs b hb,.inl hb,(q.exf b hb).2,fun p hp=>absurd (show p∈([]:List (Addr×Obj)) from hp) (by simp)⟩
 have loop:codeAny (model X.prog X.w) X.A (.compLoop (.ListComp elt [⟨tg,iter,ifs,0⟩] scope pos) 0 (.ref it) (.ref s.heap.objs.size) (compEnvC scope (clos X.env scope.names []) s3.heap.objs.size X.env))
   (RR (.ref s.heap.objs.size) s3.heap.objs.size) { s3 with heap:=h₁,toks:=s3.toks+([]:List (Str×Value)).length }:=by
  refine compLoop_turns (fun n s'=>∃i ys σ' H',Inv (X.cmp scope own js s3 (upd H s.heap.objs.size (.lst [])) fp) [] σ' H' s'/\tn i s'.heap/\(∀b∈fp,H' b=none)/\W i n ys σ' H') ?_ m0
   ⟨0,[],_,_,I4,st4,fun b hb=>(hf3 b hb).1.1,w0⟩
  rintro n s5 ⟨i,ys,σ5,H5,I5,st5,fr5,w5⟩;obtain⟨hacc,hcase⟩:=turn i n ys σ5 H5 w5;rcases hcase with⟨stop,qn⟩|⟨go,hys,step⟩
  ·refine thn (T.done (X.cmp scope own js s3 (upd H s.heap.objs.size (.lst [])) fp) rfl rfl rfl hc i [] s5 σ5 H5 (fun _ _=>False) I5 (stat fr5) st5 stop) fun r s6 ⟨hr,I6⟩=>?_;subst hr;have I7:=hI3.uncmp hf3 I6;obtain⟨m,hm,_⟩:=I6.loc;exact hRR _ _ _ _ I7 qn (by rw[hsz3];exact Nat.le_succ _) I6.free ⟨m,hm⟩
  ·refine thn (T.item (X.cmp scope own js s3 (upd H s.heap.objs.size (.lst [])) fp) rfl rfl rfl hc i [] s5 σ5 H5 (fun _ _=>False) I5 (stat fr5) st5 go) fun r s6 ⟨u,hr,h6⟩=>?_;subst hr;refine thn h6 fun _ s7 ⟨x,H7,I7,r7,y7,st7,fr7⟩=>?_;have I7':=I7.pinned (stat fr7) (T.obj _ _ st7);refine thn (hg _ s7 σ5 H7 x u _ I7' r7 (step x H7 y7)) fun _ s8 ⟨σ8,H8,I8,q8⟩=>?_;refine thn (ht _ s8 σ8 H8 _ I8 q8) fun ok s9 ⟨H9,I9,q9⟩=>?_;have back:∀{σ':St} {H':Hp} {s':Shared} {ys':List V},Inv (X.cmp scope own js s3 (upd H s.heap.objs.size (.lst [])) fp) ([]++pinsAt fp s7.heap) σ' H' s'->(∃m',m' < n/\W (i+1) m' ys' σ' H') ->
     ∃m',m' < n/\∃i ys σ' H',Inv (X.cmp scope own js s3 (upd H s.heap.objs.size (.lst [])) fp) [] σ' H' s'/\tn i s'.heap/\(∀b∈fp,H' b=none)/\W i m' ys σ' H':=fun {σ' H' s' ys'} I' ⟨m',hm,w'⟩=>by
    refine⟨m',hm,i+1,ys',σ',H',I'.unpinned,T.keep _ _ _ st7 fun b hb o e=>(I'.pin (b,o) (List.mem_append_right _ (List.mem_append_right _ (mem_pinsAt hb e)))).1,fun b hb=>?_,w'⟩;obtain⟨o,e,d⟩:=T.obj _ _ st7 b hb;exact (I'.pin (b,o) (List.mem_append_right _ (List.mem_append_right _ (mem_pinsAt hb e)))).2.1
   cases ok with
   |false=>
    rw[if_neg Bool.false_ne_true] at q9 ⊢;exact back I9 q9
   |true=>
    rw[if_pos rfl] at q9 ⊢;refine thn (he _ s9 σ8 H9 _ I9 q9) fun xv s10 ⟨v,H10,I10,r10,hD10,q10⟩=>?_;refine thn (mt_append (X:=X.cmp scope own js s3 (upd H s.heap.objs.size (.lst [])) fp) _ s10 σ8 H10 (.ref s.heap.objs.size) [v] (.ref s.heap.objs.size) [xv] (fun _ H'=>H'=upd H10 s.heap.objs.size (.lst (ys++[v]))) I10 rfl (.cons r10 .nil)
     ⟨_,ys,v,rfl,rfl,hD10,hys,rfl⟩) fun _ s11 ⟨_,H11,I11,_,e11⟩=>?_
    subst e11;exact back I11 q10
 exact codeAny_compStart_list loop (T.self _ 0 _ _ _ st4 loop)
theorem pe_comp{wi:TI}(hc:X.calm=true)(C:CmpOk X.N X.env.scope scope own js)(hi:PI X tg iter wi)
  (hb:∀s H fp,PG (X.cmp scope own js s H fp) tg g/\PCt (X.cmp scope own js s H fp) ifs tc/\PE (X.cmp scope own js s H fp) elt te)
  (hs:∀x,foldedSetIterable iter X.env x=pure x:=by intro _;rfl):PE X (.ListComp elt [⟨tg,iter,ifs,0⟩] scope pos) (tLc own js wi g tc te):=by
 intro pins s σ H Q I h;rw[eval_ListComp];refine wpAny_comprehension_free (use:=none) rfl hs (closureFor_clos (C.cells I.ok)) C.kind C.names (thn (hi pins s σ H _ I h) fun xv s₁ h₁=>thn h₁ fun itv s₂ h₂=>?_);obtain⟨it,fp,tn,J,H2,e,I2,T,st2,f2,rd⟩:=h₂;subst e;refine comp_block (RR:=fun acc C'=>compPost (model X.prog X.w) X.A X.xe none (EP X pins σ Q) acc C') hc C hb I2 T st2 f2 rd fun D N s' H' I' q hN hHN ⟨m,hm⟩=>?_;exact⟨m,hm,fun h' sb=>⟨.ref D,H',I2.other I' hN hHN sb,rfl,q⟩⟩
end
end L2
namespace L3
open PySem PySem.Spec PyProof.Rows L2
section
variable {X:Cx} {st:Stmt} {rest:List Stmt} {t u:TS3} {e c:Expr} {te:TE3} {tc:TT3} {pos:Pos}
def sNext:TS3:=fun D τ G=>D.nx τ G
def sSeq(t u:TS3):TS3:=fun D τ G=>t { D with nx:=u D } τ G
theorem s_nil:PSs3 X [] sNext:=pss_of pss_nil fun D σ H ⟨τ,G,D3,RS,RG,h,k⟩=>k.nx τ σ G H RS (.refl H G) RG h
theorem s_cons(h1:PS3 X st t)(h2:PSs3 X rest u):PSs3 X (st::rest) (sSeq t u):=pss_of (pss_cons h1 h2) fun D σ H ⟨τ,G,D3,RS,RG,h,k⟩=>
 ⟨τ,G,{ D3 with nx:=u D3 },RS,RG,h,⟨fun τ' σ' G' H' a b c q=>⟨τ',G',D3,a,c,q,k.step b⟩,k.bk,k.ct,k.rt⟩⟩
theorem s_one(h1:PS3 X st t):PSs3 X [st] t:=pss_one h1
def sDrop(te:TE3):TS3:=fun D τ G=>te τ G fun _ G1=>D.nx τ G1
theorem s_expr(he:PE3 X e te)(hs:swapsWith e none pos.line X.env=pure false:=by rfl):PS3 X (.Expr e pos) (sDrop te):=ps_of (ps_expr he hs) fun D σ H ⟨τ,G,D3,RS,RG,h,k⟩=>
 ⟨τ,G,_,RS,RG,h,fun v H1 d G1 h1 S1 R1 q1=>k.nx τ σ G1 H1 (RS.ext (S1.ext RG)) S1 R1 q1⟩
def sRet(te:TE3):TS3:=fun D τ G=>te τ G D.rt
theorem s_ret(he:PE3 X e te):PS3 X (.Return (some e) pos) (sRet te):=ps_of (ps_ret he) fun D σ H ⟨τ,G,D3,RS,RG,h,k⟩=>
 ⟨τ,G,D3.rt,RS,RG,h,fun v H1 d G1 h1 S1 R1 q1=>k.rt d v G1 H1 h1 S1 R1 q1⟩
def sIf(c:TT3)(t u:TS3):TS3:=fun D τ G=>c τ G fun b G1=>Br b (t D τ G1) (u D τ G1)
theorem s_if{a b:List Stmt}(hc:PT3 X c tc)(ha:PSs3 X a t)(hb:PSs3 X b u):PS3 X (.If c a b pos) (sIf tc t u):=ps_of (ps_if hc ha hb) fun D σ H ⟨τ,G,D3,RS,RG,h,k⟩=>
 ⟨τ,G,_,RS,RG,h,fun b H1 G1 S1 R1 q1=>Br.ite q1 (fun q=>⟨τ,G1,D3,RS.ext (S1.ext RG),R1,q,k.step S1⟩) fun q=>⟨τ,G1,D3,RS.ext (S1.ext RG),R1,q,k.step S1⟩⟩
end
abbrev TG3:=D->S3->Gp->(S3->Gp->Prop)->Prop
abbrev TGs3:=List D->S3->Gp->(S3->Gp->Prop)->Prop
def lowG(K:PySem.W.Frag)(t:TG3):TG:=fun v σ H Q=>∃d τ G Q3,Hv K H d v/\RepS K τ σ H/\RepG K G H/\t d τ G Q3/\∀τ' σ' G' H',RepS K τ' σ' H'->Step H G H' G'->RepG K G' H'->Q3 τ' G'->Q σ' H'
def lowGs(K:PySem.W.Frag)(t:TGs3):TGs:=fun vs σ H Q=>∃ds τ G Q3,Hvs K H ds vs/\RepS K τ σ H/\RepG K G H/\t ds τ G Q3/\∀τ' σ' G' H',RepS K τ' σ' H'->Step H G H' G'->RepG K G' H'->Q3 τ' G'->Q σ' H'
abbrev PG3(X:Cx)(tg:Expr)(t:TG3):Prop:=PG X tg (lowG X.K t)
abbrev PGs3(X:Cx)(tgs:List Expr)(t:TGs3):Prop:=PGs X tgs (lowGs X.K t)
section
variable {X:Cx} {pos:Pos} {e:Expr} {es:List Expr}
theorem pg_of{t t':TG}(h:PG X e t)(f:∀v σ H Q,t' v σ H Q->t v σ H Q):PG X e t':=fun pins s σ H v u Q I r q=>h pins s σ H v u Q I r (f v σ H Q q)
theorem pgs_of{t t':TGs}(h:PGs X es t)(f:∀v σ H Q,t' v σ H Q->t v σ H Q):PGs X es t':=fun pins s σ H v u Q I r q=>h pins s σ H v u Q I r (f v σ H Q q)
def hName(i:Nat):TG3:=fun d τ G Q=>Q (set3 τ i d) G
theorem h_name{i:Nat}{x:Str}(hN:X.N.Nodup)(hi:X.N[i]?=some x:=by rfl)(hx:Loc X.env.scope x:=by first|exact Or.inl rfl|exact Or.inr rfl)(hf:X.fn x=true∨X.env.scope.names.lookup x=some .local:=by first|exact .inl rfl|exact .inr rfl|assumption):PG3 X (.Name x pos) (hName i):=
 pg_of (pg_name hN hi hx hf) fun v σ H Q ⟨d,τ,G,Q3,hd,RS,RG,h,k⟩=>k _ _ G H (RS.set hd) (.refl H G) RG h
def hNil:TGs3:=fun ds τ G Q=>match ds with
 |[]=>Q τ G
 |_::_=>False
def hCons(t:TG3)(u:TGs3):TGs3:=fun ds τ G Q=>match ds with
 |[]=>False
 |d::r=>t d τ G fun τ' G'=>u r τ' G' Q
theorem hs_nil:PGs3 X [] hNil:=pgs_of pgs_nil fun vs σ H Q ⟨ds,τ,G,Q3,hd,RS,RG,h,k⟩=>by
 cases ds with
 |nil=>exact⟨hd.inv0,k _ _ G H RS (.refl H G) RG h⟩
 |cons d r=>exact h.elim
theorem hs_cons{t:TG3}{u:TGs3}(h1:PG3 X e t)(h2:PGs3 X es u)(hs:(assignEach (e::es) X.env).map (·.2)=assign e X.env::(assignEach es X.env).map (·.2):=by rfl):PGs3 X (e::es) (hCons t u):=
 pgs_of (pgs_cons h1 h2 hs) fun vs σ H Q ⟨ds,τ,G,Q3,hd,RS,RG,h,k⟩=>by
  cases ds with
  |nil=>exact h.elim
  |cons d r=>
   obtain⟨v,vr,rfl,q1,q2⟩:=hd.inv;refine⟨v,vr,rfl,d,τ,G,_,q1,RS,RG,h,fun τ' σ' G' H' a b c q=>?_⟩;exact⟨r,τ',G',Q3,q2.ext (b.ext RG),a,c,q,fun τ2 σ2 G2 H2 a2 b2 c2=>k τ2 σ2 G2 H2 a2 (b.trans b2) c2⟩
def hTup(n:Nat)(t:TGs3):TG3:=fun d τ G Q=>match d with
 |.tup ds=>ds.length=n/\t ds τ G Q
 |_=>False
theorem h_tup{k:Nat}{t:TGs3}{n:Nat}(hc:X.calm=true)(h:PGs3 X es t)(hn:(assignEach es X.env).length=n:=by rfl)(hst:(assignEach es X.env).findIdx? (·.1)=none:=by rfl):PG3 X (.Tuple es k pos) (hTup n t):=
 pg_of (pg_tup hc h hn hst) fun v σ H Q ⟨d,τ,G,Q3,hd,RS,RG,h,k⟩=>by
  cases d with
  |tup ds=>
   unfold Hv at hd;obtain⟨a,vs,e1,e2,e3⟩:=hd;exact⟨a,vs,e1,e2,by rw[←e3.length];exact h.1,ds,τ,G,Q3,e3,RS,RG,h.2,k⟩
  |_=>exact h.elim
def sAsg(te:TE3)(g:TG3):TS3:=fun D τ G=>te τ G fun x G1=>g x τ G1 D.nx
theorem s_asg{tg:Expr}{te:TE3}{g:TG3}(he:PE3 X e te)(hg:PG3 X tg g)(hs:swapsWithSole [tg] e pos.line X.env=pure false:=by rfl)(hw:swappedStores [tg] e X.env=pure none:=by rfl)
  (h1:(assignEach [tg] X.env).map (·.2)=[assign tg X.env]:=by rfl):PS3 X (.Assign [tg] e pos) (sAsg te g):=ps_of (ps_asg he hg hs hw h1) fun D σ H ⟨τ,G,D3,RS,RG,h,k⟩=>
 ⟨τ,G,_,RS,RG,h,fun v H1 d G1 h1 S1 R1 q1=>⟨d,τ,G1,D3.nx,h1,RS.ext (S1.ext RG),R1,q1,fun τ' σ' G' H' a b c q=>k.nx τ' σ' G' H' a (S1.trans b) c q⟩⟩
theorem s_set{i:Nat}{x:Str}{te:TE3}{pos':Pos}(hN:X.N.Nodup)(he:PE3 X e te)(hi:X.N[i]?=some x:=by rfl)(hx:Loc X.env.scope x:=by first|exact Or.inl rfl|exact Or.inr rfl)(hs:swapsWith e (some (.Name x pos')) pos.line X.env=pure false:=by rfl)
  (hf:X.fn x=true∨X.env.scope.names.lookup x=some .local:=by first|exact .inl rfl|exact .inr rfl|assumption):PS3 X (.Assign [.Name x pos'] e pos) (sAsg te (hName i)):=ps_of (ps_set hN hi hx he hs hf) fun D σ H ⟨τ,G,D3,RS,RG,h,k⟩=>
 ⟨τ,G,_,RS,RG,h,fun v H1 d G1 h1 S1 R1 q1=>k.nx _ _ G1 H1 ((RS.ext (S1.ext RG)).set h1) S1 R1 q1⟩
def sPar(i j:Nat)(ta:TA3):TS3:=fun D τ G=>ta τ G fun ds G1=>match ds with
 |[a,b]=>D.nx (set3 (set3 τ i a) j b) G1
 |_=>False
theorem s_par{i j:Nat}{st:Stmt}{ta:TA3}(h:PS X st (tPar i j (lowA X.K ta))):PS3 X st (sPar i j ta):=ps_of h fun D σ H ⟨τ,G,D3,RS,RG,h,k⟩=>
 ⟨τ,G,_,RS,RG,h,fun vs H1 ds G1 h1 S1 R1 q1=>by
  match ds,h1,q1 with
  |[a,b],h1,q1=>
   obtain⟨v,r,rfl,z1,z2⟩:=h1.inv;obtain⟨w,r2,rfl,z3,z4⟩:=z2.inv;cases z4.inv0;exact⟨v,w,rfl,k.nx _ _ G1 H1 (((RS.ext (S1.ext RG)).set z1).set z3) S1 R1 q1⟩
  |[],_,q1=>exact q1.elim
  |[_],_,q1=>exact q1.elim
  |_::_::_::_,_,q1=>exact q1.elim⟩
def rSet3:D->D->D->Gp->(Gp->Prop)->Prop:=fun o i v G Q=>match o,i with
 |.obj p,.int k=>∃ds j,G p=some (.lst ds)/\ixN ds.length k=some j/\Q (upd3 G p (.lst (ds.set j v)))
 |_,_=>False
def hSub(to ti:TE3):TG3:=fun v τ G Q=>to τ G fun o G1=>ti τ G1 fun i G2=>rSet3 o i v G2 fun G3=>Q τ G3
theorem low_set{K:PySem.W.Frag}{o i v:D}{vo vi vv:V}{G:Gp}{H:Hp}{Q3:Gp->Prop}{Q:Hp->Prop}(ho:Hv K H o vo)(hi:Hv K H i vi)(hv:Hv K H v vv)(RG:RepG K G H)(h:rSet3 o i v G Q3)
  (k:∀H' G',Step H G H' G'->RepG K G' H'->Q3 G'->Q H'):rSetL vo vi vv H Q:=by
 match o,i,ho,hi,h with
 |.obj p,.int j,ho,hi,h=>
  unfold Hv at ho hi;obtain⟨ds,n,e1,e2,q⟩:=h;obtain⟨vs,e3,e4⟩:=RG p _ e1;refine⟨p,vs,j,n,ho,hi,e3,by rw[←e4.length];exact e2,k _ _ (Step.wrote (g:=.lst (ds.set n v)) e1) (RG.wrote e3 ⟨_,upd_same,?_⟩) q⟩;exact (e4.ext (Ext.wrote e3)).set n (hv.ext (Ext.wrote e3))
 |.obj _,.non,_,_,h=>exact h.elim
 |.obj _,.bl _,_,_,h=>exact h.elim
 |.obj _,.str _,_,_,h=>exact h.elim
 |.obj _,.tup _,_,_,h=>exact h.elim
 |.obj _,.scr _,_,_,h=>exact h.elim
 |.obj _,.obj _,_,_,h=>exact h.elim
 |.obj _,.dc _,_,_,h=>exact h.elim
 |.dc _,_,_,_,h=>exact h.elim
 |.non,_,_,_,h=>exact h.elim
 |.bl _,_,_,_,h=>exact h.elim
 |.int _,_,_,_,h=>exact h.elim
 |.str _,_,_,_,h=>exact h.elim
 |.tup _,_,_,_,h=>exact h.elim
 |.scr _,_,_,_,h=>exact h.elim
theorem h_sub{o i:Expr}{to ti:TE3}(ho:PE3 X o to)(hi:PE3 X i ti)
  (ha:∀v,assign (.Subscript o i pos) X.env v=(do
   let ov ←holding [v] (eval o X.env)
   let iv ←holding [v,ov] (eval i X.env)
   standAt pos
   holding [v,ov,iv] (setItem ov iv v)
   release [v,ov,iv] []):=by intro _;rfl):PG3 X (.Subscript o i pos) (hSub to ti):=pg_of (pg_sub ho hi set_list ha) fun v σ H Q ⟨d,τ,G,Q3,hd,RS,RG,h,k⟩=>
 ⟨τ,G,_,RS,RG,h,fun v1 H1 d1 G1 h1 S1 R1 q1=>⟨τ,G1,_,RS.ext (S1.ext RG),R1,q1,fun v2 H2 d2 G2 h2 S2 R2 q2=>
  low_set (h1.ext (S2.ext R1)) h2 ((hd.ext (S1.ext RG)).ext (S2.ext R1)) R2 q2 fun H' G' y1 y2 y3=>k _ _ G' H' (((RS.ext (S1.ext RG)).ext (S2.ext R1)).ext (y1.ext R2)) ((S1.trans S2).trans y1) y2 y3⟩⟩
def sWhile(c:TT3)(tb:TS3):TS3:=fun D τ G=>∃W:Nat->S3->Gp->Prop,(∃m,W m τ G)/\∀m τ G,W m τ G ->
 c τ G fun b G1=>Br b (tb { D with nx:=fun τ' G'=>∃m',m' < m/\W m' τ' G',ct:=fun τ' G'=>∃m',m' < m/\W m' τ' G',bk:=D.nx } τ G1) (D.nx τ G1)
theorem s_while{c:Expr}{body:List Stmt}{tc:TT3}{tb:TS3}(hp:PassesOwn (model X.prog X.w) X.A X.env X.xe)(hc:PT3 X c tc)(hb:PSs3 X body tb):PS3 X (.While c body [] pos) (sWhile tc tb):=
 ps_of (ps_while hp hc hb) fun D σ H ⟨τ,G,D3,RS,RG,⟨W,⟨m0,w0⟩,turn⟩,k⟩=>by
  refine⟨fun m σ' H'=>∃τ' G',W m τ' G'/\RepS X.K τ' σ' H'/\RepG X.K G' H'/\Step H G H' G',⟨m0,τ,G,w0,RS,RG,.refl H G⟩,fun m σ1 H1 ⟨τ1,G1,w1,RS1,RG1,S1⟩=>?_⟩;refine⟨τ1,G1,_,RS1,RG1,turn m τ1 G1 w1,fun b H2 G2 S2 R2 q2=>Br.ite q2 (fun q=>?_) fun q=>k.nx _ _ G2 H2 (RS1.ext (S2.ext RG1)) (S1.trans S2) R2 q⟩;refine⟨fun σ' H'=>∃τ' G',(∃m',m' < m/\W m' τ' G')/\RepS X.K τ' σ' H'/\RepG X.K G' H'/\Step H G H' G',fun σ' H' ⟨τ',G',⟨m',hm,w'⟩,a,b,c⟩=>⟨m',hm,τ',G',w',a,b,c⟩,?_⟩;refine⟨τ1,G2,_,RS1.ext (S2.ext RG1),R2,q,⟨?_,?_,?_,?_⟩⟩
  ·exact fun τ' σ' G' H' a b c q=>⟨τ',G',q,a,c,(S1.trans S2).trans b⟩
  ·exact fun τ' σ' G' H' a b c q=>k.nx τ' σ' G' H' a ((S1.trans S2).trans b) c q
  ·exact fun τ' σ' G' H' a b c q=>⟨τ',G',q,a,c,(S1.trans S2).trans b⟩
  ·exact fun d v G' H' a b c q=>k.rt d v G' H' a ((S1.trans S2).trans b) c q
end
abbrev Sp3:=List D->Gp->V3->Prop
def lowSp(K:PySem.W.Frag)(sp:Sp3):Sp:=fun vs H Q _=>∃ds G Q3,Hvs K H ds vs/\RepG K G H/\sp ds G Q3/\∀v H' d G',Hv K H' d v->Step H G H' G'->RepG K G' H'->Q3 d G'->Q v H'
abbrev FnOk3(P:Program)(w:World)(K:PySem.W.Frag)(mg:Str->Option Value)(base:Heap)(k:Nat)(f:Addr)(fd:FuncData)(ps:List Str)(sp:Sp3):Prop:=FnOk P w K mg base CX0 k f fd ps (lowSp K sp)
def eCall(sp:Sp3)(t:TA3):TE3:=fun τ G Q=>t τ G fun ds G1=>sp ds G1 Q
section
variable {X:Cx} {k:Nat} {f:Addr} {fd:FuncData} {ps:List Str} {sp:Sp3} {x:Str} {p pos:Pos} {e:Expr} {es:List Expr} {t:TA3}
theorem low_call{K:PySem.W.Frag}{σ:L2.St}{H:Hp}{Q:VK}{E:XK}(h:low K (eCall sp t) σ H Q):tCall (lowSp K sp) [] E (lowA K t) σ H Q:=by
 obtain⟨τ,G,Q3,RS,RG,h,k⟩:=h;refine⟨τ,G,_,RS,RG,h,fun vs H1 ds G1 h1 S1 R1 q1=>?_⟩;refine⟨ds,G1,Q3,by rw[List.append_nil];exact h1,R1,q1,fun v H' d G' z1 z2 z3 z4=>k v H' d G' z1 (S1.trans z2) z3 z4⟩
theorem e_call(F:FnOk3 X.prog X.w X.K X.mg X.base k f fd ps sp)(hr:Room k X.A)(hm:X.mg x=some (.ref f))(hk:PySem.W.keepIn X.K (.ref f)=true)(hb:Binds X.K fd ps [])(ha:PA3 X (e::es) t)(hg:Gl X x:=by rfl)
  (hdb:(x==("__debug__":Str))=false:=by decide) (he:notStar e=true:=by rfl) (hpl:es.all notStar=true:=by rfl):
  PE3 X (.Call (.Name x p) (e::es) [] pos) (eCall sp t):=pe_of (pe_call (E:=E0) F hr hg hm hk hb .nil pass0 ha hdb (star_of he) (star_any hpl)) fun σ H Q h=>low_call h
end
section
variable {P:Program} {w:World} {K:PySem.W.Frag} {mg:Str->Option Value} {base:Heap}
def endsOf(Q:V3):Ends3:={ nx:=fun _ G'=>∃G0,Sub G0 G'/\Q .non G0,rt:=fun d G'=>∃G0,Sub G0 G'/\Q d G0 }
theorem fn3{x qual:Str}{st:Stmt}{f:Addr}{fd:FuncData}{N ps:List Str}{k:Nat}{sp:Sp3}(F:Fun K x qual st f fd)(S:FnScope N ps (defScope st))(hN:ps.length≤N.length)(len:∀ds G Q,sp ds G Q->ds.length=ps.length)(tb:TS3)
  (hbody:∀(cdv:Value) (A:Around) (outer:List Env) (s:Shared) (H:Hp) (E:XK),Room k (A.deeper (envOfC qual (defScope st) s.heap.objs.size f cdv)) ->
   PSs3 (cxOf CX0 P w K mg base N qual (defScope st) f cdv A outer s H E).nox (defBody st) tb)
  (hrd:∀ds G Q,sp ds G Q->tb (endsOf Q) (start3 N ds) G):FnOk3 P w K mg base (k+1) f fd ps sp:=by
 refine F.ok S (fun vs H Q E h=>?_) (fun cdv A outer s H vs Q E hr h=>?_)
 ·obtain⟨ds,G,Q3,h1,h2,h3,h4⟩:=h;rw[←h1.length];exact len _ _ _ h3
 ·obtain⟨ds,G,Q3,h1,h2,h3,h4⟩:=h;refine⟨_,hbody cdv A outer s H E hr,start3 N ds,G,endsOf Q3,.start h1 ?_,h2,hrd _ _ _ h3,⟨?_,?_,?_,?_⟩⟩
  ·rw[←h1.length,len _ _ _ h3];exact hN
  ·exact fun τ σ G' H' a b c ⟨G0,s0,q⟩=>h4 _ H' .non G0 (by simp[Hv]) (b.trans (.sub s0)) (c.sub s0) q
  ·exact fun τ σ G' H' a b c q=>q.elim
  ·exact fun τ σ G' H' a b c q=>q.elim
  ·exact fun d v G' H' a b c ⟨G0,s0,q⟩=>h4 _ H' d G0 a (b.trans (.sub s0)) (c.sub s0) q
end
end L3
namespace L3
open PySem PySem.Spec PyProof.Rows L2
structure Src where
 items:List D
 guard:Gp->Prop
structure SrcOk(K:PySem.W.Frag)(H0:Hp)(J:It)(S:Src):Prop where
 go:∀(i:Nat) d H G,Ext H0 H->RepG K G H->S.guard G->S.items[i]?=some d->J.go i H/\∀x H',J.yld i H x H'->Hv K H' d x/\Step H G H' G/\RepG K G H'
 stop:∀(i:Nat) H G,Ext H0 H->RepG K G H->S.guard G->S.items.length≤i->J.stop i H
abbrev TI3:=S3->Gp->(Src->Gp->Prop)->Prop
def lowI(K:PySem.W.Frag)(ti:TI3):TI:=fun σ H R=>∃τ G R3,RepS K τ σ H/\RepG K G H/\ti τ G R3/\∀J H' S G',SrcOk K H' J S->Step H G H' G'->RepG K G' H'->R3 S G'->R J H'
abbrev PI3(X:Cx)(tg iter:Expr)(ti:TI3):Prop:=PI X tg iter (lowI X.K ti)
section
variable {X:Cx} {tg iter:Expr} {pos p:Pos}
theorem pi_of{t t':TI}(h:PI X tg iter t)(f:∀σ H R,t' σ H R->t σ H R):PI X tg iter t':=fun pins s σ H R I q=>h pins s σ H R I (f σ H R q)
def iSeq(te:TE3):TI3:=fun τ G R=>te τ G fun x G1=>match x with
 |.obj p=>∃ds,G1 p=some (.lst ds)/\R ⟨ds,fun G=>G p=some (.lst ds)⟩ G1
 |.tup ds=>R ⟨ds,fun _=>True⟩ G1
 |.scr ds=>R ⟨ds,fun _=>True⟩ G1
 |_=>False
theorem i_seq{l:Expr}{te:TE3}(hl:PE3 X l te):PI3 X tg l (iSeq te):=by
 intro pins s σ H R I h;obtain⟨τ,G,R3,RS,RG,h,k⟩:=h
 -- the state carries what a list of the heap is
 refine thn (hl pins s σ H (fun v H'=>∃d G',Hv X.K H' d v/\Step H G H' G'/\RepG X.K G' H'/\(match d with
  |.obj p=>∃ds,G' p=some (.lst ds)/\R3 ⟨ds,fun G=>G p=some (.lst ds)⟩ G'
  |.tup ds=>R3 ⟨ds,fun _=>True⟩ G'
  |.scr ds=>R3 ⟨ds,fun _=>True⟩ G'
  | _=>False)) I ⟨τ,G,_,RS,RG,h,fun v H' d G' a b c q=>⟨d,G',a,b,c,q⟩⟩) fun v s1 ⟨x,H1,I1,r1,d,G1,hv,S1,R1,q⟩=>?_
 have hlist:∀(a:Addr) (its:List Value) (xs:List V),Vals xs its->PlainL s1.heap a its.toArray->R (Itl X.K a) H1->wpAny (model X.prog X.w) X.A (pyIter (.ref a)) (PIE X pins σ tg R) X.xe s1:=by
  intro a its xs rv p q;refine wpAny_pyIter_list p.isList ?_;refine⟨s1.heap.objs.size,[s1.heap.objs.size],_,_,H1,rfl,I1.kept (t':=s1.toks) fun b o e=>Heap.get?_push_of_some _ e,turn_list a _,⟨_,Heap.get?_push_size _ rfl,rfl,rfl⟩,fun b hb=>?_,q⟩;have e:b=s1.heap.objs.size:=by simpa using hb
  subst e;exact I1.fpOk (Nat.le_refl _) (I1.hok.fresh (Nat.le_refl _))
 cases d with
 |obj a=>
  unfold Hv at hv;subst hv;cases r1;obtain⟨ds,e1,q⟩:=q;obtain⟨vs,e2,e3⟩:=R1 a _ e1;obtain⟨its,rv,p,hz⟩:=I1.list (SqL.of e2);refine hlist a its vs rv p (k _ _ _ _ ⟨?_,?_⟩ S1 R1 q)
  ·intro i d H' G' E' RG' hg hi;obtain⟨vs',z1,z2⟩:=RG' a _ hg;obtain⟨v',y1,y2⟩:=z2.get hi;refine⟨⟨vs',v',.of z1,y1⟩,fun x H'' hy=>?_⟩;obtain⟨rfl,hy⟩:=hy;have:=hy vs' (.of z1);rw[y1] at this;cases this;exact⟨y2,.refl _ _,RG'⟩
  ·intro i H' G' E' RG' hg hi;obtain⟨vs',z1,z2⟩:=RG' a _ hg;exact⟨vs',.of z1,by rw[←z2.length];exact hi⟩
 |tup ds=>
  unfold Hv at hv;obtain⟨a,vs,rfl,e2,e3⟩:=hv;cases r1;obtain⟨its,rv,p,hz⟩:=I1.tuple e2;have hq:R (Itt X.K a) H1:=by
   refine k _ _ _ _ ⟨?_,?_⟩ S1 R1 q
   ·intro i d H' G' E' RG' hg hi;obtain⟨v',y1,y2⟩:=e3.get hi;refine⟨⟨vs,v',SqT.ext E' e2,y1⟩,fun x H'' hy=>?_⟩;obtain⟨rfl,hy⟩:=hy;have:=hy vs (SqT.ext E' e2);rw[y1] at this;cases this;exact⟨y2.ext E',.refl _ _,RG'⟩
   ·intro i H' G' E' RG' hg hi;exact⟨vs,SqT.ext E' e2,by rw[←e3.length];exact hi⟩
  refine wpAny_pyIter_tuple (show s1.heap.IsTuple a its.toArray from p) ?_;refine⟨s1.heap.objs.size,[s1.heap.objs.size],_,_,H1,rfl,I1.kept (t':=s1.toks) fun b o e=>Heap.get?_push_of_some _ e,turn_tuple a _,⟨_,Heap.get?_push_size _ rfl,rfl,rfl⟩,fun b hb=>?_,hq⟩;have e:b=s1.heap.objs.size:=by simpa using hb
  subst e;exact I1.fpOk (Nat.le_refl _) (I1.hok.fresh (Nat.le_refl _))
 |scr ds=>
  unfold Hv at hv;obtain⟨a,vs,rfl,e2,e3⟩:=hv;cases r1;obtain⟨its,rv,p,hz⟩:=I1.list e2.l;refine hlist a its vs rv p (k _ _ _ _ ⟨?_,?_⟩ S1 R1 q)
  ·intro i d H' G' E' RG' hg hi;obtain⟨v',y1,y2⟩:=e3.get hi;refine⟨⟨vs,v',(SqF.ext E' e2).l,y1⟩,fun x H'' hy=>?_⟩;obtain⟨rfl,hy⟩:=hy;have:=hy vs (SqF.ext E' e2).l;rw[y1] at this;cases this;exact⟨y2.ext E',.refl _ _,RG'⟩
  ·intro i H' G' E' RG' hg hi;exact⟨vs,(SqF.ext E' e2).l,by rw[←e3.length];exact hi⟩
 |non=>exact q.elim
 |bl _=>exact q.elim
 |int _=>exact q.elim
 |str _=>exact q.elim
 |dc _=>exact q.elim
def rngL(lo:Int)(n:Nat):List D:=(List.range n).map fun i:Nat=>.int (lo+(i:Int))
theorem rngL_get{lo:Int}{n i:Nat}{d:D}(h:(rngL lo n)[i]?=some d):i<n/\d=.int (lo+(i:Int)):=by
 unfold rngL at h;rw[List.getElem?_map] at h;by_cases hi:i<n
 ·rw[List.getElem?_range hi] at h;simp at h;exact⟨hi,h.symm⟩
 ·rw[List.getElem?_eq_none_iff.mpr (by simpa using hi)] at h;cases h
theorem rngL_length(lo:Int)(n:Nat):(rngL lo n).length=n:=by simp[rngL]
theorem src_rng{K:PySem.W.Frag}{H:Hp}(lo:Int)(n:Nat):SrcOk K H (Itr lo n) ⟨rngL lo n,fun _=>True⟩:=⟨by
 intro i d H' G' _ RG _ hi;obtain⟨h1,h2⟩:=rngL_get hi;refine⟨h1,fun x H'' hy=>?_⟩;obtain⟨rfl,rfl⟩:=hy;exact⟨by rw[h2];simp[Hv],.refl _ _,RG⟩,by
 intro i H' G' _ RG _ hi;rw[rngL_length] at hi;exact hi⟩
def iRng1(ta:TA3):TI3:=fun τ G R=>ta τ G fun ds G1=>match ds with
 |[.int j]=>(-(2^62)≤j/\j<2^62)/\R ⟨rngL 0 j.toNat,fun _=>True⟩ G1
 |_=>False
theorem i_rng1{a:Expr}{ta:TA3}(hm:X.mg "range" = none)(ha:PA3 X [a] ta)(hg:Gl X "range":=by rfl)(hs:notStar a=true:=by rfl):PI3 X tg (.Call (.Name "range" p) [a] [] pos) (iRng1 ta):=
 pi_of (pi_range1 hg hm ha (star_of hs)) fun σ H R ⟨τ,G,R3,RS,RG,h,k⟩=>⟨τ,G,_,RS,RG,h,fun vs H1 ds G1 h1 S1 R1 q1=>by
  rcases ds with _|⟨d,_|⟨d2,ds⟩⟩
  ·exact q1.elim
  ·cases d with
   |int j=>
    obtain⟨v,r,rfl,z1,z2⟩:=h1.inv;cases z2.inv0;unfold Hv at z1;exact⟨j,by rw[z1],q1.1.1,q1.1.2,k _ _ _ _ (src_rng 0 _) S1 R1 q1.2⟩
   |_=>exact q1.elim
  ·cases d<;>exact q1.elim⟩
def forGo(guard:Gp->Prop)(g:TG3)(tb:TS3)(D3:Ends3):List D->S3->Gp->Prop
 |[],τ,G=>guard G/\D3.nx τ G
 |d::ds,τ,G=>guard G/\g d τ G fun τ2 G2=>tb { D3 with nx:=forGo guard g tb D3 ds,ct:=forGo guard g tb D3 ds,bk:=D3.nx } τ2 G2
def sFor(ti:TI3)(g:TG3)(tb:TS3):TS3:=fun D3 τ G=>ti τ G fun S G1=>forGo S.guard g tb D3 S.items τ G1
theorem s_for{body:List Stmt}{ti:TI3}{g:TG3}{tb:TS3}(hp:PassesOwn (model X.prog X.w) X.A X.env X.xe)(hc:X.calm=true)(hi:PI3 X tg iter ti)(hg:PG3 X tg g)(hb:PSs3 X body tb)
  (hs:∀x,foldedSetIterable iter X.env x=pure x:=by intro _;rfl):PS3 X (.For tg iter body [] pos) (sFor ti g tb):=ps_of (ps_for hp hc hi hg hb hs) fun D2 σ H ⟨τ,G,D3,RS,RG,h,k⟩=>by
 refine⟨τ,G,_,RS,RG,h,fun J H1 S G1 ok S1 R1 q1=>?_⟩;refine⟨fun i m σ' H'=>∃τ' G',RepS X.K τ' σ' H'/\RepG X.K G' H'/\Step H G H' G'/\Ext H1 H'/\forGo S.guard g tb D3 (S.items.drop i) τ' G'/\m+i=S.items.length,⟨S.items.length,τ,G1,RS.ext (S1.ext RG),R1,S1,.refl H1,by simpa using q1,by lia⟩,?_⟩;rintro i m σ' H' ⟨τ',G',RS',RG',S',E',q,hm⟩;by_cases hlt:i<S.items.length
 ·have hd:S.items.drop i=S.items[i]::S.items.drop (i+1):=List.drop_eq_getElem_cons hlt;have hget:S.items[i]?=some S.items[i]:=List.getElem?_eq_getElem hlt;rw[hd] at q;obtain⟨hgd,q⟩:=q;obtain⟨z1,z2⟩:=ok.go i _ H' G' E' RG' hgd hget;refine .inr ⟨z1,fun σ2 H2=>∃τ2 G2,RepS X.K τ2 σ2 H2/\RepG X.K G2 H2/\Step H G H2 G2/\Ext H1 H2/\forGo S.guard g tb D3 (S.items.drop (i+1)) τ2 G2,fun σ2 H2 ⟨τ2,G2,a1,a2,a3,a4,a5⟩=>⟨m-1,by lia,τ2,G2,a1,a2,a3,a4,a5,by lia⟩,fun x H2 hy=>?_⟩;obtain⟨y1,y2,y3⟩:=z2 x H2 hy;refine⟨S.items[i],τ',G',_,y1,RS'.ext (y2.ext RG'),y3,q,fun τ3 σ3 G3 H3 b1 b2 b3 b4=>?_⟩;refine⟨τ3,G3,_,b1,b3,b4,⟨?_,?_,?_,?_⟩⟩
  ·exact fun τ4 σ4 G4 H4 c1 c2 c3 c4=>⟨τ4,G4,c1,c3,((S'.trans y2).trans b2).trans c2,((E'.trans (y2.ext RG')).trans (b2.ext y3)).trans (c2.ext b3),c4⟩
  ·exact fun τ4 σ4 G4 H4 c1 c2 c3 c4=>k.nx τ4 σ4 G4 H4 c1 (((S'.trans y2).trans b2).trans c2) c3 c4
  ·exact fun τ4 σ4 G4 H4 c1 c2 c3 c4=>⟨τ4,G4,c1,c3,((S'.trans y2).trans b2).trans c2,((E'.trans (y2.ext RG')).trans (b2.ext y3)).trans (c2.ext b3),c4⟩
  ·exact fun d v G4 H4 c1 c2 c3 c4=>k.rt d v G4 H4 c1 (((S'.trans y2).trans b2).trans c2) c3 c4
 ·have hd:S.items.drop i=[]:=List.drop_eq_nil_of_le (by lia);rw[hd] at q;exact .inl ⟨ok.stop i H' G' E' RG' q.1 (by lia),k.nx τ' σ' G' H' RS' S' RG' q.2⟩
def compGo(guard:Gp->Prop)(g:TG3)(tc:TT3)(te:TE3)(Q:List D->Gp->Prop):List D->List D->S3->Gp->Prop
 |[],acc,τ,G=>guard G/\Q acc G
 |d::ds,acc,τ,G=>guard G/\g d τ G fun τ2 G2=>tc τ2 G2 fun b G3=>Br b (te τ2 G3 fun v G4=>compGo guard g tc te Q ds (acc++[v]) τ2 G4) (compGo guard g tc te Q ds acc τ2 G3)
def cmp3(own:List Str)(js:List Nat)(τ:S3):S3:=(own.map fun _=>none)++js.map fun j=>at3 τ j
def eComp(own:List Str)(js:List Nat)(ti:TI3)(g:TG3)(tc:TT3)(te:TE3):TE3:=fun τ G Q=>ti τ G fun S G1=>S.items.length≤sizeLine ∧
 compGo S.guard g tc te (fun ds G2=>∀p G3,New G2 p (.lst ds) G3->Q (.obj p) G3) S.items [] (cmp3 own js τ) G1
theorem at3_get:∀(τ:S3) (i:Nat),at3 τ i=(τ[i]?).getD none
 |[],i=>by simp[at3]
 |x::r,0=>by simp[at3]
 |x::r,i+1=>by simp[at3,at3_get r i]
theorem RepS.cmp{K:PySem.W.Frag}{τ:S3}{σ:L2.St}{H:Hp}(own:List Str)(js:List Nat)(R:RepS K τ σ H):RepS K (cmp3 own js τ) (cmpSt own js σ) H:=⟨by simp[cmp3,cmpSt],fun i d h=>by
 rw[at3_get] at h;unfold cmp3 at h;by_cases hi:i<own.length
 ·rw[List.getElem?_append_left (by simpa using hi)] at h;rw[List.getElem?_map,List.getElem?_eq_getElem hi] at h;cases h
 ·rw[List.getElem?_append_right (by simpa using hi),List.getElem?_map] at h;simp only[List.length_map] at h;cases hj:js[i-own.length]? with
  |none=>rw[hj] at h;cases h
  |some j=>
   rw[hj] at h;have h':at3 τ j=some d:=h;obtain⟨v,e1,e2⟩:=R.at_ j d h';refine⟨v,?_,e2⟩;unfold cmpSt;rw[List.getElem?_append_right (by simpa using hi),List.getElem?_map];simp only[List.length_replicate,hj,Option.map_some,e1,Option.getD_some]⟩
def tNoTest3:TT3:=fun _ G Q=>Q true G
theorem ct_nil:PCt X [] (lowT X.K tNoTest3):=fun pins s σ H Q I ⟨τ,G,Q3,RS,RG,h,k⟩=>pct_nil pins s σ H Q I (k true H G (.refl H G) RG h)
theorem ct_one{c:Expr}{t:TT3}(h:PT3 X c t):PCt X [c] (lowT X.K t):=pct_one h
theorem low_comp{K:PySem.W.Frag}{own:List Str}{js:List Nat}{ti:TI3}{g:TG3}{tc:TT3}{te:TE3}{σ:L2.St}{H:Hp}{Q:VK}(h:low K (eComp own js ti g tc te) σ H Q):tLc own js (lowI K ti) (lowG K g) (lowT K tc) (low K te) σ H Q:=by
 obtain⟨τ,G,Q3,RS,RG,h,k⟩:=h;refine⟨τ,G,_,RS,RG,h,fun J H1 S G1 ok S1 R1 q1=>?_⟩;obtain⟨hz,q1⟩:=q1;intro p hp;have hGp:G1 p=none:=R1.free hp;refine⟨fun i m ys σ' H'=>∃τ' G' acc,RepS K τ' σ' H'/\RepG K G' H'/\Step H G H' G'/\Ext H1 H'/\H' p=some (.lst ys)/\G' p=none/\Hvs K H' acc ys ∧
  compGo S.guard g tc te (fun ds G2=>∀p G3,New G2 p (.lst ds) G3->Q3 (.obj p) G3) (S.items.drop i) acc τ' G'/\m+i=S.items.length/\ys.length≤i,?_,?_⟩
 ·have E1:Ext H1 (upd H1 p (.lst [])):=.laid hp;exact⟨S.items.length,cmp3 own js τ,G1,[],((RS.ext (S1.ext RG)).cmp own js).ext E1,R1.laid hp,S1.trans (.laid hp),E1,upd_same,hGp,.nil,by simpa using q1,by lia,Nat.zero_le _⟩
 rintro i m ys σ' H' ⟨τ',G',acc,RS',RG',S',E',hpl,hG',hacc,q,hm,hy⟩;refine⟨hpl,?_⟩;by_cases hlt:i<S.items.length
 ·have hd:S.items.drop i=S.items[i]::S.items.drop (i+1):=List.drop_eq_getElem_cons hlt;have hget:S.items[i]?=some S.items[i]:=List.getElem?_eq_getElem hlt;rw[hd] at q;obtain⟨hgd,q⟩:=q;obtain⟨z1,z2⟩:=ok.go i _ H' G' E' RG' hgd hget;refine .inr ⟨z1,by lia,fun x H2 hyl=>?_⟩;obtain⟨y1,y2,y3⟩:=z2 x H2 hyl
  -- what is not in G stays
  have keep:∀{Ha Hb:Hp} {Ga Gb:Gp},Step Ha Ga Hb Gb->Ha p=some (.lst ys)->Ga p=none->Hb p=some (.lst ys)/\Gb p=none:=fun {Ha Hb Ga Gb} st e n=>by
   refine⟨st.fr p _ e n,?_⟩;refine Classical.byContradiction fun z=>?_;rw[st.new p n z] at e;cases e
  obtain⟨p2,n2⟩:=keep y2 hpl hG';refine⟨S.items[i],τ',G',_,y1,RS'.ext (y2.ext RG'),y3,q,fun τ3 σ3 G3 H3 b1 b2 b3 b4=>?_⟩;obtain⟨p3,n3⟩:=keep b2 p2 n2;refine⟨τ3,G3,_,b1,b3,b4,fun bb H4 G4 c1 c2 c3=>?_⟩;obtain⟨p4,n4⟩:=keep c1 p3 n3;have E4:Ext H' H4:=((y2.ext RG').trans (b2.ext y3)).trans (c1.ext b3);have S4:Step H G H4 G4:=((S'.trans y2).trans b2).trans c1;have RS4:=b1.ext (c1.ext b3);refine Br.ite c3 (fun c3=>?_) fun c3=>?_
  ·refine⟨τ3,G4,_,RS4,c2,c3,fun v H5 d G5 e1 e2 e3 e4=>?_⟩;obtain⟨p5,n5⟩:=keep e2 p4 n4;refine⟨p5,m-1,by lia,τ3,G5,acc++[d],?_,?_,?_,?_,upd_same,n5,?_,e4,by lia,by rw[List.length_append];simp;lia⟩
   ·exact (RS4.ext (e2.ext c2)).ext (.wrote p5)
   ·intro a o e;have hne:a≠p:=fun z=>by
     rw[z,n5] at e;cases e
    exact (e3 a o e).ext (.wrote p5) (upd_ne hne)
   ·refine⟨fun a o e n=>?_,fun a q=>?_,fun a n q=>((S4.trans e2).new a n q)⟩
    ·by_cases hne:a=p
     ·exfalso;rw[hne] at e n;have hh:=S1.fr p o e n;rw[hp] at hh;cases hh
     ·rw[upd_ne hne];exact (S4.trans e2).fr a o e n
    ·by_cases hne:a=p
     ·rw[hne,upd_same];simp
     ·rw[upd_ne hne];exact (S4.trans e2).trk a q
   ·exact ((E'.trans E4).trans (e2.ext c2)).trans (.wrote p5)
   ·have E5:Ext H' (upd H5 p (.lst (ys++[v]))):=(E4.trans (e2.ext c2)).trans (.wrote p5);exact (hacc.ext E5).append (.cons (e1.ext (.wrote p5)) .nil)
  ·exact⟨m-1,by lia,τ3,G4,acc,RS4,c2,S4,E'.trans E4,p4,n4,hacc.ext E4,c3,by lia,by lia⟩
 ·have hd:S.items.drop i=[]:=List.drop_eq_nil_of_le (by lia);rw[hd] at q;refine .inl ⟨ok.stop i H' G' E' RG' q.1 (by lia),?_⟩;refine k _ H' (.obj p) (upd3 G' p (.lst acc)) (by simp[Hv]) ?_ ?_ (q.2 p _ (.mk' hG'))
  ·refine⟨S'.fr,S'.trk,fun a n z=>?_⟩;by_cases hne:a=p
   ·rw[hne];cases hh:H p with
    |none=>rfl
    |some o=>
     exfalso;rw[hne] at n;have:=S1.fr p o hh n;rw[hp] at this;cases this
   ·rw[upd3_ne hne] at z;exact S'.new a n z
  ·intro a o e;by_cases hne:a=p
   ·rw[hne,upd3_same] at e;cases e;rw[hne];exact⟨ys,hpl,hacc⟩
   ·rw[upd3_ne hne] at e;exact RG' a o e
theorem e_comp{elt:Expr}{ifs:List Expr}{scope:Scope}{own:List Str}{js:List Nat}{ti:TI3}{g:TG3}{tc:TT3}{te:TE3}(hc:X.calm=true)(C:CmpOk X.N X.env.scope scope own js)(hi:PI3 X tg iter ti)
  (hb:∀s H fp,PG3 (X.cmp scope own js s H fp) tg g/\PCt (X.cmp scope own js s H fp) ifs (lowT X.K tc)/\PE3 (X.cmp scope own js s H fp) elt te)
  (hs:∀x,foldedSetIterable iter X.env x=pure x:=by intro _;rfl):PE3 X (.ListComp elt [⟨tg,iter,ifs,0⟩] scope pos) (eComp own js ti g tc te):=
 pe_of (pe_comp hc C hi hb hs) fun σ H Q h=>low_comp h
theorem forGo_inv{guard:Gp->Prop}{g:TG3}{tb:TS3}{D3:Ends3}(I:List D->S3->Gp->Prop)(hg:∀ds τ G,I ds τ G->guard G)
  (step:∀d ds τ G,I (d::ds) τ G->g d τ G fun τ2 G2=>tb { D3 with nx:=I ds,ct:=I ds,bk:=D3.nx } τ2 G2) (hend:∀τ G,I [] τ G->D3.nx τ G)
  (mono:∀(N N':S3->Gp->Prop),(∀τ G,N τ G->N' τ G)->∀d τ G,(g d τ G fun τ2 G2=>tb { D3 with nx:=N,ct:=N,bk:=D3.nx } τ2 G2)->g d τ G fun τ2 G2=>tb { D3 with nx:=N',ct:=N',bk:=D3.nx } τ2 G2):
  ∀ds τ G,I ds τ G->forGo guard g tb D3 ds τ G
 |[],τ,G,h=>⟨hg _ _ _ h,hend _ _ h⟩
 |d::ds,τ,G,h=>⟨hg _ _ _ h,mono (I ds) _ (fun τ G q=>forGo_inv I hg step hend mono ds τ G q) d τ G (step d ds τ G h)⟩
theorem forGo_go{guard:Gp->Prop}{g:TG3}{tb:TS3}{D3:Ends3}(I:List D->S3->Gp->Prop)(hg:∀ds τ G,I ds τ G->guard G)
  (step:∀d ds τ G (N:S3->Gp->Prop),I (d::ds) τ G->(∀τ' G',I ds τ' G'->N τ' G')->g d τ G fun τ2 G2=>tb { D3 with nx:=N,ct:=N,bk:=D3.nx } τ2 G2) (hend:∀τ G,I [] τ G->D3.nx τ G):
  ∀ds τ G,I ds τ G->forGo guard g tb D3 ds τ G
 |[],τ,G,h=>⟨hg _ _ _ h,hend _ _ h⟩
 |d::ds,τ,G,h=>⟨hg _ _ _ h,step d ds τ G _ h fun τ' G' q=>forGo_go I hg step hend ds τ' G' q⟩
end
end L3
namespace Dat
open PySem PySem.SeqAt
inductive D where
 |non|bl (b:Bool)|int (i:Int)|str (x:Str)|tup (xs:List D)|lst (xs:List D)|dct
mutual
def D.eqb:D->D->Bool
 |.non,.non=>true
 |.bl a,.bl b=>a==b
 |.bl a,.int b=>(if a then 1 else 0)==b
 |.int a,.bl b=>a==(if b then 1 else 0)
 |.int a,.int b=>a==b
 |.str a,.str b=>a==b
 |.tup xs,.tup ys=>eqbs xs ys
 |.lst xs,.lst ys=>eqbs xs ys
 |_,_=>false
def eqbs:List D->List D->Bool
 |[],[]=>true
 |x::xs,y::ys=>x.eqb y&&eqbs xs ys
 |_,_=>false
end
mutual
def D.dep:D->Nat
 |.tup xs=>deps xs+1
 |.lst xs=>deps xs+1
 |_=>0
def deps:List D->Nat
 |[]=>0
 |x::xs=>max x.dep (deps xs)
end
theorem dep_mem{d:D}:∀{xs:List D},d∈xs->d.dep≤deps xs
 |x::xs,h=>by
  unfold deps;rcases List.mem_cons.mp h with e|e
  ·rw[e];exact Nat.le_max_left _ _
  ·exact Nat.le_trans (dep_mem e) (Nat.le_max_right _ _)
mutual
def Hv(h:Heap):D->Value->Prop
 |.non,u=>u=.none
 |.bl b,u=>u=.bool b
 |.int i,u=>∃t,u=.int i t
 |.str x,u=>∃t,u=.str x t
 |.tup ds,u=>∃(a:Addr) (its:List Value),u=.ref a/\h.IsTuple a its.toArray/\Hvs h ds its
 |.lst ds,u=>∃(a:Addr) (its:List Value),u=.ref a/\h.IsList a its.toArray/\Hvs h ds its
 |.dct,_=>False
def Hvs(h:Heap):List D->List Value->Prop
 |[],us=>us=[]
 |d::ds,us=>∃u r,us=u::r/\Hv h d u/\Hvs h ds r
end
theorem Hvs.length{h:Heap}:∀{ds:List D} {us:List Value},Hvs h ds us->us.length=ds.length
 |[],us,e=>by
  unfold Hvs at e;rw[e];rfl
 |d::ds,us,e=>by
  unfold Hvs at e;obtain⟨u,r,rfl,_,e2⟩:=e;rw[List.length_cons,List.length_cons,e2.length]
theorem Hvs.get{h:Heap}:∀{ds:List D} {us:List Value} {j:Nat} {d:D} {u:Value},Hvs h ds us->ds[j]?=some d->us[j]?=some u->Hv h d u
 |[],_,_,_,_,_,e,_=>by simp at e
 |d::ds,us,0,_,_,q,e1,e2=>by
  unfold Hvs at q;obtain⟨u,r,rfl,q1,_⟩:=q;simp at e1 e2;rw[←e1,←e2];exact q1
 |d::ds,us,j+1,_,_,q,e1,e2=>by
  unfold Hvs at q;obtain⟨u,r,rfl,_,q2⟩:=q;exact q2.get (j:=j) (by simpa using e1) (by simpa using e2)
theorem no_both{h:Heap}{a:Addr}{xs ys:Array Value}(hl:h.IsList a xs)(ht:h.IsTuple a ys):False:=by
 obtain⟨o,ho,hc,_⟩:=hl;obtain⟨o',ho',hc',_⟩:=ht;rw[ho] at ho';cases ho';rw[hc] at hc';exact absurd hc' (by decide)
mutual
theorem Hv.inj{h:Heap}:∀{d e:D} {u:Value},Hv h d u->Hv h e u->d=e
 |d,e,u,p,q=>by
  cases d with
  |non=>unfold Hv at p;subst p;cases e<;>unfold Hv at q<;>first|rfl|(simp at q)
  |bl b=>unfold Hv at p;subst p;cases e<;>unfold Hv at q<;>first|(simp at q;rw[q])|(simp at q)
  |int b=>unfold Hv at p;obtain⟨t,rfl⟩:=p;cases e<;>unfold Hv at q<;>first|(simp at q;rw[q])|(simp at q)
  |str b=>unfold Hv at p;obtain⟨t,rfl⟩:=p;cases e<;>unfold Hv at q<;>first|(simp at q;rw[q])|(simp at q)
  |dct=>unfold Hv at p;exact p.elim
  |tup ds=>
   unfold Hv at p;obtain⟨a,its,rfl,ha,p⟩:=p;cases e with
   |tup es=>
    unfold Hv at q;obtain⟨a',its',e1,ha',q⟩:=q;cases e1;have e2:its=its':=by
     obtain⟨o,ho,_,n,hd⟩:=ha;obtain⟨o',ho',_,n',hd'⟩:=ha';rw[ho] at ho';cases ho';rw[hd] at hd';injection hd' with e3 _
     simpa using congrArg Array.toList e3
    subst e2;rw[Hvs.inj p q]
   |lst es=>
    unfold Hv at q;obtain⟨a',its',e1,ha',q⟩:=q;cases e1;exact (no_both ha' ha).elim
   |_=>unfold Hv at q<;>simp at q
  |lst ds=>
   unfold Hv at p;obtain⟨a,its,rfl,ha,p⟩:=p;cases e with
   |lst es=>
    unfold Hv at q;obtain⟨a',its',e1,ha',q⟩:=q;cases e1;have e2:its=its':=by
     obtain⟨o,ho,_,n,hd⟩:=ha;obtain⟨o',ho',_,n',hd'⟩:=ha';rw[ho] at ho';cases ho';rw[hd] at hd';injection hd' with e3 _
     simpa using congrArg Array.toList e3
    subst e2;rw[Hvs.inj p q]
   |tup es=>
    unfold Hv at q;obtain⟨a',its',e1,ha',q⟩:=q;cases e1;exact (no_both ha ha').elim
   |_=>unfold Hv at q<;>simp at q
theorem Hvs.inj{h:Heap}:∀{ds es:List D} {us:List Value},Hvs h ds us->Hvs h es us->ds=es
 |[],[],_,_,_=>rfl
 |[],e::es,us,p,q=>by
  unfold Hvs at p q;subst p;obtain⟨_,_,e1,_⟩:=q;cases e1
 |d::ds,[],us,p,q=>by
  unfold Hvs at p q;subst q;obtain⟨_,_,e1,_⟩:=p;cases e1
 |d::ds,e::es,us,p,q=>by
  unfold Hvs at p q;obtain⟨u,r,rfl,p1,p2⟩:=p;obtain⟨u',r',e1,q1,q2⟩:=q;cases e1;rw[Hv.inj p1 q1,Hvs.inj p2 q2]
end
theorem all_eqbs:∀(ds es:List D),((List.range (min ds.length es.length)).all (fun j=>(ds.getD j .non).eqb (es.getD j .non))&&ds.length==es.length)=eqbs ds es
 |[],[]=>by simp[eqbs]
 |[],e::es=>by simp[eqbs]
 |d::ds,[]=>by simp[eqbs]
 |d::ds,e::es=>by
  have ih:=all_eqbs ds es;unfold eqbs;rw[←ih];rw[List.length_cons,List.length_cons,show min (ds.length+1) (es.length+1)=min ds.length es.length+1 by lia,List.range_succ_eq_map,List.all_cons,List.all_map];have e1:((ds.length+1==es.length+1):Bool)=(ds.length==es.length):=by simp
  rw[e1,Bool.and_assoc];rfl
theorem eqbs_len:∀(ds es:List D),ds.length≠es.length->eqbs ds es=false
 |[],[],h=>absurd rfl h
 |[],e::es,_=>rfl
 |d::ds,[],_=>rfl
 |d::ds,e::es,h=>by
  unfold eqbs;rw[eqbs_len ds es (by simpa using h),Bool.and_false]
mutual
theorem Hv.refl{h:Heap}:∀{d:D} {u:Value},Hv h d u->d.eqb d=true
 |.non,_,_=>rfl
 |.bl b,_,_=>by unfold D.eqb;simp
 |.int b,_,_=>by unfold D.eqb;simp
 |.str b,_,_=>by unfold D.eqb;simp
 |.dct,_,p=>by unfold Hv at p;exact p.elim
 |.tup ds,_,p=>by
  unfold Hv at p;obtain⟨_,_,_,_,p⟩:=p;unfold D.eqb;exact Hvs.refl p
 |.lst ds,_,p=>by
  unfold Hv at p;obtain⟨_,_,_,_,p⟩:=p;unfold D.eqb;exact Hvs.refl p
theorem Hvs.refl{h:Heap}:∀{ds:List D} {us:List Value},Hvs h ds us->eqbs ds ds=true
 |[],_,_=>rfl
 |d::ds,us,p=>by
  unfold Hvs at p;obtain⟨u,r,_,p1,p2⟩:=p;unfold eqbs;rw[Hv.refl p1,Hvs.refl p2];rfl
end
theorem items_rel{h:Heap}{ds:List D}{us:List Value}(p:Hvs h ds us){j:Nat}(hj:j<us.toArray.size):Hv h (ds.getD j .non) (us.toArray[j])/\ds.getD j .non∈ds:=by
 have hl:=p.length;have hj':j<ds.length:=by simp at hj;lia
 have e1:ds[j]?=some (ds.getD j .non):=by simp[hj']
 exact⟨p.get e1 (by simp at hj;simp[hj]),List.mem_of_getElem? e1⟩
theorem eqAt{s:Shared}:∀(d e:D) (u v:Value) (A:Around),Hv s.heap d u->Hv s.heap e v->A.units+d.dep+1<cLine->EqAt A s u v (d.eqb e)
 |.non,.non,u,v,A,p1,p2,hu=>by
  unfold Hv at p1;subst p1;unfold Hv at p2;subst p2;exact EqAt.same _
 |.non,.bl b2,u,v,A,p1,p2,hu=>by
  unfold Hv at p1;subst p1;unfold Hv at p2;subst p2;exact EqAt.none_bool  b2
 |.non,.int b2,u,v,A,p1,p2,hu=>by
  unfold Hv at p1;subst p1;unfold Hv at p2;obtain⟨t2,rfl⟩:=p2;exact EqAt.none_int  b2 t2
 |.non,.str b2,u,v,A,p1,p2,hu=>by
  unfold Hv at p1;subst p1;unfold Hv at p2;obtain⟨t2,rfl⟩:=p2;exact EqAt.none_str  b2 t2
 |.non,.tup ds2,u,v,A,p1,p2,hu=>by
  unfold Hv at p1;subst p1;unfold Hv at p2;obtain⟨a2,its2,rfl,l2,p2⟩:=p2;exact EqAt.none_tuple  l2 (by lia)
 |.non,.lst ds2,u,v,A,p1,p2,hu=>by
  unfold Hv at p1;subst p1;unfold Hv at p2;obtain⟨a2,its2,rfl,l2,p2⟩:=p2;exact EqAt.none_list  l2 (by lia)
 |.bl b1,.non,u,v,A,p1,p2,hu=>by
  unfold Hv at p1;subst p1;unfold Hv at p2;subst p2;exact EqAt.bool_none b1
 |.bl b1,.bl b2,u,v,A,p1,p2,hu=>by
  unfold Hv at p1;subst p1;unfold Hv at p2;subst p2;exact EqAt.bool_bool b1 b2
 |.bl b1,.int b2,u,v,A,p1,p2,hu=>by
  unfold Hv at p1;subst p1;unfold Hv at p2;obtain⟨t2,rfl⟩:=p2;exact EqAt.bool_int b1 b2 t2
 |.bl b1,.str b2,u,v,A,p1,p2,hu=>by
  unfold Hv at p1;subst p1;unfold Hv at p2;obtain⟨t2,rfl⟩:=p2;exact EqAt.bool_str b1 b2 t2
 |.bl b1,.tup ds2,u,v,A,p1,p2,hu=>by
  unfold Hv at p1;subst p1;unfold Hv at p2;obtain⟨a2,its2,rfl,l2,p2⟩:=p2;exact EqAt.bool_tuple b1 l2 (by lia)
 |.bl b1,.lst ds2,u,v,A,p1,p2,hu=>by
  unfold Hv at p1;subst p1;unfold Hv at p2;obtain⟨a2,its2,rfl,l2,p2⟩:=p2;exact EqAt.bool_list b1 l2 (by lia)
 |.int b1,.non,u,v,A,p1,p2,hu=>by
  unfold Hv at p1;obtain⟨t1,rfl⟩:=p1;unfold Hv at p2;subst p2;exact EqAt.int_none b1 t1
 |.int b1,.bl b2,u,v,A,p1,p2,hu=>by
  unfold Hv at p1;obtain⟨t1,rfl⟩:=p1;unfold Hv at p2;subst p2;exact EqAt.int_bool b1 t1 b2
 |.int b1,.int b2,u,v,A,p1,p2,hu=>by
  unfold Hv at p1;obtain⟨t1,rfl⟩:=p1;unfold Hv at p2;obtain⟨t2,rfl⟩:=p2;exact EqAt.int_int b1 t1 b2 t2
 |.int b1,.str b2,u,v,A,p1,p2,hu=>by
  unfold Hv at p1;obtain⟨t1,rfl⟩:=p1;unfold Hv at p2;obtain⟨t2,rfl⟩:=p2;exact EqAt.int_str b1 t1 b2 t2
 |.int b1,.tup ds2,u,v,A,p1,p2,hu=>by
  unfold Hv at p1;obtain⟨t1,rfl⟩:=p1;unfold Hv at p2;obtain⟨a2,its2,rfl,l2,p2⟩:=p2;exact EqAt.int_tuple b1 t1 l2 (by lia)
 |.int b1,.lst ds2,u,v,A,p1,p2,hu=>by
  unfold Hv at p1;obtain⟨t1,rfl⟩:=p1;unfold Hv at p2;obtain⟨a2,its2,rfl,l2,p2⟩:=p2;exact EqAt.int_list b1 t1 l2 (by lia)
 |.str b1,.non,u,v,A,p1,p2,hu=>by
  unfold Hv at p1;obtain⟨t1,rfl⟩:=p1;unfold Hv at p2;subst p2;exact EqAt.str_none b1 t1
 |.str b1,.bl b2,u,v,A,p1,p2,hu=>by
  unfold Hv at p1;obtain⟨t1,rfl⟩:=p1;unfold Hv at p2;subst p2;exact EqAt.str_bool b1 t1 b2
 |.str b1,.int b2,u,v,A,p1,p2,hu=>by
  unfold Hv at p1;obtain⟨t1,rfl⟩:=p1;unfold Hv at p2;obtain⟨t2,rfl⟩:=p2;exact EqAt.str_int b1 t1 b2 t2
 |.str b1,.str b2,u,v,A,p1,p2,hu=>by
  unfold Hv at p1;obtain⟨t1,rfl⟩:=p1;unfold Hv at p2;obtain⟨t2,rfl⟩:=p2;exact EqAt.str_str b1 t1 b2 t2
 |.str b1,.tup ds2,u,v,A,p1,p2,hu=>by
  unfold Hv at p1;obtain⟨t1,rfl⟩:=p1;unfold Hv at p2;obtain⟨a2,its2,rfl,l2,p2⟩:=p2;exact EqAt.str_tuple b1 t1 l2 (by lia)
 |.str b1,.lst ds2,u,v,A,p1,p2,hu=>by
  unfold Hv at p1;obtain⟨t1,rfl⟩:=p1;unfold Hv at p2;obtain⟨a2,its2,rfl,l2,p2⟩:=p2;exact EqAt.str_list b1 t1 l2 (by lia)
 |.tup ds1,.non,u,v,A,p1,p2,hu=>by
  unfold Hv at p1;obtain⟨a1,its1,rfl,l1,p1⟩:=p1;unfold Hv at p2;subst p2;exact EqAt.tuple_none  l1 (by lia)
 |.tup ds1,.bl b2,u,v,A,p1,p2,hu=>by
  unfold Hv at p1;obtain⟨a1,its1,rfl,l1,p1⟩:=p1;unfold Hv at p2;subst p2;exact EqAt.tuple_bool b2 l1 (by lia)
 |.tup ds1,.int b2,u,v,A,p1,p2,hu=>by
  unfold Hv at p1;obtain⟨a1,its1,rfl,l1,p1⟩:=p1;unfold Hv at p2;obtain⟨t2,rfl⟩:=p2;exact EqAt.tuple_int b2 t2 l1 (by lia)
 |.tup ds1,.str b2,u,v,A,p1,p2,hu=>by
  unfold Hv at p1;obtain⟨a1,its1,rfl,l1,p1⟩:=p1;unfold Hv at p2;obtain⟨t2,rfl⟩:=p2;exact EqAt.tuple_str b2 t2 l1 (by lia)
 |.tup ds1,.tup ds2,u,v,A,p1,p2,hu=>by
  unfold Hv at p1;obtain⟨a1,its1,rfl,l1,p1⟩:=p1;unfold Hv at p2;obtain⟨a2,its2,rfl,l2,p2⟩:=p2;unfold D.eqb;by_cases ha:a1=a2
  ·subst ha;have e0:(.tup ds1:D)=.tup ds2:=Hv.inj (h:=s.heap) (u:=.ref a1) (by unfold Hv;exact⟨a1,its1,rfl,l1,p1⟩) (by unfold Hv;exact⟨a1,its2,rfl,l2,p2⟩);injection e0 with e0;subst e0;rw[p1.refl];exact EqAt.same _
  ·refine EqAt.of_refs ha ?_;have hdep:A.units+deps ds1+1+1<cLine:=by
    have e9:(.tup ds1:D).dep=deps ds1+1:=by first|rfl|(unfold D.dep;rfl)
    lia
   have q:=RcAt.tuples (e:=fun j=>(ds1.getD j .non).eqb (ds2.getD j .non)) l1 l2 (by lia) fun j h1 h2=>
    have m:=(items_rel p1 h1).2
    eqAt (ds1.getD j .non) (ds2.getD j .non) _ _ A.in1 (items_rel p1 h1).1 (items_rel p2 h2).1 (by
     have:=dep_mem m;show A.units+1+_+1<cLine;lia)
   rw[List.size_toArray,List.size_toArray,p1.length,p2.length,all_eqbs] at q;exact q
 |.tup ds1,.lst ds2,u,v,A,p1,p2,hu=>by
  unfold Hv at p1;obtain⟨a1,its1,rfl,l1,p1⟩:=p1;unfold Hv at p2;obtain⟨a2,its2,rfl,l2,p2⟩:=p2;exact EqAt.tuple_list l1 l2 (by lia)
 |.lst ds1,.non,u,v,A,p1,p2,hu=>by
  unfold Hv at p1;obtain⟨a1,its1,rfl,l1,p1⟩:=p1;unfold Hv at p2;subst p2;exact EqAt.list_none  l1 (by lia)
 |.lst ds1,.bl b2,u,v,A,p1,p2,hu=>by
  unfold Hv at p1;obtain⟨a1,its1,rfl,l1,p1⟩:=p1;unfold Hv at p2;subst p2;exact EqAt.list_bool b2 l1 (by lia)
 |.lst ds1,.int b2,u,v,A,p1,p2,hu=>by
  unfold Hv at p1;obtain⟨a1,its1,rfl,l1,p1⟩:=p1;unfold Hv at p2;obtain⟨t2,rfl⟩:=p2;exact EqAt.list_int b2 t2 l1 (by lia)
 |.lst ds1,.str b2,u,v,A,p1,p2,hu=>by
  unfold Hv at p1;obtain⟨a1,its1,rfl,l1,p1⟩:=p1;unfold Hv at p2;obtain⟨t2,rfl⟩:=p2;exact EqAt.list_str b2 t2 l1 (by lia)
 |.lst ds1,.tup ds2,u,v,A,p1,p2,hu=>by
  unfold Hv at p1;obtain⟨a1,its1,rfl,l1,p1⟩:=p1;unfold Hv at p2;obtain⟨a2,its2,rfl,l2,p2⟩:=p2;exact EqAt.list_tuple l1 l2 (by lia)
 |.lst ds1,.lst ds2,u,v,A,p1,p2,hu=>by
  unfold Hv at p1;obtain⟨a1,its1,rfl,l1,p1⟩:=p1;unfold Hv at p2;obtain⟨a2,its2,rfl,l2,p2⟩:=p2;unfold D.eqb;by_cases ha:a1=a2
  ·subst ha;have e0:(.lst ds1:D)=.lst ds2:=Hv.inj (h:=s.heap) (u:=.ref a1) (by unfold Hv;exact⟨a1,its1,rfl,l1,p1⟩) (by unfold Hv;exact⟨a1,its2,rfl,l2,p2⟩);injection e0 with e0;subst e0;rw[p1.refl];exact EqAt.same _
  ·refine EqAt.of_refs ha ?_;have hdep:A.units+deps ds1+1+1<cLine:=by
    have e9:(.lst ds1:D).dep=deps ds1+1:=by first|rfl|(unfold D.dep;rfl)
    lia
   by_cases hn:ds1.length=ds2.length
   ·have q:=RcAt.lists (e:=fun j=>(ds1.getD j .non).eqb (ds2.getD j .non)) l1 l2 (by simp[p1.length,p2.length,hn]) (by lia) fun j h1 h2=>
     have m:=(items_rel p1 h1).2
     eqAt (ds1.getD j .non) (ds2.getD j .non) _ _ A.in1 (items_rel p1 h1).1 (items_rel p2 h2).1 (by
      have:=dep_mem m;show A.units+1+_+1<cLine;lia)
    have q2:=all_eqbs ds1 ds2;rw[hn,Nat.min_self,beq_self_eq_true,Bool.and_true] at q2;rw[List.size_toArray,p1.length,hn,q2] at q;exact q
   ·rw[eqbs_len _ _ hn];exact RcAt.lists_lengths l1 l2 (by simp[p1.length,p2.length,hn]) (by lia)
 |.non,.dct,u,v,A,p1,p2,hu=>by
  unfold Hv at p2;exact p2.elim
 |.bl b1,.dct,u,v,A,p1,p2,hu=>by
  unfold Hv at p2;exact p2.elim
 |.int b1,.dct,u,v,A,p1,p2,hu=>by
  unfold Hv at p2;exact p2.elim
 |.str b1,.dct,u,v,A,p1,p2,hu=>by
  unfold Hv at p2;exact p2.elim
 |.tup ds1,.dct,u,v,A,p1,p2,hu=>by
  unfold Hv at p2;exact p2.elim
 |.lst ds1,.dct,u,v,A,p1,p2,hu=>by
  unfold Hv at p2;exact p2.elim
 |.dct,e,u,v,A,p1,p2,hu=>by
  unfold Hv at p1;exact p1.elim
termination_by d=>sizeOf d
decreasing_by
 all_goals (have:=List.sizeOf_lt_of_mem m;first|(rw[D.tup.sizeOf_spec];lia)|(rw[D.lst.sizeOf_spec];lia))
theorem rcAt{s:Shared}(d e:D)(u v:Value)(A:Around)(p1:Hv s.heap d u)(p2:Hv s.heap e v)(hu:A.units+d.dep+1<cLine):RcAt A s u v (d.eqb e):=
 match d,e,p1,p2,hu with
 |.non,.non,p1,p2,hu=>by
  unfold Hv at p1;subst p1;unfold Hv at p2;subst p2;exact RcAt.none_none
 |.non,.bl b2,p1,p2,hu=>by
  unfold Hv at p1;subst p1;unfold Hv at p2;subst p2;exact RcAt.none_bool  b2
 |.non,.int b2,p1,p2,hu=>by
  unfold Hv at p1;subst p1;unfold Hv at p2;obtain⟨t2,rfl⟩:=p2;exact RcAt.none_int  b2 t2
 |.non,.str b2,p1,p2,hu=>by
  unfold Hv at p1;subst p1;unfold Hv at p2;obtain⟨t2,rfl⟩:=p2;exact RcAt.none_str  b2 t2
 |.non,.tup ds2,p1,p2,hu=>by
  unfold Hv at p1;subst p1;unfold Hv at p2;obtain⟨a2,its2,rfl,l2,p2⟩:=p2;exact RcAt.none_tuple  l2 (by lia)
 |.non,.lst ds2,p1,p2,hu=>by
  unfold Hv at p1;subst p1;unfold Hv at p2;obtain⟨a2,its2,rfl,l2,p2⟩:=p2;exact RcAt.none_list  l2 (by lia)
 |.bl b1,.non,p1,p2,hu=>by
  unfold Hv at p1;subst p1;unfold Hv at p2;subst p2;exact RcAt.bool_none b1
 |.bl b1,.bl b2,p1,p2,hu=>by
  unfold Hv at p1;subst p1;unfold Hv at p2;subst p2;exact RcAt.bool_bool b1 b2
 |.bl b1,.int b2,p1,p2,hu=>by
  unfold Hv at p1;subst p1;unfold Hv at p2;obtain⟨t2,rfl⟩:=p2;exact RcAt.bool_int b1 b2 t2
 |.bl b1,.str b2,p1,p2,hu=>by
  unfold Hv at p1;subst p1;unfold Hv at p2;obtain⟨t2,rfl⟩:=p2;exact RcAt.bool_str b1 b2 t2
 |.bl b1,.tup ds2,p1,p2,hu=>by
  unfold Hv at p1;subst p1;unfold Hv at p2;obtain⟨a2,its2,rfl,l2,p2⟩:=p2;exact RcAt.bool_tuple b1 l2 (by lia)
 |.bl b1,.lst ds2,p1,p2,hu=>by
  unfold Hv at p1;subst p1;unfold Hv at p2;obtain⟨a2,its2,rfl,l2,p2⟩:=p2;exact RcAt.bool_list b1 l2 (by lia)
 |.int b1,.non,p1,p2,hu=>by
  unfold Hv at p1;obtain⟨t1,rfl⟩:=p1;unfold Hv at p2;subst p2;exact RcAt.int_none b1 t1
 |.int b1,.bl b2,p1,p2,hu=>by
  unfold Hv at p1;obtain⟨t1,rfl⟩:=p1;unfold Hv at p2;subst p2;exact RcAt.int_bool b1 t1 b2
 |.int b1,.int b2,p1,p2,hu=>by
  unfold Hv at p1;obtain⟨t1,rfl⟩:=p1;unfold Hv at p2;obtain⟨t2,rfl⟩:=p2;exact RcAt.int_int b1 t1 b2 t2
 |.int b1,.str b2,p1,p2,hu=>by
  unfold Hv at p1;obtain⟨t1,rfl⟩:=p1;unfold Hv at p2;obtain⟨t2,rfl⟩:=p2;exact RcAt.int_str b1 t1 b2 t2
 |.int b1,.tup ds2,p1,p2,hu=>by
  unfold Hv at p1;obtain⟨t1,rfl⟩:=p1;unfold Hv at p2;obtain⟨a2,its2,rfl,l2,p2⟩:=p2;exact RcAt.int_tuple b1 t1 l2 (by lia)
 |.int b1,.lst ds2,p1,p2,hu=>by
  unfold Hv at p1;obtain⟨t1,rfl⟩:=p1;unfold Hv at p2;obtain⟨a2,its2,rfl,l2,p2⟩:=p2;exact RcAt.int_list b1 t1 l2 (by lia)
 |.str b1,.non,p1,p2,hu=>by
  unfold Hv at p1;obtain⟨t1,rfl⟩:=p1;unfold Hv at p2;subst p2;exact RcAt.str_none b1 t1
 |.str b1,.bl b2,p1,p2,hu=>by
  unfold Hv at p1;obtain⟨t1,rfl⟩:=p1;unfold Hv at p2;subst p2;exact RcAt.str_bool b1 t1 b2
 |.str b1,.int b2,p1,p2,hu=>by
  unfold Hv at p1;obtain⟨t1,rfl⟩:=p1;unfold Hv at p2;obtain⟨t2,rfl⟩:=p2;exact RcAt.str_int b1 t1 b2 t2
 |.str b1,.str b2,p1,p2,hu=>by
  unfold Hv at p1;obtain⟨t1,rfl⟩:=p1;unfold Hv at p2;obtain⟨t2,rfl⟩:=p2;exact RcAt.str_str b1 t1 b2 t2
 |.str b1,.tup ds2,p1,p2,hu=>by
  unfold Hv at p1;obtain⟨t1,rfl⟩:=p1;unfold Hv at p2;obtain⟨a2,its2,rfl,l2,p2⟩:=p2;exact RcAt.str_tuple b1 t1 l2 (by lia)
 |.str b1,.lst ds2,p1,p2,hu=>by
  unfold Hv at p1;obtain⟨t1,rfl⟩:=p1;unfold Hv at p2;obtain⟨a2,its2,rfl,l2,p2⟩:=p2;exact RcAt.str_list b1 t1 l2 (by lia)
 |.tup ds1,.non,p1,p2,hu=>by
  unfold Hv at p1;obtain⟨a1,its1,rfl,l1,p1⟩:=p1;unfold Hv at p2;subst p2;exact RcAt.tuple_none  l1 (by lia)
 |.tup ds1,.bl b2,p1,p2,hu=>by
  unfold Hv at p1;obtain⟨a1,its1,rfl,l1,p1⟩:=p1;unfold Hv at p2;subst p2;exact RcAt.tuple_bool b2 l1 (by lia)
 |.tup ds1,.int b2,p1,p2,hu=>by
  unfold Hv at p1;obtain⟨a1,its1,rfl,l1,p1⟩:=p1;unfold Hv at p2;obtain⟨t2,rfl⟩:=p2;exact RcAt.tuple_int b2 t2 l1 (by lia)
 |.tup ds1,.str b2,p1,p2,hu=>by
  unfold Hv at p1;obtain⟨a1,its1,rfl,l1,p1⟩:=p1;unfold Hv at p2;obtain⟨t2,rfl⟩:=p2;exact RcAt.tuple_str b2 t2 l1 (by lia)
 |.tup ds1,.tup ds2,p1,p2,hu=>by
  unfold Hv at p1;obtain⟨a1,its1,rfl,l1,p1⟩:=p1;unfold Hv at p2;obtain⟨a2,its2,rfl,l2,p2⟩:=p2;unfold D.eqb;have hdep:A.units+deps ds1+1+1<cLine:=by
   have e9:(.tup ds1:D).dep=deps ds1+1:=by first|rfl|(unfold D.dep;rfl)
   lia
  have q:=RcAt.tuples (e:=fun j=>(ds1.getD j .non).eqb (ds2.getD j .non)) l1 l2 (by lia) fun j h1 h2=>
   eqAt (ds1.getD j .non) (ds2.getD j .non) _ _ A.in1 (items_rel p1 h1).1 (items_rel p2 h2).1 (by
    have:=dep_mem (items_rel p1 h1).2;show A.units+1+_+1<cLine;lia)
  rw[List.size_toArray,List.size_toArray,p1.length,p2.length,all_eqbs] at q;exact q
 |.tup ds1,.lst ds2,p1,p2,hu=>by
  unfold Hv at p1;obtain⟨a1,its1,rfl,l1,p1⟩:=p1;unfold Hv at p2;obtain⟨a2,its2,rfl,l2,p2⟩:=p2;exact RcAt.tuple_list l1 l2 (by lia)
 |.lst ds1,.non,p1,p2,hu=>by
  unfold Hv at p1;obtain⟨a1,its1,rfl,l1,p1⟩:=p1;unfold Hv at p2;subst p2;exact RcAt.list_none  l1 (by lia)
 |.lst ds1,.bl b2,p1,p2,hu=>by
  unfold Hv at p1;obtain⟨a1,its1,rfl,l1,p1⟩:=p1;unfold Hv at p2;subst p2;exact RcAt.list_bool b2 l1 (by lia)
 |.lst ds1,.int b2,p1,p2,hu=>by
  unfold Hv at p1;obtain⟨a1,its1,rfl,l1,p1⟩:=p1;unfold Hv at p2;obtain⟨t2,rfl⟩:=p2;exact RcAt.list_int b2 t2 l1 (by lia)
 |.lst ds1,.str b2,p1,p2,hu=>by
  unfold Hv at p1;obtain⟨a1,its1,rfl,l1,p1⟩:=p1;unfold Hv at p2;obtain⟨t2,rfl⟩:=p2;exact RcAt.list_str b2 t2 l1 (by lia)
 |.lst ds1,.tup ds2,p1,p2,hu=>by
  unfold Hv at p1;obtain⟨a1,its1,rfl,l1,p1⟩:=p1;unfold Hv at p2;obtain⟨a2,its2,rfl,l2,p2⟩:=p2;exact RcAt.list_tuple l1 l2 (by lia)
 |.lst ds1,.lst ds2,p1,p2,hu=>by
  unfold Hv at p1;obtain⟨a1,its1,rfl,l1,p1⟩:=p1;unfold Hv at p2;obtain⟨a2,its2,rfl,l2,p2⟩:=p2;unfold D.eqb;have hdep:A.units+deps ds1+1+1<cLine:=by
   have e9:(.lst ds1:D).dep=deps ds1+1:=by first|rfl|(unfold D.dep;rfl)
   lia
  by_cases hn:ds1.length=ds2.length
  ·have q:=RcAt.lists (e:=fun j=>(ds1.getD j .non).eqb (ds2.getD j .non)) l1 l2 (by simp[p1.length,p2.length,hn]) (by lia) fun j h1 h2=>
    eqAt (ds1.getD j .non) (ds2.getD j .non) _ _ A.in1 (items_rel p1 h1).1 (items_rel p2 h2).1 (by
     have:=dep_mem (items_rel p1 h1).2;show A.units+1+_+1<cLine;lia)
   have q2:=all_eqbs ds1 ds2;rw[hn,Nat.min_self,beq_self_eq_true,Bool.and_true] at q2;rw[List.size_toArray,p1.length,hn,q2] at q;exact q
  ·rw[eqbs_len _ _ hn];exact RcAt.lists_lengths l1 l2 (by simp[p1.length,p2.length,hn]) (by lia)
 |d,.dct,p1,p2,hu=>by
  unfold Hv at p2;exact p2.elim
 |.dct,e,p1,p2,hu=>by
  unfold Hv at p1;exact p1.elim
theorem rcNe{s:Shared}(d e:D)(u v:Value)(A:Around)(p1:Hv s.heap d u)(p2:Hv s.heap e v)(hu:A.units+d.dep+1<cLine):RcNeAt A s u v (!d.eqb e):=
 match d,e,p1,p2,hu with
 |.non,.non,p1,p2,hu=>by
  unfold Hv at p1;subst p1;unfold Hv at p2;subst p2;exact RcNeAt.none_none
 |.non,.bl b2,p1,p2,hu=>by
  unfold Hv at p1;subst p1;unfold Hv at p2;subst p2;exact RcNeAt.none_bool  b2
 |.non,.int b2,p1,p2,hu=>by
  unfold Hv at p1;subst p1;unfold Hv at p2;obtain⟨t2,rfl⟩:=p2;exact RcNeAt.none_int  b2 t2
 |.non,.str b2,p1,p2,hu=>by
  unfold Hv at p1;subst p1;unfold Hv at p2;obtain⟨t2,rfl⟩:=p2;exact RcNeAt.none_str  b2 t2
 |.non,.tup ds2,p1,p2,hu=>by
  unfold Hv at p1;subst p1;unfold Hv at p2;obtain⟨a2,its2,rfl,l2,p2⟩:=p2;exact RcNeAt.none_tuple  l2 (by lia)
 |.non,.lst ds2,p1,p2,hu=>by
  unfold Hv at p1;subst p1;unfold Hv at p2;obtain⟨a2,its2,rfl,l2,p2⟩:=p2;exact RcNeAt.none_list  l2 (by lia)
 |.bl b1,.non,p1,p2,hu=>by
  unfold Hv at p1;subst p1;unfold Hv at p2;subst p2;exact RcNeAt.bool_none b1
 |.bl b1,.bl b2,p1,p2,hu=>by
  unfold Hv at p1;subst p1;unfold Hv at p2;subst p2;exact RcNeAt.bool_bool b1 b2
 |.bl b1,.int b2,p1,p2,hu=>by
  unfold Hv at p1;subst p1;unfold Hv at p2;obtain⟨t2,rfl⟩:=p2;exact RcNeAt.bool_int b1 b2 t2
 |.bl b1,.str b2,p1,p2,hu=>by
  unfold Hv at p1;subst p1;unfold Hv at p2;obtain⟨t2,rfl⟩:=p2;exact RcNeAt.bool_str b1 b2 t2
 |.bl b1,.tup ds2,p1,p2,hu=>by
  unfold Hv at p1;subst p1;unfold Hv at p2;obtain⟨a2,its2,rfl,l2,p2⟩:=p2;exact RcNeAt.bool_tuple b1 l2 (by lia)
 |.bl b1,.lst ds2,p1,p2,hu=>by
  unfold Hv at p1;subst p1;unfold Hv at p2;obtain⟨a2,its2,rfl,l2,p2⟩:=p2;exact RcNeAt.bool_list b1 l2 (by lia)
 |.int b1,.non,p1,p2,hu=>by
  unfold Hv at p1;obtain⟨t1,rfl⟩:=p1;unfold Hv at p2;subst p2;exact RcNeAt.int_none b1 t1
 |.int b1,.bl b2,p1,p2,hu=>by
  unfold Hv at p1;obtain⟨t1,rfl⟩:=p1;unfold Hv at p2;subst p2;exact RcNeAt.int_bool b1 t1 b2
 |.int b1,.int b2,p1,p2,hu=>by
  unfold Hv at p1;obtain⟨t1,rfl⟩:=p1;unfold Hv at p2;obtain⟨t2,rfl⟩:=p2;exact RcNeAt.int_int b1 t1 b2 t2
 |.int b1,.str b2,p1,p2,hu=>by
  unfold Hv at p1;obtain⟨t1,rfl⟩:=p1;unfold Hv at p2;obtain⟨t2,rfl⟩:=p2;exact RcNeAt.int_str b1 t1 b2 t2
 |.int b1,.tup ds2,p1,p2,hu=>by
  unfold Hv at p1;obtain⟨t1,rfl⟩:=p1;unfold Hv at p2;obtain⟨a2,its2,rfl,l2,p2⟩:=p2;exact RcNeAt.int_tuple b1 t1 l2 (by lia)
 |.int b1,.lst ds2,p1,p2,hu=>by
  unfold Hv at p1;obtain⟨t1,rfl⟩:=p1;unfold Hv at p2;obtain⟨a2,its2,rfl,l2,p2⟩:=p2;exact RcNeAt.int_list b1 t1 l2 (by lia)
 |.str b1,.non,p1,p2,hu=>by
  unfold Hv at p1;obtain⟨t1,rfl⟩:=p1;unfold Hv at p2;subst p2;exact RcNeAt.str_none b1 t1
 |.str b1,.bl b2,p1,p2,hu=>by
  unfold Hv at p1;obtain⟨t1,rfl⟩:=p1;unfold Hv at p2;subst p2;exact RcNeAt.str_bool b1 t1 b2
 |.str b1,.int b2,p1,p2,hu=>by
  unfold Hv at p1;obtain⟨t1,rfl⟩:=p1;unfold Hv at p2;obtain⟨t2,rfl⟩:=p2;exact RcNeAt.str_int b1 t1 b2 t2
 |.str b1,.str b2,p1,p2,hu=>by
  unfold Hv at p1;obtain⟨t1,rfl⟩:=p1;unfold Hv at p2;obtain⟨t2,rfl⟩:=p2;exact RcNeAt.str_str b1 t1 b2 t2
 |.str b1,.tup ds2,p1,p2,hu=>by
  unfold Hv at p1;obtain⟨t1,rfl⟩:=p1;unfold Hv at p2;obtain⟨a2,its2,rfl,l2,p2⟩:=p2;exact RcNeAt.str_tuple b1 t1 l2 (by lia)
 |.str b1,.lst ds2,p1,p2,hu=>by
  unfold Hv at p1;obtain⟨t1,rfl⟩:=p1;unfold Hv at p2;obtain⟨a2,its2,rfl,l2,p2⟩:=p2;exact RcNeAt.str_list b1 t1 l2 (by lia)
 |.tup ds1,.non,p1,p2,hu=>by
  unfold Hv at p1;obtain⟨a1,its1,rfl,l1,p1⟩:=p1;unfold Hv at p2;subst p2;exact RcNeAt.tuple_none  l1 (by lia)
 |.tup ds1,.bl b2,p1,p2,hu=>by
  unfold Hv at p1;obtain⟨a1,its1,rfl,l1,p1⟩:=p1;unfold Hv at p2;subst p2;exact RcNeAt.tuple_bool b2 l1 (by lia)
 |.tup ds1,.int b2,p1,p2,hu=>by
  unfold Hv at p1;obtain⟨a1,its1,rfl,l1,p1⟩:=p1;unfold Hv at p2;obtain⟨t2,rfl⟩:=p2;exact RcNeAt.tuple_int b2 t2 l1 (by lia)
 |.tup ds1,.str b2,p1,p2,hu=>by
  unfold Hv at p1;obtain⟨a1,its1,rfl,l1,p1⟩:=p1;unfold Hv at p2;obtain⟨t2,rfl⟩:=p2;exact RcNeAt.tuple_str b2 t2 l1 (by lia)
 |.tup ds1,.tup ds2,p1,p2,hu=>by
  unfold Hv at p1;obtain⟨a1,its1,rfl,l1,p1⟩:=p1;unfold Hv at p2;obtain⟨a2,its2,rfl,l2,p2⟩:=p2;unfold D.eqb;have hdep:A.units+deps ds1+1+1<cLine:=by
   have e9:(.tup ds1:D).dep=deps ds1+1:=by first|rfl|(unfold D.dep;rfl)
   lia
  have q:=RcNeAt.tuples (e:=fun j=>(ds1.getD j .non).eqb (ds2.getD j .non)) l1 l2 (by lia) fun j h1 h2=>
   eqAt (ds1.getD j .non) (ds2.getD j .non) _ _ A.in1 (items_rel p1 h1).1 (items_rel p2 h2).1 (by
    have:=dep_mem (items_rel p1 h1).2;show A.units+1+_+1<cLine;lia)
  rw[List.size_toArray,List.size_toArray,p1.length,p2.length,all_eqbs] at q;exact q
 |.tup ds1,.lst ds2,p1,p2,hu=>by
  unfold Hv at p1;obtain⟨a1,its1,rfl,l1,p1⟩:=p1;unfold Hv at p2;obtain⟨a2,its2,rfl,l2,p2⟩:=p2;exact RcNeAt.tuple_list l1 l2 (by lia)
 |.lst ds1,.non,p1,p2,hu=>by
  unfold Hv at p1;obtain⟨a1,its1,rfl,l1,p1⟩:=p1;unfold Hv at p2;subst p2;exact RcNeAt.list_none  l1 (by lia)
 |.lst ds1,.bl b2,p1,p2,hu=>by
  unfold Hv at p1;obtain⟨a1,its1,rfl,l1,p1⟩:=p1;unfold Hv at p2;subst p2;exact RcNeAt.list_bool b2 l1 (by lia)
 |.lst ds1,.int b2,p1,p2,hu=>by
  unfold Hv at p1;obtain⟨a1,its1,rfl,l1,p1⟩:=p1;unfold Hv at p2;obtain⟨t2,rfl⟩:=p2;exact RcNeAt.list_int b2 t2 l1 (by lia)
 |.lst ds1,.str b2,p1,p2,hu=>by
  unfold Hv at p1;obtain⟨a1,its1,rfl,l1,p1⟩:=p1;unfold Hv at p2;obtain⟨t2,rfl⟩:=p2;exact RcNeAt.list_str b2 t2 l1 (by lia)
 |.lst ds1,.tup ds2,p1,p2,hu=>by
  unfold Hv at p1;obtain⟨a1,its1,rfl,l1,p1⟩:=p1;unfold Hv at p2;obtain⟨a2,its2,rfl,l2,p2⟩:=p2;exact RcNeAt.list_tuple l1 l2 (by lia)
 |.lst ds1,.lst ds2,p1,p2,hu=>by
  unfold Hv at p1;obtain⟨a1,its1,rfl,l1,p1⟩:=p1;unfold Hv at p2;obtain⟨a2,its2,rfl,l2,p2⟩:=p2;unfold D.eqb;have hdep:A.units+deps ds1+1+1<cLine:=by
   have e9:(.lst ds1:D).dep=deps ds1+1:=by first|rfl|(unfold D.dep;rfl)
   lia
  by_cases hn:ds1.length=ds2.length
  ·have q:=RcNeAt.lists (e:=fun j=>(ds1.getD j .non).eqb (ds2.getD j .non)) l1 l2 (by simp[p1.length,p2.length,hn]) (by lia) fun j h1 h2=>
    eqAt (ds1.getD j .non) (ds2.getD j .non) _ _ A.in1 (items_rel p1 h1).1 (items_rel p2 h2).1 (by
     have:=dep_mem (items_rel p1 h1).2;show A.units+1+_+1<cLine;lia)
   have q2:=all_eqbs ds1 ds2;rw[hn,Nat.min_self,beq_self_eq_true,Bool.and_true] at q2;rw[List.size_toArray,p1.length,hn,q2] at q;exact q
  ·rw[eqbs_len _ _ hn];exact RcNeAt.lists_lengths l1 l2 (by simp[p1.length,p2.length,hn]) (by lia)
 |d,.dct,p1,p2,hu=>by
  unfold Hv at p2;exact p2.elim
 |.dct,e,p1,p2,hu=>by
  unfold Hv at p1;exact p1.elim
end Dat
namespace L3
open PySem PySem.Spec PyProof.Rows L2
section
variable {X:Cx} {K:PySem.W.Frag}
def rI3(f:Int->Int->D):R3:=fun x y G Q=>match x,y with
 |.int i,.int j=>Q (f i j) G
 |_,_=>False
theorem hv_int{H:Hp}{i:Int}{v:V}(h:Hv K H (.int i) v):v=.int i:=by unfold Hv at h;exact h
theorem hv_bl{H:Hp}{i:Bool}{v:V}(h:Hv K H (.bl i) v):v=.bl i:=by unfold Hv at h;exact h
theorem hv_obj{H:Hp}{a:Addr}{v:V}(h:Hv K H (.obj a) v):v=.ref a:=by unfold Hv at h;exact h
theorem hv_tup{H:Hp}{ds:List D}{v:V}(h:Hv K H (.tup ds) v):∃a vs,v=.ref a/\SqT K H a vs/\Hvs K H ds vs:=by unfold Hv at h;exact h
theorem hv_scr{H:Hp}{ds:List D}{v:V}(h:Hv K H (.scr ds) v):∃a vs,v=.ref a/\SqF K H a vs/\Hvs K H ds vs:=by unfold Hv at h;exact h
theorem mk_int{H:Hp}{i:Int}:Hv K H (.int i) (.int i):=by simp[Hv]
theorem mk_bl{H:Hp}{i:Bool}:Hv K H (.bl i) (.bl i):=by simp[Hv]
theorem mk_obj{H:Hp}{a:Addr}:Hv K H (.obj a) (.ref a):=by simp[Hv]
theorem mk_tup{H:Hp}{ds:List D}{a:Addr}{vs:List V}(h:SqT K H a vs)(q:Hvs K H ds vs):Hv K H (.tup ds) (.ref a):=by
 unfold Hv;exact⟨a,vs,rfl,h,q⟩
theorem low_ints{f:Int->Int->D}{g:Int->Int->V}(hf:∀i j H,Hv K H (f i j) (g i j)):LowR K (rI3 f) (rI0 g):=fun x y vx vy G H Q3 Q hx hy RG h k=>by
 cases x with
 |int i=>
  cases y with
  |int j=>
   rw[hv_int hx,hv_int hy];exact⟨i,j,rfl,rfl,k _ H _ G (hf i j H) (.refl H G) RG h⟩
  |_=>exact h.elim
 |_=>exact h.elim
abbrev rSub3:R3:=rI3 fun i j=>.int (i-j)
theorem l_sub:LowR K rSub3 (rI0 fun i j=>.int (i-j)):=low_ints fun _ _ _=>mk_int
abbrev rLe3:R3:=rI3 fun i j=>.bl (decide (i≤j))
theorem l_le:LowR K rLe3 (rI0 fun i j=>.bl (decide (i≤j))):=low_ints fun _ _ _=>mk_bl
abbrev rGt3:R3:=rI3 fun i j=>.bl (decide (j<i))
theorem l_gt:LowR K rGt3 (rI0 fun i j=>.bl (decide (j<i))):=low_ints fun _ _ _=>mk_bl
abbrev rGe3:R3:=rI3 fun i j=>.bl (decide (j≤i))
theorem l_ge:LowR K rGe3 (rI0 fun i j=>.bl (decide (j≤i))):=low_ints fun _ _ _=>mk_bl
def Big(i:Int):Prop:=i.natAbs<2^4000
theorem log_big{i:Int}(h:Big i):i.natAbs.log2<4000:=by
 by_cases h0:i.natAbs=0
 ·rw[h0];decide
 ·exact (Nat.log2_lt h0).mpr h
theorem bits_big{i:Int}(h:Big i):Builtin.Int.intBits i≤4000:=by
 unfold Builtin.Int.intBits;split
 ·exact Nat.zero_le _
 ·exact log_big h
theorem mul_big{i j:Int}(h1:Big i)(h2:Big j):IntMulOk i j:=by
 unfold IntMulOk Builtin.Int.intTooBig;have b1:=bits_big h1;have b2:=bits_big h2;have:¬((Builtin.Int.intBits i:Int)+(Builtin.Int.intBits j:Int) > (bitsLine:Int)):=by
  have:(bitsLine:Int)=134217728:=by decide
  lia
 rw[decide_eq_false this];simp
theorem op_fdivB:OpR X (binaryOp .FloorDiv) (rI (fun _ j=>0<j/\Big j) fun i j=>.int (i / j)):=opI fun i j _ _ _ _ _ hc q=>by
 have h1:(0:Int)<j:=hc.1;exact floordiv_int (by lia) (by rw[Int.fdiv_eq_ediv_of_nonneg i (by lia)];exact q) (.inl (PyProof.noPylong_of_log2 (Nat.lt_trans (log_big hc.2) (by decide))))
theorem op_mulB:OpR X (binaryOp .Mult) (rI (fun i j=>Big i/\Big j) fun i j=>.int (i*j)):=opI fun _ _ _ _ _ _ _ hc q=>mul_int q (mul_big hc.1 hc.2)
def rIC3(C:Int->Int->Prop)(f:Int->Int->D):R3:=fun x y G Q=>match x,y with
 |.int i,.int j=>C i j/\Q (f i j) G
 |_,_=>False
theorem low_intsC{C:Int->Int->Prop}{f:Int->Int->D}{g:Int->Int->V}(hf:∀i j H,Hv K H (f i j) (g i j)):LowR K (rIC3 C f) (rI C g):=fun x y vx vy G H Q3 Q hx hy RG h k=>by
 cases x with
 |int i=>
  cases y with
  |int j=>
   rw[hv_int hx,hv_int hy];exact⟨i,j,rfl,rfl,h.1,k _ H _ G (hf i j H) (.refl H G) RG h.2⟩
  |_=>exact h.elim
 |_=>exact h.elim
abbrev rDiv3:R3:=rIC3 (fun _ j=>0<j/\Big j) fun i j=>.int (i / j)
theorem l_div:LowR K rDiv3 (rI (fun _ j=>0<j/\Big j) fun i j=>.int (i / j)):=low_intsC fun _ _ _=>mk_int
abbrev rMod3:R3:=rIC3 (fun _ j=>0<j) fun i j=>.int (i%j)
theorem l_mod:LowR K rMod3 (rI (fun _ j=>0<j) fun i j=>.int (i%j)):=low_intsC fun _ _ _=>mk_int
abbrev rPow3:R3:=rIC3 CPow fun i j=>.int (i^j.toNat)
theorem l_pow:LowR K rPow3 (rI CPow fun i j=>.int (i^j.toNat)):=low_intsC fun _ _ _=>mk_int
theorem cat_tup0{prog:Program}{w:World}{A:Around}{E:Value->Shared->Prop}{s:Shared}{t b:Addr}{ws:List Value}{Q:Value->Shared->Prop}(ht:IsTup s.heap t #[])(hb:IsTup s.heap b ws.toArray)(h1:Q (.ref b) s):
  wpAny (model prog w) A (binaryOp .Add (.ref t) (.ref b)) Q E s:=by
 obtain⟨⟨cls,dd,data,sl⟩,ho,hc,n,hd⟩:=id ht;obtain⟨⟨cls2,dd2,data2,sl2⟩,ho2,hc2,n2,hd2⟩:=id hb;simp only at hc hd hc2 hd2;subst hc hd hc2 hd2;exact concat_meets ⟨_,ho,rfl⟩ ⟨_,ho2,rfl⟩ noFill_tuple_add seq_tuple_add PySem.F.slot_tuple_add PySem.F.entry_tuple_add (PySem.F.args_tuple_add_2 _ _)
   (tuple_addW0 t b #[] ws.toArray n n2 dd dd2 sl sl2 rfl) ⟨ho,ho2,h1⟩
def rCatT0(K:PySem.W.Frag):R2:=fun x y H Q=>∃a b ys,x=.ref a/\y=.ref b/\SqT K H a []/\SqT K H b ys/\Q (.ref b) H
theorem op_catT0:OpR X (binaryOp .Add) (rCatT0 X.K):=by
 intro pins s σ H x y v u Q I rx ry h;obtain⟨a,b,ys,rfl,rfl,ha,hb,q⟩:=h;cases rx;cases ry;obtain⟨its,r1,p1,_⟩:=I.tuple ha;obtain⟨its2,r2,p2,_⟩:=I.tuple hb;cases r1;exact cat_tup0 p1 p2 ⟨.ref b,H,I,rfl,q⟩
def rAdd3:R3:=fun x y G Q=>match x,y with
 |.int i,.int j=>Q (.int (i+j)) G
 |.obj a,.obj b=>∃ds es,G a=some (.lst ds)/\G b=some (.lst es)/\ds.length+es.length≤sizeLine/\∀p G',New G p (.lst (ds++es)) G'->Q (.obj p) G'
 |.tup ds,.tup es=>ds.length+es.length≤sizeLine/\Q (.tup (ds++es)) G
 |_,_=>False
abbrev rAdd2(K:PySem.W.Frag):R2:=fun x y H Q=>rI0 (fun i j=>.int (i+j)) x y H Q∨(rCat x y H Q∨(rCatT K x y H Q∨rCatT0 K x y H Q))
theorem op_addA:OpR X (binaryOp .Add) (rAdd2 X.K):=op_add.or (op_cat.or (op_catT.or op_catT0))
theorem l_add:LowR K rAdd3 (rAdd2 K):=fun x y vx vy G H Q3 Q hx hy RG h k=>by
 cases x with
 |int i=>
  cases y with
  |int j=>
   rw[hv_int hx,hv_int hy];exact .inl ⟨i,j,rfl,rfl,k _ H _ G mk_int (.refl H G) RG h⟩
  |_=>exact h.elim
 |obj a=>
  cases y with
  |obj b=>
   rw[hv_obj hx,hv_obj hy];obtain⟨ds,es,e1,e2,hz,q⟩:=h;obtain⟨vs,z1,z2⟩:=RG a _ e1;obtain⟨us,y1,y2⟩:=RG b _ e2;refine .inr (.inl ⟨a,b,vs,us,rfl,rfl,z1,y1,by rw[←z2.length,←y2.length];exact hz,fun p hp=>?_⟩);exact k _ _ (.obj p) _ mk_obj (.laidG hp) (RG.newL hp (z2.append y2)) (q p _ (.mk' (RG.free hp)))
  |_=>exact h.elim
 |tup ds=>
  cases y with
  |tup es=>
   obtain⟨a,vs,rfl,e1,e2⟩:=hv_tup hx;obtain⟨b,us,rfl,y1,y2⟩:=hv_tup hy;by_cases h0:vs=[]
   ·subst h0;have:ds=[]:=by
     have:=e2.length;exact List.eq_nil_of_length_eq_zero (by simpa using this)
    subst this;exact .inr (.inr (.inr ⟨a,b,us,rfl,rfl,e1,y1,k _ H (.tup es) G (mk_tup y1 y2) (.refl H G) RG h.2⟩))
   ·refine .inr (.inr (.inl ⟨a,b,vs,us,rfl,rfl,e1,y1,h0,by rw[←e2.length,←y2.length];exact h.1,fun z=>?_,fun z p hp=>?_⟩))
    ·subst z;have:es=[]:=List.eq_nil_of_length_eq_zero (by simpa using y2.length);subst this;refine k _ H (.tup ds) G (mk_tup e1 e2) (.refl H G) RG ?_;have:=h.2;rwa [List.append_nil] at this
    ·exact k _ _ (.tup (ds++es)) G (mk_tup (.of upd_same) ((e2.append y2).ext (.laid hp))) (.laid hp) (RG.laid hp) h.2
  |_=>exact h.elim
 |_=>exact h.elim
def rMul3:R3:=fun x y G Q=>match x,y with
 |.int i,.int j=>(Big i/\Big j)/\Q (.int (i*j)) G
 |.obj a,.int k=>∃ds,G a=some (.lst ds)/\(-(2^63)≤k/\k<2^63)/\ds.length*k.toNat≤sizeLine/\∀p G',New G p (.lst (List.replicate k.toNat ds).flatten) G'->Q (.obj p) G'
 |_,_=>False
abbrev rMul2:R2:=fun x y H Q=>rI (fun i j=>Big i/\Big j) (fun i j=>.int (i*j)) x y H Q∨rRep x y H Q
theorem op_mulA:OpR X (binaryOp .Mult) rMul2:=op_mulB.or op_rep
theorem l_mul:LowR K rMul3 rMul2:=fun x y vx vy G H Q3 Q hx hy RG h k=>by
 cases x with
 |int i=>
  cases y with
  |int j=>
   rw[hv_int hx,hv_int hy];exact .inl ⟨i,j,rfl,rfl,h.1,k _ H _ G mk_int (.refl H G) RG h.2⟩
  |_=>exact h.elim
 |obj a=>
  cases y with
  |int j=>
   rw[hv_obj hx,hv_int hy];obtain⟨ds,e1,hk,hz,q⟩:=h;obtain⟨vs,z1,z2⟩:=RG a _ e1;refine .inr ⟨a,j,vs,rfl,rfl,z1,hk.1,hk.2,by rw[←z2.length];exact hz,fun p hp=>?_⟩;exact k _ _ (.obj p) _ mk_obj (.laidG hp) (RG.newL hp (z2.rep _)) (q p _ (.mk' (RG.free hp)))
  |_=>exact h.elim
 |_=>exact h.elim
def intsOf:List D->Option (List Int)
 |[]=>some []
 |.int i::r=>(intsOf r).map (i::·)
 |_::_=>none
theorem intsOf_vals{H:Hp}:∀{ds:List D} {vs:List V} {ns:List Int},Hvs K H ds vs->intsOf ds=some ns->vs=ns.map V.int
 |[],vs,ns,h,e=>by
  cases e;exact h.inv0
 |d::ds,vs,ns,h,e=>by
  cases d with
  |int i=>
   obtain⟨v,r,rfl,z1,z2⟩:=h.inv;unfold intsOf at e;cases hm:intsOf ds with
   |none=>rw[hm] at e;cases e
   |some ms=>
    rw[hm] at e;cases e;rw[hv_int z1,intsOf_vals z2 hm];rfl
  |_=>cases e
def rLtT3:R3:=fun x y G Q=>match x,y with
 |.int i,.int j=>Q (.bl (decide (i<j))) G
 |.tup ds,.tup es=>∃ns ms,intsOf ds=some ns/\intsOf es=some ms/\Q (.bl (HT.lexLt ns ms)) G
 |_,_=>False
abbrev rLtA(K:PySem.W.Frag):R2:=fun x y H Q=>rI0 (fun i j=>.bl (decide (i<j))) x y H Q∨rLtT K x y H Q
theorem op_ltA(hu:X.A.units<cLine):OpR X (compareOp .Lt) (rLtA X.K):=op_lt.or (op_ltT hu)
theorem l_ltT:LowR K rLtT3 (rLtA K):=fun x y vx vy G H Q3 Q hx hy RG h k=>by
 cases x with
 |int i=>
  cases y with
  |int j=>
   rw[hv_int hx,hv_int hy];exact .inl ⟨i,j,rfl,rfl,k _ H _ G mk_bl (.refl H G) RG h⟩
  |_=>exact h.elim
 |tup ds=>
  cases y with
  |tup es=>
   obtain⟨a,vs,rfl,e1,e2⟩:=hv_tup hx;obtain⟨b,us,rfl,y1,y2⟩:=hv_tup hy;obtain⟨ns,ms,z1,z2,q⟩:=h;have q1:=intsOf_vals e2 z1;have q2:=intsOf_vals y2 z2;subst q1 q2;exact .inr ⟨a,b,ns,ms,rfl,rfl,e1,y1,k _ H _ G mk_bl (.refl H G) RG q⟩
  |_=>exact h.elim
 |_=>exact h.elim
def rIx3:R3:=fun x y G Q=>match x,y with
 |.tup ds,.int i=>∃d,atI ds i=some d/\Q d G
 |.scr ds,.int i=>∃d,atI ds i=some d/\Q d G
 |.obj p,.int i=>∃ds d,G p=some (.lst ds)/\atI ds i=some d/\Q d G
 |_,_=>False
theorem atI_hvs{H:Hp}{ds:List D}{vs:List V}{i:Int}{d:D}(h:Hvs K H ds vs)(e:atI ds i=some d):∃v,atI vs i=some v/\Hv K H d v:=by
 unfold atI at e ⊢;rw[←h.length];cases hx:ixN ds.length i with
 |none=>rw[hx] at e;cases e
 |some j=>
  rw[hx] at e;exact h.get e
theorem l_ix:LowR K rIx3 (rIx K):=fun x y vx vy G H Q3 Q hx hy RG h k=>by
 cases y with
 |int i=>
  rw[hv_int hy];cases x with
  |tup ds=>
   obtain⟨d,e,q⟩:=h;obtain⟨a,vs,rfl,e1,e2⟩:=hv_tup hx;obtain⟨v,z1,z2⟩:=atI_hvs e2 e;exact .inr (.inl ⟨a,vs,i,v,rfl,rfl,e1,z1,k _ H d G z2 (.refl H G) RG q⟩)
  |scr ds=>
   obtain⟨d,e,q⟩:=h;obtain⟨a,vs,rfl,e1,e2⟩:=hv_scr hx;obtain⟨v,z1,z2⟩:=atI_hvs e2 e;exact .inl ⟨a,vs,i,v,rfl,rfl,e1.l,z1,k _ H d G z2 (.refl H G) RG q⟩
  |obj p=>
   obtain⟨ds,d,e0,e,q⟩:=h;rw[hv_obj hx];obtain⟨vs,e1,e2⟩:=RG p _ e0;obtain⟨v,z1,z2⟩:=atI_hvs e2 e;exact .inl ⟨p,vs,i,v,rfl,rfl,.of e1,z1,k _ H d G z2 (.refl H G) RG q⟩
  |_=>exact h.elim
 |_=>cases x<;>exact h.elim
theorem e_ix{a b:Expr}{ta tb:TE3}{pos:Pos}(ha:PE3 X a ta)(hb:PE3 X b tb)(hs:PlainIx b:=by intro _ _;rfl):PE3 X (.Subscript a b pos) (eOp rIx3 ta tb):=pe_of (pe_ix ix_seq ha hb hs) fun _ _ _ h=>low_bin l_ix h
def eLstIx(ta:TA3)(tb:TE3):TE3:=fun τ G Q=>ta τ G fun ds G1=>smallL (tb τ G1 fun y G2=>match y with
 |.int i=>∃d,atI ds i=some d/\Q d G2
 | _=>False) ds 64
theorem e_lstIx{es:List Expr}{b:Expr}{ta:TA3}{tb:TE3}{pos pos':Pos}(ha:PA3 X es ta)(hb:PE3 X b tb)(hs:PlainIx b:=by intro _ _;rfl):PE3 X (.Subscript (.List es pos') b pos) (eLstIx ta tb):=
 pe_of (pe_ix ix_seq (pe_lst ha) hb hs) fun σ H Q ⟨τ,G,Q3,RS,RG,h,k⟩=>by
  refine⟨τ,G,_,RS,RG,h,fun vs H1 ds G1 h1 S1 R1 q1=>?_⟩;obtain⟨z,q1⟩:=smallL_of q1;refine⟨by rw[←h1.length];exact line64 z,fun p hp=>?_⟩;refine⟨τ,G1,_,(RS.ext (S1.ext RG)).ext (.laid hp),R1.laid hp,q1,fun v2 H2 d2 G2 h2 S2 R2 q2=>?_⟩;have e2:H2 p=some (.lst vs):=S2.fr p _ upd_same (R1.free hp);cases d2 with
  |int i=>
   obtain⟨d,e,q⟩:=q2;obtain⟨v,z1,z2⟩:=atI_hvs ((h1.ext (.laid hp)).ext (S2.ext (R1.laid hp))) e;rw[hv_int h2];exact .inl ⟨p,vs,i,v,rfl,rfl,.of e2,z1,k _ H2 d G2 z2 ((S1.trans (.laid hp)).trans S2) R2 q⟩
  |_=>exact q2.elim
end
end L3
namespace L3
open PySem PySem.Spec PyProof.Rows L2
mutual
def toDat0:D->Option Dat.D
 |.non=>some .non
 |.bl b=>some (.bl b)
 |.int i=>some (.int i)
 |.str x=>some (.str x)
 |.tup ds=>match toDats0 ds with
  |some xs=>some (.tup xs)
  |none=>none
 |.scr ds=>match toDats0 ds with
  |some xs=>some (.lst xs)
  |none=>none
 |.obj _=>none
 |.dc _=>none
def toDats0:List D->Option (List Dat.D)
 |[]=>some []
 |d::ds=>match toDat0 d with
  |some x=>match toDats0 ds with
   |some xs=>some (x::xs)
   |none=>none
  |none=>none
end
def toDat(G:Gp):D->Option Dat.D
 |.obj a=>match G a with
  |some (.lst ds)=>match toDats0 ds with
   |some xs=>some (.lst xs)
   |none=>none
  |_=>none
 |d=>toDat0 d
section
variable {X:Cx} {pins:List (Addr×Obj)} {σ:L2.St} {H:Hp} {s:Shared}
mutual
theorem dat0_ok(I:Inv X pins σ H s):∀{d:D} {v:V} {u:Value} {x:Dat.D},Hv X.K H d v->RelV v u->toDat0 d=some x->Dat.Hv s.heap x u
 |.non,v,u,x,h,r,e=>by
  unfold Hv at h;subst h;cases e;unfold Dat.Hv;exact r
 |.bl b,v,u,x,h,r,e=>by
  unfold Hv at h;subst h;cases e;unfold Dat.Hv;exact r
 |.int b,v,u,x,h,r,e=>by
  unfold Hv at h;subst h;cases e;unfold Dat.Hv;exact r
 |.str b,v,u,x,h,r,e=>by
  unfold Hv at h;subst h;cases e;unfold Dat.Hv;exact r
 |.obj a,v,u,x,h,r,e=>by cases e
 |.dc a,v,u,x,h,r,e=>by cases e
 |.tup ds,v,u,x,h,r,e=>by
  obtain⟨a,vs,rfl,q1,q2⟩:=hv_tup h;cases r;unfold toDat0 at e;cases hd:toDats0 ds with
  |none=>rw[hd] at e;cases e
  |some xs=>
   rw[hd] at e;cases e;obtain⟨its,rv,p,_⟩:=I.tuple q1;unfold Dat.Hv;exact⟨a,its,rfl,p,dats0_ok I q2 rv hd⟩
 |.scr ds,v,u,x,h,r,e=>by
  obtain⟨a,vs,rfl,q1,q2⟩:=hv_scr h;cases r;unfold toDat0 at e;cases hd:toDats0 ds with
  |none=>rw[hd] at e;cases e
  |some xs=>
   rw[hd] at e;cases e;obtain⟨its,rv,p,_⟩:=I.list q1.l;unfold Dat.Hv;exact⟨a,its,rfl,p.isList,dats0_ok I q2 rv hd⟩
theorem dats0_ok(I:Inv X pins σ H s):∀{ds:List D} {vs:List V} {us:List Value} {xs:List Dat.D},Hvs X.K H ds vs->Vals vs us->toDats0 ds=some xs->Dat.Hvs s.heap xs us
 |[],vs,us,xs,h,r,e=>by
  cases h.inv0;cases r;cases e;unfold Dat.Hvs;rfl
 |d::ds,vs,us,xs,h,r,e=>by
  obtain⟨v,vr,rfl,q1,q2⟩:=h.inv;unfold toDats0 at e;cases hd:toDat0 d with
  |none=>rw[hd] at e;cases e
  |some x=>
   rw[hd] at e;cases hr:toDats0 ds with
   |none=>rw[hr] at e;cases e
   |some xr=>
    rw[hr] at e;cases e;cases r with
    |cons r1 r2=>
     unfold Dat.Hvs;exact⟨_,_,rfl,dat0_ok I q1 r1 hd,dats0_ok I q2 r2 hr⟩
end
theorem dat_ok{G:Gp}(I:Inv X pins σ H s)(RG:RepG X.K G H){d:D}{v:V}{u:Value}{x:Dat.D}(h:Hv X.K H d v)(r:RelV v u)(e:toDat G d=some x):Dat.Hv s.heap x u:=by
 cases d with
 |obj a=>
  rw[hv_obj h] at r;cases r;unfold toDat at e;cases hG:G a with
  |none=>simp[hG] at e
  |some o=>
   cases o with
   |lst ds=>
    simp only[hG] at e;cases hr:toDats0 ds with
    |none=>rw[hr] at e;cases e
    |some xs=>
     rw[hr] at e;cases e;obtain⟨vs,e1,e2⟩:=RG a _ hG;obtain⟨its,rv,p,_⟩:=I.list (SqL.of e1);unfold Dat.Hv;exact⟨a,its,rfl,p.isList,dats0_ok I e2 rv hr⟩
   |pen=>simp[hG] at e
   |dct=>simp[hG] at e
   |gen R=>simp[hG] at e
 |non=>exact dat0_ok I h r e
 |bl _=>exact dat0_ok I h r e
 |int _=>exact dat0_ok I h r e
 |str _=>exact dat0_ok I h r e
 |tup _=>exact dat0_ok I h r e
 |scr _=>exact dat0_ok I h r e
 |dc _=>exact dat0_ok I h r e
end
section
variable {X:Cx} {a b e:Expr} {ta tb:TE3} {pos:Pos}
def rEq3(neg:Bool):R3:=fun x y G Q=>∃u v,toDat G x=some u/\toDat G y=some v/\u.dep≤50/\Q (.bl (if neg then !u.eqb v else u.eqb v)) G
def CmpR(X:Cx)(f:Value->Value->Sem Value)(r:R3):Prop:=
 ∀(pins:List (Addr×Obj)) (s:Shared) (σ:L2.St) (H:Hp) (G:Gp) (x y:D) (vx vy:V) (u v:Value) (Q3:V3),Inv X pins σ H s->RepG X.K G H->Hv X.K H x vx->Hv X.K H y vy->RelV vx u->RelV vy v->r x y G Q3 ->
  wpAny (model X.prog X.w) X.A (f u v) (EP X pins σ fun w H'=>∃d G',Hv X.K H' d w/\Step H G H' G'/\RepG X.K G' H'/\Q3 d G') X.xe s
theorem eqR(hu:X.A.units+64<cLine):CmpR X (compareOp .Eq) (rEq3 false):=by
 intro pins s σ H G x y vx vy u v Q3 I RG hx hy rx ry ⟨p,q,e1,e2,hd,h⟩;have:=Dat.rcAt p q u v X.A (dat_ok I RG hx rx e1) (dat_ok I RG hy ry e2) (by omega);exact this _ _ _ _ ⟨.bl (p.eqb q),H,I,rfl,.bl (p.eqb q),G,mk_bl,.refl H G,RG,h⟩
theorem neR(hu:X.A.units+64<cLine):CmpR X (compareOp .NotEq) (rEq3 true):=by
 intro pins s σ H G x y vx vy u v Q3 I RG hx hy rx ry ⟨p,q,e1,e2,hd,h⟩;have:=Dat.rcNe p q u v X.A (dat_ok I RG hx rx e1) (dat_ok I RG hy ry e2) (by omega);exact this _ _ _ _ ⟨.bl (!p.eqb q),H,I,rfl,.bl (!p.eqb q),G,mk_bl,.refl H G,RG,h⟩
def cmpR2(K:PySem.W.Frag)(r:R3):R2:=fun vx vy H Q=>∃x y G Q3,RepG K G H/\Hv K H x vx/\Hv K H y vy/\r x y G Q3/\∀v H' d G',Hv K H' d v->Step H G H' G'->RepG K G' H'->Q3 d G'->Q v H'
theorem CmpR.op{f:Value->Value->Sem Value}{r:R3}(h:CmpR X f r):OpR X f (cmpR2 X.K r):=by
 intro pins s σ H vx vy u v Q I rx ry ⟨x,y,G,Q3,RG,hx,hy,q,k⟩;refine thn (h pins s σ H G x y vx vy u v Q3 I RG hx hy rx ry q) fun w s' ⟨v',H',I',r',d,G',z1,z2,z3,z4⟩=>⟨v',H',I',r',k v' H' d G' z1 z2 z3 z4⟩
theorem l_cmp{K:PySem.W.Frag}{r:R3}:LowR K r (cmpR2 K r):=fun x y vx vy G H Q3 Q hx hy RG h k=>⟨x,y,G,Q3,RG,hx,hy,h,k⟩
theorem op_eqA(hu:X.A.units+64<cLine):OpR X (compareOp .Eq) (cmpR2 X.K (rEq3 false)):=(eqR hu).op
theorem op_neA(hu:X.A.units+64<cLine):OpR X (compareOp .NotEq) (cmpR2 X.K (rEq3 true)):=(neR hu).op
theorem l_eq{K:PySem.W.Frag}:LowR K (rEq3 false) (cmpR2 K (rEq3 false)):=l_cmp
theorem l_ne{K:PySem.W.Frag}:LowR K (rEq3 true) (cmpR2 K (rEq3 true)):=l_cmp
abbrev TO3:=S3->Gp->(Option Int->Gp->Prop)->Prop
def lowO(K:PySem.W.Frag)(t:TO3):TO:=fun σ H Q=>∃τ G Q3,RepS K τ σ H/\RepG K G H/\t τ G Q3/\∀o H' G',Step H G H' G'->RepG K G' H'->Q3 o G'->Q o H'
abbrev PO3(X:Cx)(e:Option Expr)(t:TO3):Prop:=PO X e (lowO X.K t)
theorem po_of{o:Option Expr}{t t':TO}(h:PO X o t)(f:∀σ H Q,t' σ H Q->t σ H Q):PO X o t':=fun pins s σ H Q I q=>h pins s σ H Q I (f σ H Q q)
def oNone:TO3:=fun _ G Q=>Q none G
def oSome(t:TE3):TO3:=fun τ G Q=>t τ G fun x G1=>match x with
 |.int i=>Q (some i) G1
 |_=>False
theorem o_none:PO3 X none oNone:=po_of po_none fun σ H Q ⟨τ,G,Q3,RS,RG,h,k⟩=>k none H G (.refl H G) RG h
theorem o_some(h:PE3 X e ta):PO3 X (some e) (oSome ta):=po_of (po_some h) fun σ H Q ⟨τ,G,Q3,RS,RG,h,k⟩=>
 ⟨τ,G,_,RS,RG,h,fun v H1 d G1 h1 S1 R1 q1=>by
  cases d with
  |int i=>exact⟨i,hv_int h1,k (some i) H1 G1 S1 R1 q1⟩
  |_=>exact q1.elim⟩
def cut3(ds:List D)(lo hi:Option Int):List D:=(ds.drop (HT.sIx ds.length 0 lo)).take (HT.sIx ds.length ds.length hi-HT.sIx ds.length 0 lo)
def eSl(ta:TE3)(tl th:TO3):TE3:=fun τ G Q=>ta τ G fun x G1=>tl τ G1 fun lo G2=>th τ G2 fun hi G3=>match x with
 |.tup ds=>Q (.tup (cut3 ds lo hi)) G3
 |.scr ds=>∀p G4,New G3 p (.lst (cut3 ds lo hi)) G4->Q (.obj p) G4
 |.obj a=>∃ds,G3 a=some (.lst ds)/\∀p G4,New G3 p (.lst (cut3 ds lo hi)) G4->Q (.obj p) G4
 |_=>False
theorem cut_hvs{K:PySem.W.Frag}{H:Hp}{ds:List D}{vs:List V}(h:Hvs K H ds vs)(lo hi:Option Int):Hvs K H (cut3 ds lo hi) (cutV vs lo hi):=by
 unfold cut3 cutV;rw[h.length];exact (h.drop _).take _
theorem getItem_tuple_whole{prog:Program}{w:World}{A:Around}{E:Value->Shared->Prop}{s:Shared}{t sl:Addr}{items:Array Value}{vl vu:Value}{lo hi:Option Int}{Q:Value->Shared->Prop}(ht:IsTup s.heap t items)(hs:s.heap.IsSliceOf sl vl vu .none)(pl:IsPart vl lo)(pu:IsPart vu hi)
  (hw:HT.sIx items.size 0 lo=0/\HT.sIx items.size items.size hi=items.size) (h:Q (.ref t) s):wpAny (model prog w) A (getItem (.ref t) (.ref sl)) Q E s:=by
 obtain⟨os,hos,hcs,hds⟩:=id hs;have hTs:s.TypeIs (.ref sl) "slice":=⟨os,hos,hcs⟩;unfold getItem
 try with_reducible refine wpAny_holding ?_
 first|refine wpAny_bind (wpAny_pure ?_)|skip
 refine wpAny_bind (wpAny_sequenceKey ht.typeIs (by decide) ?_);refine wpAny_bind (wpAny_callSpecial?_slot (name:=Str.ofString "__getitem__") ht.typeIs PyProof.Rows.slot_tuple_getitem
  (wpAny_call_entry PyProof.Rows.slot_tuple_getitem ht.typeIs entry_tuple_getitem ?_ (args_tuple_getitem _ _)))
 show wpAny _ _ (Builtin.Tuple.tupleItemsOf (.ref t) >>= _) _ _ s;refine wpAny_bind (tupleItemsOf_ ht ?_);refine wpAny_bind (wpAny_typeOf hTs ?_);rw[if_pos (by decide)];refine wpAny_bind (HT.sliceApplied_gen hs pl pu ?_);have hyes:(((HT.sIx items.size 0 lo:Nat):Int)==0&&(1:Int)==1&&(HT.sIx items.size items.size hi-HT.sIx items.size 0 lo)==items.size)=true:=by
  rw[hw.1,hw.2];simp
 show wpAny _ _ (if (((HT.sIx items.size 0 lo:Nat):Int)==0&&(1:Int)==1&&(HT.sIx items.size items.size hi-HT.sIx items.size 0 lo)==items.size)=true then _ else _) _ _ s;rw[if_pos hyes];unfold Builtin.Tuple.tupleIsExact;refine wpAny_bind (wpAny_bind (wpAny_typeOf ht.typeIs (wpAny_pure ?_)));rw[if_pos (by decide)];exact wpAny_bind (wpAny_rule (wpAny_pure ⟨_,rfl,wpAny_pure h⟩))
def rSlT3(K:PySem.W.Frag):V->Option Int->Option Int->Hp->VK->Prop:=fun x lo hi H Q=>∃a xs,x=.ref a/\SqT K H a xs ∧
 (HT.sIx xs.length 0 lo=0/\HT.sIx xs.length xs.length hi=xs.length)/\Q (.ref a) H
theorem sl_tupW:SlR X (rSlT3 X.K):=by
 intro pins s σ H x v vl vu lo hi sl Q I rx hs pl pu h;obtain⟨a,xs,rfl,hx,hw,q⟩:=h;cases rx;obtain⟨its,r,ht,hz⟩:=I.tuple hx;have hlen:its.toArray.size=xs.length:=by rw[List.size_toArray];exact r.length.symm
 refine⟨"tuple",_,PyProof.Rows.slot_tuple_getitem.lookup,ht.typeIs,?_⟩;exact getItem_tuple_whole ht hs pl pu (by rw[hlen];exact hw) ⟨.ref a,H,I,rfl,q⟩
theorem e_sl{lo hi:Option Expr}{tl th:TO3}{p2:Pos}(ha:PE3 X a ta)(hl:PO3 X lo tl)(hh:PO3 X hi th):PE3 X (.Subscript a (.Slice lo hi none p2) pos) (eSl ta tl th):=
 pe_of (pe_slice (sl_tup.or (sl_tupW.or sl_list)) ha hl hh) fun σ H Q ⟨τ,G,Q3,RS,RG,h,k⟩=>by
  refine⟨τ,G,_,RS,RG,h,fun v1 H1 d1 G1 h1 S1 R1 q1=>?_⟩;have RS1:=RS.ext (S1.ext RG);refine⟨τ,G1,_,RS1,R1,q1,fun l H2 G2 S2 R2 q2=>?_⟩;have RS2:=RS1.ext (S2.ext R1);refine⟨τ,G2,_,RS2,R2,q2,fun u H3 G3 S3 R3 q3=>?_⟩;have S13:Step H G H3 G3:=(S1.trans S2).trans S3;have hv:=(h1.ext (S2.ext R1)).ext (S3.ext R2);cases d1 with
  |tup ds=>
   obtain⟨a',vs,rfl,e1,e2⟩:=hv_tup hv;by_cases hw:HT.sIx vs.length 0 l=0/\HT.sIx vs.length vs.length u=vs.length
   ·refine .inr (.inl ⟨a',vs,rfl,e1,hw,k _ H3 (.tup (cut3 ds l u)) G3 (mk_tup e1 ?_) S13 R3 q3⟩);have:cut3 ds l u=ds:=by
     unfold cut3;rw[e2.length,hw.1,hw.2];simp[←e2.length]
    rw[this];exact e2
   ·refine .inl ⟨a',vs,rfl,e1,hw,fun p hp=>?_⟩;exact k _ _ (.tup (cut3 ds l u)) G3 (mk_tup (.of upd_same) ((cut_hvs e2 l u).ext (.laid hp))) (S13.trans (.laid hp)) (R3.laid hp) q3
  |scr ds=>
   obtain⟨a',vs,rfl,e1,e2⟩:=hv_scr hv;refine .inr (.inr ⟨a',vs,rfl,e1.l,fun p hp=>?_⟩);exact k _ _ (.obj p) _ mk_obj (S13.trans (.laidG hp)) (R3.newL hp (cut_hvs e2 l u)) (q3 p _ (.mk' (R3.free hp)))
  |obj a'=>
   rw[hv_obj hv];obtain⟨ds,e0,q3⟩:=q3;obtain⟨vs,e1,e2⟩:=R3 a' _ e0;refine .inr (.inr ⟨a',vs,rfl,.of e1,fun p hp=>?_⟩);exact k _ _ (.obj p) _ mk_obj (S13.trans (.laidG hp)) (R3.newL hp (cut_hvs e2 l u)) (q3 p _ (.mk' (R3.free hp)))
  |_=>exact q3.elim
end
end L3
namespace L3
open PySem PySem.Spec PyProof.Rows L2
abbrev C3:=List D->Gp->V3->Prop
def eCB(r:C3)(t:TA3):TE3:=fun τ G Q=>t τ G fun ds G1=>r ds G1 Q
def LowC(K:PySem.W.Frag)(r:C3)(r2:List V->Hp->VK->Prop):Prop:=∀ds vs G H Q3 Q,Hvs K H ds vs->RepG K G H->r ds G Q3->(∀v H' d G',Hv K H' d v->Step H G H' G'->RepG K G' H'->Q3 d G'->Q v H')->r2 vs H Q
section
variable {X:Cx} {K:PySem.W.Frag} {e:Expr} {es:List Expr} {t:TA3} {ta:TE3} {pos p:Pos}
theorem low_cb{r:C3}{r2:List V->Hp->VK->Prop}(L:LowC K r r2){σ:L2.St}{H:Hp}{Q:VK}(h:low K (eCB r t) σ H Q):tCB r2 (lowA K t) σ H Q:=by
 obtain⟨τ,G,Q3,RS,RG,h,k⟩:=h;refine⟨τ,G,_,RS,RG,h,fun vs H1 ds G1 h1 S1 R1 q1=>?_⟩;exact L _ _ _ _ _ _ h1 R1 q1 fun v H' d G' z1 z2 z3 z4=>k v H' d G' z1 (S1.trans z2) z3 z4
theorem e_cb{r:C3}{r2:List V->Hp->VK->Prop}(L:LowC X.K r r2)(h:PE X e (tCB r2 (lowA X.K t))):PE3 X e (eCB r t):=pe_of h fun _ _ _ h=>low_cb L h
theorem hvs1{H:Hp}{d:D}{vs:List V}(h:Hvs K H [d] vs):∃v,vs=[v]/\Hv K H d v:=by
 obtain⟨v,r,rfl,z1,z2⟩:=h.inv;cases z2.inv0;exact⟨v,rfl,z1⟩
theorem hvs2{H:Hp}{d d':D}{vs:List V}(h:Hvs K H [d,d'] vs):∃v v',vs=[v,v']/\Hv K H d v/\Hv K H d' v':=by
 obtain⟨v,r,rfl,z1,z2⟩:=h.inv;obtain⟨v',rfl,z3⟩:=hvs1 z2;exact⟨v,v',rfl,z1,z3⟩
def r_len:C3:=fun ds G Q=>match ds with
 |[.obj a]=>∃xs,G a=some (.lst xs)/\Q (.int xs.length) G
 |[.tup xs]=>Q (.int xs.length) G
 |[.scr xs]=>Q (.int xs.length) G
 |_=>False
theorem l_len:LowC K r_len (fun xs H Q=>∃p ys,xs=[.ref p]/\(SqL K H p ys∨SqT K H p ys)/\Q (.int ys.length) H):=fun ds vs G H Q3 Q h RG q k=>by
 rcases ds with _|⟨d,_|⟨d2,ds⟩⟩
 ·exact q.elim
 ·obtain⟨v,rfl,hv⟩:=hvs1 h;cases d with
  |obj a=>
   obtain⟨xs,e,q⟩:=q;obtain⟨us,e1,e2⟩:=RG a _ e;rw[hv_obj hv];exact⟨a,us,rfl,.inl (.of e1),by rw[←e2.length];exact k _ H _ G mk_int (.refl H G) RG q⟩
  |tup xs=>
   obtain⟨a,us,rfl,e1,e2⟩:=hv_tup hv;exact⟨a,us,rfl,.inr e1,by rw[←e2.length];exact k _ H _ G mk_int (.refl H G) RG q⟩
  |scr xs=>
   obtain⟨a,us,rfl,e1,e2⟩:=hv_scr hv;exact⟨a,us,rfl,.inl e1.l,by rw[←e2.length];exact k _ H _ G mk_int (.refl H G) RG q⟩
  |_=>exact q.elim
 ·cases d<;>exact q.elim
theorem eb_len(hu:X.A.units+64<cLine)(hm:X.mg "len" = none)(ha:PA3 X (e::es) t)(hg:Gl X "len":=by rfl)(he:notStar e=true:=by rfl)(hpl:es.all notStar=true:=by rfl):
  PE3 X (.Call (.Name "len" p) (e::es) [] pos) (eCB r_len t):=e_cb l_len (pe_callB call_len_seq hg hm PySem.boot_len ha (he:=star_of he) (hpl:=star_any hpl))
def r_int:C3:=fun ds G Q=>match ds with
 |[.bl b]=>Q (.int (if b then 1 else 0)) G
 |[.int i]=>Q (.int i) G
 |_=>False
theorem l_int:LowC K r_int (fun xs H Q=>(∃i,xs=[.int i]/\Q (.int i) H)∨∃k,xs=[.bl k]/\Q (.int (if k then 1 else 0)) H):=fun ds vs G H Q3 Q h RG q k=>by
 rcases ds with _|⟨d,_|⟨d2,ds⟩⟩
 ·exact q.elim
 ·obtain⟨v,rfl,hv⟩:=hvs1 h;cases d with
  |bl b=>
   rw[hv_bl hv];exact .inr ⟨b,rfl,k _ H _ G mk_int (.refl H G) RG q⟩
  |int b=>
   rw[hv_int hv];exact .inl ⟨b,rfl,k _ H _ G mk_int (.refl H G) RG q⟩
  |_=>exact q.elim
 ·cases d<;>exact q.elim
theorem eb_int(hu:X.A.units+64<cLine)(hm:X.mg "int" = none)(ha:PA3 X (e::es) t)(hg:Gl X "int":=by rfl)(he:notStar e=true:=by rfl)(hpl:es.all notStar=true:=by rfl):
  PE3 X (.Call (.Name "int" p) (e::es) [] pos) (eCB r_int t):=e_cb l_int (pe_callTy call_int1 hg hm rfl ha (he:=star_of he) (hpl:=star_any hpl))
def r_max:C3:=fun ds G Q=>match ds with
 |[.int i,.int j]=>Q (.int (if j > i then j else i)) G
 |_=>False
theorem low_two{f:Int->Int->Int}:LowC K (fun ds G Q=>match ds with
 |[.int i,.int j]=>Q (.int (f i j)) G
 | _=>False) (fun xs H Q=>∃i j,xs=[.int i,.int j]/\Q (.int (f i j)) H):=fun ds vs G H Q3 Q h RG q k=>by
 rcases ds with _|⟨d,_|⟨d2,_|⟨d3,ds⟩⟩⟩
 ·exact q.elim
 ·cases d<;>exact q.elim
 ·obtain⟨v,v',rfl,h1,h2⟩:=hvs2 h;cases d with
  |int i=>
   cases d2 with
   |int j=>
    rw[hv_int h1,hv_int h2];exact⟨i,j,rfl,k _ H _ G mk_int (.refl H G) RG q⟩
   |_=>exact q.elim
  |_=>exact q.elim
 ·cases d with
  |int i=>cases d2<;>exact q.elim
  |_=>exact q.elim
theorem eb_max(hu:X.A.units+64<cLine)(hm:X.mg "max" = none)(ha:PA3 X (e::es) t)(hc:X.calm=true:=by rfl)(hg:Gl X "max":=by rfl)(he:notStar e=true:=by rfl)(hpl:es.all notStar=true:=by rfl):
  PE3 X (.Call (.Name "max" p) (e::es) [] pos) (eCB r_max t):=e_cb (low_two (f:=fun i j=>if j > i then j else i)) (pe_callB (call_max2 hc) hg hm rfl ha (he:=star_of he) (hpl:=star_any hpl))
def r_tuple:C3:=fun ds G Q=>match ds with
 |[.obj a]=>∃xs,G a=some (.lst xs)/\Q (.tup xs) G
 |[.tup xs]=>Q (.tup xs) G
 |[.scr xs]=>Q (.tup xs) G
 |_=>False
theorem l_tuple:LowC K r_tuple (fun xs H Q=>∃p ys,xs=[.ref p]/\((SqL K H p ys/\∀l,H l=none->Q (.ref l) (upd H l (.tup ys)))∨(SqT K H p ys/\Q (.ref p) H))):=fun ds vs G H Q3 Q h RG q k=>by
 rcases ds with _|⟨d,_|⟨d2,ds⟩⟩
 ·exact q.elim
 ·obtain⟨v,rfl,hv⟩:=hvs1 h;cases d with
  |obj a=>
   obtain⟨xs,e,q⟩:=q;obtain⟨us,e1,e2⟩:=RG a _ e;rw[hv_obj hv];exact⟨a,us,rfl,.inl ⟨.of e1,fun l hl=>k _ _ (.tup xs) G (mk_tup (.of upd_same) (e2.ext (.laid hl))) (.laid hl) (RG.laid hl) q⟩⟩
  |tup xs=>
   obtain⟨a,us,rfl,e1,e2⟩:=hv_tup hv;exact⟨a,us,rfl,.inr ⟨e1,k _ H _ G (mk_tup e1 e2) (.refl H G) RG q⟩⟩
  |scr xs=>
   obtain⟨a,us,rfl,e1,e2⟩:=hv_scr hv;exact⟨a,us,rfl,.inl ⟨e1.l,fun l hl=>k _ _ (.tup xs) G (mk_tup (.of upd_same) (e2.ext (.laid hl))) (.laid hl) (RG.laid hl) q⟩⟩
  |_=>exact q.elim
 ·cases d<;>exact q.elim
theorem eb_tuple(hu:X.A.units+64<cLine)(hm:X.mg "tuple" = none)(ha:PA3 X (e::es) t)(hg:Gl X "tuple":=by rfl)(he:notStar e=true:=by rfl)(hpl:es.all notStar=true:=by rfl):
  PE3 X (.Call (.Name "tuple" p) (e::es) [] pos) (eCB r_tuple t):=e_cb l_tuple (pe_callTy call_tuple_of hg hm rfl ha (he:=star_of he) (hpl:=star_any hpl))
def r_list:C3:=fun ds G Q=>match ds with
 |[.obj a]=>∃xs,G a=some (.lst xs)/\∀p G',New G p (.lst xs) G'->Q (.obj p) G'
 |[.tup xs]=>∀p G',New G p (.lst xs) G'->Q (.obj p) G'
 |[.scr xs]=>∀p G',New G p (.lst xs) G'->Q (.obj p) G'
 |_=>False
theorem l_list:LowC K r_list (fun xs H Q=>∃p ys,xs=[.ref p]/\(SqL K H p ys∨SqT K H p ys)/\∀l,H l=none->Q (.ref l) (upd H l (.lst ys))):=fun ds vs G H Q3 Q h RG q k=>by
 have fin:∀(xs:List D) (us:List V),Hvs K H xs us->(∀p G',New G p (.lst xs) G'->Q3 (.obj p) G')->∀l,H l=none->Q (.ref l) (upd H l (.lst us)):=fun xs us e2 q l hl=>
  k _ _ (.obj l) _ mk_obj (.laidG hl) (RG.newL hl e2) (q l _ (.mk' (RG.free hl)))
 rcases ds with _|⟨d,_|⟨d2,ds⟩⟩
 ·exact q.elim
 ·obtain⟨v,rfl,hv⟩:=hvs1 h;cases d with
  |obj a=>
   obtain⟨xs,e,q⟩:=q;obtain⟨us,e1,e2⟩:=RG a _ e;rw[hv_obj hv];exact⟨a,us,rfl,.inl (.of e1),fin xs us e2 q⟩
  |tup xs=>
   obtain⟨a,us,rfl,e1,e2⟩:=hv_tup hv;exact⟨a,us,rfl,.inr e1,fin xs us e2 q⟩
  |scr xs=>
   obtain⟨a,us,rfl,e1,e2⟩:=hv_scr hv;exact⟨a,us,rfl,.inl e1.l,fin xs us e2 q⟩
  |_=>exact q.elim
 ·cases d<;>exact q.elim
theorem eb_list(hu:X.A.units+64<cLine)(hm:X.mg "list" = none)(ha:PA3 X (e::es) t)(hg:Gl X "list":=by rfl)(he:notStar e=true:=by rfl)(hpl:es.all notStar=true:=by rfl):
  PE3 X (.Call (.Name "list" p) (e::es) [] pos) (eCB r_list t):=e_cb l_list (pe_callTy call_list_of hg hm rfl ha (he:=star_of he) (hpl:=star_any hpl))
def eM(r:D->List D->Gp->V3->Prop)(to:TE3)(t:TA3):TE3:=fun τ G Q=>to τ G fun x G1=>(∃a xs,x=.obj a/\G1 a=some (.lst xs))/\t τ G1 fun ds G2=>r x ds G2 Q
def LowM(K:PySem.W.Frag)(r:D->List D->Gp->V3->Prop)(r2:V->List V->Hp->VK->Prop):Prop:=∀x vx ds vs G H Q3 Q,Hv K H x vx->Hvs K H ds vs->RepG K G H->r x ds G Q3->(∀v H' d G',Hv K H' d v->Step H G H' G'->RepG K G' H'->Q3 d G'->Q v H')->r2 vx vs H Q
theorem low_m{r:D->List D->Gp->V3->Prop}{r2:V->List V->Hp->VK->Prop}{to:TE3}(L:LowM K r r2){σ:L2.St}{H:Hp}{Q:VK}(h:low K (eM r to t) σ H Q):tBM K "list" r2 (low K to) (lowA K t) σ H Q:=by
 obtain⟨τ,G,Q3,RS,RG,h,k⟩:=h;refine⟨τ,G,_,RS,RG,h,fun v1 H1 d1 G1 h1 S1 R1 q1=>?_⟩;obtain⟨⟨a,xs,rfl,e1⟩,q1⟩:=q1;obtain⟨us,e2,e3⟩:=R1 a _ e1;refine⟨?_,τ,G1,_,RS.ext (S1.ext RG),R1,q1,fun vs H2 ds G2 h2 S2 R2 q2=>?_⟩
 ·rw[hv_obj h1];exact .inl ⟨rfl,us,.of e2⟩
 ·exact L _ _ _ _ _ _ _ _ (h1.ext (S2.ext R1)) h2 R2 q2 fun v H' d G' z1 z2 z3 z4=>k v H' d G' z1 ((S1.trans S2).trans z2) z3 z4
def r_mappend:D->List D->Gp->V3->Prop:=fun x ds G Q=>match x,ds with
 |.obj a,[d]=>∃xs,G a=some (.lst xs)/\xs.length<sizeLine/\Q .non (upd3 G a (.lst (xs++[d])))
 |_,_=>False
theorem l_mappend:LowM K r_mappend rAppend:=fun x vx ds vs G H Q3 Q hx hs RG q k=>by
 rcases ds with _|⟨d,_|⟨d2,ds⟩⟩
 ·cases x<;>exact q.elim
 ·cases x with
  |obj a=>
   obtain⟨xs,e1,hz,q⟩:=q;obtain⟨us,e2,e3⟩:=RG a _ e1;obtain⟨v,rfl,hv⟩:=hvs1 hs;rw[hv_obj hx];refine⟨a,us,v,rfl,rfl,e2,by rw[←e3.length];exact hz,?_⟩;exact k _ _ .non _ (by simp[Hv]) (.wrote e1) (RG.wroteL e2 (e3.append (.cons hv .nil))) q
  |_=>exact q.elim
 ·cases x<;>exact q.elim
theorem e_mth{r:D->List D->Gp->V3->Prop}{r2:V->List V->Hp->VK->Prop}{to:TE3}(L:LowM X.K r r2)(h:PE X e (tBM X.K "list" r2 (low X.K to) (lowA X.K t))):PE3 X e (eM r to t):=pe_of h fun _ _ _ z=>low_m L z
def r_mpop:D->List D->Gp->V3->Prop:=fun x ds G Q=>match x,ds with
 |.obj a,[.int i]=>∃xs k d,G a=some (.lst xs)/\(-(2^63)≤i/\i<2^63)/\seqIndex? i xs.length=some k/\xs[k]?=some d/\Q d (upd3 G a (.lst (xs.eraseIdx k)))
 |_,_=>False
theorem l_mpop:LowM K r_mpop rPopAt:=fun x vx ds vs G H Q3 Q hx hs RG q k=>by
 rcases ds with _|⟨d,_|⟨d2,ds⟩⟩
 ·cases x<;>exact q.elim
 ·cases x with
  |obj a=>
   cases d with
   |int i=>
    obtain⟨xs,j,y,e1,hb,hk,hy,q⟩:=q;obtain⟨us,e2,e3⟩:=RG a _ e1;obtain⟨v,rfl,hv⟩:=hvs1 hs;obtain⟨w,e4,e5⟩:=e3.get hy;rw[hv_obj hx,hv_int hv];refine⟨a,us,i,j,w,rfl,rfl,e2,hb.1,hb.2,by rw[←e3.length];exact hk,e4,?_⟩;exact k _ _ y _ (e5.ext (.wrote e2)) (.wrote e1) (RG.wroteL e2 (e3.erase j)) q
   |_=>exact q.elim
  |_=>exact q.elim
 ·cases x with
  |obj a=>cases d<;>exact q.elim
  |_=>exact q.elim
def instD(T:String)(G:Gp):D->Option Bool
 |.non=>some false
 |.bl _=>some (T=="bool" || T=="int")
 |.int _=>some (T=="int")
 |.str _=>some (T=="str")
 |.tup _=>some (T=="tuple")
 |.scr _=>some (T=="list")
 |.dc _=>some (T=="dict")
 |.obj a=>match G a with
  |some (.lst _)=>some (T=="list")
  |some .pen=>some (T=="list")
  |some .dct=>some (T=="dict")
  |some (.gen _)=>none
  |none=>none
def eInst(T:String)(ta:TE3):TE3:=fun τ G Q=>ta τ G fun x G1=>match instD T G1 x with
 |some b=>Q (.bl b) G1
 |none=>False
end
end L3
namespace KasS
open PySem PySem.W PyProof.Rows
structure Ord(n:Nat)(lt:Nat->Nat->Bool):Prop where
 asy:∀a b,a<n->b<n->lt a b=true->lt b a=false
 tra:∀a b c,a<n->b<n->c<n->lt b a=false->lt c b=false->lt c a=false
abbrev g(p:Array Nat)(i:Nat):Nat:=p.getD i 0
structure Va(n:Nat)(p:Array Nat):Prop where
 perm:p.toList.Perm (List.range n)
section
variable {n:Nat} {lt:Nat->Nat->Bool} {cmp:Nat->Nat->(Bool->Shared->Prop)->Shared->Prop} {s:Shared}
theorem Va.size{p:Array Nat}(v:Va n p):p.size=n:=by
 have:=v.perm.length_eq;simpa using this
theorem Va.get{p:Array Nat}(v:Va n p){i:Nat}(hi:i<n):p[i]?=some (g p i):=by
 have h:=v.size;simp[g,Array.getD,h,hi]
theorem Va.inr{p:Array Nat}(v:Va n p){i:Nat}(hi:i<n):g p i<n:=by
 have h:=v.get hi;have hm:g p i∈p.toList:=List.mem_of_getElem? (by rw[Array.getElem?_toList];exact h);have:=v.perm.mem_iff.mp hm;simpa using this
theorem Ord.refl(O:Ord n lt){a:Nat}(ha:a<n):lt a a=false:=by
 cases h:lt a a with
 |false=>rfl
 |true=>
  have:=O.asy a a ha ha h;rw[h] at this;exact this
def So(lt:Nat->Nat->Bool)(p:Array Nat)(k:Nat):Prop:=∀i j,i≤j->j<k->lt (g p j) (g p i)=false
def Ni(lt:Nat->Nat->Bool)(p:Array Nat)(k:Nat):Prop:=∀i j,i≤j->j<k->lt (g p i) (g p j)=false
def Eq'(lt:Nat->Nat->Bool)(p:Array Nat)(lo hi:Nat):Prop:=∀i j,lo≤i->i<hi->lo≤j->j<hi->lt (g p i) (g p j)=false
theorem So.one(O:Ord n lt){p:Array Nat}(v:Va n p)(hn:1≤n):So lt p 1:=fun i j h1 h2=>by
 have e1:i=0:=by lia
 have e2:j=0:=by lia
 rw[e1,e2];exact O.refl (v.inr (by lia))
theorem So.next(O:Ord n lt){p:Array Nat}(v:Va n p){a:Nat}(h1:1≤a)(ha:a<n)(S:So lt p a)(h:lt (g p a) (g p (a-1))=false):So lt p (a+1):=fun i j hij hj=>by
 by_cases hja:j<a
 ·exact S i j hij hja
 ·have e:j=a:=by lia
  subst e;by_cases hij':i=j
  ·rw[hij'];exact O.refl (v.inr ha)
  ·exact O.tra (g p i) (g p (j-1)) (g p j) (v.inr (by lia)) (v.inr (by lia)) (v.inr ha) (S i (j-1) (by lia) (by lia)) h
theorem Ni.next(O:Ord n lt){p:Array Nat}(v:Va n p){a:Nat}(h1:1≤a)(ha:a<n)(S:Ni lt p a)(h:lt (g p (a-1)) (g p a)=false):Ni lt p (a+1):=fun i j hij hj=>by
 by_cases hja:j<a
 ·exact S i j hij hja
 ·have e:j=a:=by lia
  subst e;by_cases hij':i=j
  ·rw[hij'];exact O.refl (v.inr ha)
  ·exact O.tra (g p j) (g p (j-1)) (g p i) (v.inr ha) (v.inr (by lia)) (v.inr (by lia)) h (S i (j-1) (by lia) (by lia))
theorem rev_va{p:Array Nat}(v:Va n p)(i j:Nat):Va n (kas_rev p i j):=⟨(mirror_perm p i j _).toList.trans v.perm⟩
theorem rev_get{p:Array Nat}(v:Va n p){lo hi k:Nat}(hh:hi≤n)(hk:k<n):g (kas_rev p lo hi) k=if lo≤k/\k<hi then g p (lo+hi-1-k) else g p k:=by
 have h1:=getElem?_mirror_all (xs:=p) (i:=lo) (j:=hi) (by rw[v.size];exact hh) k;have h2:=(rev_va v lo hi).get hk;have h3:(kas_rev p lo hi)[k]?=_:=h1;rw[h2] at h3;by_cases hc:lo≤k/\k<hi
 ·rw[if_pos hc] at h3 ⊢;rw[v.get (by lia)] at h3;exact Option.some.inj h3
 ·rw[if_neg hc] at h3 ⊢;rw[v.get hk] at h3;exact Option.some.inj h3
theorem rev_ni{p:Array Nat}(v:Va n p){lo hi k:Nat}(hh:hi≤k)(hk:k≤n)(S:Ni lt p k)(e:Eq' lt p lo hi):Ni lt (kas_rev p lo hi) k:=fun i j hij hj=>by
 rw[rev_get v (by lia) (show i<n by lia),rev_get v (by lia) (show j<n by lia)];by_cases hi':lo≤i/\i<hi
 ·rw[if_pos hi'];by_cases hj':lo≤j/\j<hi
  ·rw[if_pos hj'];exact e _ _ (by lia) (by lia) (by lia) (by lia)
  ·rw[if_neg hj'];exact S _ _ (by lia) hj
 ·rw[if_neg hi'];by_cases hj':lo≤j/\j<hi
  ·rw[if_pos hj'];exact S _ _ (by lia) (by lia)
  ·rw[if_neg hj'];exact S _ _ hij hj
theorem rev_so{p:Array Nat}(v:Va n p){k:Nat}(hk:k≤n)(S:Ni lt p k):So lt (kas_rev p 0 k) k:=fun i j hij hj=>by
 rw[rev_get v hk (show i<n by lia),rev_get v hk (show j<n by lia),if_pos (by lia),if_pos (by lia)];exact S _ _ (by lia) (by lia)
variable (O:Ord n lt) (hc:∀i j,i<n->j<n->∀(C:Bool->Shared->Prop) (s:Shared),C (lt i j) s->cmp i j C s)
include O hc
theorem asc_ok{p:Array Nat}(v:Va n p){G:Nat->Shared->Prop}:∀(f a:Nat),1≤a->a+f≤n->So lt p a->(∀m,a≤m->m≤a+f->So lt p m->(m=a+f∨lt (g p m) (g p (m-1))=true)->G m s)->(kas_asc p f a).kasWp cmp G s
 |0,a,_,_,S,h=>h a (Nat.le_refl _) (by lia) S (.inl (by lia))
 |f+1,a,h1,h2,S,h=>by
  show cmp _ _ _ s;refine hc _ _ (v.inr (by lia)) (v.inr (by lia)) _ s ?_;cases hb:lt (g p a) (g p (a-1)) with
  |true=>
   ((try dsimp only);rw[if_pos rfl])
   exact h a (Nat.le_refl _) (by lia) S (.inr hb)
  |false=>
   ((try dsimp only);rw[if_neg Bool.false_ne_true])
   exact asc_ok v f (a+1) (by lia) (by lia) (S.next O v h1 (by lia) hb) fun m q1 q2 q3 q4=>h m (by lia) (by lia) q3 (by
    rcases q4 with q4|q4
    ·exact .inl (by lia)
    ·exact .inr q4)
theorem desc_ok{G:Array Nat×Nat×Nat->Shared->Prop}:∀(f:Nat) (p:Array Nat) (a q:Nat),Va n p->q+1≤a->a+f≤n->Ni lt p a->Eq' lt p (a-(q+1)) a ->
  (∀p' m q',Va n p'->a≤m->m≤a+f->q'+1≤m->Ni lt p' m->Eq' lt p' (m-(q'+1)) m->G (p',m,q') s)->(kas_desc f p a q).kasWp cmp G s
 |0,p,a,q,v,h1,h2,S,e,h=>h p a q v (Nat.le_refl _) (by lia) h1 S e
 |f+1,p,a,q,v,h1,h2,S,e,h=>by
  show cmp _ _ _ s;refine hc _ _ (v.inr (by lia)) (v.inr (by lia)) _ s ?_;have one:∀{p':Array Nat},Va n p'->Eq' lt p' (a+1-(0+1)) (a+1):=fun {p'} v' i j i1 i2 j1 j2=>by
   have e1:i=a:=by lia
   have e2:j=a:=by lia
   rw[e1,e2];exact O.refl (v'.inr (by lia))
  cases hb:lt (g p a) (g p (a-1)) with
  |true=>
   ((try dsimp only);rw[if_pos rfl])
   have S':=S.next O v (by lia) (by lia) (O.asy _ _ (v.inr (by lia)) (v.inr (by lia)) hb)
   by_cases hq:q > 0
   ·rw[if_pos hq];exact desc_ok f _ (a+1) 0 (rev_va v _ _) (by lia) (by lia) (rev_ni v (by lia) (by lia) S' e) (one (rev_va v _ _)) fun p' m q' r1 r2 r3 r4 r5 r6=>h p' m q' r1 (by lia) (by lia) r4 r5 r6
   ·rw[if_neg hq];exact desc_ok f _ (a+1) 0 v (by lia) (by lia) S' (one v) fun p' m q' r1 r2 r3 r4 r5 r6=>h p' m q' r1 (by lia) (by lia) r4 r5 r6
  |false=>
   ((try dsimp only);rw[if_neg Bool.false_ne_true])
   show cmp _ _ _ s;refine hc _ _ (v.inr (by lia)) (v.inr (by lia)) _ s ?_;cases hd:lt (g p (a-1)) (g p a) with
   |true=>
    ((try dsimp only);rw[if_pos rfl])
    exact h p a q v (Nat.le_refl _) (by lia) h1 S e
   |false=>
    ((try dsimp only);rw[if_neg Bool.false_ne_true])
    refine desc_ok f _ (a+1) (q+1) v (by lia) (by lia) (S.next O v (by lia) (by lia) hd) (fun i j i1 i2 j1 j2=>?_) fun p' m q' r1 r2 r3 r4 r5 r6=>h p' m q' r1 (by lia) (by lia) r4 r5 r6
    have L:∀k,k<n->g p k<n:=fun k hk=>v.inr hk;by_cases hi:i=a
    ·by_cases hj:j=a
     ·rw[hi,hj];exact O.refl (L _ (by lia))
     ·rw[hi];exact O.tra (g p j) (g p (a-1)) (g p a) (L _ (by lia)) (L _ (by lia)) (L _ (by lia)) (e (a-1) j (by lia) (by lia) (by lia) (by lia)) hb
    ·by_cases hj:j=a
     ·rw[hj];exact O.tra (g p a) (g p (a-1)) (g p i) (L _ (by lia)) (L _ (by lia)) (L _ (by lia)) hd (e i (a-1) (by lia) (by lia) (by lia) (by lia))
     ·exact e i j (by lia) (by lia) (by lia) (by lia)
theorem tail_ok{p:Array Nat}(v:Va n p){a:Nat}{G:Nat×Array Nat->Shared->Prop}(h1:1≤a)(h2:a≤n)(S:Ni lt p a)(h:∀m p',Va n p'->1≤m->m≤n->So lt p' m->G (m,p') s):(kas_tail3 a n p).kasWp cmp G s:=by
 unfold kas_tail3;rw[KasT.kasWp_bind];exact asc_ok O hc (rev_va v 0 a) (n-a) a h1 (by lia) (rev_so v h2 S) fun m q1 q2 q3 _=>h m _ (rev_va v 0 a) (by lia) (by lia) q3
theorem part_ok{p:Array Nat}(v:Va n p){a:Nat}{G:Nat×Array Nat->Shared->Prop}(h1:1≤a)(h2:a+1≤n)(S:Ni lt p (a+1))(h:∀m p',Va n p'->1≤m->m≤n->So lt p' m->G (m,p') s):(kas_descPart a n p).kasWp cmp G s:=by
 unfold kas_descPart;rw[KasT.kasWp_bind];refine desc_ok O hc (n-(a+1)) p (a+1) 0 v (by lia) (by lia) S (fun i j i1 i2 j1 j2=>?_) fun p' m q' r1 r2 r3 r4 r5 r6=>?_
 ·have e1:i=a:=by lia
  have e2:j=a:=by lia
  rw[e1,e2];exact O.refl (v.inr (by lia))
 ·dsimp only;by_cases hq:q' > 0
  ·rw[if_pos hq];exact tail_ok O hc (rev_va r1 _ _) (by lia) (by lia) (rev_ni r1 (Nat.le_refl _) (by lia) r5 r6) h
  ·rw[if_neg hq];exact tail_ok O hc r1 (by lia) (by lia) r5 h
theorem count_ok{p:Array Nat}(v:Va n p){G:Nat×Array Nat->Shared->Prop}(hn:1≤n)(h:∀m p',Va n p'->1≤m->m≤n->So lt p' m->G (m,p') s):(kas_count n p).kasWp cmp G s:=by
 unfold kas_count;rw[KasT.kasWp_bind];refine asc_ok O hc v (n-1) 1 (Nat.le_refl _) (by lia) (So.one O v hn) fun a q1 q2 q3 q4=>?_;have L:∀k,k<n->g p k<n:=fun k hk=>v.inr hk;by_cases e1:(a==n)=true
 ·rw[if_pos e1];exact h a p v q1 (by lia) q3
 ·rw[if_neg e1];have hne:a≠n:=fun z=>e1 (by rw[z];exact beq_self_eq_true _);have hlt:lt (g p a) (g p (a-1))=true:=by
   rcases q4 with q4|q4
   ·lia
   ·exact q4
  have hle:=O.asy _ _ (L a (by lia)) (L (a-1) (by lia)) hlt;by_cases e2:a > 1
  ·rw[if_pos e2];show cmp _ _ _ s;refine hc _ _ (v.inr (by lia)) (v.inr (by lia)) _ s ?_;cases hb:lt (g p 0) (g p (a-1)) with
   |true=>
    ((try dsimp only);rw[if_pos rfl])
    exact h a p v q1 (by lia) q3
   |false=>
    ((try dsimp only);rw[if_neg Bool.false_ne_true])
    -- all of the run are alike
    have eqv:Eq' lt p 0 a:=fun i j i1 i2 j1 j2=>by
     have h1:lt (g p i) (g p 0)=false:=q3 0 i (by lia) i2;have h2:lt (g p (a-1)) (g p j)=false:=q3 j (a-1) (by lia) (by lia);have h3:lt (g p 0) (g p j)=false:=O.tra _ _ _ (L j (by lia)) (L (a-1) (by lia)) (L 0 (by lia)) h2 hb;have h4:lt (g p (a-1)) (g p i)=false:=q3 i (a-1) (by lia) (by lia);exact O.tra _ _ _ (L j (by lia)) (L 0 (by lia)) (L i (by lia)) h3 h1
    have ni:Ni lt p (a+1):=Ni.next O v (by lia) (by lia) (fun i j hij hj=>eqv i j (by lia) (by lia) (by lia) hj) hle
    exact part_ok O hc (rev_va v _ _) (by lia) (by lia) (rev_ni v (by lia) (by lia) ni eqv) h
  ·rw[if_neg e2];have ea:a=1:=by lia
   subst ea;refine part_ok O hc v (Nat.le_refl _) (by lia) (Ni.next O v (by lia) (by lia) (fun i j hij hj=>?_) hle) h
   have e3:i=0:=by lia
   have e4:j=0:=by lia
   rw[e3,e4];exact O.refl (L 0 (by lia))
theorem place_ok{p:Array Nat}(v:Va n p){k:Nat}(hk:k<n)(S:So lt p k){G:Nat->Shared->Prop}:∀(f l r:Nat),l≤r->r≤k->r-l≤f->(∀i,i<l->lt (g p k) (g p i)=false)->(∀i,r≤i->i<k->lt (g p k) (g p i)=true) ->
  (∀l,l≤k->(∀i,i<l->lt (g p k) (g p i)=false)->(∀i,l≤i->i<k->lt (g p k) (g p i)=true)->G l s)->(kas_place p k f l r).kasWp cmp G s
 |0,l,r,h1,h2,h3,h4,h5,h=>by
  have e:l=r:=by lia
  subst e;exact h l h2 h4 h5
 |f+1,l,r,h1,h2,h3,h4,h5,h=>by
  unfold kas_place;by_cases hlr:l≥r
  ·rw[if_pos hlr];have e:l=r:=by lia
   subst e;exact h l h2 h4 h5
  ·rw[if_neg hlr];show cmp _ _ _ s;refine hc _ _ (v.inr hk) (v.inr (by lia)) _ s ?_;have L:∀k,k<n->g p k<n:=fun k hk=>v.inr hk;cases hb:lt (g p k) (g p ((l+r) / 2)) with
   |true=>
    ((try dsimp only);rw[if_pos rfl])
    refine place_ok v hk S f l ((l+r) / 2) (by lia) (by lia) (by lia) h4 (fun i i1 i2=>?_) h;by_cases hri:r≤i
    ·exact h5 i hri i2
    ·cases hx:lt (g p k) (g p i) with
     |true=>rfl
     |false=>
      have h6:lt (g p i) (g p ((l+r) / 2))=false:=S _ _ i1 i2;have:=O.tra _ _ _ (L ((l+r) / 2) (by lia)) (L i (by lia)) (L k hk) h6 hx;rw[hb] at this;exact this.symm
   |false=>
    ((try dsimp only);rw[if_neg Bool.false_ne_true])
    refine place_ok v hk S f ((l+r) / 2+1) r (by lia) h2 (by lia) (fun i hi=>?_) h5 h;exact O.tra _ _ _ (L i (by lia)) (L ((l+r) / 2) (by lia)) (L k hk) (S i ((l+r) / 2) (by lia) (by lia)) hb
theorem bin_ok{G:Array Nat->Shared->Prop}:∀(f:Nat) (p:Array Nat) (k:Nat),Va n p->k+f=n->So lt p k->(∀p',Va n p'->So lt p' n->G p' s)->(kas_bin f p k).kasWp cmp G s
 | 0,p,k,v,hk,S,h=>h p v (by
  have e:k=n:=by lia
  rw[←e];exact S)
 |f+1,p,k,v,hk,S,h=>by
  show ((kas_place p k k 0 k).bind fun l=>kas_bin f (bubble p k (k-l)) (k+1)).kasWp cmp G s;rw[KasT.kasWp_bind];refine place_ok O hc v (by lia) S k 0 k (by lia) (Nat.le_refl _) (by lia) (fun i hi=>by lia) (fun i i1 i2=>by lia) fun l hl q1 q2=>?_;have v':Va n (bubble p k (k-l)):=⟨(bubble_perm p k (k-l)).toList.trans v.perm⟩;have L:∀k,k<n->g p k<n:=fun k hk=>v.inr hk;have bg:∀i,i<n->g (bubble p k (k-l)) i=if i=l then g p k else if l<i/\i≤k then g p (i-1) else g p i:=fun i hi=>by
   have h1:=getElem?_bubble (xs:=p) (src:=k) (by rw[v.size];lia) (k-l) (by lia) i;rw[v'.get hi,show k-(k-l)=l by lia] at h1;by_cases c1:i=l
   ·rw[if_pos c1] at h1 ⊢;rw[v.get (by lia)] at h1;exact Option.some.inj h1
   ·rw[if_neg c1] at h1 ⊢;by_cases c2:l<i/\i≤k
    ·rw[if_pos c2] at h1 ⊢;rw[v.get (by lia)] at h1;exact Option.some.inj h1
    ·rw[if_neg c2] at h1 ⊢;rw[v.get hi] at h1;exact Option.some.inj h1
  refine bin_ok f _ (k+1) v' (by lia) (fun i j hij hj=>?_) h;rw[bg i (by lia),bg j (by lia)];by_cases ci:i=l
  ·rw[if_pos ci];by_cases cj:j=l
   ·rw[if_pos cj];exact O.refl (L k (by lia))
   ·rw[if_neg cj,if_pos (by lia)];exact O.asy _ _ (L k (by lia)) (L _ (by lia)) (q2 (j-1) (by lia) (by lia))
  ·rw[if_neg ci];by_cases cj:j=l
   ·rw[if_pos cj,if_neg (by lia)];exact q1 i (by lia)
   ·rw[if_neg cj];by_cases c3:l<i/\i≤k
    ·rw[if_pos c3,if_pos (by lia)];exact S (i-1) (j-1) (by lia) (by lia)
    ·rw[if_neg c3];by_cases c4:l<j/\j≤k
     ·rw[if_pos c4];exact S i (j-1) (by lia) (by lia)
     ·rw[if_neg c4];exact S i j hij (by lia)
theorem sort_ok{G:Array Nat->Shared->Prop}(hn:1≤n)(h:∀p,Va n p->So lt p n->G p s):(kas_sort n).kasWp cmp G s:=by
 unfold kas_sort;rw[KasT.kasWp_bind];have v0:Va n (List.toArray (List.range n)):=⟨by simp⟩;refine count_ok O hc v0 hn fun m p' v m1 m2 S=>?_;dsimp only;by_cases hm:m<n
 ·rw[if_pos hm];have e:max m 1=m:=by lia
  rw[e];exact bin_ok O hc (n-m) p' m v (by lia) S h
 ·rw[if_neg hm];have e:m=n:=by lia
  subst e;exact h p' v S
end
end KasS
namespace SetP
open PySem PySem.SetTable
def Masky(m:Nat):Prop:=m=7∨m=31∨m=127
def adv(m:Nat)(p:Probe):Probe:=
 if p.more > 0 then { p with j:=p.j+1,more:=p.more-1 } else
 { p with j:=(leap m p.i p.perturb).1,more:=runEnd m (leap m p.i p.perturb).1-(leap m p.i p.perturb).1,i:=(leap m p.i p.perturb).1,perturb:=(leap m p.i p.perturb).2 }
def rs(m:Nat)(q:Nat×Nat):Probe:={ j:=q.1,more:=runEnd m q.1-q.1,i:=q.1,perturb:=q.2,dummy:=none }
def sta(m:Nat)(h:Int):Probe:=rs m (bits h%(m+1),bits h)
def sq(m:Nat)(h:Int):Nat->Probe
 |0=>sta m h
 |k+1=>adv m (sq m h k)
def rn(m:Nat)(h:Int):Nat->Nat×Nat
 |0=>(bits h%(m+1),bits h)
 |r+1=>leap m (rn m h r).1 (rn m h r).2
theorem sq_dummy(m:Nat)(h:Int):∀k,(sq m h k).dummy=none
 |0=>rfl
 |k+1=>by
  show (adv m (sq m h k)).dummy=none;have ih:=sq_dummy m h k;unfold adv;split<;>simpa using ih
theorem runEnd_sub(m i:Nat):runEnd m i-i≤9:=by
 unfold runEnd;split<;>lia
theorem run_at(m:Nat)(h:Int)(n:Nat)(q:Nat×Nat)(e:sq m h n=rs m q):∀d,d≤runEnd m q.1-q.1->sq m h (n+d)={ j:=q.1+d,more:=runEnd m q.1-q.1-d,i:=q.1,perturb:=q.2,dummy:=none }
 |0,_=>by rw[Nat.add_zero,e];rfl
 |d+1,hd=>by
  have ih:=run_at m h n q e d (by lia);show adv m (sq m h (n+d))=_;rw[ih];unfold adv;rw[if_pos (show runEnd m q.1-q.1-d > 0 by lia)];simp only[Probe.mk.injEq,and_true,true_and];lia
theorem run_next(m:Nat)(h:Int)(n:Nat)(q:Nat×Nat)(e:sq m h n=rs m q):sq m h (n+(runEnd m q.1-q.1)+1)=rs m (leap m q.1 q.2):=by
 show adv m (sq m h (n+(runEnd m q.1-q.1)))=_;rw[run_at m h n q e _ (Nat.le_refl _)];unfold adv;rw[if_neg (by simp)];rfl
theorem run_starts(m:Nat)(h:Int):∀r,∃n,n≤10*r/\sq m h n=rs m (rn m h r)
 |0=>⟨0,by lia,rfl⟩
 |r+1=>by
  obtain⟨n,hn,e⟩:=run_starts m h r;have:=runEnd_sub m (rn m h r).1;exact⟨n+(runEnd m (rn m h r).1-(rn m h r).1)+1,by lia,run_next m h n _ e⟩
theorem bits_lt(h:Int):bits h<2^64:=by
 unfold bits;have h1:h%(2^64:Int)<2^64:=Int.emod_lt_of_pos _ (by decide);have h2:0≤h%(2^64:Int):=Int.emod_nonneg _ (by decide);lia
theorem rn_perturb(m:Nat)(h:Int):∀r,(rn m h r).2=bits h / 32^r
 |0=>by simp[rn]
 |r+1=>by
  show (rn m h r).2 / 32=_;rw[rn_perturb m h r,Nat.div_div_eq_div_mul,Nat.pow_succ]
theorem rn_zero(m:Nat)(h:Int)(r:Nat)(hr:13≤r):(rn m h r).2=0:=by
 rw[rn_perturb];have h1:=bits_lt h;have h2:(32:Nat)^13≤32^r:=Nat.pow_le_pow_right (by decide) hr;have h3:(2:Nat)^64<32^13:=by decide
 exact Nat.div_eq_of_lt (by lia)
def fl(m x:Nat):Nat:=(x*5+1)%(m+1)
def it(m:Nat):Nat->Nat->Nat
 |0,x=>x
 |n+1,x=>fl m (it m n x)
theorem it_add(m:Nat)(a:Nat):∀b x,it m (b+a) x=it m b (it m a x)
 |0,x=>by rw[Nat.zero_add];rfl
 |b+1,x=>by
  rw[show b+1+a=(b+a)+1 by lia];show fl m (it m (b+a) x)=fl m (it m b (it m a x));rw[it_add m a b x]
theorem rn_it(m:Nat)(h:Int):∀n,(rn m h (13+n)).1=it m n (rn m h 13).1
 |0=>rfl
 |n+1=>by
  show ((rn m h (13+n)).1*5+1+(rn m h (13+n)).2 / 32)%(m+1)=fl m (it m n (rn m h 13).1);rw[rn_zero m h (13+n) (by lia),rn_it m h n];rfl
theorem rn_lt(m:Nat)(h:Int):∀r,(rn m h r).1<m+1
 |0=>Nat.mod_lt _ (Nat.succ_pos _)
 |r+1=>Nat.mod_lt _ (Nat.succ_pos _)
def orb(m:Nat):Nat->Nat->List Nat
 |0,_=>[]
 |n+1,x=>x::orb m n (fl m x)
theorem orb_it(m:Nat):∀(n x y:Nat),y∈orb m n x->∃k,k<n/\y=it m k x
 |0,_,_,h=>by cases h
 |n+1,x,y,h=>by
  rcases List.mem_cons.mp h with e|e
  ·exact⟨0,by lia,e⟩
  ·obtain⟨k,hk,e⟩:=orb_it m n (fl m x) y e;refine⟨k+1,by lia,?_⟩;rw[it_add m 1 k x];exact e
theorem orb7:((List.range 8).all fun x=>(orb 7 8 0).contains x)=true:=by decide +kernel
theorem orb31:((List.range 32).all fun x=>(orb 31 32 0).contains x)=true:=by decide +kernel
theorem orb127:((List.range 128).all fun x=>(orb 127 128 0).contains x)=true:=by decide +kernel
theorem back7:it 7 8 0=0:=by decide +kernel
theorem back31:it 31 32 0=0:=by decide +kernel
theorem back127:it 127 128 0=0:=by decide +kernel
theorem orbit{m:Nat}(hm:Masky m){x:Nat}(hx:x<m+1):∃k,k<m+1/\x=it m k 0:=by
 rcases hm with rfl|rfl|rfl
 ·have:=List.all_eq_true.mp orb7 x (List.mem_range.mpr hx);exact orb_it 7 8 0 x (by simpa using this)
 ·have:=List.all_eq_true.mp orb31 x (List.mem_range.mpr hx);exact orb_it 31 32 0 x (by simpa using this)
 ·have:=List.all_eq_true.mp orb127 x (List.mem_range.mpr hx);exact orb_it 127 128 0 x (by simpa using this)
theorem back{m:Nat}(hm:Masky m):it m (m+1) 0=0:=by
 rcases hm with rfl|rfl|rfl
 ·exact back7
 ·exact back31
 ·exact back127
theorem period{m:Nat}(hm:Masky m){x y:Nat}(hx:x<m+1)(hy:y<m+1):∃n,n≤m/\it m n x=y:=by
 obtain⟨a,ha,ea⟩:=orbit hm hx;obtain⟨b,hb,eb⟩:=orbit hm hy;by_cases hab:a≤b
 ·refine⟨b-a,by lia,?_⟩;rw[ea,←it_add,eb];congr 1;lia
 ·refine⟨m+1-a+b,by lia,?_⟩;rw[ea,←it_add,eb,show m+1-a+b+a=b+(m+1) by lia,it_add,back hm]
theorem comes{m:Nat}(hm:Masky m)(h:Int){e:Nat}(he:e≤m):∃k,k≤10*m+130/\(sq m h k).j=e:=by
 obtain⟨n,hn,en⟩:=period hm (rn_lt m h 13) (show e<m+1 by lia);obtain⟨k,hk,ek⟩:=run_starts m h (13+n);refine⟨k,by lia,?_⟩;rw[ek];show (rn m h (13+n)).1=e;rw[rn_it,en]
theorem go_below{xs:Array Nat}{j:Nat}(hr:xs.toList.Pairwise (· < ·)):∀(fuel lo hi:Nat),hi-lo≤fuel->lo≤hi->hi≤xs.size->(∀i x,i<lo->xs[i]?=some x->x<j)->(∀i x,hi≤i->xs[i]?=some x->j≤x) ->
  below.go xs j fuel lo hi≤xs.size/\(∀i x,i<below.go xs j fuel lo hi->xs[i]?=some x->x<j)/\(∀i x,below.go xs j fuel lo hi≤i->xs[i]?=some x->j≤x)
 |0,lo,hi,hf,hl,hs,h1,h2=>by
  have e:lo=hi:=by lia
  subst e;exact⟨hs,h1,h2⟩
 |fuel+1,lo,hi,hf,hl,hs,h1,h2=>by
  unfold below.go;by_cases hlt:lo<hi
  ·rw[if_pos hlt];dsimp only;have hmid:(lo+hi) / 2<xs.size:=by lia
   have hg:xs.getD ((lo+hi) / 2) j=xs[(lo+hi) / 2]:=by simp[Array.getD,hmid]
   rw[hg];have pw:∀a b x y,a<b->xs[a]?=some x->xs[b]?=some y->x<y:=fun a b x y hab ea eb=>by
    have ha':a<xs.toList.length:=by
     have:=(Array.getElem?_eq_some_iff.mp ea).1;simpa using this
    have hb':b<xs.toList.length:=by
     have:=(Array.getElem?_eq_some_iff.mp eb).1;simpa using this
    have:=List.pairwise_iff_getElem.mp hr a b ha' hb' hab;obtain⟨_,e1⟩:=Array.getElem?_eq_some_iff.mp ea;obtain⟨_,e2⟩:=Array.getElem?_eq_some_iff.mp eb;simpa [e1,e2] using this
   have em:xs[(lo+hi) / 2]?=some xs[(lo+hi) / 2]:=by simp[hmid]
   by_cases hc:xs[(lo+hi) / 2]<j
   ·rw[if_pos hc];refine go_below hr fuel _ hi (by lia) (by lia) hs (fun i x hi' e=>?_) h2;by_cases hi2:i=(lo+hi) / 2
    ·subst hi2;rw[em] at e;cases e;exact hc
    ·exact Nat.lt_trans (pw i _ x _ (by lia) e em) hc
   ·rw[if_neg hc];refine go_below hr fuel lo _ (by lia) (by lia) (by lia) h1 (fun i x hi' e=>?_);by_cases hi2:i=(lo+hi) / 2
    ·subst hi2;rw[em] at e;cases e;lia
    ·have:=pw _ i _ x (by lia) em e;lia
  ·rw[if_neg hlt];have e:lo=hi:=by lia
   subst e;exact⟨hs,h1,h2⟩
theorem below_ok{xs:Array Nat}{j:Nat}(hr:xs.toList.Pairwise (· < ·)):below xs j≤xs.size/\(∀i x,i<below xs j->xs[i]?=some x->x<j)/\(∀i x,below xs j≤i->xs[i]?=some x->j≤x):=
 go_below hr xs.size 0 xs.size (by lia) (by lia) (by lia) (fun i _ h=>by lia) fun i x h e=>by
  have:=(Array.getElem?_eq_some_iff.mp e).1;lia
theorem below_at{xs:Array Nat}{j i:Nat}(hr:xs.toList.Pairwise (· < ·))(e:xs[i]?=some j):below xs j=i:=by
 obtain⟨h0,h1,h2⟩:=below_ok (j:=j) hr;have hi:=(Array.getElem?_eq_some_iff.mp e).1;by_cases hlt:i<below xs j
 ·exact absurd (h1 i j hlt e) (Nat.lt_irrefl _)
 ·by_cases hgt:below xs j<i
  ·have hb:below xs j<xs.size:=by lia
   have eb:xs[below xs j]?=some xs[below xs j]:=by simp[hb]
   have q1:=h2 _ _ (Nat.le_refl _) eb;have pw:=List.pairwise_iff_getElem.mp hr (below xs j) i (by simpa using hb) (by simpa using hi) hgt;obtain⟨_,e1⟩:=Array.getElem?_eq_some_iff.mp e;simp[e1] at pw;lia
  ·lia
end SetP
namespace SetP
open PySem PySem.SetTable
structure Tab(t:SetTable)(hs:List Int):Prop where
 mask:Masky t.mask
 size:t.place.size=hs.length
 rise:t.place.toList.Pairwise (· < ·)
 bound:∀j∈t.place.toList,j≤t.mask
 nodum:t.dummies = #[]
 room:hs.length*5<t.mask*3
 reach:∀j h,(j,h)∈t.place.toList.zip hs->∃k,(sq t.mask h k).j=j/\∀k',k' < k->(sq t.mask h k').j∈t.place.toList
theorem slot_live{t:SetTable}{j i:Nat}(hr:t.place.toList.Pairwise (· < ·))(e:t.place[i]?=some j):t.slot j=.live i:=by
 unfold slot;dsimp only;rw[below_at hr e,e];simp
theorem slot_empty{t:SetTable}{j:Nat}(hd:t.dummies = #[])(e:j∉t.place.toList):t.slot j=.empty:=by
 unfold slot;dsimp only;have h1:¬(t.place[below t.place j]?==some j)=true:=by
  intro h;have h':t.place[below t.place j]?=some j:=by simpa using h
  exact e (by
   rw[←Array.getElem?_toList] at h';exact List.mem_of_getElem? h')
 rw[if_neg h1];have h2:has t.dummies j=false:=by
  rw[hd];rfl
 rw[h2];rfl
theorem all_len:∀(n:Nat) (L:List Nat),(∀e,e<n->e∈L)->n≤L.length
 |0,_,_=>Nat.zero_le _
 |n+1,L,h=>by
  have h1:=h n (Nat.lt_succ_self n);have h2:=all_len n (L.erase n) fun e he=>(List.mem_erase_of_ne (by lia)).mpr (h e (by lia));have h3:=List.length_erase_of_mem h1;have h4:=List.length_pos_of_mem h1;lia
theorem first_empty{t:SetTable}{hs:List Int}(T:Tab t hs)(h:Int):∃ke,ke≤10*t.mask+130/\(sq t.mask h ke).j∉t.place.toList/\∀k,k<ke->(sq t.mask h k).j∈t.place.toList:=by
 -- some slot is empty
 have hex:∃e,e≤t.mask/\e∉t.place.toList:=by
  refine Classical.byContradiction fun hn=>?_;have hall:∀e,e≤t.mask->e∈t.place.toList:=fun e he=>Classical.byContradiction fun q=>hn ⟨e,he,q⟩;have hl:=all_len (t.mask+1) t.place.toList fun e he=>hall e (by lia);have e1:t.place.toList.length=t.place.size:=by simp
  have:=T.size;have:=T.room;lia
 obtain⟨e,he,ne⟩:=hex;obtain⟨k,hk,ek⟩:=comes T.mask h he;have hP:∃k,(sq t.mask h k).j∉t.place.toList:=⟨k,by rw[ek];exact ne⟩
 -- the least one
 have least:∀n,(∃k,k≤n/\(sq t.mask h k).j∉t.place.toList)->∃ke,ke≤n/\(sq t.mask h ke).j∉t.place.toList/\∀k,k<ke->(sq t.mask h k).j∈t.place.toList:=by
  intro n
  induction n with
  |zero=>
   rintro⟨k,hk,q⟩;have:k=0:=by lia
   subst this;exact⟨0,Nat.le_refl _,q,fun k hk=>by lia⟩
  |succ n ih=>
   rintro⟨k,hk,q⟩;by_cases hp:∃k,k≤n/\(sq t.mask h k).j∉t.place.toList
   ·obtain⟨ke,h1,h2,h3⟩:=ih hp;exact⟨ke,by lia,h2,h3⟩
   ·have hk':k=n+1:=by
     refine Classical.byContradiction fun z=>hp ⟨k,by lia,q⟩
    subst hk';exact⟨n+1,Nat.le_refl _,q,fun k' hk'=>Classical.byContradiction fun z=>hp ⟨k',by lia,z⟩⟩
 obtain⟨ke,h1,h2,h3⟩:=least k ⟨k,Nat.le_refl _,by rw[ek];exact ne⟩;exact⟨ke,by lia,h2,h3⟩
inductive Meets(t:SetTable)(hashAt:Nat->Int)(h:Int)(n ke:Nat):Met->Prop where
 |cand {k i:Nat} (h1:n≤k) (h2:k<ke) (h3:t.place[i]?=some (sq t.mask h k).j) (h4:hashAt i=h) (h5:∀k' i',n≤k'->k' < k->t.place[i']?=some (sq t.mask h k').j->hashAt i'≠h):
   Meets t hashAt h n ke (.candidate (sq t.mask h k).j i (sq t.mask h (k+1)))
 |free (h1:n≤ke) (h5:∀k' i',n≤k'->k' < ke->t.place[i']?=some (sq t.mask h k').j->hashAt i'≠h):Meets t hashAt h n ke (.empty (sq t.mask h ke).j none)
theorem go_meets{t:SetTable}{hashAt:Nat->Int}{h:Int}{ke:Nat}(hr:t.place.toList.Pairwise (· < ·))(hd:t.dummies = #[])(he:(sq t.mask h ke).j∉t.place.toList)(hl:∀k,k<ke->(sq t.mask h k).j∈t.place.toList):
  ∀(fuel n:Nat),n≤ke->ke-n<fuel->∃met,probe.go t hashAt h fuel (sq t.mask h n)=some met/\Meets t hashAt h n ke met
 |0,n,_,hf=>by lia
 |fuel+1,n,hn,hf=>by
  unfold probe.go;by_cases hlast:n=ke
  ·subst hlast;rw[slot_empty hd he,sq_dummy];exact⟨_,rfl,.free (Nat.le_refl _) fun k' i' h1 h2=>by lia⟩
  ·have hmem:=hl n (by lia);obtain⟨i,hi⟩:=List.getElem?_of_mem hmem;have hi':t.place[i]?=some (sq t.mask h n).j:=by rw[←Array.getElem?_toList];exact hi
   rw[slot_live hr hi'];dsimp only;by_cases hh:hashAt i=h
   ·rw[if_pos (by simpa using hh)];exact⟨_,rfl,.cand (Nat.le_refl _) (by lia) hi' hh fun k' i' h1 h2=>by lia⟩
   ·rw[if_neg (by simpa using hh)];obtain⟨met,e,m⟩:=go_meets (hashAt:=hashAt) hr hd he hl fuel (n+1) (by lia) (by lia);refine⟨met,e,?_⟩;have one:∀i',t.place[i']?=some (sq t.mask h n).j->hashAt i'≠h:=fun i' e'=>by
     have e1:=below_at hr hi';have e2:=below_at hr e';have:i'=i:=by lia
     rw[this];exact hh
    cases m with
    |cand h1 h2 h3 h4 h5=>
     refine .cand (by lia) h2 h3 h4 fun k' i' q1 q2 q3=>?_;by_cases hk:k'=n
     ·subst hk;exact one i' q3
     ·exact h5 k' i' (by lia) q2 q3
    |free h1 h5=>
     refine .free (by lia) fun k' i' q1 q2 q3=>?_;by_cases hk:k'=n
     ·subst hk;exact one i' q3
     ·exact h5 k' i' (by lia) q2 q3
theorem probe_meets{t:SetTable}{hs:List Int}(T:Tab t hs){hashAt:Nat->Int}{h:Int}{ke n:Nat}(hk:ke≤10*t.mask+130)(he:(sq t.mask h ke).j∉t.place.toList)(hl:∀k,k<ke->(sq t.mask h k).j∈t.place.toList)(hn:n≤ke):
  ∃met,t.probe hashAt h (sq t.mask h n)=some met/\Meets t hashAt h n ke met:=by
 unfold probe;exact go_meets T.rise T.nodum he hl _ n hn (by unfold turns;lia)
theorem insertAt_toList{α:Type}(xs:Array α)(p:Nat)(x:α):(insertAt xs p x).toList=xs.toList.take p++x::xs.toList.drop p:=by
 unfold insertAt;have e:(xs.extract p xs.size).toList=xs.toList.drop p:=by
  rw[Array.toList_extract];simp[List.extract];exact List.take_of_length_le (by simp)
 simp[Array.toList_extract,List.extract];exact List.take_of_length_le (by simp)
theorem zip_insert{α β:Type}:∀(p:Nat) (xs:List α) (ys:List β) (x:α) (y:β),xs.length=ys.length->((xs.take p++x::xs.drop p).zip (ys.take p++y::ys.drop p)).Perm ((x,y)::xs.zip ys)
 |0,xs,ys,x,y,_=>by simp
 |p+1,[],ys,x,y,h=>by
  have:ys=[]:=List.length_eq_zero_iff.mp (by simpa using h.symm);subst this;simp
 |p+1,a::xs,[],x,y,h=>by simp at h
 |p+1,a::xs,b::ys,x,y,h=>by
  have ih:=zip_insert p xs ys x y (by simpa using h);simp only[List.take_succ_cons,List.drop_succ_cons,List.cons_append,List.zip_cons_cons];exact (List.Perm.cons (a,b) ih).trans (List.Perm.swap _ _ _)
theorem insert_perm{α:Type}(p:Nat)(xs:List α)(x:α):(xs.take p++x::xs.drop p).Perm (x::xs):=by
 have:=List.perm_middle (a:=x) (l₁:=xs.take p) (l₂:=xs.drop p);rw[List.take_append_drop] at this;exact this
theorem put_eq{t:SetTable}{j:Nat}(hd:t.dummies = #[]):t.put j=({ t with place:=insertAt t.place (below t.place j) j,dummies:=#[]},below t.place j):=by
 unfold put;dsimp only;have h2:has t.dummies j=false:=by
  rw[hd];rfl
 rw[h2];simp[hd]
structure TabR(t:SetTable)(hs:List Int):Prop where
 mask:Masky t.mask
 size:t.place.size=hs.length
 rise:t.place.toList.Pairwise (· < ·)
 bound:∀j∈t.place.toList,j≤t.mask
 nodum:t.dummies = #[]
 fit:hs.length≤t.mask
 reach:∀j h,(j,h)∈t.place.toList.zip hs->∃k,(sq t.mask h k).j=j/\∀k',k' < k->(sq t.mask h k').j∈t.place.toList
theorem sq_le{m:Nat}(hm:Masky m)(h:Int):∀k,(sq m h k).j≤m/\(sq m h k).j+(sq m h k).more≤m:=by
 have hrun:∀i,i≤m->runEnd m i≤m:=fun i hi=>by
  unfold runEnd;split<;>lia
 have hrs:∀q:Nat×Nat,q.1≤m->(rs m q).j≤m/\(rs m q).j+(rs m q).more≤m:=fun q hq=>by
  have:=hrun q.1 hq;have h2:q.1≤runEnd m q.1:=by unfold runEnd;split<;>lia
  show q.1≤m/\q.1+(runEnd m q.1-q.1)≤m;lia
 intro k
 induction k with
 |zero=>exact hrs _ (by show bits h%(m+1)≤m;have:bits h%(m+1)<m+1:=Nat.mod_lt (bits h) (Nat.succ_pos m);lia)
 |succ k ih=>
  show (adv m (sq m h k)).j≤m/\(adv m (sq m h k)).j+(adv m (sq m h k)).more≤m;unfold adv;by_cases hc:(sq m h k).more > 0
  ·rw[if_pos hc];show (sq m h k).j+1≤m/\(sq m h k).j+1+((sq m h k).more-1)≤m;lia
  ·rw[if_neg hc];have hlt:(leap m (sq m h k).i (sq m h k).perturb).1≤m:=by
    show ((sq m h k).i*5+1+(sq m h k).perturb / 32)%(m+1)≤m;have:((sq m h k).i*5+1+(sq m h k).perturb / 32)%(m+1)<m+1:=Nat.mod_lt _ (Nat.succ_pos m);lia
   exact hrs (leap m (sq m h k).i (sq m h k).perturb) hlt
theorem Tab.put{t:SetTable}{hs:List Int}(T:Tab t hs){h:Int}{ke:Nat}(he:(sq t.mask h ke).j∉t.place.toList)(hl:∀k,k<ke->(sq t.mask h k).j∈t.place.toList):
  TabR { t with place:=insertAt t.place (below t.place (sq t.mask h ke).j) (sq t.mask h ke).j,dummies:=#[]} (hs.take (below t.place (sq t.mask h ke).j)++h::hs.drop (below t.place (sq t.mask h ke).j)):=by
 obtain⟨b0,b1,b2⟩:=below_ok (j:=(sq t.mask h ke).j) T.rise;have hlen:t.place.toList.length=hs.length:=by simpa using T.size
 have hmem:∀x,x∈(insertAt t.place (below t.place (sq t.mask h ke).j) (sq t.mask h ke).j).toList↔x=(sq t.mask h ke).j∨x∈t.place.toList:=fun x=>by
  rw[insertAt_toList,(insert_perm _ t.place.toList _).mem_iff,List.mem_cons]
 refine⟨T.mask,?_,?_,fun j hj=>?_,rfl,?_,fun j h' hj=>?_⟩
 ·show (insertAt t.place (below t.place (sq t.mask h ke).j) (sq t.mask h ke).j).size=_;have e1:(insertAt t.place (below t.place (sq t.mask h ke).j) (sq t.mask h ke).j).size=(insertAt t.place (below t.place (sq t.mask h ke).j) (sq t.mask h ke).j).toList.length:=by simp
  rw[e1,insertAt_toList,(insert_perm _ t.place.toList _).length_eq,(insert_perm _ hs _).length_eq];simp only[List.length_cons];lia
 ·show (insertAt t.place (below t.place (sq t.mask h ke).j) (sq t.mask h ke).j).toList.Pairwise (· < ·);rw[insertAt_toList];refine List.pairwise_append.mpr ⟨T.rise.sublist (List.take_sublist _ _),List.pairwise_cons.mpr ⟨fun x hx=>?_,T.rise.sublist (List.drop_sublist _ _)⟩,fun a ha b hb=>?_⟩
  ·obtain⟨i,hi⟩:=List.getElem?_of_mem hx;rw[List.getElem?_drop] at hi;have q:=b2 (below t.place (sq t.mask h ke).j+i) x (by lia) (by rw[←Array.getElem?_toList];exact hi);have ne:x≠(sq t.mask h ke).j:=fun e=>he (e▸List.mem_of_getElem? hi);lia
  ·obtain⟨i,hi⟩:=List.getElem?_of_mem ha;have hil:i<below t.place (sq t.mask h ke).j:=by
    have:=(List.getElem?_eq_some_iff.mp hi).1;rw[List.length_take] at this;lia
   rw[List.getElem?_take_of_lt hil] at hi;have qa:=b1 i a hil (by rw[←Array.getElem?_toList];exact hi);rcases List.mem_cons.mp hb with e|hb
   ·rw[e];exact qa
   ·obtain⟨i2,hi2⟩:=List.getElem?_of_mem hb;rw[List.getElem?_drop] at hi2;have q:=b2 (below t.place (sq t.mask h ke).j+i2) b (by lia) (by rw[←Array.getElem?_toList];exact hi2);lia
 ·rcases (hmem j).mp hj with e|e
  ·rw[e];exact (sq_le T.mask h ke).1
  ·exact T.bound j e
 ·rw[(insert_perm _ hs _).length_eq];have:=T.room;rcases T.mask with e|e|e<;>(simp only[List.length_cons];show _≤t.mask;lia)
 ·have hp:(j,h')∈(t.place.toList.take (below t.place (sq t.mask h ke).j)++(sq t.mask h ke).j::t.place.toList.drop (below t.place (sq t.mask h ke).j)).zip
    (hs.take (below t.place (sq t.mask h ke).j)++h::hs.drop (below t.place (sq t.mask h ke).j)):=by
   rw[←insertAt_toList];exact hj
  rw[(zip_insert _ _ _ _ _ hlen).mem_iff] at hp;rcases List.mem_cons.mp hp with e|e
  ·cases e;exact⟨ke,rfl,fun k' hk'=>(hmem _).mpr (.inr (hl k' hk'))⟩
  ·obtain⟨k,e1,e2⟩:=T.reach j h' e;exact⟨k,e1,fun k' hk'=>(hmem _).mpr (.inr (e2 k' hk'))⟩
theorem TabR.tab{t:SetTable}{hs:List Int}(T:TabR t hs)(h:t.tooFull=false):Tab t hs:=by
 refine⟨T.mask,T.size,T.rise,T.bound,T.nodum,?_,T.reach⟩;have h':¬(t.fill*5≥t.mask*3):=by simpa [tooFull] using h
 have e:t.fill=hs.length:=by
  unfold fill;rw[T.size,T.nodum];rfl
 rw[e] at h';lia
end SetP
namespace SetP
open PySem PySem.SetTable
def Taken(ow:Array (Option Nat))(j:Nat):Prop:=∃k,ow[j]?=some (some k)
theorem isNone_iff{ow:Array (Option Nat)}{j:Nat}(hj:j<ow.size):(ow.getD j (some 0)).isNone=true↔¬Taken ow j:=by
 have e:ow.getD j (some 0)=ow[j]:=by simp[Array.getD,hj]
 rw[e];unfold Taken;rw[Array.getElem?_eq_getElem hj];cases ow[j] with
 |none=>simp
 |some k=>simp
theorem free_ok{m:Nat}(hm:Masky m){h:Int}{ow:Array (Option Nat)}(hs:ow.size=m+1):∀(fuel r n:Nat),sq m h n=rs m (rn m h r)->(∀k,k<n->Taken ow (sq m h k).j) ->
  (∃r',r≤r'/\r' < r+fuel/\¬Taken ow (rn m h r').1)->∃ke,layClean.free m ow fuel (rn m h r).1 (rn m h r).2=some (sq m h ke).j/\¬Taken ow (sq m h ke).j/\∀k,k<ke->Taken ow (sq m h k).j
 |0,r,n,_,_,hx=>by
  obtain⟨r',h1,h2,_⟩:=hx;lia
 |fuel+1,r,n,hn,hk,hx=>by
  have hi:=rn_lt m h r;have hre:runEnd m (rn m h r).1≤m:=by unfold runEnd;split<;>lia
  have hre2:(rn m h r).1≤runEnd m (rn m h r).1:=by unfold runEnd;split<;>lia
  have at_d:∀d,d≤runEnd m (rn m h r).1-(rn m h r).1->(sq m h (n+d)).j=(rn m h r).1+d:=fun d hd=>by
   rw[run_at m h n _ hn d hd]
  unfold layClean.free;cases hf:(List.range (runEnd m (rn m h r).1+1-(rn m h r).1)).find? (fun k=>(ow.getD ((rn m h r).1+k) (some 0)).isNone) with
  |some k=>
   obtain⟨p1,p2,p3⟩:=List.find?_range_eq_some.mp hf;have hkr:=List.mem_range.mp p2;refine⟨n+k,?_,?_,fun k' hk'=>?_⟩
   ·rw[at_d k (by lia)]
   ·rw[at_d k (by lia)];exact (isNone_iff (by lia)).mp p1
   ·by_cases hlt:k' < n
    ·exact hk k' hlt
    ·obtain⟨d,rfl⟩:∃d,k'=n+d:=⟨k' - n,by lia⟩;rw[at_d d (by lia)];have q:=p3 d (by lia);refine Classical.byContradiction fun z=>?_;rw[(isNone_iff (by lia)).mpr z] at q;cases q
  |none=>
   have hnone:=List.find?_eq_none.mp hf;have occ:∀d,d≤runEnd m (rn m h r).1-(rn m h r).1->Taken ow ((rn m h r).1+d):=fun d hd=>
    Classical.byContradiction fun z=>hnone d (List.mem_range.mpr (by lia)) ((isNone_iff (by lia)).mpr z)
   refine free_ok hm hs fuel (r+1) (n+(runEnd m (rn m h r).1-(rn m h r).1)+1) (run_next m h n _ hn) (fun k hk'=>?_) ?_
   ·by_cases hlt:k<n
    ·exact hk k hlt
    ·obtain⟨d,rfl⟩:∃d,k=n+d:=⟨k-n,by lia⟩;rw[at_d d (by lia)];exact occ d (by lia)
   ·obtain⟨r',h1,h2,h3⟩:=hx;refine⟨r',?_,by lia,h3⟩;have:r'≠r:=fun e=>h3 (by
     rw[e];have:=occ 0 (Nat.zero_le _);simpa using this)
    lia
structure Own(m:Nat)(ow:Array (Option Nat))(l:List Int):Prop where
 size:ow.size=m+1
 all:∀(k:Nat),k<l.length->∃j:Nat,ow[j]?=some (some k)
 one:∀(j j' k:Nat),ow[j]?=some (some k)->ow[j']?=some (some k)->j=j'
 reach:∀(j k:Nat),ow[j]?=some (some k)->∃h,l[k]?=some h/\∃n,(sq m h n).j=j/\∀n',n' < n->Taken ow (sq m h n').j
theorem Own.nil(m:Nat):Own m (Array.replicate (m+1) none) []:=by
 have hno:∀(j k:Nat),¬(Array.replicate (m+1) (none:Option Nat))[j]?=some (some k):=fun j k e=>by
  rw[Array.getElem?_replicate] at e;split at e<;>simp at e
 exact⟨by simp,fun k hk=>by simp at hk,fun j j' k e=>absurd e (hno j k),fun j k e=>absurd e (hno j k)⟩
theorem Own.room{m:Nat}{ow:Array (Option Nat)}{l:List Int}(O:Own m ow l)(hl:l.length≤m):∃e,e≤m/\¬Taken ow e:=by
 refine Classical.byContradiction fun hn=>?_;have hall:∀e,e≤m->Taken ow e:=fun e he=>Classical.byContradiction fun q=>hn ⟨e,he,q⟩;obtain⟨g,hg⟩:∃g:Nat->Nat,∀k,k<l.length->ow[g k]?=some (some k):=by
  refine⟨fun k=>if q:k<l.length then (O.all k q).choose else 0,fun k hk=>?_⟩;dsimp only;rw[dif_pos hk];exact (O.all k hk).choose_spec
 have hlen:=all_len (m+1) ((List.range l.length).map g) fun e he=>by
  obtain⟨k,hk⟩:=hall e (by lia);obtain⟨h,e1,_⟩:=O.reach e k hk;have hkl:=(List.getElem?_eq_some_iff.mp e1).1;exact List.mem_map.mpr ⟨k,List.mem_range.mpr hkl,O.one _ _ k (hg k hkl) hk⟩
 simp at hlen;lia
theorem Own.add{m:Nat}(hm:Masky m){ow:Array (Option Nat)}{l:List Int}{h:Int}(O:Own m ow l)(hl:l.length≤m):
  ∃j,layClean.free m ow (turns m) (bits h%(m+1)) (bits h)=some j/\Own m (ow.setIfInBounds j (some l.length)) (l++[h]):=by
 obtain⟨e,he,ne⟩:=O.room hl;obtain⟨n0,hn0,en0⟩:=period hm (rn_lt m h 13) (show e<m+1 by lia);obtain⟨ke,h1,h2,h3⟩:=free_ok hm (h:=h) O.size (turns m) 0 0 rfl (fun k hk=>by lia) ⟨13+n0,by lia,by unfold turns;lia,by rw[rn_it,en0];exact ne⟩;refine⟨(sq m h ke).j,h1,?_⟩;have hj:(sq m h ke).j<ow.size:=by
  have:=(sq_le hm h ke).1;rw[O.size];lia
 have hget:∀j:Nat,(ow.setIfInBounds (sq m h ke).j (some l.length))[j]?=if (sq m h ke).j=j then some (some l.length) else ow[j]?:=fun j=>by
  rw[Array.getElem?_setIfInBounds];by_cases e:(sq m h ke).j=j
  ·rw[if_pos e,if_pos e,if_pos (by lia)]
  ·rw[if_neg e,if_neg e]
 have tk:∀j,Taken ow j->Taken (ow.setIfInBounds (sq m h ke).j (some l.length)) j:=fun j ⟨k,hk⟩=>by
  unfold Taken;rw[hget];by_cases e:(sq m h ke).j=j
  ·exact⟨_,if_pos e⟩
  ·exact⟨k,by rw[if_neg e];exact hk⟩
 have lt_of:∀j k:Nat,ow[j]?=some (some k)->k<l.length:=fun j k e=>by
  obtain⟨h',e1,_⟩:=O.reach j k e;exact (List.getElem?_eq_some_iff.mp e1).1
 refine⟨by rw[Array.size_setIfInBounds];exact O.size,fun k hk=>?_,fun j j' k q q'=>?_,fun j k q=>?_⟩
 ·rw[List.length_append,List.length_singleton] at hk;by_cases hkl:k<l.length
  ·obtain⟨j,hj'⟩:=O.all k hkl;refine⟨j,?_⟩;rw[hget,if_neg (fun e=>h2 ⟨k,by rw[e];exact hj'⟩)];exact hj'
  ·have:k=l.length:=by lia
   exact⟨(sq m h ke).j,by rw[hget,if_pos rfl,this]⟩
 ·rw[hget] at q q';by_cases e:(sq m h ke).j=j
  ·rw[if_pos e] at q;by_cases e':(sq m h ke).j=j'
   ·lia
   ·rw[if_neg e'] at q';cases q;exact absurd (lt_of _ _ q') (Nat.lt_irrefl _)
  ·rw[if_neg e] at q;by_cases e':(sq m h ke).j=j'
   ·rw[if_pos e'] at q';cases q';exact absurd (lt_of _ _ q) (Nat.lt_irrefl _)
   ·rw[if_neg e'] at q';exact O.one j j' k q q'
 ·rw[hget] at q;by_cases e:(sq m h ke).j=j
  ·rw[if_pos e] at q;cases q;exact⟨h,by simp,ke,e,fun n' hn'=>tk _ (h3 n' hn')⟩
  ·rw[if_neg e] at q;obtain⟨h',e1,n,e2,e3⟩:=O.reach j k q;exact⟨h',by rw[List.getElem?_append_left (lt_of j k q)];exact e1,n,e2,fun n' hn'=>tk _ (e3 n' hn')⟩
theorem lay_ok{m:Nat}(hm:Masky m):∀(l' l:List Int) (ow:Array (Option Nat)),Own m ow l->l.length+l'.length≤m+1 ->
  ∃ow',(l'.foldl (fun (acc:Option (Array (Option Nat)×Nat)) h=>do
   let (owner,k) ←acc
   let j ←layClean.free m owner (turns m) (bits h%(m+1)) (bits h)
   pure (owner.setIfInBounds j (some k),k+1)) (some (ow,l.length)))=some (ow',(l++l').length)/\Own m ow' (l++l')
 |[],l,ow,O,_=>⟨ow,by simp,by simpa using O⟩
 |h::l',l,ow,O,hl=>by
  rw[List.length_cons] at hl
  obtain⟨j,e,O'⟩:=O.add hm (h:=h) (by lia)
  obtain⟨ow',e2,O2⟩:=lay_ok hm l' (l++[h]) _ O' (by simp;lia)
  refine⟨ow',?_,by simpa using O2⟩
  rw[List.foldl_cons]
  have hs:(do
   let (owner,k) ←(some (ow,l.length):Option (Array (Option Nat)×Nat))
   let j ←layClean.free m owner (turns m) (bits h%(m+1)) (bits h)
   pure (owner.setIfInBounds j (some k),k+1))=some (ow.setIfInBounds j (some l.length),(l++[h]).length):=by
   show (do
    let j ←layClean.free m ow (turns m) (bits h%(m+1)) (bits h)
    pure (ow.setIfInBounds j (some l.length),l.length+1))=_
   rw[e]
   simp
  rw[hs,e2]
  simp
theorem range_getL{α:Type}:∀l:List α,((List.range l.length).filterMap fun k=>l[k]?)=l
 |[]=>rfl
 |a::l=>by
  rw[List.length_cons,List.range_succ_eq_map,List.filterMap_cons_some (b:=a) (by simp),List.filterMap_map];have ih:=range_getL l;congr 1
theorem range_get{α:Type}(xs:Array α):((List.range xs.size).filterMap fun k=>xs[k]?)=xs.toList:=by
 have:=range_getL xs.toList;simpa using this
theorem laid_ok{m finger moves:Nat}{led plain:Bool}(hm:Masky m)(hs:Array Int)(hl:hs.size*5<m*3):
  ∃t order,laid m finger moves led plain hs=some (t,order)/\t.mask=m/\t.led=led/\t.plain=plain/\t.finger=finger/\order.toList.Perm (List.range hs.size)/\Tab t (order.toList.filterMap fun k=>hs[k]?):=by
 obtain⟨ow,e,O⟩:=lay_ok hm hs.toList [] _ (Own.nil m) (by simp;lia);rw[List.nil_append] at e O;have hlc:layClean m hs=some ow:=by
  unfold layClean;rw[←Array.foldl_toList];have e':=congrArg (Option.map fun x:Array (Option Nat)×Nat=>x.1) e;exact e'
 have hmem:∀j k,(j,k)∈((List.range (m+1)).filterMap fun j=>(ow.getD j none).map (j,·))↔ow[j]?=some (some k):=fun j k=>by
  rw[List.mem_filterMap];constructor
  ·rintro⟨a,ha,q⟩;have ha':=List.mem_range.mp ha;cases ho:ow.getD a none with
   |none=>rw[ho] at q;cases q
   |some k'=>
    rw[ho] at q;cases q;have:ow.getD j none=ow[j]'(by rw[O.size];exact ha'):=by simp[Array.getD,O.size,ha']
    rw[this] at ho;rw[Array.getElem?_eq_getElem (by rw[O.size];exact ha'),ho]
  ·intro q;have hj:=(Array.getElem?_eq_some_iff.mp q).1;rw[O.size] at hj;refine⟨j,List.mem_range.mpr hj,?_⟩;have:ow.getD j none=some k:=by
    rw[Array.getD_eq_getD_getElem?,q];rfl
   rw[this];rfl
 generalize hL:((List.range (m+1)).filterMap fun j=>(ow.getD j none).map (j,·))=L at hmem;have rise:L.Pairwise fun a b=>a.1<b.1:=by
  rw[←hL];refine List.Pairwise.filterMap _ (fun a a' hlt b hb b' hb'=>?_) (List.pairwise_lt_range (n:=m+1));cases ho:ow.getD a none with
  |none=>rw[ho] at hb;cases hb
  |some k=>
   rw[ho] at hb;cases hb;cases ho':ow.getD a' none with
   |none=>rw[ho'] at hb';cases hb'
   |some k'=>
    rw[ho'] at hb';cases hb';exact hlt
 have nd:(L.map (·.2)).Nodup:=by
  refine List.Pairwise.map _ (R:=fun a b=>a.2≠b.2) (fun _ _ z=>z) ?_;refine List.Pairwise.imp_of_mem (fun {a b} ha hb hab=>?_) rise;intro q;obtain⟨j,k⟩:=a;obtain⟨j',k'⟩:=b;have ea:=(hmem j k).mp ha;have eb:=(hmem j' k').mp hb;have hab':j<j':=hab;have q':k=k':=q;subst q';have:=O.one j j' k ea eb;lia
 have hperm:(L.map (·.2)).Perm (List.range hs.size):=by
  refine (List.perm_ext_iff_of_nodup nd List.nodup_range).mpr fun k=>?_;rw[List.mem_map,List.mem_range];constructor
  ·rintro⟨⟨j,k'⟩,hjk,rfl⟩;obtain⟨h,e1,_⟩:=O.reach j k' ((hmem j k').mp hjk);have:=(List.getElem?_eq_some_iff.mp e1).1;simpa using this
  ·intro hk;obtain⟨j,ej⟩:=O.all k (by simpa using hk);exact⟨(j,k),(hmem j k).mpr ej,rfl⟩
 -- the hashes in the slots' order
 have hzip:∀j h,(j,h)∈(L.map (·.1)).zip ((L.map (·.2)).filterMap fun k=>hs[k]?)->∃k,(j,k)∈L/\hs[k]?=some h:=by
  have hall:∀p∈L,∃h,hs[p.2]?=some h:=fun p hp=>by
   obtain⟨h,e1,_⟩:=O.reach p.1 p.2 ((hmem p.1 p.2).mp hp);exact⟨h,by rw[←Array.getElem?_toList];exact e1⟩
  clear hmem rise nd hperm hL
  induction L with
  |nil=>intro j h q;cases q
  |cons p L ih=>
   intro j h q;obtain⟨h0,e0⟩:=hall p List.mem_cons_self;rw[List.map_cons,List.map_cons,List.filterMap_cons_some e0,List.zip_cons_cons] at q;rcases List.mem_cons.mp q with q|q
   ·cases q;exact⟨p.2,List.mem_cons_self,e0⟩
   ·obtain⟨k,q1,q2⟩:=ih (fun p hp=>hall p (List.mem_cons_of_mem _ hp)) j h q;exact⟨k,List.mem_cons_of_mem _ q1,q2⟩
 have hlenL:((L.map (·.2)).filterMap fun k=>hs[k]?).length=L.length:=by
  have h1:=(hperm.filterMap fun k=>hs[k]?).length_eq;rw[range_get] at h1;have h3:=hperm.length_eq;rw[List.length_map,List.length_range] at h3;rw[h1,h3];simp
 refine⟨_,_,by unfold laid;rw[hlc];rfl,rfl,rfl,rfl,rfl,?_,?_⟩
 ·rw[hL];exact hperm
 ·rw[hL];have hlen:L.length=hs.size:=by
   have:=hperm.length_eq;simpa using this
  refine⟨hm,?_,?_,fun j hj=>?_,rfl,?_,fun j h hj=>?_⟩
  ·rw[hlenL];simp
  ·exact List.Pairwise.map _ (fun _ _ z=>z) rise
  ·obtain⟨⟨j',k⟩,hp,rfl⟩:=List.mem_map.mp hj;have:=(Array.getElem?_eq_some_iff.mp ((hmem j' k).mp hp)).1;rw[O.size] at this;show j'≤m;lia
  ·rw[hlenL,hlen];exact hl
  ·obtain⟨k,q1,q2⟩:=hzip j h hj;obtain⟨h',e1,n,e2,e3⟩:=O.reach j k ((hmem j k).mp q1);have eh:h'=h:=by
    rw[Array.getElem?_toList,q2] at e1;exact (Option.some.inj e1).symm
   subst eh;refine⟨n,e2,fun n' hn'=>?_⟩;obtain⟨k',hk'⟩:=e3 n' hn';exact List.mem_map.mpr ⟨(_,k'),(hmem _ k').mpr hk',rfl⟩
end SetP
namespace SetM
open PySem SetP
section
variable {prog:Program} {w:World} {A:Around} {E:Value->Shared->Prop} {s:Shared}
abbrev hk(prog:Program)(w:World)(ks:List Int):Int:=tupleKeyHash (intKind prog w) ks
abbrev IsK(prog:Program)(w:World)(h:Heap)(ks:List Int)(a:Addr):Prop:=IsTupleKey (intKind prog w) h ks a
def ent(prog:Program)(w:World)(p:List Int×Addr):Int×Value:=(hk prog w p.1,.ref p.2)
structure SetAt(prog:Program)(w:World)(h:Heap)(a:Addr)(o:Obj)(es:Array (Int×Value))(ep:Nat)(t:SetTable)(xs:List (List Int×Addr)):Prop where
 at_:h.get? a=some o
 ex:o.ExactSet
 dat:o.data=.set es ep t
 ents:es.toList=xs.map (ent prog w)
 keys:∀p∈xs,IsK prog w h p.1 p.2
 nd:(xs.map (·.1)).Nodup
 plain:t.plain=true
 led:t.led = !(w.params.followText "set-order")
theorem hs_len{es:Array (Int×Value)}:(es.toList.map (·.1)).length=es.size:=by simp
theorem tab_fits{es:Array (Int×Value)}{t:SetTable}(T:TabR t (es.toList.map (·.1))):t.fits es.size=true:=by
 unfold SetTable.fits;have h1:=T.size;rw[hs_len] at h1;have h2:=T.fit;rw[hs_len] at h2;have h3:t.fill=es.size:=by
  unfold SetTable.fill;rw[h1,T.nodum];rfl
 rw[h3,h1];simp;exact h2
theorem Tab.r{t:SetTable}{hs:List Int}(T:Tab t hs):TabR t hs:=by
 refine⟨T.mask,T.size,T.rise,T.bound,T.nodum,?_,T.reach⟩;have:=T.room;lia
theorem gave_no{t:SetTable}(h:Masky t.mask):t.gaveWay=false:=by
 unfold SetTable.gaveWay;rcases h with e|e|e<;>rw[e]<;>rfl
theorem class_int(n:Nat){v:Value}(h:carriedByValue v=true):ofAClassStatement n v=pure false:=by
 cases v with
 |ref a=>simp[carriedByValue] at h
 |_=>first|rfl|(cases n<;>rfl)
theorem wp_class{ks:List Int}{a:Addr}{Q:Bool->Shared->Prop}(hx:IsK prog w s.heap ks a)(h:Q false s):wpAny (model prog w) A (ofAClassStatement 8 (.ref a)) Q E s:=by
 have hT:=hx.typeIs;obtain⟨o,items,n,ho,hc,hd,hi⟩:=hx;unfold ofAClassStatement;refine wpAny_bind (wpAny_typeOf hT ?_);dsimp only;rw[if_pos (by decide)];refine wpAny_bind (wpAny_pure ?_);rw[if_neg (by decide)];refine wpAny_bind (wpAny_seqItems ho hd ?_);dsimp only;refine wpAny_bind ?_;rw[←Array.forIn_toList];refine wpAny_forIn_list _ (fun rest r s'=>r.1=none/\s'=s/\∀v∈rest,carriedByValue v=true) _ ?_ ?_ _ _ ⟨rfl,rfl,hi.byValue⟩
 ·rintro v rest r s' ⟨hr,rfl,hall⟩;rw[class_int _ (hall v List.mem_cons_self)];refine wpAny_bind (wpAny_pure ?_);rw[if_neg Bool.false_ne_true];exact wpAny_pure ⟨rfl,rfl,fun u hu'=>hall u (List.mem_cons_of_mem _ hu')⟩
 ·rintro⟨r1,r2⟩ s' ⟨hr,rfl,_⟩;simp only at hr;subst hr;exact wpAny_pure h
theorem wp_seen{ks:List Int}{a:Addr}{Q:Bool->Shared->Prop}(hx:IsK prog w s.heap ks a)(l:List Value)(hl:∀v∈l,∃k y,v=.ref y/\IsK prog w s.heap k y)(h:Q false s):
  wpAny (model prog w) A (searchCouldBeSeen (.ref a) l) Q E s:=by
 unfold searchCouldBeSeen;refine wpAny_bind ?_;refine wpAny_forIn_list _ (fun rest r s'=>r.1=none/\s'=s/\∀v∈rest,∃k y,v=.ref y/\IsK prog w s.heap k y) _ ?_ ?_ _ _ ⟨rfl,rfl,hl⟩
 ·rintro v rest r s' ⟨hr,rfl,hall⟩;obtain⟨k,y,rfl,hy⟩:=hall v List.mem_cons_self;have hrest:∀v∈rest,∃k y,v=Value.ref y/\IsK prog w s'.heap k y:=fun v hv=>hall v (List.mem_cons_of_mem _ hv);dsimp only;by_cases hc:((a==y)||(carriedByValue (.ref a)&&carriedByValue (.ref y)))=true
  ·rw[if_pos hc];exact wpAny_pure ⟨rfl,rfl,hrest⟩
  ·rw[if_neg hc];refine wpAny_bind (wpAny_eqIsQuiet_tuple hx ?_);rw[if_neg (by decide)];refine wpAny_bind (wpAny_eqIsQuiet_tuple hy ?_);rw[if_neg (by decide)];refine wpAny_bind (wp_class hx ?_);rw[if_neg Bool.false_ne_true];refine wpAny_bind (wp_class hy ?_);rw[if_neg Bool.false_ne_true];exact wpAny_pure ⟨rfl,rfl,hrest⟩
 ·rintro⟨r1,r2⟩ s' ⟨hr,rfl,_⟩;simp only at hr;subst hr;exact wpAny_pure h
theorem wp_byValue{ks:List Int}{a:Addr}{Q:Bool->Shared->Prop}(hx:IsK prog w s.heap ks a)(h:Q true s):wpAny (model prog w) A (hashByValue 8 (.ref a)) Q E s:=by
 have hT:=hx.typeIs;obtain⟨o,items,n,ho,hc,hd,hi⟩:=hx;unfold hashByValue;refine wpAny_bind (wpAny_specialOf hT F.slot_tuple_hash.lookup ?_);dsimp only;refine wpAny_bind (wpAny_seqItems ho hd ?_);refine wpAny_bind ?_;show wpAny _ _ (forIn items _ _) _ _ s;rw[←Array.forIn_toList];refine wpAny_forIn_list _ (fun rest r s'=>r.1=none/\s'=s/\∃l,ItemsAre (intKind prog w) l rest) _ ?_ ?_ _ _ ⟨rfl,rfl,ks,hi⟩
 ·rintro v rest r s' ⟨hr,rfl,l,hl⟩;cases hl with
  |@cons k v' _ _ h1 h2=>
   obtain⟨tk,rfl⟩:=Value.isInt_shape (k:=k) h1;have e:hashByValue 7 (.int k tk)=pure true:=by rfl
   rw[e];refine wpAny_bind (wpAny_pure ?_);rw[if_neg (by decide)];exact wpAny_pure ⟨rfl,rfl,_,h2⟩
 ·rintro⟨r1,r2⟩ s' ⟨hr,rfl,_⟩;simp only at hr;subst hr;exact wpAny_pure h
theorem es_at{es:Array (Int×Value)}{xs:List (List Int×Addr)}(he:es.toList=xs.map (ent prog w)){i:Nat}(hi:i<es.size):∃p,xs[i]?=some p/\es[i]?=some (ent prog w p):=by
 have hl:xs.length=es.size:=by
  have:=congrArg List.length he;simpa using this.symm
 obtain⟨p,hp⟩:∃p,xs[i]?=some p:=⟨xs[i]'(by lia),List.getElem?_eq_getElem (by lia)⟩;refine⟨p,hp,?_⟩;rw[←Array.getElem?_toList,he,List.getElem?_map,hp];rfl
theorem wp_search{a:Addr}{o:Obj}{es:Array (Int×Value)}{ep:Nat}{t:SetTable}{xs:List (List Int×Addr)}(S:SetAt prog w s.heap a o es ep t xs)(T:Tab t (es.toList.map (·.1)))(hu:A.units<cLine)
  {ks:List Int} {x:Addr} (hx:IsK prog w s.heap ks x) {ke:Nat} (hke:ke≤10*t.mask+130) (hemp:(sq t.mask (hk prog w ks) ke).j∉t.place.toList) (hliv:∀k,k<ke->(sq t.mask (hk prog w ks) k).j∈t.place.toList)
  {Q:SetFound->Shared->Prop} (hin:ks∈xs.map (·.1)->Q (.there none) s) (hout:ks∉xs.map (·.1)->Q (.free (sq t.mask (hk prog w ks) ke).j false) s):
  ∀(fuel n:Nat) (stand:Option SetTable.Probe),stand.getD (t.probeStart (hk prog w ks))=sq t.mask (hk prog w ks) n->n≤ke->ke-n<fuel ->
   (∀(k' i':Nat) p,k' < n->t.place[i']?=some (sq t.mask (hk prog w ks) k').j->xs[i']?=some p->p.1≠ks) ->
   wpAny (model prog w) A (setSearchFrom a (.ref x) (hk prog w ks) true fuel stand) Q E s
 |0,n,stand,_,_,hf,_=>by lia
 |fuel+1,n,stand,hst,hn,hf,hprev=>by
  have hsz:t.place.size=es.size:=by
   have:=T.size
   rw[hs_len] at this
   exact this
  have hfit:=tab_fits (Tab.r T)
  have hal:∀(i:Nat) (p:List Int×Addr),xs[i]?=some p->((es[i]?).map fun z:Int×Value=>z.1).getD 0=hk prog w p.1:=fun i p hp=>by
   rw[←Array.getElem?_toList,S.ents,List.getElem?_map,hp]
   rfl
  unfold setSearchFrom
  refine wpAny_bind (wpAny_setState_of S.at_ S.dat hfit ?_)
  dsimp only
  rw[gave_no T.mask,if_neg Bool.false_ne_true,hst]
  obtain⟨met,e,m⟩:=probe_meets T (hashAt:=fun i=>((es[i]?).map fun z:Int×Value=>z.1).getD 0) hke hemp hliv hn
  erw [e]
  dsimp only
  cases m with
  |free h1 h5=>
   dsimp only
   refine wpAny_pure (hout fun hmem=>?_)
   obtain⟨p,hp,rfl⟩:=List.mem_map.mp hmem
   obtain⟨i,hi⟩:=List.getElem?_of_mem hp
   have hil:i<es.size:=by
    have h1:=(List.getElem?_eq_some_iff.mp hi).1
    have h2:=congrArg List.length S.ents
    simp at h2
    lia
   have hj:∃j,t.place[i]?=some j:=⟨t.place[i]'(by lia),by simp⟩
   obtain⟨j,hj⟩:=hj
   have hz:(j,hk prog w p.1)∈t.place.toList.zip (es.toList.map (·.1)):=by
    refine List.mem_of_getElem? (i:=i) ?_
    rw[List.getElem?_zip_eq_some]
    refine⟨by rw[Array.getElem?_toList];exact hj,?_⟩
    rw[S.ents,List.map_map,List.getElem?_map,hi]
    rfl
   obtain⟨k,hk1,hk2⟩:=T.reach _ _ hz
   have hkke:k<ke:=by
    refine Classical.byContradiction fun z=>hemp ?_
    by_cases q:k=ke
    ·rw[←q,hk1]
     exact List.mem_of_getElem? (by rw[Array.getElem?_toList];exact hj)
    ·exact hk2 ke (by lia)
   rw[←hk1] at hj
   by_cases hkn:k<n
   ·exact hprev k i p hkn hj hi rfl
   ·exact h5 k i (by lia) hkke hj (hal i p hi)
  |@cand k i h1 h2 h3 h4 h5=>
   dsimp only
   have hil:i<es.size:=by
    have:=(Array.getElem?_eq_some_iff.mp h3).1
    lia
   obtain⟨p,hp,hesi⟩:=es_at S.ents hil
   have hyk:=S.keys p (List.mem_of_getElem? hp)
   have hpk:p∈xs:=List.mem_of_getElem? hp
   have go:wpAny (model prog w) A (do
     let some (_,y):=es[i]? | unsupported "internal:set-entry"
     let equal ←holding [y] (eqBool y (.ref x))
     let (es',_,t') ←setState a
     if true&&equal then return .there none
     let some same:=t'.sameMemory t.moves t.mask|unsupported "set.changed-during-lookup:is-the-new-block-at-the-old-address"
     let still ←match (if same then t'.slot (sq t.mask (hk prog w ks) k).j else .empty) with
      |.live i'=>match es'[i']? with
       |some (_,y')=>do pure (if ←isSame y' y then some i' else none)
       |none=>pure none
      |_=>pure none
     match still with
     |none=>rule "set.search.anew";setSearchFrom a (.ref x) (hk prog w ks) true fuel none
     | some i'=>if equal then return .there (some i') else setSearchFrom a (.ref x) (hk prog w ks) true fuel (some (sq t.mask (hk prog w ks) (k+1)))) Q E s:=by
    rw[hesi]
    dsimp only[ent]
    refine wpAny_bind (wpAny_holding (wpAny_eqBool_tuple hu hyk hx ?_))
    refine wpAny_bind (wpAny_setState_of S.at_ S.dat hfit ?_)
    dsimp only
    by_cases heq:p.1=ks
    ·rw[decide_eq_true heq,if_pos (by decide)]
     exact wpAny_pure (hin (List.mem_map.mpr ⟨p,hpk,heq⟩))
    ·rw[decide_eq_false heq,if_neg (by decide)]
     have hsm:t.sameMemory t.moves t.mask=some true:=by unfold SetTable.sameMemory;simp
     rw[hsm]
     dsimp only
     rw[if_pos rfl,slot_live T.rise h3]
     dsimp only
     rw[hesi]
     dsimp only[ent]
     refine wpAny_bind (wpAny_isSame_ref_self ?_)
     rw[if_pos rfl]
     refine wpAny_bind (wpAny_pure ?_)
     dsimp only
     rw[if_neg Bool.false_ne_true]
     refine wp_search S T hu hx hke hemp hliv hin hout fuel (k+1) _ rfl (by lia) (by lia) fun k' i' p' hk' hpl hp'=>?_
     by_cases hkn:k' < n
     ·exact hprev k' i' p' hkn hpl hp'
     ·by_cases hkk:k'=k
      ·subst hkk
       have e1:=below_at T.rise h3
       have e2:=below_at T.rise hpl
       have:i'=i:=by lia
       subst this
       rw[hp] at hp'
       cases hp'
       exact heq
      ·intro he
       exact h5 k' i' (by lia) (by lia) hpl (by rw[hal i' p' hp',he])
   by_cases hled:t.led=true
   ·rw[hled]
    rw[if_neg (by decide)]
    exact go
   ·have hled':t.led=false:=by simpa using hled
    rw[hled']
    rw[if_pos (by decide)]
    refine wpAny_bind (wp_seen hx _ (fun v hv=>?_) ?_)
    ·obtain⟨e0,he0,rfl⟩:=List.mem_map.mp hv
     have he1:e0∈es.toList:=by
      have:=Array.mem_toList_iff.mp he0
      exact Array.mem_toList_iff.mpr (Array.mem_filter.mp this).1
     rw[S.ents] at he1
     obtain⟨p0,hp0,rfl⟩:=List.mem_map.mp he1
     exact⟨p0.1,p0.2,rfl,S.keys p0 hp0⟩
    ·rw[if_neg Bool.false_ne_true]
     exact go
end
end SetM
namespace SetM
open PySem SetP
section
variable {prog:Program} {w:World} {A:Around} {E:Value->Shared->Prop} {s:Shared}
def SetOn(prog:Program)(w:World)(h:Heap)(a:Addr)(xs:List (List Int×Addr)):Prop:=
 ∃o es ep t,SetAt prog w h a o es ep t xs/\Tab t (es.toList.map (·.1))
theorem isK_but{h h':Heap}{a y:Addr}{ks:List Int}{o:Obj}{es:Array (Int×Value)}{ep:Nat}{t:SetTable}(ho:h.get? a=some o)(hd:o.data=.set es ep t)(sb:Heap.SameBut a h h')(hy:IsK prog w h ks y):IsK prog w h' ks y:=by
 obtain⟨oy,items,n,hoy,hc,hdy,hi⟩:=hy;have ne:y≠a:=by
  intro e;subst e;rw[ho] at hoy;cases hoy;rw[hd] at hdy;cases hdy
 exact⟨oy,items,n,(sb.2 y ne).trans hoy,hc,hdy,hi⟩
theorem put_get{h:Heap}{a:Addr}{o:Obj}{es es':Array (Int×Value)}{ep:Nat}{t t':SetTable}(ho:h.get? a=some o)(hd:o.data=.set es ep t):
  (h.update a (Obj.putSet es' t')).get? a=some { o with data:=.set es' (ep+1) t' }:=by
 have q:=Heap.get?_update_self (Obj.putSet es' t') ho (by rw[putSet_of es' t' hd];rfl);rw[putSet_of es' t' hd] at q;exact q
theorem small_mask7:∀n,n<8->5≤n->SetTable.sizeAbove (SetTable.grown n)=32:=by decide +kernel
theorem small_mask31:∀n,n<32->19≤n->SetTable.sizeAbove (SetTable.grown n)=128:=by decide +kernel
theorem relay_mask{t:SetTable}{hs:List Int}(T:TabR t hs)(hf:t.tooFull=true)(h64:hs.length≤64):∃m,SetTable.sizeAbove (SetTable.grown hs.length)=m+1/\Masky m/\hs.length*5<m*3/\m+1≤128:=by
 have hfill:t.fill=hs.length:=by
  unfold SetTable.fill;rw[T.size,T.nodum];rfl
 have h':hs.length*5≥t.mask*3:=by
  unfold SetTable.tooFull at hf;rw[hfill] at hf;simpa using hf
 have hfit:=T.fit;rcases T.mask with e|e|e
 ·rw[e] at h' hfit;exact⟨31,small_mask7 _ (by lia) (by lia),.inr (.inl rfl),by lia,by lia⟩
 ·rw[e] at h' hfit;exact⟨127,small_mask31 _ (by lia) (by lia),.inr (.inr rfl),by lia,by lia⟩
 ·rw[e] at h';lia
theorem filterMap_get_map{α β:Type}(f:α->β)(l:List α)(o:List Nat):(o.filterMap fun k=>(l.map f)[k]?)=(o.filterMap fun k=>l[k]?).map f:=by
 rw[List.map_filterMap];congr 1;funext k;rw[List.getElem?_map]
theorem wp_relay{a:Addr}{o:Obj}{es:Array (Int×Value)}{ep:Nat}{t:SetTable}{xs:List (List Int×Addr)}(S:SetAt prog w s.heap a o es ep t xs)(T:TabR t (es.toList.map (·.1)))(hf:t.tooFull=true)(h64:es.size≤64)
  {Q:Unit->Shared->Prop} (h:∀h' xs',Heap.SameBut a s.heap h'->SetOn prog w h' a xs'->xs'.Perm xs->Q () { s with heap:=h' }):
  wpAny (model prog w) A (setRelay a (SetTable.grown es.size)) Q E s:=by
 have hsz:(es.toList.map (·.1)).length=es.size:=hs_len
 obtain⟨m,hm1,hm2,hm3,hm4⟩:=relay_mask T hf (by rw[hsz];exact h64)
 rw[hsz] at hm1 hm3
 unfold setRelay
 refine wpAny_bind (wpAny_setState_of S.at_ S.dat (tab_fits T) ?_)
 dsimp only
 rw[hm1,if_neg (by rw[sizeLine_eq];lia)]
 obtain⟨t2,order,e2,em,el,ep2,ef,hperm,T2⟩:=laid_ok (finger:=t.finger) (moves:=t.movedTo m) (led:=t.led) (plain:=t.plain) hm2 (es.map (·.1)) (by simpa using hm3)
 have erel:t.relaid (es.map (·.1)) (SetTable.grown es.size)=some (t2,order):=by
  unfold SetTable.relaid
  rw[hm1,Nat.add_sub_cancel]
  exact e2
 have hosz:(es.map (·.1)).size=es.size:=by simp
 rw[hosz] at hperm
 have hes2:(order.filterMap (es[·]?)).toList=(order.toList.filterMap fun k=>xs[k]?).map (ent prog w):=by
  rw[Array.toList_filterMap,←filterMap_get_map,←S.ents]
  congr 1
  funext k
  rw[Array.getElem?_toList]
 have hxl:xs.length=es.size:=by
  have:=congrArg List.length S.ents
  simpa using this.symm
 have hxp:(order.toList.filterMap fun k=>xs[k]?).Perm xs:=by
  have:=hperm.filterMap fun k=>xs[k]?
  rw[←hxl,range_getL] at this
  exact this
 have hsz2:(order.filterMap (es[·]?)).size=es.size:=by
  have:=congrArg List.length hes2
  simp only[List.length_map] at this
  rw[hxp.length_eq,hxl] at this
  rw[←Array.length_toList]
  exact this
 refine wpAny_bind ?_
 show wpAny _ _ (do
  let some (t,order):=t.relaid (es.map (·.1)) (SetTable.grown es.size)|unsupported "internal:set-table-without-room"
  let es':=order.filterMap (es[·]?)
  if es'.size != es.size then unsupported "internal:set-table-lost-an-element"
  pure (es',t)) _ _ _
 rw[erel]
 dsimp only
 rw[hsz2,if_neg (by simp)]
 refine wpAny_pure ?_
 dsimp only
 refine wpAny_storeSet_of S.at_ S.dat ?_ (by rw[hsz2,sizeLine_eq];lia)
 have sb:=Heap.SameBut.update s.heap a (Obj.putSet (order.filterMap (es[·]?)) t2)
 refine h _ _ sb ⟨_,_,_,_,⟨put_get S.at_ S.dat,⟨S.ex.1,S.ex.2.1,S.ex.2.2⟩,rfl,hes2,fun p hp=>isK_but S.at_ S.dat sb (S.keys p (hxp.mem_iff.mp hp)),?_,ep2.trans S.plain,el.trans S.led⟩,?_⟩ hxp
 ·exact (hxp.map _).nodup_iff.mpr S.nd
 ·have eT:(order.filterMap (es[·]?)).toList.map (·.1)=order.toList.filterMap fun k=>(es.map (·.1))[k]?:=by
   rw[Array.toList_filterMap,List.map_filterMap]
   congr 1
   funext k
   simp
  rw[eT]
  exact T2
theorem wp_add{a:Addr}{xs:List (List Int×Addr)}(S:SetOn prog w s.heap a xs)(h64:xs.length<64)(hu:A.units<cLine){ks:List Int}{x:Addr}(hx:IsK prog w s.heap ks x)
  {Q:Bool->Shared->Prop} (h:∀b h' tk xs',s.toks≤tk->Heap.SameBut a s.heap h'->SetOn prog w h' a xs'->(ks∈xs.map (·.1)->xs'.Perm xs)->(ks∉xs.map (·.1)->xs'.Perm ((ks,x)::xs))->Q b { s with heap:=h',toks:=tk }):
  wpAny (model prog w) A (setAdd a (.ref x)) Q E s:=by
 obtain⟨o,es,ep,t,S,T⟩:=S;have hxl:xs.length=es.size:=by
  have:=congrArg List.length S.ents;simpa using this.symm
 unfold setAdd;refine wpAny_holding (wpAny_bind (wpAny_pyHash_tuple hu hx ?_));unfold setAddHashed;refine wpAny_holding ?_;have hend:∀b h' xs',Heap.SameBut a s.heap h'->SetOn prog w h' a xs'->(ks∈xs.map (·.1)->xs'.Perm xs)->(ks∉xs.map (·.1)->xs'.Perm ((ks,x)::xs))->Q b { s with heap:=h',toks:=s.toks+(ks.length+1)}:=
  fun b h' xs' q1 q2 q3 q4=>h b h' _ xs' (Nat.le_add_right _ _) q1 q2 q3 q4
 obtain⟨ke,hke,hemp,hliv⟩:=first_empty T (hk prog w ks);unfold setAddHashedIn;refine wpAny_bind (wpAny_setState_of (s:={ s with toks:=s.toks+(ks.length+1)}) S.at_ S.dat (tab_fits (Tab.r T)) ?_);dsimp only;rw[show byScan (.ref x) es=false from rfl,if_neg Bool.false_ne_true];refine wpAny_bind ?_;unfold setSearch;refine wp_search (s:={ s with toks:=s.toks+(ks.length+1)}) S T hu hx hke hemp hliv (fun hin=>?_) (fun hout=>?_) 100000 0 none rfl (Nat.zero_le _) (by rcases T.mask with e|e|e<;>rw[e] at hke<;>lia) fun k' i' p hk'=>absurd hk' (Nat.not_lt_zero _)
 ·dsimp only;exact wpAny_pure (hend false s.heap xs (.refl _ _) ⟨o,es,ep,t,S,T⟩ (fun _=>.refl _) fun z=>absurd hin z)
 ·dsimp only;refine wpAny_bind (wpAny_setState_of (s:={ s with toks:=s.toks+(ks.length+1)}) S.at_ S.dat (tab_fits (Tab.r T)) ?_);dsimp only;rw[put_eq T.nodum];dsimp only;rw[S.plain,if_pos rfl];refine wpAny_bind (wp_byValue (s:={ s with toks:=s.toks+(ks.length+1)}) hx ?_);rw[if_pos rfl];have TR:=T.put hemp hliv;generalize hp:SetTable.below t.place (sq t.mask (hk prog w ks) ke).j=p at TR ⊢;have hes1:(SetTable.insertAt es p (hk prog w ks,Value.ref x)).toList=(xs.take p++(ks,x)::xs.drop p).map (ent prog w):=by
   rw[insertAt_toList,S.ents,List.map_append,List.map_cons,List.map_take,List.map_drop];rfl
  have hhs:(SetTable.insertAt es p (hk prog w ks,Value.ref x)).toList.map (·.1)=(es.toList.map (·.1)).take p++hk prog w ks::(es.toList.map (·.1)).drop p:=by
   rw[insertAt_toList,List.map_append,List.map_cons,List.map_take,List.map_drop]
  have hsz1:(SetTable.insertAt es p (hk prog w ks,Value.ref x)).size=es.size+1:=by
   rw[←Array.length_toList,insertAt_toList,(insert_perm p es.toList _).length_eq,List.length_cons,Array.length_toList]
  rw[←hhs] at TR;refine wpAny_bind (wpAny_storeSet_of (s:={ s with toks:=s.toks+(ks.length+1)}) S.at_ S.dat ?_ (by rw[hsz1,sizeLine_eq];lia));have sb:=Heap.SameBut.update s.heap a (Obj.putSet (SetTable.insertAt es p (hk prog w ks,Value.ref x)) { t with place:=SetTable.insertAt t.place p (sq t.mask (hk prog w ks) ke).j,dummies:=#[],plain:=true });have hpx:(xs.take p++(ks,x)::xs.drop p).Perm ((ks,x)::xs):=insert_perm p xs _;have S1:SetAt prog w (s.heap.update a (Obj.putSet (SetTable.insertAt es p (hk prog w ks,Value.ref x)) { t with place:=SetTable.insertAt t.place p (sq t.mask (hk prog w ks) ke).j,dummies:=#[],plain:=true })) a { o with data:=.set (SetTable.insertAt es p (hk prog w ks,Value.ref x)) (ep+1) { t with place:=SetTable.insertAt t.place p (sq t.mask (hk prog w ks) ke).j,dummies:=#[],plain:=true }} (SetTable.insertAt es p (hk prog w ks,Value.ref x)) (ep+1)
    { t with place:=SetTable.insertAt t.place p (sq t.mask (hk prog w ks) ke).j,dummies:=#[],plain:=true } (xs.take p++(ks,x)::xs.drop p):=by
   refine⟨put_get S.at_ S.dat,⟨S.ex.1,S.ex.2.1,S.ex.2.2⟩,rfl,hes1,fun q hq=>?_,?_,rfl,S.led⟩
   ·rcases List.mem_cons.mp (hpx.mem_iff.mp hq) with e|e
    ·rw[e];exact isK_but S.at_ S.dat sb hx
    ·exact isK_but S.at_ S.dat sb (S.keys q e)
   ·refine (hpx.map _).nodup_iff.mpr ?_;rw[List.map_cons,List.nodup_cons];exact⟨hout,S.nd⟩
  have TR':TabR { t with place:=SetTable.insertAt t.place p (sq t.mask (hk prog w ks) ke).j,dummies:=#[],plain:=true } ((SetTable.insertAt es p (hk prog w ks,Value.ref x)).toList.map (·.1)):=
   ⟨TR.mask,TR.size,TR.rise,TR.bound,TR.nodum,TR.fit,TR.reach⟩
  by_cases hfull:({ t with place:=SetTable.insertAt t.place p (sq t.mask (hk prog w ks) ke).j,dummies:=#[],plain:=true }:SetTable).tooFull=true
  ·rw[hfull,if_pos (by decide)];refine wpAny_bind ?_;rw[←hsz1];refine wp_relay (s:={ s with heap:=s.heap.update a _,toks:=s.toks+(ks.length+1)}) S1 TR' hfull (by rw[hsz1];lia) fun h' xs' sb' S2 pm=>?_;exact wpAny_pure (hend true h' xs' (sb.trans sb') S2 (fun z=>absurd z hout) fun _=>pm.trans hpx)
  ·have hfull':({ t with place:=SetTable.insertAt t.place p (sq t.mask (hk prog w ks) ke).j,dummies:=#[],plain:=true }:SetTable).tooFull=false:=by simpa using hfull
   rw[hfull',if_neg (by decide)];exact wpAny_pure (hend true _ _ sb ⟨_,_,_,_,S1,TR'.tab hfull'⟩ (fun z=>absurd z hout) fun _=>hpx)
end
end SetM
namespace SetM
open PySem SetP
theorem slot_sit_next:Slot "set_iterator" "__next__" "set_iterator.__next__":=
 .of (owner:="set_iterator") (n:="__next__")
  (by rw[typeLookup_type,builtinLookup_eq_fast];kernel_rfl)
  (by decide +kernel) (by decide +kernel) (by decide +kernel)
  (by first|exact .inl (by decide +kernel)|exact .inr (by decide +kernel))
  (by rw[isSubtype_type];kernel_rfl)
theorem slot_sit_iter:Slot "set_iterator" "__iter__" "set_iterator.__iter__":=
 .of (owner:="set_iterator") (n:="__iter__")
  (by rw[typeLookup_type,builtinLookup_eq_fast];kernel_rfl)
  (by decide +kernel) (by decide +kernel) (by decide +kernel)
  (by first|exact .inl (by decide +kernel)|exact .inr (by decide +kernel))
  (by rw[isSubtype_type];kernel_rfl)
theorem entry_sit_next:entryFor table "set_iterator.__next__" = some Builtin.«set_iterator.__next__»:=entryFor_of_tree (by kernel_rfl)
theorem entry_s_iter:entryFor table "set.__iter__" = some Builtin.«frozenset.__iter__»:=
 entryFor_alias (id':="frozenset.__iter__") (by rw[fastTable_eq_tree];kernel_rfl) (by decide +kernel) (by decide +kernel) (by rw[fastTable_eq_tree];kernel_rfl)
theorem owner_sit:Manifest.owners.lookup (String.ofList ['r','o','t','a','r','e','t','i','_','t','e','s'].reverse)=some Manifest.sig_set_iterator:=by kernel_rfl
theorem args_sit_next(a:Value):argsOk "set_iterator.__next__" ⟨[a],[]⟩:=by
 unfold argsOk;rw[signature?_of (id:="set_iterator.__next__") (n:=['_','_','t','x','e','n','_','_']) (o:=['r','o','t','a','r','e','t','i','_','t','e','s']) (by kernel_rfl) owner_sit]
 kernel_rfl
theorem pick_go{α:Type}(next:Nat->Nat):∀(fuel k:Nat) (left:List α) (out:Array α),left.length≤fuel->(pickOrder.go next fuel k left out).toList.Perm (out.toList++left)
 |0,k,left,out,h=>by
  have:left=[]:=List.length_eq_zero_iff.mp (by lia);subst this;show out.toList.Perm (out.toList++[]);rw[List.append_nil]
 |fuel+1,k,left,out,h=>by
  unfold pickOrder.go;cases hl:left[next k%left.length]? with
  |none=>
   have:left=[]:=by
    cases left with
    |nil=>rfl
    |cons a l=>
     have:=Nat.mod_lt (next k) (show 0<(a::l).length by simp)
     rw[List.getElem?_eq_getElem this] at hl;cases hl
   subst this;show out.toList.Perm (out.toList++[]);rw[List.append_nil]
  |some x=>
   have hlt:=(List.getElem?_eq_some_iff.mp hl).1;have ih:=pick_go next fuel (k+1) (left.eraseIdx (next k%left.length)) (out.push x) (by rw[List.length_eraseIdx];split<;>lia)
   refine ih.trans ?_;rw[Array.toList_push,List.append_assoc];refine List.Perm.append_left _ ?_;obtain⟨_,e⟩:=List.getElem?_eq_some_iff.mp hl;rw[←e,List.eraseIdx_eq_take_drop_succ];have q:=List.perm_middle (a:=left[next k%left.length]) (l₁:=left.take (next k%left.length)) (l₂:=left.drop (next k%left.length+1))
   rw[List.getElem_cons_drop,List.take_append_drop] at q;exact q.symm
theorem pick_perm{α:Type}(next:Nat->Nat)(xs:Array α):(pickOrder next xs).toList.Perm xs.toList:=by
 have:=pick_go next xs.size 0 xs.toList #[] (by simp)
 unfold pickOrder;simpa using this
def byText(w:World):Bool:=w.params.followText "set-order"
def walkL(w:World)(a:Addr)(ep:Nat)(es:Array (Int×Value)):List (Int×Value):=if byText w then (pickOrder (w.params.setOrder a ep) es).toList else es.toList
theorem walkL_perm(w:World)(a:Addr)(ep:Nat)(es:Array (Int×Value)):(walkL w a ep es).Perm es.toList:=by
 unfold walkL;split
 ·exact pick_perm _ _
 ·exact .refl _
def IsSit(h:Heap)(it a:Addr)(slot i n ep:Nat):Prop:=h.get? it=some { cls:=.type "set_iterator",data:=.fields #[rawInt slot,rawInt i,.ref a,rawInt n,rawInt ep]}
def SlotOk(w:World)(t:SetTable)(slot i:Nat):Prop:=byText w=true∨SetTable.below t.place slot=i
section
variable {prog:Program} {w:World} {A:Around} {E:Value->Shared->Prop} {s:Shared}
theorem wp_byText{Q:Bool->Shared->Prop}(h:Q (byText w) s):wpAny (model prog w) A setsByText Q E s:=by
 unfold setsByText;exact wpAny_bind (wpAny_askSetting (wpAny_pure h))
theorem wp_setIter{a:Addr}{o:Obj}{es:Array (Int×Value)}{ep:Nat}{t:SetTable}{xs:List (List Int×Addr)}(S:SetAt prog w s.heap a o es ep t xs)(T:Tab t (es.toList.map (·.1)))
  {Q:Value->Shared->Prop} (h:Q (.ref s.heap.objs.size) { s with heap:=s.heap.push { cls:=.type "set_iterator",data:=.fields #[rawInt (0:Nat),rawInt (0:Nat),.ref a,rawInt es.size,rawInt ep]}}):
  wpAny (model prog w) A (pyIter (.ref a)) Q E s:=by
 have hT:s.TypeIs (.ref a) "set":=⟨o,S.at_,S.ex.1⟩;have hfit:=tab_fits (Tab.r T);refine wpAny_pyIter_slot hT F.slot_set_iter (wpAny_call_entry F.slot_set_iter hT entry_s_iter ?_ (F.args_set_iter_1 _));unfold Builtin.«frozenset.__iter__»;show wpAny _ _ (Builtin.Frozenset.slot0 "__iter__" ⟨[.ref a],[]⟩ >>= _) _ _ s;refine wpAny_bind (m:=Builtin.Frozenset.slot0 "__iter__" ⟨[.ref a],[]⟩) (wpAny_of_eq (a:=a) rfl ?_);unfold Builtin.Frozenset.sizeOf setEntries;refine wpAny_bind (wpAny_bind (wpAny_bind (wpAny_setState_of S.at_ S.dat hfit (wpAny_pure (wpAny_pure ?_)))));unfold setDrawn;refine wpAny_bind (wpAny_bind (wpAny_setState_of S.at_ S.dat hfit ?_));refine wpAny_bind (wp_byText (wpAny_pure ?_));have hnd:(!byText w&&(!t.plain&&decide (es.size > 1)))=false:=by rw[S.plain];simp
 show wpAny _ _ (if (!byText w&&(!t.plain&&decide (es.size > 1)))=true then _ else _) _ _ s;rw[hnd,if_neg Bool.false_ne_true];refine wpAny_bind (wpAny_pure ?_);refine wpAny_bind (wpAny_setEpoch_of S.at_ S.dat hfit ?_);refine wpAny_bind ?_;unfold newFields;refine wpAny_newObj_type ?_;refine wpAny_pure ⟨_,rfl,"set_iterator",_,⟨_,Heap.get?_push_size _ rfl,rfl⟩,slot_sit_next.lookup,h⟩
theorem wp_setNext{a:Addr}{o:Obj}{es:Array (Int×Value)}{ep:Nat}{t:SetTable}{xs:List (List Int×Addr)}(S:SetAt prog w s.heap a o es ep t xs)(T:Tab t (es.toList.map (·.1))){slot i:Nat}(hsl:SlotOk w t slot i)
  {Q:Option (Value×Nat)->Shared->Prop} (h1:∀p slot',(walkL w a ep es)[i]?=some p->SlotOk w t slot' (i+1)->Q (some (p.2,slot')) s) (h2:(walkL w a ep es)[i]?=none->Q none s):
  wpAny (model prog w) A (setNext a slot i ep) Q E s:=by
 have hfit:=tab_fits (Tab.r T);have hsz:t.place.size=es.size:=by
  have:=T.size;rw[hs_len] at this;exact this
 unfold setNext;refine wpAny_bind (wpAny_setState_of S.at_ S.dat hfit ?_);dsimp only;refine wpAny_bind (wp_byText ?_);unfold walkL at h1 h2;cases hbt:byText w with
 |true=>
  rw[hbt] at h1 h2;rw[if_pos rfl];simp only[if_true,Array.getElem?_toList] at h1 h2;rw[if_neg (by simp)];unfold setWalk;refine wpAny_bind (wpAny_bind (wpAny_setState_of S.at_ S.dat hfit ?_));dsimp only;refine wpAny_bind (wp_byText ?_);rw[hbt,if_pos rfl];refine wpAny_bind (wpAny_askSetting (wpAny_pure ?_));refine wpAny_pure ?_;show Q (Option.map (fun e=>(e.snd,slot)) (pickOrder (w.params.setOrder a ep) es)[i]?) s;cases hp:(pickOrder (w.params.setOrder a ep) es)[i]? with
  |none=>exact h2 hp
  |some p=>exact h1 p slot hp (.inl hbt)
 |false=>
  rw[hbt] at h1 h2;rw[if_neg Bool.false_ne_true];simp only[Bool.false_eq_true,if_false,Array.getElem?_toList] at h1 h2;have hled:t.led=true:=by
   rw[S.led];show (!byText w)=true;rw[hbt];rfl
  have hb:SetTable.below t.place slot=i:=by
   rcases hsl with z|z
   ·rw[hbt] at z;cases z
   ·exact z
  have hnd:(!t.plain&&decide (es.size > 1))=false:=by rw[S.plain];simp
  show wpAny _ _ (if (!t.plain&&decide (es.size > 1))=true then _ else _) _ _ s;rw[hnd,if_neg Bool.false_ne_true];refine wpAny_bind ?_;show wpAny _ _ (if (!t.led && !es.isEmpty)=true then _ else _) _ _ s;rw[hled,if_neg (by simp)];refine wpAny_pure ?_;rw[hb];cases hp:es[i]? with
  |none=>
   refine wpAny_pure ?_;have hpl:t.place[i]?=none:=by
    have:=Array.getElem?_eq_none_iff.mp hp;exact Array.getElem?_eq_none_iff.mpr (by lia)
   exact h2 hp
  |some p=>
   have hil:=(Array.getElem?_eq_some_iff.mp hp).1;have hj:t.place[i]?=some (t.place[i]'(by lia)):=by simp[hsz,hil]
   rw[hj];obtain⟨ph,pv⟩:=p;refine wpAny_pure (h1 (ph,pv) _ hp (.inr ?_))
   -- the next place
   obtain⟨b0,b1,b2⟩:=below_ok (j:=t.place[i]'(by lia)+1) T.rise;refine Classical.byContradiction fun hne=>?_;by_cases hlt:SetTable.below t.place (t.place[i]'(by lia)+1)≤i
   ·have:=b2 i _ hlt hj;lia
   ·have hgt:i+1<SetTable.below t.place (t.place[i]'(by lia)+1):=by lia
    have hi1:i+1<t.place.size:=by lia
    have e1:t.place[i+1]?=some (t.place[i+1]):=by simp[hi1]
    have q:=b1 (i+1) _ hgt e1;have pw:=List.pairwise_iff_getElem.mp T.rise i (i+1) (by simp;lia) (by simpa using hi1) (Nat.lt_succ_self i);simp at pw;lia
theorem sit_type{it a:Addr}{slot i n ep:Nat}(hit:IsSit s.heap it a slot i n ep):s.TypeIs (.ref it) "set_iterator":=⟨_,hit,rfl⟩
theorem wp_next_head{a it:Addr}{o:Obj}{es:Array (Int×Value)}{ep:Nat}{t:SetTable}{xs:List (List Int×Addr)}(S:SetAt prog w s.heap a o es ep t xs)(T:Tab t (es.toList.map (·.1))){slot i:Nat}(hit:IsSit s.heap it a slot i es.size ep)
  {P:PySem.Fin->Shared->Prop} (h:wpAny (model prog w) A (do
   match ←setNext a slot i ep with
   |some (x,next)=>
    setField (.ref it) 0 (rawInt next)
    setField (.ref it) 1 (rawInt ((i:Int)+1))
    ret x
   | none=>setField (.ref it) 2 .none;raiseNew (←newExc (.type "StopIteration") [])) P E s):
  wpAny (model prog w) A (Builtin.«set_iterator.__next__» ⟨[.ref it],[]⟩) P E s:=by
 have hfit:=tab_fits (Tab.r T);unfold Builtin.«set_iterator.__next__»;refine wpAny_bind (m:=slotArgs "__next__" 0 ⟨[.ref it],[]⟩) (wpAny_of_eq (a:=(.ref it,[])) rfl ?_);refine wpAny_bind (wpAny_fieldsOf hit rfl ?_);dsimp only[rawInt];unfold setEntries;refine wpAny_bind (wpAny_bind (wpAny_setState_of S.at_ S.dat hfit (wpAny_pure ?_)));rw[if_neg (by simp)];exact h
theorem wp_next_item{a it:Addr}{o:Obj}{es:Array (Int×Value)}{ep:Nat}{t:SetTable}{xs:List (List Int×Addr)}(S:SetAt prog w s.heap a o es ep t xs)(T:Tab t (es.toList.map (·.1))){slot i:Nat}(hsl:SlotOk w t slot i)(hit:IsSit s.heap it a slot i es.size ep)
  {p:Int×Value} (hp:(walkL w a ep es)[i]?=some p) {Q:Option Value->Shared->Prop}
  (h:∀h' slot',IsSit h' it a slot' (i+1) es.size ep->SlotOk w t slot' (i+1)->Heap.SameBut it s.heap h'->Q (some p.2) { s with heap:=h' }):wpAny (model prog w) A (pyNext (.ref it)) Q E s:=by
 have hT:=sit_type hit;unfold pyNext;refine wpAny_bind (wpAny_attempt (wpAny_callSpecial?_slot (name:=Str.ofString "__next__") hT slot_sit_next
  (wpAny_call_entry slot_sit_next hT entry_sit_next (wp_next_head S T hit (wpAny_bind (wp_setNext S T hsl (fun q slot' hq hs'=>?_) fun hn=>?_))) (args_sit_next _))))
 ·rw[hp] at hq;cases hq;dsimp only;refine wpAny_bind (wpAny_setField_rec hit (by simp) fun h1 e1 sb1=>?_);refine wpAny_bind (wpAny_setField_rec (s:={ s with heap:=h1 }) e1 (by simp) fun h2 e2 sb2=>?_)
  refine wpAny_pure ⟨_,rfl,wpAny_pure (h h2 slot' ?_ hs' (sb1.trans sb2))⟩;unfold IsSit;rw[e2];rfl
 ·rw[hp] at hn;cases hn
theorem wp_next_end{a it:Addr}{o:Obj}{es:Array (Int×Value)}{ep:Nat}{t:SetTable}{xs:List (List Int×Addr)}(hh:A.handled=none)(S:SetAt prog w s.heap a o es ep t xs)(T:Tab t (es.toList.map (·.1))){slot i:Nat}(hsl:SlotOk w t slot i)(hit:IsSit s.heap it a slot i es.size ep)
  (hp:(walkL w a ep es)[i]?=none) {Q:Option Value->Shared->Prop}
  (h:∀h',Heap.ExtBut it s.heap h'->Q none { s with heap:=h' }):wpAny (model prog w) A (pyNext (.ref it)) Q E s:=by
 have hT:=sit_type hit;unfold pyNext;refine wpAny_bind (wpAny_attempt (wpAny_callSpecial?_slot (name:=Str.ofString "__next__") hT slot_sit_next
  (wpAny_call_entry slot_sit_next hT entry_sit_next (wp_next_head S T hit (wpAny_bind (wp_setNext S T hsl (fun q slot' hq hs'=>?_) fun hn=>?_))) (args_sit_next _))))
 ·rw[hp] at hq;cases hq
 ·dsimp only;refine wpAny_bind (wpAny_setField_rec hit (by simp) fun h1 e1 sb1=>?_);refine wpAny_bind ?_;simp only[newExc,newTuple];refine wpAny_bind (wpAny_newObj_type ?_ (by size_fits));refine wpAny_bind (m:=firstArgMember _ _) (wpAny_of_eq (a:=Value.none) (by first|rfl|(simp only[firstArgMember];rfl)) ?_)
  refine wpAny_newObj_type ?_ (by size_fits);simp only[raiseNew];refine wpAny_bind (wpAny_handled ?_);rw[show A.in1.handled=none from hh];refine wpAny_bind (wpAny_pure (wpAny_throw ?_));refine wpAny_bind (wpAny_isInstance (T:="StopIteration") (b:=true) ⟨_,Heap.get?_push_size _ rfl,rfl⟩ isSubtype_stop ?_);refine wpAny_pure (h _ fun b ob hb e=>?_);exact Heap.get?_push_of_some _ (Heap.get?_push_of_some _ ((sb1.2 b hb).trans e))
end
end SetM
namespace SetM
open PySem SetP
section
variable {prog:Program} {w:World} {A:Around} {E:Value->Shared->Prop} {s:Shared}
theorem SetAt.kept{h h':Heap}{a:Addr}{o:Obj}{es:Array (Int×Value)}{ep:Nat}{t:SetTable}{xs:List (List Int×Addr)}(S:SetAt prog w h a o es ep t xs)
  (k:∀b∈a::xs.map (·.2),∀ob,h.get? b=some ob->h'.get? b=some ob):SetAt prog w h' a o es ep t xs:=by
 refine⟨k a List.mem_cons_self _ S.at_,S.ex,S.dat,S.ents,fun p hp=>?_,S.nd,S.plain,S.led⟩;obtain⟨oy,items,n,ho,r⟩:=S.keys p hp;exact⟨oy,items,n,k _ (List.mem_cons_of_mem _ (List.mem_map.mpr ⟨p,hp,rfl⟩)) _ ho,r⟩
theorem SetAt.ne_sit{h:Heap}{a it:Addr}{o:Obj}{es:Array (Int×Value)}{ep ep':Nat}{t:SetTable}{xs:List (List Int×Addr)}{slot i n:Nat}{b:Addr}(S:SetAt prog w h a o es ep t xs)(hit:IsSit h it b slot i n ep'):
  ∀c∈a::xs.map (·.2),c≠it:=fun c hc e=>by
 subst e;unfold IsSit at hit;rcases List.mem_cons.mp hc with e|e
 ·rw[e,S.at_] at hit;cases hit;have:=S.dat;cases this
 ·obtain⟨p,hp,rfl⟩:=List.mem_map.mp e;obtain⟨oy,items,k,ho,hc,hd,_⟩:=S.keys p hp;rw[ho] at hit;cases hit;cases hd
theorem walks_set(hh:A.handled=none){a it:Addr}{o:Obj}{es:Array (Int×Value)}{ep:Nat}{t:SetTable}{xs:List (List Int×Addr)}(T:Tab t (es.toList.map (·.1))):
  Walks prog w A it (it::a::xs.map (·.2)) [it] es.size (fun i v=>∃p,(walkL w a ep es)[i]?=some p/\v=p.2)
   (fun i h=>∃slot,IsSit h it a slot i es.size ep/\SlotOk w t slot i/\SetAt prog w h a o es ep t xs) where
 sub:=fun b hb=>by
  have:b=it:=by simpa using hb
  simp[this]
 frame:=fun i h h' ⟨slot,h1,h2,h3⟩ k=>⟨slot,k it List.mem_cons_self _ h1,h2,h3.kept fun b hb ob e=>k b (List.mem_cons_of_mem _ hb) ob e⟩
 item:=fun i s Q E hi ⟨slot,h1,h2,h3⟩ hQ=>by
  have hlen:(walkL w a ep es).length=es.size:=by rw[(walkL_perm w a ep es).length_eq];simp
  have hp:(walkL w a ep es)[i]?=some ((walkL w a ep es)[i]'(by lia)):=List.getElem?_eq_getElem (by lia);refine wp_next_item h3 T h2 h1 hp fun h' slot' q1 q2 sb=>?_;refine hQ _ h' s.toks ⟨_,hp,rfl⟩ ⟨slot',q1,q2,h3.kept fun b hb ob e=>(sb.2 b (h3.ne_sit h1 b hb)).trans e⟩ fun b ob hb e=>?_;exact (sb.2 b (by simpa using hb)).trans e
 done:=fun s Q E ⟨slot,h1,h2,h3⟩ hQ=>by
  have hlen:(walkL w a ep es).length=es.size:=by rw[(walkL_perm w a ep es).length_eq];simp
  refine wp_next_end hh h3 T h2 h1 (List.getElem?_eq_none_iff.mpr (by lia)) fun h' q=>?_;exact hQ h' s.toks fun b ob hb e=>q b ob (by simpa using hb) e
 self:=fun i s Q E ⟨slot,h1,h2,h3⟩ h=>by
  have hT:=sit_type h1;refine wpAny_pyIter_slot hT slot_sit_iter (wpAny_call_entry slot_sit_iter hT (b:=Builtin.«dict_keyiterator.__iter__») ?_ ?_ ?_)
  ·exact entryFor_alias (id':="dict_keyiterator.__iter__") (by kernel_rfl) (by decide +kernel) (by decide +kernel) (by kernel_rfl)
  ·show wpAny _ _ (ret (.ref it)) _ _ s;exact wpAny_pure ⟨_,rfl,"set_iterator",_,hT,slot_sit_next.lookup,h⟩
  ·unfold argsOk;rw[signature?_of (id:="set_iterator.__iter__") (n:=['_','_','r','e','t','i','_','_']) (o:=['r','o','t','a','r','e','t','i','_','t','e','s']) (by kernel_rfl) owner_sit]
   kernel_rfl
theorem wp_collect_set(hh:A.handled=none){a:Addr}{o:Obj}{es:Array (Int×Value)}{ep:Nat}{t:SetTable}{xs:List (List Int×Addr)}(S:SetAt prog w s.heap a o es ep t xs)(T:Tab t (es.toList.map (·.1)))(h64:es.size≤64)
  {Q:List Value->Shared->Prop} (h:∀s',Moved [] (fun x y=>y=x) s s'->Q ((walkL w a ep es).map (·.2)) s'):wpAny (model prog w) A (collect (.ref a)) Q E s:=by
 have hT:s.TypeIs (.ref a) "set":=⟨o,S.at_,S.ex.1⟩;have hal:a<s.heap.objs.size:=Heap.lt_size S.at_;unfold collect;refine wpAny_bind (wpAny_runValue (codeAny_builtin F.entry_proto_collect ?_));rw[Around.under_plainId F.plain_proto_collect _];show wpAny _ A.in1 (newList [] >>= fun q=>again (.builtin "list.__iadd__" ⟨[q,.ref a],[]⟩)) _ _ s;refine wpAny_bind (wpAny_newObj_type ?_);refine wpAny_pure ⟨plainId_quiet F.plain_list_iadd _,codeAny_builtin F.entry_list_iadd ?_⟩;rw[Around.under_plainId F.plain_list_iadd _];show wpAny _ A.in1 (Builtin.List.listExtendWith (.ref s.heap.objs.size) (.ref a) (.ref s.heap.objs.size)) _ _ _;unfold Builtin.List.listExtendWith;have S1:SetAt prog w (s.heap.push { cls:=.type "list",data:=.seq ([]:List Value).toArray }) a o es ep t xs:=S.kept fun b _ ob e=>Heap.get?_push_of_some _ e;have hT1:Shared.TypeIs { s with heap:=s.heap.push { cls:=.type "list",data:=.seq ([]:List Value).toArray }} (.ref a) "set":=⟨o,S1.at_,S.ex.1⟩;refine wpAny_bind (wpAny_typeOf hT1 ?_);have ne:s.heap.objs.size≠a:=Nat.ne_of_gt hal;have e1:Builtin.List.listSameRef (.ref s.heap.objs.size) (.ref a)=false:=by simp[Builtin.List.listSameRef,ne]
 rw[if_neg (by rw[e1];decide)];refine wpAny_bind (wp_setIter (s:={ s with heap:=s.heap.push { cls:=.type "list",data:=.seq ([]:List Value).toArray }}) S1 T ?_);have S2:=S1.kept (h':=(s.heap.push { cls:=.type "list",data:=.seq ([]:List Value).toArray }).push { cls:=.type "set_iterator",data:=.fields #[rawInt (0:Nat),rawInt (0:Nat),.ref a,rawInt es.size,rawInt ep]}) fun b _ ob e=>Heap.get?_push_of_some _ e;have hit:IsSit ((s.heap.push { cls:=.type "list",data:=.seq ([]:List Value).toArray }).push { cls:=.type "set_iterator",data:=.fields #[rawInt (0:Nat),rawInt (0:Nat),.ref a,rawInt es.size,rawInt ep]})
   (s.heap.push { cls:=.type "list",data:=.seq ([]:List Value).toArray }).objs.size a 0 0 es.size ep:=Heap.get?_push_size _ rfl
 have hS0:((s.heap.push { cls:=.type "list",data:=.seq ([]:List Value).toArray }).push { cls:=.type "set_iterator",data:=.fields #[rawInt (0:Nat),rawInt (0:Nat),.ref a,rawInt es.size,rawInt ep]}).get? s.heap.objs.size
   = some { cls:=.type "list",data:=.seq ([]:List Value).toArray }:=Heap.get?_push_of_some _ (Heap.get?_push_size _ rfl)
 have keep0:∀b ob,s.heap.get? b=some ob->((s.heap.push { cls:=.type "list",data:=.seq ([]:List Value).toArray }).push { cls:=.type "set_iterator",data:=.fields #[rawInt (0:Nat),rawInt (0:Nat),.ref a,rawInt es.size,rawInt ep]}).get? b=some ob:=
  fun b ob e=>Heap.get?_push_of_some _ (Heap.get?_push_of_some _ e)
 have hI:(s.heap.push { cls:=.type "list",data:=.seq ([]:List Value).toArray }).objs.size=s.heap.objs.size+1:=Heap.size_push ..;generalize (s.heap.push { cls:=.type "list",data:=.seq ([]:List Value).toArray }).objs.size=it at hI hit ⊢;generalize ((s.heap.push { cls:=.type "list",data:=.seq ([]:List Value).toArray }).push { cls:=.type "set_iterator",data:=.fields #[rawInt (0:Nat),rawInt (0:Nat),.ref a,rawInt es.size,rawInt ep]})=hp at S2 hit hS0 keep0 ⊢;refine wpAny_bind (wpAny_holding ?_);have hT2:Shared.TypeIs { s with heap:=hp } (.ref a) "set":=⟨o,S2.at_,S.ex.1⟩;unfold Builtin.List.listLengthHint;refine wpAny_bind (wpAny_specialOf hT2 F.slot_set_len.lookup ?_);generalize hid:("set.__len__":String)=id0;dsimp only;rw[show splitId id0=some ("set","__len__") from by subst hid;decide +kernel];subst hid;dsimp only;refine wpAny_bind (wpAny_isInstance (b:=true) hT2 (by rw[isSubtype_type];kernel_rfl) ?_)
 rw[if_neg (by decide)];show wpAny _ A.in1 (typeOf (.ref a) >>= _) _ _ _;refine wpAny_bind (wpAny_typeOf hT2 (wpAny_pure ?_));show wpAny _ A.in1 (rule "list.extend.makes-room" >>= fun _=>Builtin.List.listTouch (.ref s.heap.objs.size) >>= fun _=>again (.builtin "list.extend.loop" ⟨[.ref s.heap.objs.size,.ref it,.ref s.heap.objs.size],[]⟩)) _ _ _;refine wpAny_bind (wpAny_rule (wpAny_bind ?_));show wpAny _ A.in1 (updateSeq s.heap.objs.size (·.push .none) >>= fun _=>updateSeq s.heap.objs.size (·.pop)) _ _ _;refine wpAny_bind (wpAny_updateSeq (s:={ s with heap:=hp }) hS0 rfl ?_);have q1:=Heap.get?_update_self (Obj.mapSeq (·.push Value.none)) hS0 rfl;refine wpAny_updateSeq (s:={ s with heap:=hp.update s.heap.objs.size (Obj.mapSeq (·.push Value.none))}) q1 rfl ?_;have q2:=Heap.get?_update_self (Obj.mapSeq (·.pop)) q1 rfl;have oth:∀b ob,b≠s.heap.objs.size->hp.get? b=some ob->((hp.update s.heap.objs.size (Obj.mapSeq (·.push Value.none))).update s.heap.objs.size (Obj.mapSeq (·.pop))).get? b=some ob:=
  fun b ob hb e=>(Heap.get?_update_other _ _ (Ne.symm hb)).trans ((Heap.get?_update_other _ _ (Ne.symm hb)).trans e)
 have q3:∃c,((hp.update s.heap.objs.size (Obj.mapSeq (·.push Value.none))).update s.heap.objs.size (Obj.mapSeq (·.pop))).get? s.heap.objs.size=some { cls:=.type "list",dict:=none,data:=.seq #[] c,slots:=#[]}:=⟨_,q2⟩;clear q2;generalize (hp.update s.heap.objs.size (Obj.mapSeq (·.push Value.none))).update s.heap.objs.size (Obj.mapSeq (·.pop))=hp2 at q3 oth ⊢;obtain⟨c0,q2⟩:=q3;have hfp:∀b∈it::a::xs.map (·.2),b≠s.heap.objs.size:=fun b hb e=>by
  rcases List.mem_cons.mp hb with z|z
  ·lia
  ·have hlt:b<s.heap.objs.size:=by
    rcases List.mem_cons.mp z with z|z
    ·rw[z];exact hal
    ·obtain⟨p,hp',rfl⟩:=List.mem_map.mp z;obtain⟨oy,_,_,ho,_⟩:=S.keys p hp';exact Heap.lt_size ho
   lia
 have W:=(walks_set (prog:=prog) (w:=w) (A:=A.in1) (by simpa using hh) (it:=it) (a:=a) (o:=o) (ep:=ep) (xs:=xs) T).toS;refine wpAny_pure ⟨plainId_quiet F.plain_extend_loop _,codeAny_extend_loopS W (by rw[sizeLine_eq];lia) _ (fun hm=>hfp _ hm rfl) _ es.size 0 _ _ _ rfl (Nat.zero_le _) ?_ q2 (ItemsOf.nil _) fun s' acc' c' hm hS' hacc=>?_⟩
 ·refine⟨0,oth _ _ (hfp _ List.mem_cons_self) hit,?_,S2.kept fun b hb ob e=>oth b ob (hfp b (List.mem_cons_of_mem _ hb)) e⟩;by_cases hb:byText w=true
  ·exact .inl hb
  ·refine .inr ?_;obtain⟨b0,b1,b2⟩:=below_ok (j:=0) T.rise;refine Classical.byContradiction fun hne=>?_;have hpos:0<SetTable.below t.place 0:=by lia
   have h0:0<t.place.size:=by lia
   have:=b1 0 (t.place[0]) hpos (by simp[h0]);lia
 ·show wpAny _ A (load s.heap.objs.size >>= _) _ _ s';refine wpAny_bind (wpAny_load hS' ?_);refine wpAny_pure ?_;have hlen:(walkL w a ep es).length=es.size:=by rw[(walkL_perm w a ep es).length_eq];simp
  have eacc:acc'.toList=(walkL w a ep es).map (·.2):=by
   refine List.ext_getElem? fun i=>?_;rw[List.getElem?_map,Array.getElem?_toList];cases ha:acc'[i]? with
   |none=>
    have h1:=Array.getElem?_eq_none_iff.mp ha;rw[hacc.1] at h1;rw[List.getElem?_eq_none_iff.mpr (by lia)];rfl
   |some v=>
    obtain⟨p,e1,e2⟩:=hacc.2 i v ha;rw[e1,e2];rfl
  show Q acc'.toList s';rw[eacc];refine h s' ⟨fun b ob _ e=>?_,hm.gens,hm.drawn,hm.os,?_⟩
  ·have hlt:=Heap.lt_size e;refine hm.heap b ob ?_ (oth b ob (Nat.ne_of_lt hlt) (keep0 b ob e));intro z;rcases List.mem_cons.mp z with z|z
   ·rw[z] at hlt;exact Nat.lt_irrefl _ hlt
   ·have:b=it:=by simpa using z
    rw[this,hI] at hlt;exact Nat.lt_irrefl _ (Nat.lt_of_succ_lt hlt)
  ·exact hm.toks
end
end SetM
namespace SetM
open PySem SetP
section
variable {prog:Program} {w:World} {A:Around} {E:Value->Shared->Prop} {s:Shared}
def freshSet(w:World):Obj:={ cls:=.type "set",dict:=none,data:=.set #[] 0 (.fresh 0 0 (!(byText w)))}
theorem code_new(a:Value){Q₁:Value->Shared->Prop}(h:Q₁ (.ref s.heap.objs.size) { s with heap:=s.heap.push (freshSet w)}):
  codeAny (model prog w) A (.call (.builtin "set.__new__") ⟨[.type "set",a],[]⟩) (wants Q₁ E) s:=by
 refine codeAny_of_tree ?_;show wpAny _ A.in1 (checkBuiltinCall "set.__new__" ⟨[.type "set",a],[]⟩ >>= fun _=>again (.builtin "set.__new__" ⟨[.type "set",a],[]⟩)) _ _ s;refine wpAny_bind (wpAny_of_eq (F.newCall_set_1 a) (wpAny_pure ⟨plainId_quiet F.plain_set_new _,codeAny_builtin F.entry_set_new ?_⟩));rw[Around.under_plainId F.plain_set_new _];unfold Builtin.«set.__new__» Builtin.Frozenset.newClass;have hsub:=sub_set_self;obtain⟨hp,g,d,tk,os⟩:=s;dsimp only;wp_walk;refine wpAny_askSetting (wpAny_pure ?_);dsimp only;simp only[newObj];refine wpAny_bind (wpAny_alloc (wpAny_pure ?_));exact wpAny_pure h
theorem fresh_tab(led:Bool):Tab (SetTable.fresh 0 0 led) []:=
 ⟨.inl rfl,rfl,List.Pairwise.nil,(fun j hj=>(nomatch hj)),rfl,(by show 0*5<7*3;decide),(fun j h hj=>(nomatch hj))⟩
structure Ded(ps xs:List (List Int×Addr)):Prop where
 sub:∀p∈xs,p∈ps
 all:∀p∈ps,p.1∈xs.map (·.1)
 len:xs.length≤ps.length
theorem Ded.add{ps xs xs':List (List Int×Addr)}{p:List Int×Addr}(d:Ded ps xs)(h1:p.1∈xs.map (·.1)->xs'.Perm xs)(h2:p.1∉xs.map (·.1)->xs'.Perm (p::xs)):Ded (ps++[p]) xs':=by
 by_cases hm:p.1∈xs.map (·.1)
 ·have pm:=h1 hm;refine⟨fun q hq=>List.mem_append_left _ (d.sub q (pm.mem_iff.mp hq)),fun q hq=>?_,?_⟩
  ·rw[(pm.map _).mem_iff];rcases List.mem_append.mp hq with hq|hq
   ·exact d.all q hq
   ·have:q=p:=by simpa using hq
    rw[this];exact hm
  ·rw[pm.length_eq,List.length_append];have:=d.len;lia
 ·have pm:=h2 hm;refine⟨fun q hq=>?_,fun q hq=>?_,?_⟩
  ·rcases List.mem_cons.mp (pm.mem_iff.mp hq) with e|e
   ·exact List.mem_append_right _ (by simp[e])
   ·exact List.mem_append_left _ (d.sub q e)
  ·rw[(pm.map _).mem_iff,List.map_cons];rcases List.mem_append.mp hq with hq|hq
   ·exact List.mem_cons_of_mem _ (d.all q hq)
   ·have:q=p:=by simpa using hq
    rw[this];exact List.mem_cons_self
  ·rw[pm.length_eq,List.length_append,List.length_cons,List.length_singleton];have:=d.len;lia
theorem wp_update_loop{I:Addr}{fp:List Addr}{n:Nat}{P:Nat->Value->Prop}{St:Nat->Heap->Prop}(W:Walks prog w A.in1 I fp [I] n P St)(S:Addr)(hSf:S∉fp)(ps:List (List Int×Addr))(hps:ps.length=n)(hn:n≤60)
  (hu:A.in1.units<cLine) (hval:∀(i:Nat) v,P i v->∃p,ps[i]?=some p/\v=.ref p.2) (hpf:∀p∈ps,p.2≠I/\p.2≠S) {R:Result->Shared->Prop}:
  ∀(k i:Nat) (s:Shared) (xs:List (List Int×Addr)),n-i=k->i≤n->St i s.heap->SetOn prog w s.heap S xs->Ded (ps.take i) xs->(∀p∈ps,IsK prog w s.heap p.1 p.2) ->
   (∀h' tk xs',(∀b ob,b≠S->b≠I->s.heap.get? b=some ob->h'.get? b=some ob)->SetOn prog w h' S xs'->Ded ps xs'->R (.ok (.ret .none)) { s with heap:=h',toks:=tk }) ->
   codeAny (model prog w) A (.builtin "set.update.loop" ⟨[.ref S,.ref I],[]⟩) R s:=by
 have hSI:S≠I:=fun e=>hSf (W.sub _ (by rw[e];simp));have on_kept:∀{h h':Heap} {xs:List (List Int×Addr)},SetOn prog w h S xs->(∀p∈xs,p∈ps)->(∀b ob,b≠I->h.get? b=some ob->h'.get? b=some ob)->SetOn prog w h' S xs:=fun {h h' xs} ⟨o,es,ep,t,q,T⟩ sub kp=>
  ⟨o,es,ep,t,q.kept fun b hb ob e=>kp b ob (by
   rcases List.mem_cons.mp hb with z|z
   ·rw[z];exact hSI
   ·obtain⟨p,hp,rfl⟩:=List.mem_map.mp z;exact (hpf p (sub p hp)).1) e,T⟩
 intro k
 induction k with
 |zero=>
  intro i s xs hk hi hst hS hd hkeys hR;have hin:i=n:=by lia
  subst hin;refine codeAny_builtin PyProof.Rows.F.entry_set_update_loop ?_;rw[Around.under_plainId PyProof.Rows.F.plain_set_update_loop _];show wpAny _ A.in1 (pyNext (.ref I) >>= _) _ _ s;refine wpAny_bind (W.done s _ _ hst fun h' tk kp=>?_);show wpAny _ A.in1 (ret Value.none) _ _ _;have hd':Ded ps xs:=by
   rw[←hps,List.take_length] at hd;exact hd
  exact wpAny_pure (hR h' tk xs (fun b ob _ hb e=>kp b ob (by simpa using hb) e) (on_kept hS hd'.sub fun b ob hb e=>kp b ob (by simpa using hb) e) hd')
 |succ k ih=>
  intro i s xs hk hi hst hS hd hkeys hR;have hlt:i<n:=by lia
  refine codeAny_builtin PyProof.Rows.F.entry_set_update_loop ?_;rw[Around.under_plainId PyProof.Rows.F.plain_set_update_loop _];show wpAny _ A.in1 (pyNext (.ref I) >>= _) _ _ s;refine wpAny_bind (W.item i s _ _ hlt hst fun v h1 tk1 hP hst1 kp1=>?_);obtain⟨p,hp,rfl⟩:=hval i v hP;have hpm:p∈ps:=List.mem_of_getElem? hp;have kp1':∀b ob,b≠I->s.heap.get? b=some ob->h1.get? b=some ob:=fun b ob hb e=>kp1 b ob (by simpa using hb) e;have key1:∀q∈ps,IsK prog w h1 q.1 q.2:=fun q hq=>by
   obtain⟨oy,items,m,ho,r⟩:=hkeys q hq;exact⟨oy,items,m,kp1' _ _ (hpf q hq).1 ho,r⟩
  have sub0:∀q∈xs,q∈ps:=fun q hq=>List.mem_of_mem_take (hd.sub q hq);have hS1:=on_kept hS sub0 kp1';show wpAny _ A.in1 (holding [Value.ref p.2] (setAdd S (.ref p.2)) >>= _) _ _ _;have hlen:xs.length<64:=by
   have h1:=hd.len;rw[List.length_take] at h1;lia
  refine wpAny_bind (wpAny_holding (wp_add (s:={ s with heap:=h1,toks:=tk1 }) hS1 hlen hu (key1 p hpm) fun b h2 tk2 xs2 _ sb hS2 q1 q2=>?_));have hd2:Ded (ps.take (i+1)) xs2:=by
   rw[List.take_add_one,hp];exact hd.add q1 q2
  obtain⟨oS,_,_,_,SS,_⟩:=hS1;refine wpAny_pure ⟨plainId_quiet PyProof.Rows.F.plain_set_update_loop _,ih (i+1) _ xs2 (by lia) hlt (W.frame _ _ _ hst1 fun c hc ob e=>(sb.2 c (fun z=>hSf (z▸hc))).trans e) hS2 hd2 (fun q hq=>isK_but SS.at_ SS.dat sb (key1 q hq)) fun h' tk xs' kp' a1 a2=>?_⟩;exact hR h' tk xs' (fun c ob c1 c2 e=>kp' c ob c1 c2 ((sb.2 c c1).trans (kp1' c ob c2 e))) a1 a2
set_option maxHeartbeats 6400000 in
theorem call_set_tups{l:Addr}{vs:List Value}{ps:List (List Int×Addr)}{Q:Value->Shared->Prop}(hh:A.handled=none)(hl:s.heap.IsList l vs.toArray)(hv:vs=ps.map fun p=>Value.ref p.2)(hk:∀p∈ps,IsK prog w s.heap p.1 p.2)(hn:ps.length≤60)
  (hu:A.units+4<cLine)
  (h:∀h' tk xs,(∀b ob,s.heap.get? b=some ob->h'.get? b=some ob)->SetOn prog w h' s.heap.objs.size xs->Ded ps xs->Q (.ref s.heap.objs.size) { s with heap:=h',toks:=tk }):
  wpAny (model prog w) A (call (.type "set") [.ref l]) Q E s:=by
 obtain⟨c,tl,hmro⟩:=F.called_set.mro;have hmade:=F.called_set.made;have hsub:=F.called_set.sub;refine wpAny_call (codeAny_of_tree ?_);show wpAny _ _ (callAny (.type "set") _) _ _ _;refine wpAny_pure ⟨Code.quiet_builtin _ (by decide +kernel),codeAny_builtin F.entry_type_call ?_⟩;rw[Around.under_plain (weight_type_call_type "set" [.ref l] []) rfl];have h1:=F.called_set.notType;have h2:=F.called_set.canCreate;have hct:=F.typeCall_set_1 (.ref l)
 repeat (any_goals (first|assumption|wp_step))
 refine codeAny_mono (code_new (.ref l) (E:=E) (Q₁:=fun obj s₁=>obj=.ref s.heap.objs.size/\s₁={ s with heap:=s.heap.push (freshSet w)}) ⟨rfl,rfl⟩) fun r s₁ hr=>?_;cases r with
 |error e=>exact hr
 |ok fl=>
  cases fl with
  |ret obj=>
   obtain⟨rfl,rfl⟩:=hr;have hS:(s.heap.push (freshSet w)).get? s.heap.objs.size=some (freshSet w):=Heap.get?_push_size _ rfl;have hT:Shared.TypeIs { s with heap:=s.heap.push (freshSet w)} (.ref s.heap.objs.size) "set":=⟨_,hS,rfl⟩;have hli:=F.called_set.init.lookup;have hbi:=F.called_set.init.bind (.ref s.heap.objs.size)
   repeat (any_goals (first|assumption|wp_step))
   refine codeAny_mono (codeAny_call_builtin (R:=wants (fun r s₂=>r=.none/\∃h' tk xs,s₂={ s with heap:=h',toks:=tk }/\(∀b ob,s.heap.get? b=some ob->h'.get? b=some ob)/\SetOn prog w h' s.heap.objs.size xs/\Ded ps xs) E)
    F.called_set.init.plain F.entry_set_init (check_set_init_1 hT ?_)) fun r₂ s₂ hr₂=>?_
   ·obtain⟨ol,hol,hcl,nl,hdl⟩:=hl;obtain⟨ocls,odict,odata,oslots⟩:=ol;simp only at hcl hdl;subst hcl;subst hdl;have hol':(s.heap.push (freshSet w)).get? l=some { cls:=.type "list",dict:=odict,data:=.seq vs.toArray nl,slots:=oslots }:=Heap.get?_push_of_some _ hol;have hsls:=F.sub_list_set;have hslf:=F.sub_list_frozenset;have hne:(Value.type "list" == Value.type "dict")=false:=by decide
    have hl1:(s.heap.push (freshSet w)).IsList l vs.toArray:=⟨_,hol',rfl,nl,rfl⟩;have hS2:(s.heap.push (freshSet w)).get? s.heap.objs.size=some { cls:=.type "set",dict:=none,data:=.set #[] 0 (.fresh 0 0 (!(byText w)))}:=hS;unfold Builtin.«set.__init__» noKeywords Builtin.Frozenset.updateFrom;generalize hPI:pyIter=PI;wp_walk;subst hPI;refine wpAny_pyIter_list hl1 ?_;refine wpAny_bind (wpAny_runValue ?_);have hlS:l<s.heap.objs.size:=Heap.lt_size hol;have hh3:A.in1.in1.in1.handled=none:=by simp[hh]
    have hu3:A.in1.in1.in1.units<cLine:=by
     show A.units+1+1+1<cLine;lia
    have hsz:(s.heap.push (freshSet w)).objs.size=s.heap.objs.size+1:=Heap.size_push ..;have hneI:l≠(s.heap.push (freshSet w)).objs.size:=by
     rw[hsz];exact Nat.ne_of_lt (Nat.lt_succ_of_lt hlS)
    have hSf:s.heap.objs.size∉[(s.heap.push (freshSet w)).objs.size,l]:=by
     rw[hsz];intro z;rcases List.mem_cons.mp z with z|z
     ·exact absurd z (Nat.ne_of_lt (Nat.lt_succ_self _))
     ·have:s.heap.objs.size=l:=by simpa using z
      exact absurd this (Nat.ne_of_gt hlS)
    have hlen:vs.toArray.size=ps.length:=by rw[hv];simp
    refine wp_update_loop (Walks.list hh3 _ l hneI vs.toArray) s.heap.objs.size hSf ps hlen.symm (by rw[hlen];exact hn) hu3 (fun i v e=>?_) (fun p hp=>?_) (vs.toArray.size-0) 0 _ [] rfl (Nat.zero_le _)
     ⟨⟨_,Heap.get?_push_size _ rfl,rfl,rfl⟩,hl1.push _⟩ ?hS0 ⟨(fun p hp=>(nomatch hp)),(fun p hp=>by rw[List.take_zero] at hp;cases hp),Nat.zero_le _⟩ (fun p hp=>?_) ?hR
    case hS0=>
     refine⟨_,#[],0,_,⟨Heap.get?_push_of_some _ hS2,⟨rfl,rfl,rfl⟩,rfl,rfl,(fun p hp=>(nomatch hp)),List.nodup_nil,rfl,rfl⟩,fresh_tab _⟩
    case hR=>
     intro h' tk xs q1 q2 q3;refine wpAny_pure ?_;show wpAny _ _ (ret Value.none) _ _ _;refine wpAny_pure ⟨rfl,h',tk,xs,rfl,fun b ob e=>?_,q2,q3⟩;have hb:=Heap.lt_size e;refine q1 b ob (Nat.ne_of_lt hb) ?_ (Heap.get?_push_of_some _ (Heap.get?_push_of_some _ e));rw[hsz];exact Nat.ne_of_lt (Nat.lt_succ_of_lt hb)
    ·rw[hv,List.getElem?_toArray,List.getElem?_map] at e;cases hp:ps[i]? with
     |none=>rw[hp] at e;cases e
     |some p=>rw[hp] at e;exact⟨p,rfl,(Option.some.inj e).symm⟩
    ·obtain⟨oy,_,_,ho,_⟩:=hk p hp;have hb:=Heap.lt_size ho;rw[hsz];exact⟨Nat.ne_of_lt (Nat.lt_succ_of_lt hb),Nat.ne_of_lt hb⟩
    ·obtain⟨oy,items,m,ho,r⟩:=hk p hp;exact⟨oy,items,m,Heap.get?_push_of_some _ (Heap.get?_push_of_some _ ho),r⟩
   ·cases r₂ with
    |error e=>exact hr₂
    |ok fl₂=>
     cases fl₂ with
     |ret r=>
      obtain⟨rfl,h',tk,xs,rfl,q1,q2,q3⟩:=hr₂
      repeat (any_goals (first|assumption|wp_step))
      exact h _ _ _ q1 q2 q3
     |_=>exact hr₂.elim
  |_=>exact hr.elim
end
end SetM
namespace SortV
open PySem PySem.W PyProof.Rows SetM KasS
def lx:List Int->List Int->Bool
 |[],[]=>false
 |[],_::_=>true
 |_::_,[]=>false
 |x::xs,y::ys=>if x=y then lx xs ys else decide (x<y)
theorem lx_asy:∀{x y:List Int},lx x y=true->lx y x=false
 |[],[],h=>by cases h
 |[],_::_,_=>rfl
 |_::_,[],h=>by cases h
 |x::xs,y::ys,h=>by
  unfold lx at h ⊢;by_cases e:x=y
  ·rw[if_pos e] at h;rw[if_pos e.symm];exact lx_asy h
  ·rw[if_neg e] at h;rw[if_neg (Ne.symm e)];have:=of_decide_eq_true h;exact decide_eq_false (by lia)
theorem lx_tra:∀{a b c:List Int},lx b a=false->lx c b=false->lx c a=false
 |[],b,[],_,_=>rfl
 |[],[],c::cs,_,h=>h
 |[],b::bs,c::cs,h,_=>rfl
 |a::as,[],c,h,_=>by cases h
 |a::as,b::bs,[],_,h=>by cases h
 |a::as,b::bs,c::cs,h1,h2=>by
  unfold lx at h1 h2 ⊢;by_cases e1:b=a
  ·rw[if_pos e1] at h1;by_cases e2:c=b
   ·rw[if_pos e2] at h2;rw[if_pos (e2.trans e1)];exact lx_tra h1 h2
   ·rw[if_neg e2] at h2;have:=of_decide_eq_false h2;by_cases e3:c=a
    ·lia
    ·rw[if_neg e3];exact decide_eq_false (by lia)
  ·rw[if_neg e1] at h1;have:=of_decide_eq_false h1;by_cases e2:c=b
   ·rw[if_neg (by lia)];exact decide_eq_false (by lia)
   ·rw[if_neg e2] at h2;have:=of_decide_eq_false h2;by_cases e3:c=a
    ·lia
    ·rw[if_neg e3];exact decide_eq_false (by lia)
section
variable {prog:Program} {w:World} {A:Around} {E:Value->Shared->Prop} {s:Shared}
theorem lex_ok{Q:Bool->Shared->Prop}:∀(xs ys:List Int) (us vs:List Value) (i:Nat) (fin:Bool),ItemsAre (intKind prog w) xs us->ItemsAre (intKind prog w) ys vs ->
  (fin=decide (us.length<vs.length)∨∃n m,fin=decide (n+us.length<n+vs.length)/\m=n)->Q (lx xs ys) s->KatLex prog w A true fin Q (us.zip vs) i s:=by
 intro xs
 induction xs with
 |nil=>
  intro ys us vs i fin h1 h2 hf h;cases h1;cases h2 with
  |nil=>
   have:fin=false:=by
    rcases hf with hf|⟨n,m,hf,_⟩<;>simp at hf<;>exact hf
   rw[this];exact kat_nil h
  |cons h3 h4=>
   have:fin=true:=by
    rcases hf with hf|⟨n,m,hf,_⟩<;>rw[hf]<;>simp
   rw[this];exact kat_nil h
 |cons x xs ih=>
  intro ys us vs i fin h1 h2 hf h;cases h1 with
  |cons h1 h1'=>
  cases h2 with
  |nil=>
   have:fin=false:=by
    rcases hf with hf|⟨n,m,hf,_⟩<;>rw[hf]<;>simp
   rw[this];exact kat_nil h
  |cons h3 h4=>
   obtain⟨t,rfl⟩:=Value.isInt_shape h1;obtain⟨t',rfl⟩:=Value.isInt_shape h3;refine kat_cons (wpAny_eqBool_int ?_);unfold lx at h;rename_i _ y ys _;by_cases e:x=y
   ·rw[if_pos e] at h;have:(x==y)=true:=by simpa using e
    rw[this];refine kat_yes (ih ys _ _ (i+1) fin h1' h4 (.inr ?_) h);rcases hf with hf|⟨n,m,hf,_⟩
    ·exact⟨1,1,by rw[hf];simp[Nat.add_comm],rfl⟩
    ·exact⟨n+1,n+1,by rw[hf];congr 1;simp only[List.length_cons];apply propext;lia,rfl⟩
   ·rw[if_neg e] at h;have:(x==y)=false:=by simpa using e
    rw[this];refine kat_no ?_;by_cases hi:i=0
    ·subst hi;exact oneLt_int h
    ·have hb:(true&&i==0)=false:=by simp[hi]
     rw[hb];exact kat_one _ _ (lt_int h)
theorem keyLt_ok{Q:Bool->Shared->Prop}{x y:List Int}{a b:Addr}(hx:IsK prog w s.heap x a)(hy:IsK prog w s.heap y b)(h:Q (lx x y) s):wpAny (model prog w) A (keyLt' (tuples' true) (.ref a) (.ref b)) Q E s:=by
 obtain⟨o,its,n,ho,_,hd,hi⟩:=hx;obtain⟨o',its',n',ho',_,hd',hi'⟩:=hy;exact kat_lt ho hd ho' hd' (lex_ok x y its.toList its'.toList 0 _ hi hi' (.inl (by simp)) h)
def plt(ps:List (List Int×Addr))(i j:Nat):Bool:=lx ((ps.getD i ([],0)).1) ((ps.getD j ([],0)).1)
theorem plt_ord(ps:List (List Int×Addr))(n:Nat):Ord n (plt ps):=⟨fun a b _ _ h=>lx_asy h,fun a b c _ _ _ h1 h2=>lx_tra h1 h2⟩
def cmpP(n:Nat)(lt:Nat->Nat->Bool)(i j:Nat)(C:Bool->Shared->Prop)(s:Shared):Prop:=i<n/\j<n/\C (lt i j) s
theorem conv{α:Type}{n:Nat}{lt:Nat->Nat->Bool}{κ:SortKind}{vs:List Value}{Q:α->Shared->Prop}(ha:∀i j,i<n->j<n->∀C:Bool->Shared->Prop,C (lt i j) s->kas_ask prog w A κ vs i j C s):
  ∀t:KasT α,t.kasWp (cmpP n lt) Q s->t.kasWp (kas_ask prog w A κ vs) Q s
 |.ret a,h=>h
 |.ask i j k,h=>by
  obtain⟨h1,h2,h3⟩:=h;exact ha i j h1 h2 _ (conv ha (k (lt i j)) h3)
theorem getD_map{ps:List (List Int×Addr)}{i:Nat}(hi:i<ps.length):(ps.map fun p=>Value.ref p.2).getD i Value.none=.ref (ps.getD i ([],0)).2:=by
 simp[List.getD,hi]
theorem getD_mem{ps:List (List Int×Addr)}{i:Nat}(hi:i<ps.length):ps.getD i ([],0)∈ps:=by
 simp[List.getD,hi]
theorem ask_ok{ps:List (List Int×Addr)}(hk:∀p∈ps,IsK prog w s.heap p.1 p.2):∀i j,i<ps.length->j<ps.length->∀C:Bool->Shared->Prop,C (plt ps i j) s->kas_ask prog w A (tuples' true) (ps.map fun p=>Value.ref p.2) i j C s:=fun i j hi hj C h=>by
 unfold kas_ask;rw[getD_map hi,getD_map hj];exact keyLt_ok (hk _ (getD_mem hi)) (hk _ (getD_mem hj)) h
theorem tups_ok{h:Heap}:∀{ps:List (List Int×Addr)},(∀p∈ps,IsK prog w h p.1 p.2/\p.1≠[])->∃fs,KatTups h (ps.map fun p=>Value.ref p.2) fs/\fs.length=ps.length/\∀v∈fs,∃i t,v=.int i t
 |[],_=>⟨[],.nil,rfl,fun v hv=>nomatch hv⟩
 |p::ps,hk=>by
  obtain⟨fs,h1,h2,h3⟩:=tups_ok (ps:=ps) fun q hq=>hk q (List.mem_cons_of_mem _ hq);obtain⟨⟨o,its,n,ho,hc,hd,hi⟩,hne⟩:=hk p List.mem_cons_self;obtain⟨ks,a⟩:=p;cases ks with
  |nil=>exact absurd rfl hne
  |cons k ks=>
   obtain⟨its⟩:=its;cases hi with
   |cons h4 h5=>
    rename_i v vs;obtain⟨t,e⟩:=Value.isInt_shape h4;refine⟨v::fs,KatTups.cons ho hc hd (by simp) h1,by simp[h2],fun u hu=>?_⟩;rcases List.mem_cons.mp hu with q|q
    ·exact⟨k,t,q.trans e⟩
    ·exact h3 u q
theorem kind_ok{ps:List (List Int×Addr)}(hne:ps≠[])(hk:∀p∈ps,IsK prog w s.heap p.1 p.2/\p.1≠[]){Q:SortKind->Shared->Prop}(h:Q (tuples' true) s):wpAny (model prog w) A (keyKind' (ps.map fun p=>Value.ref p.2).toArray) Q E s:=by
 obtain⟨fs,h1,h2,h3⟩:=tups_ok hk;have hl:0<fs.length:=by
  rw[h2];exact List.length_pos_iff.mpr hne
 refine kat_kind (T:=.type "int") h1 hl (fun v hv=>?_) rfl h;obtain⟨i,t,rfl⟩:=h3 v hv;exact .now
structure Srt(ps qs:List (List Int×Addr)):Prop where
 perm:qs.Perm ps
 rise:qs.Pairwise fun x y=>lx y.1 x.1=false
theorem srt_of{ps:List (List Int×Addr)}{p:Array Nat}(v:Va ps.length p)(S:So (plt ps) p ps.length):Srt ps (p.toList.map fun i=>ps.getD i ([],0)):=by
 refine⟨?_,?_⟩
 ·refine (v.perm.map _).trans ?_;have:(List.range ps.length).map (fun i=>ps.getD i ([],0))=ps:=by
   refine List.ext_getElem? fun i=>?_;by_cases hi:i<ps.length
   ·simp[List.getElem?_map,List.getElem?_range hi,List.getD,hi]
   ·rw[List.getElem?_eq_none_iff.mpr (by simpa using hi),List.getElem?_eq_none_iff.mpr (by lia)]
  rw[this]
 ·rw[List.pairwise_map,List.pairwise_iff_getElem];intro i j hi hj hij;have hs:=v.size;have h1:i<ps.length:=by rw[←hs];simpa using hi
  have h2:j<ps.length:=by rw[←hs];simpa using hj
  have e1:p.toList[i]=g p i:=by
   have:=v.get h1;simp[g,Array.getD,hs,h1]
  have e2:p.toList[j]=g p j:=by simp[g,Array.getD,hs,h2]
  rw[e1,e2];exact S i j (Nat.le_of_lt hij) h2
theorem out_eq{ps:List (List Int×Addr)}{p:Array Nat}(v:Va ps.length p):(p.toList.map fun i=>(ps.map fun q=>Value.ref q.2).getD i Value.none)=(p.toList.map fun i=>ps.getD i ([],0)).map fun q=>Value.ref q.2:=by
 rw[List.map_map];refine List.map_congr_left fun i hi=>?_;have:i<ps.length:=by
  have:=v.perm.mem_iff.mp hi;simpa using this
 exact getD_map this
theorem isK_keep{h h':Heap}{ks:List Int}{a b:Addr}{its:Array Value}{n:Nat}(hb:h.get? b=some (seqObj "list" its n))(keep:∀c o,c≠b->h.get? c=some o->h'.get? c=some o)(hk:IsK prog w h ks a):IsK prog w h' ks a:=by
 obtain⟨o,it,m,ho,hc,hd,hi⟩:=hk;refine⟨o,it,m,keep a o (fun e=>?_) ho,hc,hd,hi⟩;rw[e,hb] at ho;cases ho;injection hc with hc
 exact absurd hc (by decide)
theorem list_sort_ok{a:Addr}{n:Nat}{ps:List (List Int×Addr)}{P:PySem.Fin->Shared->Prop}(ho:s.heap.get? a=some (seqObj "list" (ps.map fun p=>Value.ref p.2).toArray n))(hk:∀p∈ps,IsK prog w s.heap p.1 p.2/\p.1≠[])(h2:2≤ps.length)(h64:ps.length<64)
  (h:∀qs h' c,Srt ps qs->h'.get? a=some (seqObj "list" (qs.map fun p=>Value.ref p.2).toArray c)->(∀b o,b≠a->s.heap.get? b=some o->h'.get? b=some o)->P (.done (.ret .none)) { s with heap:=h' }):
  wpAny (model prog w) A (Builtin.«list.sort» ⟨[.ref a],[]⟩) P E s:=by
 have ha:a<s.heap.objs.size:=Heap.lt_size ho;have s1:=Heap.SameBut.update s.heap a (Obj.mapSeq fun _=>(#[]:Array Value));obtain⟨e1,ho1⟩:∃e1,(s.heap.update a (Obj.mapSeq fun _=>(#[]:Array Value))).get? a=some (seqObj "list" #[] e1):=⟨_,get?_update_seq ho fun _=>#[]⟩;generalize hvs:(ps.map fun p=>Value.ref p.2)=vs at ho;have hlen:vs.length=ps.length:=by rw[←hvs,List.length_map]
 have hu3:∀b o,b≠a->s.heap.get? b=some o->(((s.heap.update a (Obj.mapSeq fun _=>(#[]:Array Value))).push (seqObj "tuple" vs.toArray 0)).push (seqObj "list" #[] 0)).get? b=some o:=fun b o hb e=>
  Heap.get?_push_of_some _ (Heap.get?_push_of_some _ ((s1.2 b hb).trans e))
 have ho3:(((s.heap.update a (Obj.mapSeq fun _=>(#[]:Array Value))).push (seqObj "tuple" vs.toArray 0)).push (seqObj "list" #[] 0)).get? a=some (seqObj "list" #[] e1):=Heap.get?_push_of_some _ (Heap.get?_push_of_some _ ho1);rw[list_sort_plain];refine wpAny_bind (listItems_at ho rfl ?_);refine wpAny_bind (listUpdate_at ho rfl ?_ (by rw[List.size_toArray,sizeLine_eq];lia) (Nat.zero_le _));refine wpAny_bind (seqEpoch_at ho1 rfl ?_);refine wpAny_bind (wpAny_newTuple ?_ (by show vs.length≤_;rw[sizeLine_eq];lia));refine wpAny_bind (wpAny_newList ?_ (Nat.zero_le _));refine wpAny_holding ?_;show wpAny (model prog w) A _ P E { s with heap:=((s.heap.update a (Obj.mapSeq fun _=>(#[]:Array Value))).push (seqObj "tuple" vs.toArray 0)).push (seqObj "list" #[] 0)};generalize ((s.heap.update a (Obj.mapSeq fun _=>(#[]:Array Value))).push (seqObj "tuple" vs.toArray 0)).push (seqObj "list" #[] 0)=h3 at hu3 ho3 ⊢;have hk3:∀p∈ps,IsK prog w h3 p.1 p.2/\p.1≠[]:=fun p hp=>⟨isK_keep ho hu3 (hk p hp).1,(hk p hp).2⟩;dsimp only;have hn2:¬vs.toArray.size<2:=by rw[List.size_toArray];lia
 rw[if_neg hn2,if_neg hn2];have hne:ps≠[]:=fun z=>by rw[z] at h2;simp at h2
 refine wpAny_bind ?_;rw[←hvs];refine kind_ok (s:={ s with heap:=h3 }) hne hk3 ?_;have hsort:(kas_sort vs.length).kasWp (kas_ask prog w A (tuples' true) (ps.map fun p=>Value.ref p.2)) (fun p s'=>s'={ s with heap:=h3 }/\Va ps.length p/\So (plt ps) p ps.length) { s with heap:=h3 }:=by
  refine conv (lt:=plt ps) (n:=ps.length) (ask_ok (s:={ s with heap:=h3 }) fun p hp=>(hk3 p hp).1) _ ?_
  rw[hlen];exact sort_ok (plt_ord ps ps.length) (fun i j hi hj C s' hC=>⟨hi,hj,hC⟩) (by lia) fun p v S=>⟨rfl,v,S⟩
 have hsort:(kas_sort (ps.map fun p=>Value.ref p.2).length).kasWp (kas_ask prog w A (tuples' true) (ps.map fun p=>Value.ref p.2)) (fun p s'=>s'={ s with heap:=h3 }/\Va ps.length p/\So (plt ps) p ps.length) { s with heap:=h3 }:=by
  rw[hlen] at hsort;rw[List.length_map];exact hsort
 refine wpAny_bind (wpAny_mono (kat_run (Q:=fun st' s'=>∃p:Array Nat,p.size=(ps.map fun p=>Value.ref p.2).length/\arrOf st'=p.map (kas_item ((ps.map fun p=>Value.ref p.2).toArray.zip (ps.map fun p=>Value.ref p.2).toArray))/\failedOf st'=none/\s'={ s with heap:=h3 }/\Va ps.length p/\So (plt ps) p ps.length)
  rfl (by rw[List.length_map];exact h2) (by rw[List.length_map];exact h64) (fun p' st' s' a1 a2 a3 a4=>⟨p',a1,a2,a3,a4⟩) hsort) ?_ fun _ _ e=>e)
 rintro⟨⟨⟩,st'⟩ s' ⟨p,hp,har,hf,rfl,va,so⟩;dsimp only;have hout:=kat_snds rfl har;rw[out_eq va] at hout;have hS:=srt_of va so;generalize (p.toList.map fun i=>ps.getD i ([],0))=qs at hout hS;have hsz:(List.toArray (qs.map fun q=>Value.ref q.2)).size=ps.length:=by rw[List.size_toArray,List.length_map,hS.perm.length_eq]
 rw[hout];have s2:=Heap.SameBut.update h3 a (Obj.mapSeq fun _=>List.toArray (qs.map fun q=>Value.ref q.2));obtain⟨c2,hc2⟩:∃c2,(h3.update a (Obj.mapSeq fun _=>List.toArray (qs.map fun q=>Value.ref q.2))).get? a=some (seqObj "list" (List.toArray (qs.map fun q=>Value.ref q.2)) c2):=⟨_,get?_update_seq ho3 fun _=>List.toArray (qs.map fun q=>Value.ref q.2)⟩;refine wpAny_bind (seqEpoch_at ho3 rfl ?_);refine wpAny_bind (listUpdate_at ho3 rfl ?_ (Nat.zero_le _) (Nat.le_trans (Nat.le_of_eq hsz) (by rw[sizeLine_eq];lia)));rw[hf];simp only[bne_self_eq_false,Bool.false_eq_true,if_false];exact wpAny_pure (h qs _ c2 hS hc2 fun b o hb e=>(s2.2 b hb).trans (hu3 b o hb e))
theorem list_sort_few{a:Addr}{n:Nat}{vs:List Value}{P:PySem.Fin->Shared->Prop}(ho:s.heap.get? a=some (seqObj "list" vs.toArray n))(h2:vs.length<2)
  (h:∀h' c,h'.get? a=some (seqObj "list" vs.toArray c)->(∀b o,b≠a->s.heap.get? b=some o->h'.get? b=some o)->P (.done (.ret .none)) { s with heap:=h' }):
  wpAny (model prog w) A (Builtin.«list.sort» ⟨[.ref a],[]⟩) P E s:=by
 have s1:=Heap.SameBut.update s.heap a (Obj.mapSeq fun _=>(#[]:Array Value));obtain⟨e1,ho1⟩:∃e1,(s.heap.update a (Obj.mapSeq fun _=>(#[]:Array Value))).get? a=some (seqObj "list" #[] e1):=⟨_,get?_update_seq ho fun _=>#[]⟩;have hu3:∀b o,b≠a->s.heap.get? b=some o->(((s.heap.update a (Obj.mapSeq fun _=>(#[]:Array Value))).push (seqObj "tuple" vs.toArray 0)).push (seqObj "list" #[] 0)).get? b=some o:=fun b o hb e=>
  Heap.get?_push_of_some _ (Heap.get?_push_of_some _ ((s1.2 b hb).trans e))
 have ho3:(((s.heap.update a (Obj.mapSeq fun _=>(#[]:Array Value))).push (seqObj "tuple" vs.toArray 0)).push (seqObj "list" #[] 0)).get? a=some (seqObj "list" #[] e1):=Heap.get?_push_of_some _ (Heap.get?_push_of_some _ ho1);rw[list_sort_plain];refine wpAny_bind (listItems_at ho rfl ?_);refine wpAny_bind (listUpdate_at ho rfl ?_ (by rw[List.size_toArray,sizeLine_eq];lia) (Nat.zero_le _));refine wpAny_bind (seqEpoch_at ho1 rfl ?_);refine wpAny_bind (wpAny_newTuple ?_ (by show vs.length≤_;rw[sizeLine_eq];lia));refine wpAny_bind (wpAny_newList ?_ (Nat.zero_le _));refine wpAny_holding ?_;show wpAny (model prog w) A _ P E { s with heap:=((s.heap.update a (Obj.mapSeq fun _=>(#[]:Array Value))).push (seqObj "tuple" vs.toArray 0)).push (seqObj "list" #[] 0)};generalize ((s.heap.update a (Obj.mapSeq fun _=>(#[]:Array Value))).push (seqObj "tuple" vs.toArray 0)).push (seqObj "list" #[] 0)=h3 at hu3 ho3 ⊢;dsimp only;have hn2:vs.toArray.size<2:=by rw[List.size_toArray];lia
 rw[if_pos hn2,if_pos hn2];refine wpAny_bind (wpAny_pure ?_);rw[StateT.run_pure];refine wpAny_bind (wpAny_pure ?_);dsimp only;have hout:(arrOf (SortSt.mk' general' (vs.toArray.zip vs.toArray) #[] 7 none)).map (·.2)=vs.toArray:=by
  show (vs.toArray.zip vs.toArray).map (·.2)=vs.toArray;refine Array.ext (by simp) fun i h1 h2=>?_;simp
 rw[hout];have s2:=Heap.SameBut.update h3 a (Obj.mapSeq fun _=>vs.toArray);obtain⟨c2,hc2⟩:∃c2,(h3.update a (Obj.mapSeq fun _=>vs.toArray)).get? a=some (seqObj "list" vs.toArray c2):=⟨_,get?_update_seq ho3 fun _=>vs.toArray⟩;refine wpAny_bind (seqEpoch_at ho3 rfl ?_);refine wpAny_bind (listUpdate_at ho3 rfl ?_ (Nat.zero_le _) (by rw[List.size_toArray,sizeLine_eq];lia));simp only[bne_self_eq_false,Bool.false_eq_true,if_false];exact wpAny_pure (h _ c2 hc2 fun b o hb e=>(s2.2 b hb).trans (hu3 b o hb e))
theorem isK_kept{h h':Heap}{ks:List Int}{a:Addr}(keep:∀c o,h.get? c=some o->h'.get? c=some o)(hk:IsK prog w h ks a):IsK prog w h' ks a:=by
 obtain⟨o,it,m,ho,r⟩:=hk;exact⟨o,it,m,keep a o ho,r⟩
theorem sorted_of{l:Addr}{ps:List (List Int×Addr)}{Q:Value->Shared->Prop}(hk:∀p∈ps,IsK prog w s.heap p.1 p.2/\p.1≠[])(h64:ps.length<64)
  (hcol:∀(R:List Value->Shared->Prop),(∀s',Moved [] (fun x y=>y=x) s s'->R (ps.map fun p=>Value.ref p.2) s')->wpAny (model prog w) A.in1 (collect (.ref l)) R E s)
  (h:∀qs s' c D,Srt ps qs->s.heap.get? D=none->s'.heap.get? D=some (seqObj "list" (qs.map fun p=>Value.ref p.2).toArray c)->Moved [] (fun x y=>y=x) s s'->Q (.ref D) s'):
  wpAny (model prog w) A (call (.builtin "sorted") [.ref l]) Q E s:=by
 refine Calls.call_function_entry kind_sorted plain_sorted entry_sorted (args_sorted1 _) ?_;unfold Builtin.«sorted»;refine wpAny_bind (m:=checkCount "sorted" 1 1 _) (wpAny_pure ?_);refine wpAny_bind (hcol _ fun s1 hm=>?_);refine wpAny_bind (wpAny_newList ?_ (by rw[List.length_map,sizeLine_eq];lia));have hoL:(s1.heap.push (seqObj "list" (ps.map fun p=>Value.ref p.2).toArray 0)).get? s1.heap.objs.size=some (seqObj "list" (ps.map fun p=>Value.ref p.2).toArray 0):=Heap.get?_push_size _ rfl;have keep0:∀b o,s.heap.get? b=some o->s1.heap.get? b=some o:=fun b o e=>hm.heap b o (fun z=>nomatch z) e;have hfr:s.heap.get? s1.heap.objs.size=none:=by
  cases hz:s.heap.get? s1.heap.objs.size with
  |none=>rfl
  |some o=>exact absurd (Heap.lt_size (keep0 _ _ hz)) (Nat.lt_irrefl _)
 have keep:∀b o,s.heap.get? b=some o->(s1.heap.push (seqObj "list" (ps.map fun p=>Value.ref p.2).toArray 0)).get? b=some o:=fun b o e=>Heap.get?_push_of_some _ (keep0 b o e);show wpAny _ _ _ _ _ { s1 with heap:=s1.heap.push (seqObj "list" (ps.map fun p=>Value.ref p.2).toArray 0)};refine wpAny_bind (wpAny_holding (wpAny_call_entry slot_list_sort ⟨_,hoL,rfl⟩ entry_list_sort ?body (args_list_sort _)));have fin:∀qs h' c,Srt ps qs->h'.get? s1.heap.objs.size=some (seqObj "list" (qs.map fun p=>Value.ref p.2).toArray c)->(∀b o,b≠s1.heap.objs.size->(s1.heap.push (seqObj "list" (ps.map fun p=>Value.ref p.2).toArray 0)).get? b=some o->h'.get? b=some o)->Q (.ref s1.heap.objs.size) { s1 with heap:=h' }:=fun qs h' c hS e kk=>
  h qs _ c _ hS hfr e ⟨fun b o _ e1=>kk b o (Nat.ne_of_lt (Heap.lt_size (keep0 b o e1))) (keep b o e1),hm.gens,hm.drawn,hm.os,hm.toks⟩
 case body=>
  by_cases h2:2≤ps.length
  ·refine list_sort_ok (s:={ s1 with heap:=s1.heap.push (seqObj "list" (ps.map fun p=>Value.ref p.2).toArray 0)}) hoL (fun p hp=>⟨isK_kept keep (hk p hp).1,(hk p hp).2⟩) h2 h64 fun qs h' c hS e kk=>?_;exact⟨_,rfl,wpAny_pure ⟨_,rfl,fin qs h' c hS e kk⟩⟩
  ·refine list_sort_few (s:={ s1 with heap:=s1.heap.push (seqObj "list" (ps.map fun p=>Value.ref p.2).toArray 0)}) hoL (by rw[List.length_map];lia) fun h' c e kk=>?_;have hS:Srt ps ps:=⟨.refl _,by
    rcases ps with _|⟨x,_|⟨y,r⟩⟩
    ·exact .nil
    ·exact List.pairwise_singleton _ _
    ·simp at h2⟩
   exact⟨_,rfl,wpAny_pure ⟨_,rfl,fin ps h' c hS e kk⟩⟩
end
end SortV
namespace L3
open PySem PySem.Spec PyProof.Rows L2
structure Kit(T:String):Prop where
 non:∀K,PySem.W.kitOne K (.type "NoneType") (.type T)=some false
 bl:∀K,PySem.W.kitOne K (.type "bool") (.type T)=some (T=="bool" || T=="int")
 int:∀K,PySem.W.kitOne K (.type "int") (.type T)=some (T=="int")
 str:∀K,PySem.W.kitOne K (.type "str") (.type T)=some (T=="str")
 tup:∀K,PySem.W.kitOne K (.type "tuple") (.type T)=some (T=="tuple")
 lst:∀K,PySem.W.kitOne K (.type "list") (.type T)=some (T=="list")
 dct:∀K,PySem.W.kitOne K (.type "dict") (.type T)=some (T=="dict")
theorem kit_int:Kit "int":=⟨fun _=>rfl,fun _=>rfl,fun _=>rfl,fun _=>rfl,fun _=>rfl,fun _=>rfl,fun _=>rfl⟩
theorem kit_bool:Kit "bool":=⟨fun _=>rfl,fun _=>rfl,fun _=>rfl,fun _=>rfl,fun _=>rfl,fun _=>rfl,fun _=>rfl⟩
theorem kit_tuple:Kit "tuple":=⟨fun _=>rfl,fun _=>rfl,fun _=>rfl,fun _=>rfl,fun _=>rfl,fun _=>rfl,fun _=>rfl⟩
theorem kit_str:Kit "str":=⟨fun _=>rfl,fun _=>rfl,fun _=>rfl,fun _=>rfl,fun _=>rfl,fun _=>rfl,fun _=>rfl⟩
section
variable {X:Cx} {a e:Expr} {es:List Expr} {ta:TE3} {t:TA3} {pos p p2:Pos}
theorem call_isinst{T:String}(k:Kit T):CallR X (.builtin "isinstance") (fun vs H Q=>∃d v G b,vs=[v,.ty T]/\Hv X.K H d v/\RepG X.K G H/\instD T G d=some b/\Q (.bl b) H):=by
 intro pins s σ H vs us Q I r h;obtain⟨d,v,G,b,rfl,hd,RG,hb,q⟩:=h;obtain⟨u,c,rfl,ru,rc⟩:=vals2 r;cases (show c=Value.type T from rc);have fin:∀tk,EP X pins σ Q (.bool b) { s with toks:=tk }:=fun tk=>⟨.bl b,H,I.tok tk,rfl,q⟩
 cases d with
 |non=>
  unfold Hv at hd;subst hd;cases (show u=Value.none from ru);cases hb;exact PySem.W.kia_one PySem.W.kitx_none I.kIn True.intro (k.non _) (fun z=>nomatch z) fin
 |bl y=>
  rw[hv_bl hd] at ru;cases (show u=Value.bool y from ru);cases hb;exact PySem.W.kia_one PySem.W.kitx_bool I.kIn True.intro (k.bl _) (fun z=>nomatch z) fin
 |int y=>
  rw[hv_int hd] at ru;obtain⟨t,rfl⟩:=(show ∃t,u=Value.int y t from ru);cases hb;exact PySem.W.kia_one PySem.W.kitx_int I.kIn True.intro (k.int _) (fun z=>nomatch z) fin
 |str y=>
  unfold Hv at hd;subst hd;obtain⟨t,rfl⟩:=(show ∃t,u=Value.str y t from ru);cases hb;exact PySem.W.kia_one PySem.W.kitx_str I.kIn True.intro (k.str _) (fun z=>nomatch z) fin
 |tup ds=>
  obtain⟨x,xs,rfl,e1,_⟩:=hv_tup hd;cases (show u=Value.ref x from ru);cases hb;obtain⟨its,_,⟨o,h1,h2,_⟩,_⟩:=I.tuple e1;exact PySem.W.kia_one PySem.W.kitx_tuple I.kIn ⟨o,h1,h2⟩ (k.tup _) (fun z=>nomatch z) fin
 |scr ds=>
  obtain⟨x,xs,rfl,e1,_⟩:=hv_scr hd;cases (show u=Value.ref x from ru);cases hb;obtain⟨its,_,p1,_⟩:=I.list e1.l;obtain⟨o,h1,h2,_⟩:=p1.isList;exact PySem.W.kia_one PySem.W.kitx_list I.kIn ⟨o,h1,h2⟩ (k.lst _) (fun z=>nomatch z) fin
 |dc x=>
  unfold Hv at hd;obtain⟨rfl,ob,φ,e1,c⟩:=hd;cases (show u=Value.ref x from ru);cases hb;obtain⟨h1,_⟩:=I.hok x _ e1;exact PySem.W.kia_one PySem.W.kitx_dict I.kIn ⟨ob,h1,c⟩ (k.dct _) (fun z=>nomatch z) fin
 |obj x=>
  rw[hv_obj hd] at ru;cases (show u=Value.ref x from ru);unfold instD at hb;cases hG:G x with
  |none=>simp[hG] at hb
  |some o=>
   have hl:∀xs,H x=some (.lst xs)->∃o,s.heap.get? x=some o/\o.cls=.type "list":=fun xs e=>by
    obtain⟨_,_,n,_,h1⟩:=(show ObjOk X.prog X.w H s.heap x (.lst xs) from I.hok x _ e);exact⟨_,h1,rfl⟩
   cases o with
   |lst ds=>
    simp only[hG] at hb;cases hb;obtain⟨vs,e1,_⟩:=RG x _ hG;obtain⟨o,h1,h2⟩:=hl _ e1;exact PySem.W.kia_one PySem.W.kitx_list I.kIn ⟨o,h1,h2⟩ (k.lst _) (fun z=>nomatch z) fin
   |pen=>
    simp only[hG] at hb;cases hb;obtain⟨_,_,_,e1,_⟩:=RG x _ hG;obtain⟨o,h1,h2⟩:=hl _ e1;exact PySem.W.kia_one PySem.W.kitx_list I.kIn ⟨o,h1,h2⟩ (k.lst _) (fun z=>nomatch z) fin
   |gen R=>simp[hG] at hb
   |dct=>
    simp only[hG] at hb;cases hb;have e1:H x=some (.ext fun h=>∃o,h.get? x=some o/\o.cls=.type "dict"):=RG x _ hG;obtain⟨⟨o,h1,h2⟩,_⟩:=(show ObjOk X.prog X.w H s.heap x _ from I.hok x _ e1);exact PySem.W.kia_one PySem.W.kitx_dict I.kIn ⟨o,h1,h2⟩ (k.dct _) (fun z=>nomatch z) fin
theorem e_inst{T:String}{TS:Str}(k:Kit T)(hv:bootBuiltins TS=some (.type T))(ha:PE3 X a ta)(hm:X.mg "isinstance" = none)(hm2:X.mg TS=none)(hgT:Gl X TS)(hnT:TS≠"__name__")(hdT:(TS==("__debug__":Str))=false)(hg:Gl X "isinstance":=by rfl)
  (he:notStar a=true:=by rfl):
  PE3 X (.Call (.Name "isinstance" p) [a,.Name TS p2] [] pos) (eInst T ta):=
 pe_of (pe_callB (call_isinst k) hg hm rfl (pa_cons ha (pa_cons (pe_bltn (v:=.ty T) hgT hm2 hv rfl hnT hdT) pa_nil (star_of rfl)) (star_of he)) (he:=star_of he) (hpl:=star_any rfl)) fun σ H Q ⟨τ,G,Q3,RS,RG,h,k⟩=>by
  refine⟨τ,G,_,RS,RG,h,fun v H1 d G1 h1 S1 R1 q1=>?_⟩;cases hb:instD T G1 d with
  |none=>rw[hb] at q1;exact q1.elim
  |some b=>
   rw[hb] at q1;exact⟨d,v,G1,b,rfl,h1,R1,hb,k _ H1 (.bl b) G1 mk_bl S1 R1 q1⟩
end
def tupI(ns:List Int):D:=.tup (ns.map D.int)
section
variable {P:Program} {w:World} {H:Hp} {h:Heap} {a:Addr} {o:HO}
theorem objOk_there(x:ObjOk P w H h a o):∃o,h.get? a=some o:=by
 cases o with
 |lst xs=>obtain⟨_,_,_,_,e⟩:=x;exact⟨_,e⟩
 |tup xs=>obtain⟨_,_,_,o,e,_⟩:=x;exact⟨_,e⟩
 |dK kvs=>obtain⟨_,_,_,_,o,_,_,e,_⟩:=x;exact⟨_,e⟩
 |dT kvs=>obtain⟨_,_,_,_,o,_,_,e,_⟩:=x;exact⟨_,e⟩
 |set S n=>obtain⟨o,_,_,_,e,_⟩:=x;exact⟨_,e⟩
 |ins C dx fs=>obtain⟨_,_,_,e,_⟩:=x;exact⟨_,e⟩
 |own y=>obtain⟨_,e⟩:=x;exact⟨_,e⟩
 |xd fs=>obtain⟨_,⟨_,_,_,e,_⟩,_⟩:=x;exact⟨_,e⟩
 |rng lo hi=>obtain⟨_,_,_,e⟩:=x;exact⟨_,e⟩
 |frz ob u=>obtain⟨e,_⟩:=x;exact⟨_,e⟩
 |tbl ps=>exact⟨_,(show h.get? a=some _ from x)⟩
 |met f y=>exact⟨_,(show h.get? a=some _ from x)⟩
 |ext φ=>obtain⟨_,⟨_,e⟩,_⟩:=x;exact⟨_,e⟩
end
section
variable {X:Cx} {pins:List (Addr×Obj)} {σ:L2.St} {H:Hp} {s:Shared}
theorem Inv.freeN(I:Inv X pins σ H s){a:Addr}(hn:s.heap.get? a=none):H a=none:=by
 cases e:H a with
 |none=>rfl
 |some o=>
  obtain⟨ob,h⟩:=objOk_there (I.hok a o e);rw[hn] at h;cases h
theorem Inv.laidN{a:Addr}{o:HO}{t':Nat}{h':Heap}(I:Inv X pins σ H s)(k:∀b u,s.heap.get? b=some u->h'.get? b=some u)(hn:s.heap.get? a=none)(new:ObjOk X.prog X.w (upd H a o) h' a o):
  Inv X pins σ (upd H a o) { s with heap:=h',toks:=t' }:=by
 have hH:=Inv.freeN I hn;have ne:∀b u,s.heap.get? b=some u->b≠a:=fun b u e z=>by rw[z,hn] at e;cases e
 refine I.un ⟨fun b u q _ _ _=>k b u q,fun b u q _ _ _=>⟨u.slots,k b u q⟩,fun b u q n _=>by rw[upd_ne (ne b u q)];exact n,fun b u q _=>⟨u,k b u q⟩,fun b xs q=>by rw[upd_ne (ne_of_none q hH)];exact q,
  fun b u xs q=>by rw[upd_ne (ne_of_none q hH)];exact q,fun b ps q=>⟨#[],by rw[upd_ne (ne_of_none q hH),q];simp⟩⟩ fun b u e=>?_
 by_cases hb:b=a
 ·subst hb;rw[upd_same] at e;cases e;exact new
 ·rw[upd_ne hb] at e;exact (I.hok b u e).stay (fun c v _ q=>k c v q) (fun c q=>by rw[upd_ne (ne_of_none q hH)];exact q) fun c xs q=>by rw[upd_ne (ne_of_none q hH)];exact q
theorem items_of{ns:List Int}:∀{us:List Value},Vals (ns.map V.int) us->ItemsAre (intKind X.prog X.w) ns us:=by
 induction ns with
 |nil=>intro us r;cases r;exact .nil
 |cons n ns ih=>
  intro us r;cases r with
  |cons r1 r2=>
   obtain⟨t,rfl⟩:=(show ∃t,_=Value.int n t from r1);exact .cons (by show Value.isInt n (.int n t)=true;simp[Value.isInt]) (ih r2)
theorem pairs_of(I:Inv X pins σ H s):∀{nss:List (List Int)} {vs:List V} {us:List Value},Hvs X.K H (nss.map tupI) vs->Vals vs us ->
  ∃ps:List (List Int×Addr),ps.map (·.1)=nss/\vs=ps.map (fun p=>.ref p.2)/\us=ps.map (fun p=>Value.ref p.2)/\∀p∈ps,SqT X.K H p.2 (p.1.map V.int)/\SetM.IsK X.prog X.w s.heap p.1 p.2
 |[],vs,us,h,r=>by
  cases h.inv0;cases r;exact⟨[],rfl,rfl,rfl,fun p hp=>nomatch hp⟩
 |ns::nss,vs,us,h,r=>by
  obtain⟨v,vr,rfl,q1,q2⟩:=h.inv;cases r with
  |cons r1 r2=>
   obtain⟨ps,e1,e2,e3,e4⟩:=pairs_of I q2 r2;obtain⟨a,ws,rfl,z1,z2⟩:=hv_tup q1;have hw:ws=ns.map V.int:=by
    refine intsOf_vals z2 ?_;clear z2 z1 q1 h e1 e2 e3 e4 q2 r2 r1
    induction ns with
    |nil=>rfl
    |cons n ns ih=>simp[intsOf,ih]
   subst hw;cases (show _=Value.ref a from r1);obtain⟨its,rv,⟨o,h1,h2,n,h3⟩,_⟩:=I.tuple z1;refine⟨(ns,a)::ps,by simp[e1],by simp[e2],by simp[e3],fun p hp=>?_⟩;rcases List.mem_cons.mp hp with rfl|hp
   ·exact⟨z1,o,its.toArray,n,h1,h2,h3,items_of rv⟩
   ·exact e4 p hp
theorem hvs_pairs{K:PySem.W.Frag}{H:Hp}:∀{qs:List (List Int×Addr)},(∀p∈qs,SqT K H p.2 (p.1.map V.int))->Hvs K H ((qs.map (·.1)).map tupI) (qs.map fun p=>.ref p.2)
 |[],_=>.nil
 |q::qs,h=>.cons (mk_tup (h q List.mem_cons_self) (Hvs.ints _)) (hvs_pairs fun p hp=>h p (List.mem_cons_of_mem _ hp))
theorem vals_refs:∀(qs:List (List Int×Addr)),Vals (qs.map fun p=>V.ref p.2) (qs.map fun p=>Value.ref p.2)
 |[]=>.nil
 |q::qs=>.cons rfl (vals_refs qs)
def RiseL(nss:List (List Int)):Prop:=nss.Pairwise fun x y=>SortV.lx y x=false
theorem sorted_end{Q:VK}(I:Inv X pins σ H s){ps qs:List (List Int×Addr)}{s':Shared}{c:Nat}{D':Addr}(hz:ps.length<64)(hS:SortV.Srt ps qs)(hn:s.heap.get? D'=none)(hD:s'.heap.get? D'=some (seqObj "list" (qs.map fun p=>Value.ref p.2).toArray c))
  (hm:Moved [] (fun x y=>y=x) s s') (q:H D'=none->Q (.ref D') (upd H D' (.lst (qs.map fun p=>.ref p.2)))):EP X pins σ Q (.ref D') s':=by
 have e:s'={ s with heap:=s'.heap,toks:=s'.toks }:=by
  cases s';cases s;have h1:=hm.gens;have h2:=hm.drawn;have h3:=hm.os;simp only at h1 h2 h3;subst h1 h2 h3;rfl
 rw[e];refine⟨.ref D',_,Inv.laidN I (o:=.lst (qs.map fun p=>.ref p.2)) (fun b u z=>hm.heap b u (fun y=>nomatch y) z) hn ?_,rfl,q (Inv.freeN I hn)⟩;refine⟨?_,_,c,vals_refs qs,hD⟩;rw[List.length_map,hS.perm.length_eq,sizeLine_eq];lia
end
end L3
namespace L3
open PySem PySem.Spec PyProof.Rows L2
def setφ(P:Program)(w:World)(b:Addr)(zs:List (List Int×Addr)):Heap->Prop:=fun h=>∃o es ep t,h.get? b=some o/\o.ExactSet/\o.data=.set es ep t/\es.toList=zs.map (SetM.ent P w)/\(zs.map (·.1)).Nodup/\t.plain=true ∧
 t.led=(!(w.params.followText "set-order"))/\SetP.Tab t (es.toList.map (·.1))
theorem perm_map_ex{α β:Type}{f:α->β}{l l':List β}(h:l.Perm l'):∀{zs:List α},l'=zs.map f->∃zs':List α,zs'.Perm zs/\l=zs'.map f:=by
 induction h with
 |nil=>
  intro zs e;have:zs=[]:=by simpa using e.symm
  subst this;exact⟨[],.nil,rfl⟩
 |cons x _ ih=>
  intro zs e;cases zs with
  |nil=>cases e
  |cons z zs=>
   simp only[List.map_cons,List.cons.injEq] at e;obtain⟨zs',h1,h2⟩:=ih e.2;exact⟨z::zs',h1.cons z,by simp[e.1,h2]⟩
 |swap x y l=>
  intro zs e;rcases zs with _|⟨z,_|⟨z2,zs⟩⟩
  ·cases e
  ·simp at e
  ·simp only[List.map_cons,List.cons.injEq] at e;exact⟨z2::z::zs,.swap _ _ _,by simp[e.1,e.2.1,e.2.2]⟩
 |trans _ _ ih1 ih2=>
  intro zs e;obtain⟨z2,h1,h2⟩:=ih2 e;obtain⟨z1,h3,h4⟩:=ih1 h2;exact⟨z1,h3.trans h1,h4⟩
section
variable {X:Cx}
theorem call_setR(hc:X.calm=true)(hu:X.A.units+64<cLine):CallR X (.type "set") (fun vs H Q=>∃(a:Addr) (xs:List V) (nss:List (List Int)),vs=[.ref a]/\SqL X.K H a xs/\Hvs X.K H (nss.map tupI) xs/\nss.length≤60 ∧
  ∀(b:Addr) (zs:List (List Int×Addr)),H b=none->(∀p∈zs,SqT X.K H p.2 (p.1.map V.int))->(∀ns,ns∈zs.map (·.1)↔ns∈nss)->(zs.map (·.1)).Nodup->zs.length≤nss.length->Q (.ref b) (upd H b (.ext (setφ X.prog X.w b zs)))):=by
 intro pins s σ H vs us Q I r h;obtain⟨a,xs,nss,rfl,hl,hv,hz,q⟩:=h;obtain⟨u,rfl,ru⟩:=vals1 r;cases ru;obtain⟨its,rv,pl,_⟩:=I.list hl;obtain⟨ps,e1,e2,e3,e4⟩:=pairs_of I hv rv;subst e3;have hlen:ps.length=nss.length:=by rw[←e1,List.length_map]
 refine SetM.call_set_tups (ps:=ps) (I.ok.hd hc) pl.isList rfl (fun p hp=>(e4 p hp).2) (by lia) (by lia) fun h' tk zs kk hS hD=>?_;obtain⟨o,es,ep,t,S,T⟩:=hS;refine⟨.ref s.heap.objs.size,_,I.laid (o:=.ext (setφ X.prog X.w s.heap.objs.size zs)) kk (Nat.le_refl _) ?_,rfl,q _ zs (I.hok.fresh (Nat.le_refl _)) (fun p hp=>(e4 p (hD.sub p hp)).1) (fun ns=>?_) S.nd ?_⟩
 ·refine⟨⟨o,es,ep,t,S.at_,S.ex,S.dat,S.ents,S.nd,S.plain,S.led,T⟩,⟨o,S.at_⟩,fun h1 h2 ⟨o',es',ep',t',y1,y⟩ kk2=>⟨o',es',ep',t',kk2 _ y1,y⟩⟩
 ·rw[←e1];constructor
  ·intro hm;obtain⟨p,hp,rfl⟩:=List.mem_map.mp hm;exact List.mem_map.mpr ⟨p,hD.sub p hp,rfl⟩
  ·intro hm;obtain⟨p,hp,rfl⟩:=List.mem_map.mp hm;exact hD.all p hp
 ·rw[←hlen];exact hD.len
theorem call_sortedS(hc:X.calm=true)(hu:X.A.units+64<cLine):CallR X (.builtin "sorted") (fun vs H Q=>∃(b:Addr) (zs:List (List Int×Addr)),vs=[.ref b]/\H b=some (.ext (setφ X.prog X.w b zs))/\(∀p∈zs,SqT X.K H p.2 (p.1.map V.int))/\zs.length≤60/\(∀p∈zs,p.1≠[]) ∧
  ∀(p:Addr) (mss:List (List Int)) (ys:List V),H p=none->mss.Perm (zs.map (·.1))->RiseL mss->Hvs X.K H (mss.map tupI) ys->Q (.ref p) (upd H p (.lst ys))):=by
 intro pins s σ H vs us Q I r h;obtain⟨b,zs,rfl,hb,hk,hz,hne,q⟩:=h;obtain⟨u,rfl,ru⟩:=vals1 r;cases ru;obtain⟨⟨o,es,ep,t,y1,y2,y3,y4,y5,y6,y7,T⟩,_⟩:=(show ObjOk X.prog X.w H s.heap b _ from I.hok b _ hb);have hK:∀p∈zs,SetM.IsK X.prog X.w s.heap p.1 p.2:=fun p hp=>by
  obtain⟨its,rv,⟨o,h1,h2,n,h3⟩,_⟩:=I.tuple (hk p hp);exact⟨o,its.toArray,n,h1,h2,h3,items_of rv⟩
 have S:SetM.SetAt X.prog X.w s.heap b o es ep t zs:=⟨y1,y2,y3,y4,hK,y5,y6,y7⟩;obtain⟨zs',p1,p2⟩:=perm_map_ex (SetM.walkL_perm X.w b ep es) y4;have hsz:es.size=zs.length:=by
  have:es.toList.length=zs.length:=by rw[y4,List.length_map]
  simpa using this
 refine SortV.sorted_of (ps:=zs') (fun p hp=>⟨hK p (p1.mem_iff.mp hp),hne p (p1.mem_iff.mp hp)⟩) (by rw[p1.length_eq];lia) (fun R hR=>?_) fun qs s' c D' hS hn hD hm=>?_
 ·refine SetM.wp_collect_set (by have:=I.ok.hd hc;simpa using this) S T (by lia) fun s' hm=>?_;have:=hR s' hm;rw[p2,List.map_map];exact this
 ·refine sorted_end I (by rw[p1.length_eq];lia) hS hn hD hm fun hf=>?_;refine q _ (qs.map (·.1)) _ hf ((hS.perm.map _).trans (p1.map _)) ?_ (hvs_pairs fun p hp=>hk p (p1.mem_iff.mp (hS.perm.mem_iff.mp hp)));exact List.pairwise_map.mpr hS.rise
end
section
variable {X:Cx} {K:PySem.W.Frag} {e:Expr} {es:List Expr} {t:TA3} {ta:TE3} {pos p p' pos':Pos}
def r_sorted:C3:=fun ds G Q=>match ds with
 |[.obj a]=>∃nss:List (List Int),G a=some (.lst (nss.map tupI))/\nss.length<64/\(∀ns∈nss,ns≠[])/\∀(p:Addr) (mss:List (List Int)) (G':Gp),New G p (.lst (mss.map tupI)) G'->mss.Perm nss->RiseL mss->Q (.obj p) G'
 |_=>False
def eSortSet(ta:TE3):TE3:=fun τ G Q=>ta τ G fun x G1=>match x with
 |.obj a=>∃nss:List (List Int),G1 a=some (.lst (nss.map tupI))/\nss.length≤60/\(∀ns∈nss,ns≠[])/\∀(p:Addr) (mss:List (List Int)) (G':Gp),New G1 p (.lst (mss.map tupI)) G'->(∀ns,ns∈mss↔ns∈nss)->mss.Nodup->RiseL mss->mss.length≤nss.length->Q (.obj p) G'
 |_=>False
theorem e_sortSet(hu:X.A.units+64<cLine)(ha:PE3 X e ta)(hm:X.mg "sorted" = none)(hm2:X.mg "set" = none)(hc:X.calm=true:=by rfl)(hg:Gl X "sorted":=by rfl)(hg2:Gl X "set":=by rfl)(he2:notStar e=true:=by rfl):
  PE3 X (.Call (.Name "sorted" p) [.Call (.Name "set" p') [e] [] pos'] [] pos) (eSortSet ta):=
 pe_of (pe_callB (call_sortedS hc hu) hg hm rfl (pa_cons (pe_callTy (call_setR hc hu) hg2 hm2 rfl (pa_cons ha pa_nil (star_of he2)) (he:=star_of he2) (hpl:=star_any rfl)) pa_nil (star_of rfl)) (he:=star_of rfl) (hpl:=star_any rfl)) fun σ H Q ⟨τ,G,Q3,RS,RG,h,k⟩=>by
  refine⟨τ,G,_,RS,RG,h,fun v H1 d G1 h1 S1 R1 q1=>?_⟩;cases d with
  |obj a=>
   obtain⟨nss,e1,hz,hne,q⟩:=q1;obtain⟨xs,e2,e3⟩:=R1 a _ e1;rw[hv_obj h1];refine⟨a,xs,nss,rfl,.of e2,e3,hz,fun b zs hb hk hmem hnd hlen=>?_⟩;have E2:Ext H1 (upd H1 b (.ext (setφ X.prog X.w b zs))):=.laid hb;refine⟨b,zs,rfl,upd_same,fun p hp=>SqT.ext E2 (hk p hp),by lia,fun p hp=>hne _ ((hmem _).mp (List.mem_map.mpr ⟨p,hp,rfl⟩)),fun p mss ys hp hpm hr hv=>?_⟩;have R2:RepG X.K G1 (upd H1 b (.ext (setφ X.prog X.w b zs))):=R1.laid hb;refine k _ _ (.obj p) _ mk_obj ((S1.trans (.laid hb)).trans (.laidG hp)) (R2.newL hp hv) (q p mss _ (.mk' (R2.free hp)) (fun ns=>?_) ?_ hr ?_)
   ·rw[hpm.mem_iff];exact hmem ns
   ·exact hpm.nodup_iff.mpr hnd
   ·rw[hpm.length_eq,List.length_map];exact hlen
  |_=>exact q1.elim
def blsOf:List D->Option (List Bool)
 |[]=>some []
 |.bl b::r=>(blsOf r).map (b::·)
 |_::_=>none
theorem blsOf_vals{H:Hp}:∀{ds:List D} {vs:List V} {bs:List Bool},Hvs K H ds vs->blsOf ds=some bs->vs=bs.map V.bl
 |[],vs,ns,h,e=>by
  cases e;exact h.inv0
 |d::ds,vs,ns,h,e=>by
  cases d with
  |bl i=>
   obtain⟨v,r,rfl,z1,z2⟩:=h.inv;unfold blsOf at e;cases hm:blsOf ds with
   |none=>rw[hm] at e;cases e
   |some ms=>
    rw[hm] at e;cases e;rw[hv_bl z1,blsOf_vals z2 hm];rfl
  |_=>cases e
theorem vals_bls:∀{bs:List Bool} {us:List Value},Vals (bs.map V.bl) us->us=bs.map Value.bool
 |[],_,.nil=>rfl
 |b::bs,_,.cons r rr=>by
  rw[(show _=Value.bool b from r),vals_bls rr];rfl
theorem range_all(bs:List Bool):(List.range bs.length).all (fun i=>bs.getD i false)=bs.all id:=by
 rw[Bool.eq_iff_iff];simp only[List.all_eq_true,List.mem_range,id_eq];constructor
 ·intro h b hb;obtain⟨i,hi,rfl⟩:=List.mem_iff_getElem.mp hb;have:=h i hi;simpa [List.getD,hi] using this
 ·intro h i hi;have:=h bs[i] (List.getElem_mem hi);simpa [List.getD,hi] using this
theorem range_any(bs:List Bool):(List.range bs.length).any (fun i=>bs.getD i false)=bs.any id:=by
 rw[Bool.eq_iff_iff];simp only[List.any_eq_true,List.mem_range,id_eq];constructor
 ·rintro⟨i,hi,h⟩;exact⟨bs[i],List.getElem_mem hi,by simpa [List.getD,hi] using h⟩
 ·rintro⟨b,hb,h⟩;obtain⟨i,hi,rfl⟩:=List.mem_iff_getElem.mp hb;exact⟨i,hi,by simpa [List.getD,hi] using h⟩
theorem walk_l(hc:X.calm=true){pins:List (Addr×Obj)}{s:Shared}{σ:L2.St}{H:Hp}{a:Addr}{xs:List V}{E:Value->Shared->Prop}(I:Inv X pins σ H s)(hl:SqL X.K H a xs){Q:Value->Shared->Prop}
  (q:∀(its:List Value) (I':Addr),Vals xs its->WalksS X.prog X.w X.A.in1 I' [I',a] [I'] (fun x y=>y=x) its.length (fun i v=>its[i]?=some v) (fun i s=>s.heap.IsListIter I' a i/\s.heap.IsList a its.toArray) ->
   (s.heap.push { cls:=.type "list_iterator",data:=.fields #[.ref a,.int 0 0]}).IsListIter I' a 0->(s.heap.push { cls:=.type "list_iterator",data:=.fields #[.ref a,.int 0 0]}).IsList a its.toArray ->
   (∀b∈[I',a],b<(s.heap.push { cls:=.type "list_iterator",data:=.fields #[.ref a,.int 0 0]}).objs.size) ->
   (∀s',Moved [I'] (fun x y=>y=x) { s with heap:=s.heap.push { cls:=.type "list_iterator",data:=.fields #[.ref a,.int 0 0]}} s'->Inv X pins σ H s')->Q (.ref I') { s with heap:=s.heap.push { cls:=.type "list_iterator",data:=.fields #[.ref a,.int 0 0]}}):
  wpAny (model X.prog X.w) X.A.in1 (pyIter (.ref a)) Q E s:=by
 obtain⟨its,rv,pl,_⟩:=I.list hl;have hla:a<s.heap.objs.size:=by
  obtain⟨o,h1,_⟩:=pl.isList;exact Heap.lt_size h1
 refine wpAny_pyIter_list pl.isList ?_;have hW:=(Walks.list (prog:=X.prog) (w:=X.w) (A:=X.A.in1) (by have:=I.ok.hd hc;simpa using this) s.heap.objs.size a (Nat.ne_of_lt hla) its.toArray).toS;refine q its s.heap.objs.size rv (by simpa using hW) ⟨_,Heap.get?_push_size _ rfl,rfl,rfl⟩ ?_ ?_ fun s' hm=>?_
 ·obtain⟨o,h1,h2⟩:=pl.isList;exact⟨o,Heap.get?_push_of_some _ h1,h2⟩
 ·intro b hb;rw[size_push'];rcases List.mem_cons.mp hb with e|e
  ·rw[e];exact Nat.lt_succ_self _
  ·have:b=a:=by simpa using e
   rw[this];exact Nat.lt_succ_of_lt hla
 ·have e:s'={ s with heap:=s'.heap,toks:=s'.toks }:=by
   cases s';cases s;have h1:=hm.gens;have h2:=hm.drawn;have h3:=hm.os;simp only at h1 h2 h3;subst h1 h2 h3;rfl
  rw[e];exact I.kept fun b u z=>hm.heap b u (fun y=>by
   have:b=s.heap.objs.size:=by simpa using y
   exact absurd (this▸Heap.lt_size z) (Nat.lt_irrefl _)) (Heap.get?_push_of_some _ z)
theorem call_allR(hc:X.calm=true):CallR X (.builtin "all") (fun vs H Q=>∃(a:Addr) (bs:List Bool),vs=[.ref a]/\SqL X.K H a (bs.map V.bl)/\Q (.bl (bs.all id)) H):=by
 intro pins s σ H vs us Q I r h;obtain⟨a,bs,rfl,hl,q⟩:=h;obtain⟨u,rfl,ru⟩:=vals1 r;cases ru;refine call_all_walkS (walk_l hc I hl fun its I' rv W h1 h2 h3 back=>⟨I',_,_,_,_,_,_,fun i=>bs.getD i false,rfl,W,⟨h1,h2⟩,?_,fun s' hm=>?_⟩)
 ·intro i v s' Q' E' hv hq;have hx:=vals_bls rv;subst hx;rw[List.getElem?_map] at hv;cases hb:bs[i]? with
  |none=>rw[hb] at hv;cases hv
  |some b=>
   rw[hb] at hv;cases hv;have:bs.getD i false=b:=by simp[List.getD,hb]
   dsimp only at hq;rw[this] at hq;exact wpAny_truthy_bool hq
 ·have:its.length=bs.length:=by rw[←rv.length,List.length_map]
  rw[this,range_all];exact⟨.bl (bs.all id),H,back s' hm,rfl,q⟩
theorem call_anyR(hc:X.calm=true):CallR X (.builtin "any") (fun vs H Q=>∃(a:Addr) (bs:List Bool),vs=[.ref a]/\SqL X.K H a (bs.map V.bl)/\Q (.bl (bs.any id)) H):=by
 intro pins s σ H vs us Q I r h;obtain⟨a,bs,rfl,hl,q⟩:=h;obtain⟨u,rfl,ru⟩:=vals1 r;cases ru;refine call_any_walkS (walk_l hc I hl fun its I' rv W h1 h2 h3 back=>⟨I',_,_,_,_,_,_,fun i=>bs.getD i false,rfl,W,⟨h1,h2⟩,?_,fun s' hm=>?_⟩)
 ·intro i v s' Q' E' hv hq;have hx:=vals_bls rv;subst hx;rw[List.getElem?_map] at hv;cases hb:bs[i]? with
  |none=>rw[hb] at hv;cases hv
  |some b=>
   rw[hb] at hv;cases hv;have:bs.getD i false=b:=by simp[List.getD,hb]
   dsimp only at hq;rw[this] at hq;exact wpAny_truthy_bool hq
 ·have:its.length=bs.length:=by rw[←rv.length,List.length_map]
  rw[this,range_any];exact⟨.bl (bs.any id),H,back s' hm,rfl,q⟩
def r_all:C3:=fun ds G Q=>match ds with
 |[.obj a]=>∃xs bs,G a=some (.lst xs)/\blsOf xs=some bs/\Q (.bl (bs.all id)) G
 |_=>False
def r_any:C3:=fun ds G Q=>match ds with
 |[.obj a]=>∃xs bs,G a=some (.lst xs)/\blsOf xs=some bs/\Q (.bl (bs.any id)) G
 |_=>False
theorem l_all:LowC K r_all (fun vs H Q=>∃(a:Addr) (bs:List Bool),vs=[.ref a]/\SqL K H a (bs.map V.bl)/\Q (.bl (bs.all id)) H):=fun ds vs G H Q3 Q h RG q k=>by
 rcases ds with _|⟨d,_|⟨d2,ds⟩⟩
 ·exact q.elim
 ·obtain⟨v,rfl,hv⟩:=hvs1 h;cases d with
  |obj a=>
   obtain⟨xs,bs,e1,e2,q⟩:=q;obtain⟨ys,e3,e4⟩:=RG a _ e1;rw[hv_obj hv];rw[blsOf_vals e4 e2] at e3;exact⟨a,bs,rfl,.of e3,k _ H _ G mk_bl (.refl H G) RG q⟩
  |_=>exact q.elim
 ·cases d<;>exact q.elim
theorem l_any:LowC K r_any (fun vs H Q=>∃(a:Addr) (bs:List Bool),vs=[.ref a]/\SqL K H a (bs.map V.bl)/\Q (.bl (bs.any id)) H):=fun ds vs G H Q3 Q h RG q k=>by
 rcases ds with _|⟨d,_|⟨d2,ds⟩⟩
 ·exact q.elim
 ·obtain⟨v,rfl,hv⟩:=hvs1 h;cases d with
  |obj a=>
   obtain⟨xs,bs,e1,e2,q⟩:=q;obtain⟨ys,e3,e4⟩:=RG a _ e1;rw[hv_obj hv];rw[blsOf_vals e4 e2] at e3;exact⟨a,bs,rfl,.of e3,k _ H _ G mk_bl (.refl H G) RG q⟩
  |_=>exact q.elim
 ·cases d<;>exact q.elim
theorem eb_all(hu:X.A.units+64<cLine)(hm:X.mg "all" = none)(ha:PA3 X (e::es) t)(hc:X.calm=true:=by rfl)(hg:Gl X "all":=by rfl)(he:notStar e=true:=by rfl)(hpl:es.all notStar=true:=by rfl):
  PE3 X (.Call (.Name "all" p) (e::es) [] pos) (eCB r_all t):=e_cb l_all (pe_callB (call_allR hc) hg hm rfl ha (he:=star_of he) (hpl:=star_any hpl))
theorem eb_any(hu:X.A.units+64<cLine)(hm:X.mg "any" = none)(ha:PA3 X (e::es) t)(hc:X.calm=true:=by rfl)(hg:Gl X "any":=by rfl)(he:notStar e=true:=by rfl)(hpl:es.all notStar=true:=by rfl):
  PE3 X (.Call (.Name "any" p) (e::es) [] pos) (eCB r_any t):=e_cb l_any (pe_callB (call_anyR hc) hg hm rfl ha (he:=star_of he) (hpl:=star_any hpl))
end
end L3
namespace L3
open PySem PySem.Spec PyProof.Rows L2
section
variable {prog:Program} {w:World} {A:Around} {E:Value->Shared->Prop} {s:Shared}
theorem places_rev(n:Nat):Builtin.Slice.slicePlaces ((n:Int)-1) (-1) (-1)=n:=by
 unfold Builtin.Slice.slicePlaces;rw[if_neg (by decide)];by_cases h:(n:Int)-1 > -1
 ·rw[if_pos h];simp
 ·rw[if_neg h];omega
theorem fm_congr{α β:Type}{f g:α->Option β}:∀{l:List α},(∀x∈l,f x=g x)->l.filterMap f=l.filterMap g
 |[],_=>rfl
 |x::l,h=>by
  rw[List.filterMap_cons,List.filterMap_cons,h x List.mem_cons_self,fm_congr fun y hy=>h y (List.mem_cons_of_mem _ hy)]
theorem fm_range{α:Type}:∀(l:List α),(List.range l.length).filterMap (fun i=>l[i]?)=l
 |[]=>rfl
 |a::l=>by
  rw[List.length_cons,List.range_succ_eq_map,List.filterMap_cons_some (b:=a) (by simp),List.filterMap_map];congr 1;exact fm_range l
theorem pick_rev(xs:List Value):((List.range xs.length).filterMap fun (m:Nat)=>xs.toArray[(((xs.length:Int)-1)+(m:Int)*(-1)).toNat]?)=xs.reverse:=by
 have h2:=fm_range xs.reverse;rw[List.length_reverse] at h2;refine Eq.trans (fm_congr fun m hm=>?_) h2;have hm':=List.mem_range.mp hm;rw[List.getElem?_reverse hm',List.getElem?_toArray];congr 1;omega
theorem sliceApplied_rev{sl:Addr}{t:Tok}{n:Nat}{Q:Int×Int×Nat->Shared->Prop}(hs:s.heap.IsSliceOf sl .none .none (.int (-1) t))(h:Q ((n:Int)-1,-1,n) s):wpAny (model prog w) A (Builtin.Slice.sliceApplied (.ref sl) (pure (n:Int))) Q E s:=by
 obtain⟨os,hos,hcs,hds⟩:=id hs;unfold Builtin.Slice.sliceApplied Builtin.Slice.sliceFields;refine wpAny_bind (wpAny_bind (wpAny_field hos hds (x:=.none) rfl (wpAny_bind (wpAny_field hos hds (x:=.none) rfl (wpAny_bind (wpAny_field hos hds (x:=.int (-1) t) rfl (wpAny_pure ?_)))))));refine wpAny_bind (slicePart_int ?_);show wpAny _ _ (if ((-1:Int)==0)=true then _ else _) _ _ s;rw[if_neg (by decide)];refine wpAny_bind (slicePart_none (wpAny_bind (slicePart_none (wpAny_bind (wpAny_pure ?_)))));show wpAny _ _ (pure ((n:Int)-1,(-1:Int),Builtin.Slice.slicePlaces ((n:Int)-1) (-1) (-1))) _ _ s;rw[places_rev];exact wpAny_pure h
theorem getItem_tuple_rev{t sl:Addr}{its:List Value}{tk:Tok}{Q:Value->Shared->Prop}(ht:IsTup s.heap t its.toArray)(hs:s.heap.IsSliceOf sl .none .none (.int (-1) tk))(hsz:its.length≤sizeLine)
  (h:Q (.ref s.heap.objs.size) { s with heap:=s.heap.push { cls:=.type "tuple",data:=.seq its.reverse.toArray }}):wpAny (model prog w) A (getItem (.ref t) (.ref sl)) Q E s:=by
 have htake:sizeOk (.seq its.reverse.toArray):=by
  show its.reverse.toArray.size≤sizeLine;rw[List.size_toArray,List.length_reverse];exact hsz
 obtain⟨os,hos,hcs,hds⟩:=id hs;have hTs:s.TypeIs (.ref sl) "slice":=⟨os,hos,hcs⟩;unfold getItem
 try with_reducible refine wpAny_holding ?_
 first|refine wpAny_bind (wpAny_pure ?_)|skip
 refine wpAny_bind (wpAny_sequenceKey ht.typeIs (by decide) ?_);refine wpAny_bind (wpAny_callSpecial?_slot (name:=Str.ofString "__getitem__") ht.typeIs PyProof.Rows.slot_tuple_getitem
  (wpAny_call_entry PyProof.Rows.slot_tuple_getitem ht.typeIs entry_tuple_getitem ?_ (args_tuple_getitem _ _)))
 show wpAny _ _ (Builtin.Tuple.tupleItemsOf (.ref t) >>= _) _ _ s;refine wpAny_bind (tupleItemsOf_ ht ?_);refine wpAny_bind (wpAny_typeOf hTs ?_);rw[if_pos (by decide),show (its.toArray.size:Int)=((its.length:Nat):Int) by simp];refine wpAny_bind (sliceApplied_rev hs ?_);show wpAny _ _ (if ((its.length:Int)-1==0&&(-1:Int)==1&&its.length==its.toArray.size)=true then _ else _) _ _ s;rw[if_neg (by simp),pick_rev]
 first
  |exact wpAny_bind (m:=Builtin.Tuple.tupleExact _) (wpAny_newObj_type (wpAny_pure ⟨_,rfl,wpAny_pure h⟩) htake)
  |exact wpAny_bind (m:=Builtin.Tuple.tupleExact _) (wpAny_newObj_type (wpAny_bind (wpAny_pure (wpAny_pure ⟨_,rfl,wpAny_pure h⟩))) htake)
  |exact wpAny_bind (wpAny_bind (m:=Builtin.Tuple.tupleExact _) (wpAny_newObj_type (wpAny_pure (wpAny_pure ⟨_,rfl,wpAny_pure h⟩)) htake))
  |exact wpAny_bind (wpAny_bind (m:=Builtin.Tuple.tupleExact _) (wpAny_newObj_type (wpAny_pure ⟨_,rfl,wpAny_pure h⟩) htake))
end
section
variable {X:Cx} {a:Expr} {ta:TE3} {te:TE} {pos p2 p3 p4:Pos} {j:Nat}
def tRev(K:PySem.W.Frag)(te:TE):TE:=fun σ H Q=>te σ H fun x H1=>∃a xs,x=.ref a/\SqT K H1 a xs/\∀p,H1 p=none->Q (.ref p) (upd H1 p (.tup xs.reverse))
theorem pe_rev(he:PE X a te):PE X (.Subscript a (.Slice none none (some (.UnaryOp .USub (.Constant (.int 1) j p4) p3)) p2) pos) (tRev X.K te):=by
 intro pins s σ H Q I h;refine Subscript_ (thn (he pins s σ H _ I h) fun v s1 ⟨x,H1,I1,r1,q1⟩=>?_);refine wpAny_Slice ?_;rw[evalPart_none];refine wpAny_pure (wpAny_pure ?_);rw[evalPart_some];refine thn (pe_un (pos:=p3) un_neg (pe_int (j:=j) (pos:=p4)) pins s1 σ H1 (fun y H'=>y=.int (-1)/\H'=H1) I1 ⟨1,rfl,rfl,rfl⟩) fun u s2 ⟨y,H2,I2,r2,e1,e2⟩=>?_;subst e1 e2;obtain⟨t,rfl⟩:=(show ∃t,u=Value.int (-1) t from r2);obtain⟨b,xs,rfl,hx,q⟩:=q1;cases (show v=Value.ref b from r1);have I4:Inv X pins σ H2 { s2 with heap:=s2.heap.push { cls:=.type "slice",data:=.fields #[.none,.none,.int (-1) t]}}:=I2.kept (t':=s2.toks) fun b ob q=>Heap.get?_push_of_some _ q
 obtain⟨its,r,ht,hz⟩:=I4.tuple hx;show wpAny (model X.prog X.w) X.A (subscriptTail a _ (.ref b) (.ref s2.heap.objs.size)) (EP X pins σ Q) X.xe { s2 with heap:=s2.heap.push { cls:=.type "slice",data:=.fields #[.none,.none,.int (-1) t]}};refine tail_any (ops:=[.ref b,.ref s2.heap.objs.size]) ht.typeIs PyProof.Rows.slot_tuple_getitem.lookup ?_ (by with_unfolding_all rfl);refine getItem_tuple_rev ht (Heap.IsSliceOf.new ..) (by rw[←r.length];exact hz) ?_;refine⟨.ref _,_,I4.laid (t':=s2.toks) (o:=.tup xs.reverse) (fun b ob q=>Heap.get?_push_of_some _ q) (Nat.le_refl _) ?_,rfl,q _ (I4.hok.fresh (Nat.le_refl _))⟩;exact⟨by rw[List.length_reverse];exact hz,_,r.reverse,IsTup.new _ _⟩
def eRev(ta:TE3):TE3:=fun τ G Q=>ta τ G fun x G1=>match x with
 |.tup ds=>Q (.tup ds.reverse) G1
 |_=>False
theorem e_rev(ha:PE3 X a ta):PE3 X (.Subscript a (.Slice none none (some (.UnaryOp .USub (.Constant (.int 1) j p4) p3)) p2) pos) (eRev ta):=pe_of (pe_rev ha) fun σ H Q ⟨τ,G,Q3,RS,RG,h,k⟩=>by
 refine⟨τ,G,_,RS,RG,h,fun v H1 d G1 h1 S1 R1 q1=>?_⟩;cases d with
 |tup ds=>
  obtain⟨b,vs,rfl,e1,e2⟩:=hv_tup h1;exact⟨b,vs,rfl,e1,fun p hp=>k _ _ (.tup ds.reverse) G1 (mk_tup (.of upd_same) (e2.rev.ext (.laid hp))) (S1.trans (.laid hp)) (R1.laid hp) q1⟩
 |_=>exact q1.elim
end
end L3
namespace L3
open PySem PySem.Spec PyProof.Rows L2
section
variable {prog:Program} {w:World} {A:Around} {E:Value->Shared->Prop} {s:Shared}
theorem place_some(lo hi i:Int):(Builtin.Range.rangePlace? lo hi 1 i).isSome=(decide (lo≤i)&&decide (i<hi)):=by
 unfold Builtin.Range.rangePlace?;dsimp only;rw[if_pos (c:=(1:Int) > 0) (by decide),Int.emod_one];cases (decide (lo≤i)&&decide (i<hi))<;>rfl
theorem contains_range{r:Addr}{lo hi i:Int}{t u v tk:Tok}{Q:Bool->Shared->Prop}(hr:s.heap.get? r=some { cls:=.type "range",data:=.fields #[.int lo t,.int hi u,.int 1 v]})(h:Q (decide (lo≤i)&&decide (i<hi)) s):
  wpAny (model prog w) A (contains (.ref r) (.int i tk)) Q E s:=by
 have hT:s.TypeIs (.ref r) "range":=⟨_,hr,rfl⟩;refine wpAny_contains_slot hT PySem.F.slot_range_contains (wpAny_call_entry PySem.F.slot_range_contains hT PySem.F.entry_range_contains ?_ (PySem.F.args_range_contains_2 _ _));show wpAny _ _ (Builtin.Range.rangeFields (.ref r) >>= _) _ _ s;unfold Builtin.Range.rangeFields;refine wpAny_bind (wpAny_bind (wpAny_field hr rfl (x:=.int lo t) rfl (wpAny_bind (wpAny_pure (wpAny_bind (wpAny_field hr rfl (x:=.int hi u) rfl (wpAny_bind (wpAny_pure (wpAny_bind (wpAny_field hr rfl (x:=.int 1 v) rfl (wpAny_bind (wpAny_pure (wpAny_pure ?_)))))))))))));show wpAny _ _ (pure (Fin.done (Flow.ret (Value.bool (Builtin.Range.rangePlace? lo hi 1 i).isSome)))) _ _ s;rw[place_some];exact wpAny_pure ⟨_,rfl,wpAny_truthy_bool h⟩
end
section
variable {X:Cx} {a b c:Expr} {ta:TE} {tb:TA} {op:CmpOp} {p pos pos':Pos}
def inB(neg:Bool)(lo hi i:Int):Bool:=if neg then !(decide (lo≤i)&&decide (i<hi)) else (decide (lo≤i)&&decide (i<hi))
def tInR1(neg:Bool)(ta:TE)(tb:TA):TE:=fun σ H Q=>ta σ H fun x H1=>tb σ H1 fun vs H2=>∃i hi,x=.int i/\vs=[.int hi]/\Q (.bl (inB neg 0 hi i)) H2
def opR(neg:Bool):CmpOp:=if neg then .NotIn else .In
theorem in_rng{pins:List (Addr×Obj)}{s:Shared}{σ:L2.St}{H:Hp}{Q:VK}{i lo hi:Int}{t u v tk:Tok}{tks:Nat}(I:L2.Inv X pins σ H s)(q:Q (.bl (decide (lo≤i)&&decide (i<hi))) H):
  wpAny (model X.prog X.w) X.A (compareOp .In (.int i tk) (.ref s.heap.objs.size)) (EP X pins σ Q) X.xe { s with heap:=s.heap.push { cls:=.type "range",data:=.fields #[.int lo t,.int hi u,.int 1 v]},toks:=tks }:=by
 show wpAny _ _ (contains (.ref s.heap.objs.size) (.int i tk) >>= fun b=>pure (Value.bool b)) _ _ _;refine wpAny_bind (contains_range (Heap.get?_push_size _ rfl) (wpAny_pure ⟨.bl _,H,I.kept fun b ob q=>Heap.get?_push_of_some _ q,rfl,q⟩))
theorem nin_rng{pins:List (Addr×Obj)}{s:Shared}{σ:L2.St}{H:Hp}{Q:VK}{i lo hi:Int}{t u v tk:Tok}{tks:Nat}(I:L2.Inv X pins σ H s)(q:Q (.bl (!(decide (lo≤i)&&decide (i<hi)))) H):
  wpAny (model X.prog X.w) X.A (compareOp .NotIn (.int i tk) (.ref s.heap.objs.size)) (EP X pins σ Q) X.xe { s with heap:=s.heap.push { cls:=.type "range",data:=.fields #[.int lo t,.int hi u,.int 1 v]},toks:=tks }:=by
 show wpAny _ _ (contains (.ref s.heap.objs.size) (.int i tk) >>= fun b=>pure (Value.bool (!b))) _ _ _;refine wpAny_bind (contains_range (Heap.get?_push_size _ rfl) (wpAny_pure ⟨.bl _,H,I.kept fun b ob q=>Heap.get?_push_of_some _ q,rfl,q⟩))
theorem any_rng{neg:Bool}{pins:List (Addr×Obj)}{s:Shared}{σ:L2.St}{H:Hp}{Q:VK}{i lo hi:Int}{t u v tk:Tok}{tks:Nat}(I:L2.Inv X pins σ H s)(q:Q (.bl (inB neg lo hi i)) H):
  wpAny (model X.prog X.w) X.A (compareOp (opR neg) (.int i tk) (.ref s.heap.objs.size)) (EP X pins σ Q) X.xe { s with heap:=s.heap.push { cls:=.type "range",data:=.fields #[.int lo t,.int hi u,.int 1 v]},toks:=tks }:=by
 cases neg with
 |false=>exact in_rng I q
 |true=>exact nin_rng I q
theorem pc_in1{neg:Bool}(hg:Gl X "range")(hm:X.mg "range" = none)(ha:PE X a ta)(hb:PA X [b] tb)(hs:starEach [b] X.env=[(false,eval b X.env)]):PC X (opR neg) a (.Call (.Name "range" p) [b] [] pos) (tInR1 neg ta tb):=by
 intro pins s σ H Q I h;refine thn (ha pins s σ H _ I h) fun v s1 ⟨x,H1,I1,r1,q1⟩=>?_;refine Call_ (ld_blt I1 hg hm boot_range (PyProof.Rows.callWith_type1 (thn (hb pos pins s1 σ H1 _ I1 q1) fun us s2 ⟨vs,H2,I2,r2,q2⟩=>?_) hs rfl));obtain⟨i,hi,rfl,rfl,q⟩:=q2;obtain⟨tk,rfl⟩:=r1;cases r2 with
 |cons r rr=>
  cases rr;obtain⟨t,rfl⟩:=r;exact call_range_1 (any_rng I2 q)
end
section
variable {X:Cx} {a b c:Expr} {ta:TE3} {tb:TA3} {p pos pos':Pos}
def eInRng1(neg:Bool)(ta:TE3)(tb:TA3):TE3:=fun τ G Q=>ta τ G fun x G1=>tb τ G1 fun ds G2=>match x,ds with
 |.int i,[.int hi]=>Q (.bl (inB neg 0 hi i)) G2
 |_,_=>False
theorem low_in1{neg:Bool}{σ:L2.St}{H:Hp}{Q:VK}(h:low X.K (eInRng1 neg ta tb) σ H Q):tInR1 neg (low X.K ta) (lowA X.K tb) σ H Q:=by
 obtain⟨τ,G,Q3,RS,RG,h,k⟩:=h;refine⟨τ,G,_,RS,RG,h,fun v1 H1 d1 G1 h1 S1 R1 q1=>?_⟩;refine⟨τ,G1,_,RS.ext (S1.ext RG),R1,q1,fun vs H2 ds G2 h2 S2 R2 q2=>?_⟩;rcases ds with _|⟨d,_|⟨d2,ds⟩⟩
 ·cases d1<;>exact q2.elim
 ·cases d1 with
  |int i=>
   cases d with
   |int j=>
    obtain⟨v,r,rfl,z1,z2⟩:=h2.inv;cases z2.inv0;unfold Hv at z1 h1;exact⟨i,j,h1,by rw[z1],k _ _ _ _ mk_bl (S1.trans S2) R2 q2⟩
   |_=>exact q2.elim
  |_=>exact q2.elim
 ·cases d1 with
  |int i=>cases d<;>exact q2.elim
  |_=>exact q2.elim
theorem tt_inRng1N(ha:PE3 X a ta)(hm:X.mg "range" = none)(hb:PA3 X [b] tb)(hg:Gl X "range":=by rfl)(hs:notStar b=true:=by rfl):PT3 X (.Compare a [.NotIn] [.Call (.Name "range" p) [b] [] pos'] pos) (eTest (eInRng1 true ta tb)):=
 pt_of (pt_cmp (op:=.NotIn) (pc_in1 (neg:=true) hg hm ha hb (star_of hs)) rfl) fun _ _ _ h=>low_in1 (low_test h)
end
end L3
namespace L3
open PySem PySem.Spec PyProof.Rows L2
open Sem (wp)
def Ik(k:Bool)(h:Heap)(jt a:Addr)(i:Nat):Prop:=match k with
 |true=>h.IsListIter jt a i
 |false=>h.IsTupleIter jt a i
def Sk(k:Bool)(h:Heap)(a:Addr)(xs:Array Value):Prop:=match k with
 |true=>h.IsList a xs
 |false=>h.IsTuple a xs
theorem Ik.of{k:Bool}{h h':Heap}{jt a:Addr}{i:Nat}(x:Ik k h jt a i)(f:∀o,h.get? jt=some o->h'.get? jt=some o):Ik k h' jt a i:=by
 cases k<;>(obtain⟨o,e,r⟩:=x;exact⟨o,f o e,r⟩)
theorem Sk.of{k:Bool}{h h':Heap}{a:Addr}{xs:Array Value}(x:Sk k h a xs)(f:∀o,h.get? a=some o->h'.get? a=some o):Sk k h' a xs:=by
 cases k<;>(obtain⟨o,e,r⟩:=x;exact⟨o,f o e,r⟩)
theorem Ik.obj{k:Bool}{h:Heap}{jt a:Addr}{i:Nat}(x:Ik k h jt a i):∃o,h.get? jt=some o/\∀v,o.data≠.cell v:=by
 cases k<;>(obtain⟨o,e,c,d⟩:=x;exact⟨o,e,fun v z=>by rw[d] at z;cases z⟩)
section
variable {P:Program} {w:World} {A:Around} {E:Value->Shared->Prop} {s:Shared}
theorem nextK{k:Bool}{jt a:Addr}{i:Nat}{xs:Array Value}{u:Value}{Q:Value->Shared->Prop}(hi:Ik k s.heap jt a i)(ha:Sk k s.heap a xs)(hx:xs[i]?=some u)
  (q:∀h',Ik k h' jt a (i+1)->Heap.SameBut jt s.heap h'->Q u { s with heap:=h' }):wpAny (model P w) A (Builtin.SmallTypes.nextOf (.ref jt)) Q E s:=by
 cases k with
 |true=>exact wpAny_nextOf_list_item hi ha hx q
 |false=>
  have hi:s.heap.IsTupleIter jt a i:=hi;obtain⟨o,e1,c1,d1⟩:=id hi;obtain⟨oa,e2,c2,n2,d2⟩:=(show s.heap.IsTuple a xs from ha);unfold Builtin.SmallTypes.nextOf;refine wpAny_bind (wpAny_callSpecial?_slot (name:=Str.ofString "__next__") hi.typeIs F.slot_tuple_iterator_next (wpAny_call_entry F.slot_tuple_iterator_next hi.typeIs F.entry_tuple_iterator_next ?_ (F.args_tuple_iterator_next_1 _)));show wpAny _ _ (field (.ref jt) 0 >>= _) _ _ s;refine wpAny_bind (wpAny_field e1 d1 (x:=.ref a) rfl ?_);show wpAny _ _ (if (Value.ref a==Value.none)=true then _ else _) _ _ s;rw[if_neg (show ¬((Value.ref a==Value.none)=true) from Bool.false_ne_true)];show wpAny _ _ (field (.ref jt) 1 >>= _) _ _ s;refine wpAny_bind (wpAny_field e1 d1 (x:=.int i 0) rfl ?_);show wpAny _ _ (seqItems? (.ref a) >>= _) _ _ s;refine wpAny_bind (wpAny_seqItems e2 d2 ?_);simp only[hx,Int.toNat_natCast];refine wpAny_bind (wpAny_setField e1 d1 (by simp) (wpAny_pure ⟨u,rfl,wpAny_pure (q _ ?_ (Heap.SameBut.update ..))⟩));exact⟨_,Heap.get?_update_self _ e1 (Obj.isFreed_of_fields (Obj.data_mapFields d1 _)),(Obj.cls_mapFields ..).trans c1,by rw[Obj.data_mapFields d1];simp[rawInt]⟩
theorem nextK_end{k:Bool}{jt a:Addr}{i:Nat}{xs:Array Value}{Q:Value->Shared->Prop}(hh:A.handled=none)(hi:Ik k s.heap jt a i)(ha:Sk k s.heap a xs)(hx:xs[i]?=none)
  (q:∀h' e,Heap.ExtBut jt s.heap h'->(∃o,h'.get? e=some o/\o.cls=.type "StopIteration")->E (.ref e) { s with heap:=h' }):wpAny (model P w) A (Builtin.SmallTypes.nextOf (.ref jt)) Q E s:=by
 cases k with
 |true=>exact wpAny_nextOf_list_end hh hi ha hx q
 |false=>
  have hi:s.heap.IsTupleIter jt a i:=hi;obtain⟨o,e1,c1,d1⟩:=id hi;obtain⟨oa,e2,c2,n2,d2⟩:=(show s.heap.IsTuple a xs from ha);unfold Builtin.SmallTypes.nextOf;refine wpAny_bind (wpAny_callSpecial?_slot (name:=Str.ofString "__next__") hi.typeIs F.slot_tuple_iterator_next (wpAny_call_entry F.slot_tuple_iterator_next hi.typeIs F.entry_tuple_iterator_next ?_ (F.args_tuple_iterator_next_1 _)));show wpAny _ _ (field (.ref jt) 0 >>= _) _ _ s;refine wpAny_bind (wpAny_field e1 d1 (x:=.ref a) rfl ?_);show wpAny _ _ (if (Value.ref a==Value.none)=true then _ else _) _ _ s;rw[if_neg (show ¬((Value.ref a==Value.none)=true) from Bool.false_ne_true)];show wpAny _ _ (field (.ref jt) 1 >>= _) _ _ s;refine wpAny_bind (wpAny_field e1 d1 (x:=.int i 0) rfl ?_);show wpAny _ _ (seqItems? (.ref a) >>= _) _ _ s;refine wpAny_bind (wpAny_seqItems e2 d2 ?_);simp only[hx,Int.toNat_natCast];refine wpAny_bind (wpAny_rule (wpAny_bind (wpAny_setField e1 d1 (by simp) ?_)));show wpAny _ _ (newExc (.type "StopIteration") [] >>= _) _ _ ({ s with heap:=_ }:Shared);refine wpAny_bind ?_;simp only[newTuple,newExc];refine wpAny_bind (wpAny_newObj_type ?_ (by size_fits));refine wpAny_bind (m:=firstArgMember _ _) (wpAny_of_eq (a:=Value.none) (by first|(simp only[firstArgMember];rfl)|rfl) ?_)
  refine wpAny_newObj_type ?_ (by size_fits);simp only[raiseNew];refine wpAny_bind (wpAny_handled ?_)
  first|rw[hh]|rw[show A.in1.handled=none from hh]
  refine wpAny_bind (wpAny_pure (wpAny_throw ?_));exact q _ _ (((Heap.SameBut.update ..).extBut.push _).push _) ⟨_,Heap.get?_push_size _ rfl,rfl⟩
theorem zipK{k1 k2:Bool}{zz ti ot j1 j2 a1 a2:Addr}{m n:Nat}{xs ys:Array Value}{u v c d:Value}{Q:Value->Shared->Prop}(D:ZipApart zz ti ot j1 j2 a1 a2)
  (Z:IsZip s.heap zz ti ot .none) (Ti:IsPair s.heap ti (.ref j1) (.ref j2)) (To:IsPair s.heap ot c d) (g1:Ik k1 s.heap j1 a1 m) (g2:Ik k2 s.heap j2 a2 n) (s1:Sk k1 s.heap a1 xs) (s2:Sk k2 s.heap a2 ys) (hu:xs[m]?=some u) (hv:ys[n]?=some v)
  (q:∀h',IsZip h' zz ti ot (rawInt s.heap.objs.size)->IsPair h' ot u v->Ik k1 h' j1 a1 (m+1)->Ik k2 h' j2 a2 (n+1)->IsPair h' s.heap.objs.size u v ->
   (∀b o,b≠zz->b≠ot->b≠j1->b≠j2->s.heap.get? b=some o->h'.get? b=some o)->Q (.ref s.heap.objs.size) { s with heap:=h' }):
  wpAny (model P w) A (Builtin.«zip.__next__» ⟨[.ref zz],[]⟩) (fun fin s'=>∃r,fin=.done (.ret r)/\Q r s') E s:=by
 show wpAny _ _ (field (.ref zz) 2 >>= _) _ _ _;refine wpAny_bind (wpAny_field Z rfl (x:=.bool false) rfl ?_);show wpAny _ _ (field (.ref zz) 3 >>= _) _ _ _;refine wpAny_bind (wpAny_field Z rfl (x:=.ref ti) rfl ?_);refine wpAny_bind (wpAny_seqItems Ti rfl ?_);show wpAny _ _ (Builtin.SmallTypes.ownedTupleIsFree (.ref zz) >>= _) _ _ _;refine wpAny_bind ?_;unfold Builtin.SmallTypes.ownedTupleIsFree;refine wpAny_bind (wpAny_field Z rfl (x:=.none) rfl (wpAny_pure ?_));simp only[if_true];refine wpAny_bind (wpAny_rule ?_);refine wpAny_bind (wpAny_field Z rfl (x:=.ref ot) rfl ?_);refine wpAny_bind (wpAny_setField_rec Z (by simp) fun w1 Z1 b1=>?_)
 replace Z1:IsZip w1 zz ti ot .ellipsis:=Z1
 refine wpAny_bind ?_
 (simp only[List.zipIdx_nil,List.zipIdx_cons,List.forIn_nil,List.forIn_cons])
 have k1_:∀b o,b≠zz->s.heap.get? b=some o->w1.get? b=some o:=fun b o h e=>b1.extBut b o h e;refine wpAny_bind (wpAny_bind (wpAny_onRaise ?_));show wpAny _ _ (Builtin.SmallTypes.nextOf (.ref j1) >>= _) _ _ _;refine wpAny_bind (nextK (g1.of fun o e=>k1_ _ o D.i1z e) (s1.of fun o e=>k1_ _ o D.l1z e) hu fun w2 J1 b2=>wpAny_pure ?_);have k2_:∀b o,b≠zz->b≠j1->s.heap.get? b=some o->w2.get? b=some o:=fun b o h h2 e=>b2.extBut b o h2 (k1_ b o h e);have To2:IsPair w2 ot c d:=k2_ _ _ D.TOz D.TOi1 To;refine wpAny_bind (wpAny_seqItems To2 rfl ?_);refine wpAny_bind (wpAny_updateSeq_pair To2 fun w3 To3 b3=>?_)
 replace To3:IsPair w3 ot u d:=To3
 have k3_:∀b o,b≠zz->b≠j1->b≠ot->s.heap.get? b=some o->w3.get? b=some o:=fun b o h h2 h3 e=>b3.extBut b o h3 (k2_ b o h h2 e);refine wpAny_bind (wpAny_letGo (wpAny_pure ?_));refine wpAny_bind (wpAny_bind (wpAny_onRaise ?_));show wpAny _ _ (Builtin.SmallTypes.nextOf (.ref j2) >>= _) _ _ _;refine wpAny_bind (nextK (g2.of fun o e=>k3_ _ o D.i2z D.i12.symm D.TOi2.symm e) (s2.of fun o e=>k3_ _ o D.l2z D.l2i1 D.l2TO e) hv fun w4 J2 b4=>wpAny_pure ?_);have To4:IsPair w4 ot u d:=b4.extBut _ _ D.TOi2 To3;refine wpAny_bind (wpAny_seqItems To4 rfl ?_);refine wpAny_bind (wpAny_updateSeq_pair To4 fun w5 To5 b5=>?_)
 replace To5:IsPair w5 ot u v:=To5
 refine wpAny_bind (wpAny_letGo (wpAny_pure (wpAny_pure ?_)));refine wpAny_bind (wpAny_seqItems To5 rfl ?_);refine wpAny_bind (wpAny_newTuple ?_);have sz:w5.objs.size=s.heap.objs.size:=by rw[b5.1,b4.1,b3.1,b2.1,b1.1]
 have Z5:IsZip w5 zz ti ot .ellipsis:=b5.extBut _ _ D.TOz.symm (b4.extBut _ _ D.i2z.symm (b3.extBut _ _ D.TOz.symm (b2.extBut _ _ D.i1z.symm Z1)));have k5_:∀b o,b≠zz->b≠ot->b≠j1->b≠j2->s.heap.get? b=some o->w5.get? b=some o:=fun b o c1 c2 c3 c4 e=>b5.extBut _ _ c2 (b4.extBut _ _ c4 (k3_ b o c1 c3 c2 e));have L1:Ik k1 w5 j1 a1 (m+1):=J1.of fun o e=>b5.extBut _ _ D.TOi1.symm (b4.extBut _ _ D.i12 (b3.extBut _ _ D.TOi1.symm e));have L2:Ik k2 w5 j2 a2 (n+1):=J2.of fun o e=>b5.extBut _ _ D.TOi2.symm e;have lz:zz<w5.objs.size:=Heap.lt_size Z5;show wpAny _ _ (Builtin.SmallTypes.ownedTupleHandOut (.ref zz) (.ref w5.objs.size) >>= _) _ _ _;refine wpAny_bind ?_;unfold Builtin.SmallTypes.ownedTupleHandOut;have Z6:IsZip (w5.push { cls:=.type "tuple",data:=.seq #[u,v]}) zz ti ot .ellipsis:=Heap.get?_push_of_some _ Z5;refine wpAny_bind (wpAny_setField_rec Z6 (by simp) fun w7 Z7 b7=>?_)
 replace Z7:IsZip w7 zz ti ot (rawInt w5.objs.size):=Z7
 refine wpAny_setField_rec Z7 (by simp) fun w8 Z8 b8=>?_
 replace Z8:IsZip w8 zz ti ot (rawInt w5.objs.size):=Z8
 have up:∀b o,b≠zz->w5.get? b=some o->w8.get? b=some o:=fun b o c1 e=>b8.extBut _ _ c1 (b7.extBut _ _ c1 (Heap.get?_push_of_some _ e));have T8:IsPair w8 w5.objs.size u v:=b8.extBut _ _ (Nat.ne_of_gt lz) (b7.extBut _ _ (Nat.ne_of_gt lz) (Heap.get?_push_size _ rfl));rw[sz] at Z8 T8;refine wpAny_pure ⟨_,rfl,?_⟩;show Q (.ref w5.objs.size) _;rw[sz];exact q w8 Z8 (up _ _ D.TOz To5) (L1.of fun o e=>up _ o D.i1z e) (L2.of fun o e=>up _ o D.i2z e) T8 fun b o c1 c2 c3 c4 e=>up b o c1 (k5_ b o c1 c2 c3 c4 e)
theorem zipK_end{k1 k2:Bool}{zz ti ot j1 j2 a1 a2:Addr}{m n:Nat}{xs ys:Array Value}{c d:Value}{Q:Fin->Shared->Prop}(hh:A.handled=none)(D:ZipApart zz ti ot j1 j2 a1 a2)
  (Z:IsZip s.heap zz ti ot .none) (Ti:IsPair s.heap ti (.ref j1) (.ref j2)) (To:IsPair s.heap ot c d) (g1:Ik k1 s.heap j1 a1 m) (g2:Ik k2 s.heap j2 a2 n) (s1:Sk k1 s.heap a1 xs) (s2:Sk k2 s.heap a2 ys) (he:xs[m]?=none∨ys[n]?=none)
  (q:∀h' e,(∀b o,b≠zz->b≠ot->b≠j1->b≠j2->s.heap.get? b=some o->h'.get? b=some o)->(∃o,h'.get? e=some o/\o.cls=.type "StopIteration")->E (.ref e) { s with heap:=h' }):
  wpAny (model P w) A (Builtin.«zip.__next__» ⟨[.ref zz],[]⟩) Q E s:=by
 show wpAny _ _ (field (.ref zz) 2 >>= _) _ _ _;refine wpAny_bind (wpAny_field Z rfl (x:=.bool false) rfl ?_);show wpAny _ _ (field (.ref zz) 3 >>= _) _ _ _;refine wpAny_bind (wpAny_field Z rfl (x:=.ref ti) rfl ?_);refine wpAny_bind (wpAny_seqItems Ti rfl ?_);show wpAny _ _ (Builtin.SmallTypes.ownedTupleIsFree (.ref zz) >>= _) _ _ _;refine wpAny_bind ?_;unfold Builtin.SmallTypes.ownedTupleIsFree;refine wpAny_bind (wpAny_field Z rfl (x:=.none) rfl (wpAny_pure ?_));simp only[if_true];refine wpAny_bind (wpAny_rule ?_);refine wpAny_bind (wpAny_field Z rfl (x:=.ref ot) rfl ?_);refine wpAny_bind (wpAny_setField_rec Z (by simp) fun w1 Z1 b1=>?_)
 replace Z1:IsZip w1 zz ti ot .ellipsis:=Z1
 refine wpAny_bind ?_
 (simp only[List.zipIdx_nil,List.zipIdx_cons,List.forIn_nil,List.forIn_cons])
 have k1_:∀b o,b≠zz->s.heap.get? b=some o->w1.get? b=some o:=fun b o h e=>b1.extBut b o h e;refine wpAny_bind (wpAny_bind (wpAny_onRaise ?_));show wpAny _ _ (Builtin.SmallTypes.nextOf (.ref j1) >>= _) _ _ _;cases hx:xs[m]? with
 |none=>
  refine wpAny_bind (nextK_end hh (g1.of fun o e=>k1_ _ o D.i1z e) (s1.of fun o e=>k1_ _ o D.l1z e) hx fun w2 e b2 hs=>?_);obtain⟨oe,e1,e2⟩:=hs;have Z2:IsZip w2 zz ti ot .ellipsis:=b2 _ _ D.i1z.symm Z1;have ez:e≠zz:=fun x=>by
   subst x;rw[Z2] at e1;cases e1;simp at e2
  exact wpAny_setField_rec Z2 (by simp) fun w3 _ b3=>q w3 e (fun b o c1 _ c3 _ x=>b3.extBut _ _ c1 (b2 _ _ c3 (k1_ b o c1 x))) ⟨oe,b3.extBut _ _ ez e1,e2⟩
 |some u=>
  have hy:ys[n]?=none:=by
   rcases he with h|h
   ·rw[hx] at h;cases h
   ·exact h
  refine wpAny_bind (nextK (g1.of fun o e=>k1_ _ o D.i1z e) (s1.of fun o e=>k1_ _ o D.l1z e) hx fun w2 J1 b2=>wpAny_pure ?_);have k2_:∀b o,b≠zz->b≠j1->s.heap.get? b=some o->w2.get? b=some o:=fun b o h h2 e=>b2.extBut b o h2 (k1_ b o h e);have To2:IsPair w2 ot c d:=k2_ _ _ D.TOz D.TOi1 To;refine wpAny_bind (wpAny_seqItems To2 rfl ?_);refine wpAny_bind (wpAny_updateSeq_pair To2 fun w3 To3 b3=>?_);have k3_:∀b o,b≠zz->b≠j1->b≠ot->s.heap.get? b=some o->w3.get? b=some o:=fun b o h h2 h3 e=>b3.extBut b o h3 (k2_ b o h h2 e);refine wpAny_bind (wpAny_letGo (wpAny_pure ?_));refine wpAny_bind (wpAny_bind (wpAny_onRaise ?_));show wpAny _ _ (Builtin.SmallTypes.nextOf (.ref j2) >>= _) _ _ _;refine wpAny_bind (nextK_end hh (g2.of fun o e=>k3_ _ o D.i2z D.i12.symm D.TOi2.symm e) (s2.of fun o e=>k3_ _ o D.l2z D.l2i1 D.l2TO e) hy fun w4 e b4 hs=>?_);obtain⟨oe,e1,e2⟩:=hs;have Z4:IsZip w4 zz ti ot .ellipsis:=b4 _ _ D.i2z.symm (b3.extBut _ _ D.TOz.symm (b2.extBut _ _ D.i1z.symm Z1));have ez:e≠zz:=fun x=>by
   subst x;rw[Z4] at e1;cases e1;simp at e2
  exact wpAny_setField_rec Z4 (by simp) fun w5 _ b5=>q w5 e (fun b o c1 c2 c3 c4 x=>b5.extBut _ _ c1 (b4 _ _ c4 (k3_ b o c1 c3 c2 x))) ⟨oe,b5.extBut _ _ ez e1,e2⟩
end
end L3
namespace L3
open PySem PySem.Spec PyProof.Rows L2
open Sem (wp)
section
variable {X:Cx} {pins:List (Addr×Obj)} {σ:L2.St} {H:Hp} {s:Shared}
theorem turnedL{h':Heap}{t':Nat}{fp:List Addr}(I:L2.Inv X pins σ H s)(k:∀b o,b∉fp->s.heap.get? b=some o->h'.get? b=some o)(hf:∀b∈fp,FpOk X pins H b):L2.Inv X pins σ H { s with heap:=h',toks:=t' }:=by
 have nit:∀b u,H b=some u->b∉fp:=fun b u e z=>by rw[(hf b z).1] at e;cases e
 refine I.step (g':=s.gens) (d':=s.drawn) (ch:=fp) (fun b hb=>?_) (fun b o _ _ hc e _=>k b o hc e) (fun b o _ _ hc e _=>⟨o.slots,k b o hc e⟩) (fun _ _ _ _ n=>n) (fun b o hc e=>⟨o,k b o hc e⟩) (fun _ _ e=>e) (fun _ _ _ e=>e) (fun b ps e=>⟨#[],by rw[e];simp⟩) (fun m hm=>?_) (fun b u e=>?_) I.bare
 ·obtain⟨f0,f1,f2,f3,f4,f5⟩:=hf b hb;exact⟨f3,f1,f4,f5⟩
 ·obtain⟨o,es,ep,ho,r⟩:=hm;exact⟨o,es,ep,k _ o (fun z=>(hf _ z).2.1 rfl) ho,r⟩
 ·refine (I.hok b u e).stay (fun c v hc q=>k c v ?_ q) (fun _ q=>q) fun _ _ q=>q;rcases hc with z|z
  ·rw[z];exact nit b u e
  ·exact nit c _ z
def SqK(K:PySem.W.Frag)(k:Bool)(H:Hp)(a:Addr)(xs:List V):Prop:=match k with
 |true=>SqL K H a xs
 |false=>SqT K H a xs
theorem SqK.heap{k:Bool}{a:Addr}{xs:List V}(I:L2.Inv X pins σ H s)(h:SqK X.K k H a xs):∃its,Vals xs its/\Sk k s.heap a its.toArray:=by
 cases k with
 |true=>
  obtain⟨its,rv,p,hz⟩:=I.list (show SqL X.K H a xs from h);exact⟨its,rv,p.isList⟩
 |false=>
  obtain⟨its,rv,p,hz⟩:=I.tuple (show SqT X.K H a xs from h);exact⟨its,rv,p⟩
theorem SqK.inj{k:Bool}{a:Addr}{xs ys:List V}(I:L2.Inv X pins σ H s)(h:SqK X.K k H a xs)(h':SqK X.K k H a ys):xs=ys:=by
 cases k with
 |true=>exact I.list_inj (show SqL X.K H a xs from h) (show SqL X.K H a ys from h')
 |false=>exact I.tuple_inj (show SqT X.K H a xs from h) (show SqT X.K H a ys from h')
theorem SqK.apart{k:Bool}{a b:Addr}{xs:List V}(I:L2.Inv X pins σ H s)(h:SqK X.K k H a xs)(f:FpOk X pins H b):a≠b:=by
 intro z;subst z;have hb:(∃u,H a=some u)∨∃o,X.K.lookup a=some o:=by
  cases k <;>
  ·rcases h with (h|⟨o,h⟩)|⟨o,_,_,h,_⟩
   ·exact .inl ⟨_,h⟩
   ·exact .inl ⟨_,h⟩
   ·exact .inr ⟨_,h⟩
 rcases hb with⟨u,e⟩|⟨o,e⟩
 ·rw[f.1] at e;cases e
 ·have e2:=I.mod.kin a o e;rcases f.2.2.2.1 with q|q
  ·exact I.ok.noex a o e2 q
  ·exact absurd (Nat.lt_of_lt_of_le (Heap.lt_size (I.ok.bs a o e2).1) q) (Nat.lt_irrefl _)
end
def Itz(K:PySem.W.Frag)(k1 k2:Bool)(a1 a2:Addr):It:=
 ⟨fun i H=>∃xs ys x y,(SqK K k1 H a1 xs/\xs[i]?=some x)/\SqK K k2 H a2 ys/\ys[i]?=some y,
  fun i H x H'=>∃T u v,x=.ref T/\H T=none/\H'=upd H T (.tup [u,v])/\(∀xs,SqK K k1 H a1 xs->xs[i]?=some u)/\∀ys,SqK K k2 H a2 ys->ys[i]?=some v,
  fun i H=>∃xs ys,SqK K k1 H a1 xs/\SqK K k2 H a2 ys/\(xs.length≤i∨ys.length≤i)⟩
theorem zap{zz ti ot j1 j2 a1 a2:Addr}(h:[zz,ti,ot,j1,j2].Nodup)(h1:∀b∈[zz,ti,ot,j1,j2],a1≠b)(h2:∀b∈[zz,ti,ot,j1,j2],a2≠b):ZipApart zz ti ot j1 j2 a1 a2:=by
 simp only[List.nodup_cons,List.mem_cons,not_or,List.not_mem_nil,not_false_eq_true,List.nodup_nil,and_true] at h;obtain⟨⟨n1,n2,n3,n4⟩,⟨n5,n6,n7⟩,⟨n8,n9⟩,n10⟩:=h;exact⟨Ne.symm n1,Ne.symm n2,Ne.symm n3,Ne.symm n4,n5,n6,n7,n8,n9,n10,h1 _ (by simp),h1 _ (by simp),h1 _ (by simp),h1 _ (by simp),h2 _ (by simp),h2 _ (by simp),h2 _ (by simp),h2 _ (by simp)⟩
theorem turn_zip{P:Program}{w:World}{K:PySem.W.Frag}{es:List Expr}{n0:Nat}{ps:Pos}(k1 k2:Bool)(a1 a2 zz ti ot j1 j2:Addr)(hd:[zz,ti,ot,j1,j2].Nodup):
  Turn P w K (.Tuple es n0 ps) (Itz K k1 k2 a1 a2) [zz,ti,ot,j1,j2] zz (fun i h=>IsZip h zz ti ot .none/\IsPair h ti (.ref j1) (.ref j2)/\(∃c d,IsPair h ot c d)/\Ik k1 h j1 a1 i/\Ik k2 h j2 a2 i) where
 mem:=by simp
 obj:=fun i h st b hb=>by
  obtain⟨Z,Ti,⟨c,d,To⟩,g1,g2⟩:=st;simp only[List.mem_cons,List.not_mem_nil,or_false] at hb;rcases hb with rfl|rfl|rfl|rfl|rfl
  ·exact⟨_,Z,fun v z=>by cases (show Data.fields _=Data.cell v from z)⟩
  ·exact⟨_,Ti,fun v z=>by cases (show Data.seq _ _=Data.cell v from z)⟩
  ·exact⟨_,To,fun v z=>by cases (show Data.seq _ _=Data.cell v from z)⟩
  ·exact g1.obj
  ·exact g2.obj
 keep:=fun i h h' st k=>by
  obtain⟨Z,Ti,⟨c,d,To⟩,g1,g2⟩:=st;exact⟨k _ (by simp) _ Z,k _ (by simp) _ Ti,⟨c,d,k _ (by simp) _ To⟩,g1.of fun o e=>k _ (by simp) _ e,g2.of fun o e=>k _ (by simp) _ e⟩
 item:=by
  intro X hP hw hK hc i pins s σ H E I hf st hg;subst hP hw hK;obtain⟨Z,Ti,⟨c,d,To⟩,g1,g2⟩:=st;obtain⟨xs,ys,x,y,⟨q1,hx⟩,q2,hy⟩:=hg;obtain⟨its1,rv1,p1⟩:=q1.heap I;obtain⟨its2,rv2,p2⟩:=q2.heap I;obtain⟨u,hu,ru⟩:=rv1.get hx;obtain⟨v,hv,rv⟩:=rv2.get hy;have D:=zap hd (fun b hb=>q1.apart I (hf b hb)) (fun b hb=>q2.apart I (hf b hb));have hT:s.TypeIs (.ref zz) "zip":=⟨_,Z,rfl⟩;unfold pyNext;refine wpAny_bind (wpAny_attempt (wpAny_callSpecial?_slot (name:=Str.ofString "__next__") hT F.slot_zip_next (wpAny_call_entry F.slot_zip_next hT F.entry_zip_next (zipK D Z Ti To g1 g2 p1 p2 (u:=u) (v:=v) (by simpa using hu) (by simpa using hv) fun h' Z' To' g1' g2' T' kp=>?_) (F.args_zip_next_1 _))));refine wpAny_pure ⟨_,rfl,?_⟩;refine wpAny_letOwnedTupleGo_zip Z' fun h2 Z2 b2=>?_;have hn:H s.heap.objs.size=none:=I.hok.fresh (Nat.le_refl _);have I1:L2.Inv X pins σ (upd H s.heap.objs.size (.tup [x,y])) { s with heap:=s.heap.push { cls:=.type "tuple",data:=.seq #[u,v]}}:=I.laid (t':=s.toks) (fun b o e=>Heap.get?_push_of_some _ e) (Nat.le_refl _) ⟨by show 2≤sizeLine;decide,[u,v],.cons ru (.cons rv .nil),⟨_,Heap.get?_push_size _ rfl,rfl,_,rfl⟩⟩;have lt:∀b∈[zz,ti,ot,j1,j2],b<s.heap.objs.size:=fun b hb=>by
   simp only[List.mem_cons,List.not_mem_nil,or_false] at hb;rcases hb with rfl|rfl|rfl|rfl|rfl
   ·exact Heap.lt_size Z
   ·exact Heap.lt_size Ti
   ·exact Heap.lt_size To
   ·obtain⟨o,e,_⟩:=g1.obj;exact Heap.lt_size e
   ·obtain⟨o,e,_⟩:=g2.obj;exact Heap.lt_size e
  have hf':∀b∈[zz,ti,ot,j1,j2],FpOk X pins (upd H s.heap.objs.size (.tup [x,y])) b:=fun b hb=>⟨by rw[upd_ne (Nat.ne_of_lt (lt b hb))];exact (hf b hb).1,(hf b hb).2⟩;have I2:L2.Inv X pins σ (upd H s.heap.objs.size (.tup [x,y])) { s with heap:=h2 }:=turnedL (s:={ s with heap:=s.heap.push { cls:=.type "tuple",data:=.seq #[u,v]}}) (t':=s.toks) I1 (fun b o hb e=>by
   simp only[List.mem_cons,List.not_mem_nil,or_false,not_or] at hb;refine b2.extBut b o hb.1 ?_;rcases Heap.get?_push_cases e with⟨rfl,rfl⟩|e
   ·exact T'
   ·exact kp b o hb.1 hb.2.2.1 hb.2.2.2.1 hb.2.2.2.2 e) hf'
  refine⟨.ref s.heap.objs.size,_,I2,rfl,⟨_,x,y,rfl,hn,rfl,fun zs hz=>by rw[hz.inj I q1];exact hx,fun zs hz=>by rw[hz.inj I q2];exact hy⟩,⟨Z2,?_,⟨u,v,?_⟩,g1'.of fun o e=>b2.extBut _ _ D.i1z e,g2'.of fun o e=>b2.extBut _ _ D.i2z e⟩,fun b hb=>(hf' b hb).1⟩
  ·exact b2.extBut _ _ D.TIz (kp _ _ D.TIz D.TITO D.TIi1 D.TIi2 Ti)
  ·exact b2.extBut _ _ D.TOz To'
 done:=by
  intro X hP hw hK hc i pins s σ H E I hf st hg;subst hP hw hK;obtain⟨Z,Ti,⟨c,d,To⟩,g1,g2⟩:=st;obtain⟨xs,ys,q1,q2,hl⟩:=hg;obtain⟨its1,rv1,p1⟩:=q1.heap I;obtain⟨its2,rv2,p2⟩:=q2.heap I;have D:=zap hd (fun b hb=>q1.apart I (hf b hb)) (fun b hb=>q2.apart I (hf b hb));have hT:s.TypeIs (.ref zz) "zip":=⟨_,Z,rfl⟩;have l1:=rv1.length;have l2:=rv2.length;unfold pyNext;refine wpAny_bind (wpAny_attempt (wpAny_callSpecial?_slot (name:=Str.ofString "__next__") hT F.slot_zip_next (wpAny_call_entry F.slot_zip_next hT F.entry_zip_next (zipK_end (I.ok.hd hc) D Z Ti To g1 g2 p1 p2 (by
   rcases hl with h|h
   ·exact .inl (by simp;lia)
   ·exact .inr (by simp;lia)) fun h' e kp hs=>?_) (F.args_zip_next_1 _))))
  obtain⟨o,ho,hcl⟩:=hs;refine wpAny_bind (wpAny_isInstance (T:="StopIteration") (b:=true) ⟨o,ho,hcl⟩ isSubtype_stop ?_);refine wpAny_pure ⟨rfl,turnedL (t':=s.toks) I (fun b o hb e=>?_) hf⟩;simp only[List.mem_cons,List.not_mem_nil,or_false,not_or] at hb;exact kp b o hb.1 hb.2.2.1 hb.2.2.2.1 hb.2.2.2.2 e
 self:=fun _ _ _ _ _ st h=>wpAny_pyIter_zip st.1 h
def itO(k:Bool)(a:Addr):Obj:=match k with
 |true=>{ cls:=.type "list_iterator",data:=.fields #[.ref a,.int 0 0]}
 |false=>{ cls:=.type "tuple_iterator",data:=.fields #[.ref a,.int 0 0]}
def zw1(k1:Bool)(h:Heap)(a1:Addr):Heap:=h.push (itO k1 a1)
def zw2(k1 k2:Bool)(h:Heap)(a1 a2:Addr):Heap:=(zw1 k1 h a1).push (itO k2 a2)
def zw3(k1 k2:Bool)(h:Heap)(a1 a2:Addr):Heap:=(zw2 k1 k2 h a1 a2).push { cls:=.type "tuple",data:=.seq #[.ref h.objs.size,.ref (zw1 k1 h a1).objs.size]}
def zw4(k1 k2:Bool)(h:Heap)(a1 a2:Addr):Heap:=(zw3 k1 k2 h a1 a2).push { cls:=.type "tuple",data:=.seq #[.none,.none]}
def zw5(k1 k2:Bool)(h:Heap)(a1 a2:Addr):Heap:=(zw4 k1 k2 h a1 a2).push { cls:=.type "zip",data:=.fields #[.none,.bool false,.bool false,.ref (zw2 k1 k2 h a1 a2).objs.size,.ref (zw3 k1 k2 h a1 a2).objs.size]}
theorem itK{k:Bool}{h:Heap}{jt a:Addr}(e:h.get? jt=some (itO k a)):Ik k h jt a 0:=by
 cases k<;>exact⟨_,e,rfl,rfl⟩
theorem itO_free{k:Bool}{a:Addr}:(itO k a).isFreed=false:=by cases k<;>rfl
theorem new_zip(k1 k2:Bool)(a1 a2:Addr)(xs ys:Array Value):Meets (Builtin.«zip.__new__» ⟨[.type "zip",.ref a1,.ref a2],[]⟩) (fun _ R s=>Sk k1 s.heap a1 xs/\Sk k2 s.heap a2 ys ∧
   R (.ok (.ret (.ref (zw4 k1 k2 s.heap a1 a2).objs.size))) { s with heap:=zw5 k1 k2 s.heap a1 a2 }):=
 .of_wp fun prog w A R s h=>by
  obtain⟨hp,g,d,tk,os⟩:=s;obtain⟨h1,h2,h⟩:=h;have hsub:=sub_zip;cases k1<;>cases k2
  ·have q1:Heap.IsTuple (Shared.heap ⟨hp,g,d,tk,os⟩) a1 xs:=h1;have q2:Heap.IsTuple (Shared.heap ⟨hp.push { cls:=.type "tuple_iterator",data:=.fields #[.ref a1,.int 0 0]},g,d,tk,os⟩) a2 ys:=Heap.IsTuple.push h2 _;wp_walk using wpAny_pyIter_tuple q1,wpAny_pyIter_tuple q2;exact⟨_,rfl,h⟩
  ·have q1:Heap.IsTuple (Shared.heap ⟨hp,g,d,tk,os⟩) a1 xs:=h1;have q2:Heap.IsList (Shared.heap ⟨hp.push { cls:=.type "tuple_iterator",data:=.fields #[.ref a1,.int 0 0]},g,d,tk,os⟩) a2 ys:=Heap.IsList.push h2 _;wp_walk using wpAny_pyIter_tuple q1,wpAny_pyIter_list q2;exact⟨_,rfl,h⟩
  ·have q1:Heap.IsList (Shared.heap ⟨hp,g,d,tk,os⟩) a1 xs:=h1;have q2:Heap.IsTuple (Shared.heap ⟨hp.push { cls:=.type "list_iterator",data:=.fields #[.ref a1,.int 0 0]},g,d,tk,os⟩) a2 ys:=Heap.IsTuple.push h2 _;wp_walk using wpAny_pyIter_list q1,wpAny_pyIter_tuple q2;exact⟨_,rfl,h⟩
  ·have q1:Heap.IsList (Shared.heap ⟨hp,g,d,tk,os⟩) a1 xs:=h1;have q2:Heap.IsList (Shared.heap ⟨hp.push { cls:=.type "list_iterator",data:=.fields #[.ref a1,.int 0 0]},g,d,tk,os⟩) a2 ys:=Heap.IsList.push h2 _;wp_walk using wpAny_pyIter_list q1,wpAny_pyIter_list q2;exact⟨_,rfl,h⟩
theorem zw_at{k1 k2:Bool}{h:Heap}{a1 a2:Addr}:IsZip (zw5 k1 k2 h a1 a2) (h.objs.size+4) (h.objs.size+2) (h.objs.size+3) .none/\IsPair (zw5 k1 k2 h a1 a2) (h.objs.size+2) (.ref h.objs.size) (.ref (h.objs.size+1))/\IsPair (zw5 k1 k2 h a1 a2) (h.objs.size+3) .none .none ∧
  Ik k1 (zw5 k1 k2 h a1 a2) h.objs.size a1 0/\Ik k2 (zw5 k1 k2 h a1 a2) (h.objs.size+1) a2 0/\(zw4 k1 k2 h a1 a2).objs.size=h.objs.size+4/\∀c o,h.get? c=some o->(zw5 k1 k2 h a1 a2).get? c=some o:=by
 have e1:(zw1 k1 h a1).objs.size=h.objs.size+1:=Heap.size_push ..;have e2:(zw2 k1 k2 h a1 a2).objs.size=h.objs.size+2:=(Heap.size_push ..).trans (by rw[e1]);have e3:(zw3 k1 k2 h a1 a2).objs.size=h.objs.size+3:=(Heap.size_push ..).trans (by rw[e2]);have e4:(zw4 k1 k2 h a1 a2).objs.size=h.objs.size+4:=(Heap.size_push ..).trans (by rw[e3]);have u5:∀c o,(zw4 k1 k2 h a1 a2).get? c=some o->(zw5 k1 k2 h a1 a2).get? c=some o:=fun c o e=>Heap.get?_push_of_some _ e;have u4:∀c o,(zw3 k1 k2 h a1 a2).get? c=some o->(zw5 k1 k2 h a1 a2).get? c=some o:=fun c o e=>u5 c o (Heap.get?_push_of_some _ e);have u3:∀c o,(zw2 k1 k2 h a1 a2).get? c=some o->(zw5 k1 k2 h a1 a2).get? c=some o:=fun c o e=>u4 c o (Heap.get?_push_of_some _ e);have u2:∀c o,(zw1 k1 h a1).get? c=some o->(zw5 k1 k2 h a1 a2).get? c=some o:=fun c o e=>u3 c o (Heap.get?_push_of_some _ e);have u1:∀c o,h.get? c=some o->(zw5 k1 k2 h a1 a2).get? c=some o:=fun c o e=>u2 c o (Heap.get?_push_of_some _ e);have g5:(zw5 k1 k2 h a1 a2).get? (zw4 k1 k2 h a1 a2).objs.size=some _:=Heap.get?_push_size _ rfl;have g4:(zw5 k1 k2 h a1 a2).get? (zw3 k1 k2 h a1 a2).objs.size=some _:=u5 _ _ (Heap.get?_push_size _ rfl);have g3:(zw5 k1 k2 h a1 a2).get? (zw2 k1 k2 h a1 a2).objs.size=some _:=u4 _ _ (Heap.get?_push_size _ rfl);have g2:(zw5 k1 k2 h a1 a2).get? (zw1 k1 h a1).objs.size=some (itO k2 a2):=u3 _ _ (Heap.get?_push_size _ itO_free);have g1:(zw5 k1 k2 h a1 a2).get? h.objs.size=some (itO k1 a1):=u2 _ _ (Heap.get?_push_size _ itO_free);rw[e2,e3,e4] at g5;rw[e1,e2] at g3;rw[e3] at g4;rw[e1] at g2;exact⟨g5,g3,g4,itK g1,itK g2,e4,u1⟩
theorem call_zip{P:Program}{w:World}{A:Around}{E:Value->Shared->Prop}{s:Shared}{k1 k2:Bool}{a1 a2:Addr}{xs ys:Array Value}{Q:Value->Shared->Prop}(h1:Sk k1 s.heap a1 xs)(h2:Sk k2 s.heap a2 ys)
  (q:Q (.ref (s.heap.objs.size+4)) { s with heap:=zw5 k1 k2 s.heap a1 a2 }):wpAny (model P w) A (call (.type "zip") [.ref a1,.ref a2]) Q E s:=by
 refine callType_new F.called_zip (by decide) (F.typeCall_zip_2 _ _) (F.newCall_zip_2 _ _) (fun obj=>F.args_object_init_3 obj _ _) F.entry_zip_new (new_zip k1 k2 a1 a2 xs ys) ⟨h1,h2,?_⟩;obtain⟨z1,_,_,_,_,z2,_⟩:=zw_at (k1:=k1) (k2:=k2) (h:=s.heap) (a1:=a1) (a2:=a2);show _/\_;rw[z2];exact⟨⟨_,z1,rfl⟩,q⟩
section
variable {X:Cx} {es:List Expr} {n0:Nat} {ps p pos:Pos}
def jZip(K:PySem.W.Frag)(ta:TA):TI:=fun σ H R=>ta σ H fun vs H1=>∃k1 k2 a1 a2,vs=[.ref a1,.ref a2]/\(∃xs,SqK K k1 H1 a1 xs)/\(∃ys,SqK K k2 H1 a2 ys)/\R (Itz K k1 k2 a1 a2) H1
theorem pi_zip{a b:Expr}{ta:TA}(hg:Gl X "zip")(hm:X.mg "zip" = none)(ha:PA X [a,b] ta)(hs:starEach [a,b] X.env=[(false,eval a X.env),(false,eval b X.env)]:=by rfl)(hs2:starEach [b] X.env=[(false,eval b X.env)]:=by rfl):
  PI X (.Tuple es n0 ps) (.Call (.Name "zip" p) [a,b] [] pos) (jZip X.K ta):=by
 intro pins s σ H R I h;refine Call_ (ld_blt I hg hm boot_zip (PyProof.Rows.callWith_type1 (thn (ha pos pins s σ H _ I h) fun us s1 ⟨vs,H1,I1,r1,q1⟩=>?_) (by rw[hs,hs2]) (by rw[hs2];rfl)));obtain⟨k1,k2,a1,a2,e,⟨xs,q1⟩,⟨ys,q2⟩,q⟩:=q1;subst e;cases r1 with
 |cons r rr=>
  cases rr with
  |cons r' rr=>
   cases rr;cases r;cases r';obtain⟨its1,rv1,p1⟩:=q1.heap I1;obtain⟨its2,rv2,p2⟩:=q2.heap I1;refine call_zip p1 p2 ?_;obtain⟨z1,z2,z3,z4,z5,z6,z7⟩:=zw_at (k1:=k1) (k2:=k2) (h:=s1.heap) (a1:=a1) (a2:=a2);refine wpAny_pyIter_zip (s:={ s1 with heap:=zw5 k1 k2 s1.heap a1 a2 }) z1 ?_
   refine⟨s1.heap.objs.size+4,[s1.heap.objs.size+4,s1.heap.objs.size+2,s1.heap.objs.size+3,s1.heap.objs.size,s1.heap.objs.size+1],_,_,H1,rfl,I1.kept (t':=s1.toks) z7,turn_zip k1 k2 a1 a2 _ _ _ _ _ (by simp),⟨z1,z2,⟨_,_,z3⟩,z4,z5⟩,fun b hb=>?_,q⟩;have hb:s1.heap.objs.size≤b:=by
    simp only[List.mem_cons,List.not_mem_nil,or_false] at hb;rcases hb with rfl|rfl|rfl|rfl|rfl
    ·exact Nat.le_add_right _ _
    ·exact Nat.le_add_right _ _
    ·exact Nat.le_add_right _ _
    ·exact Nat.le_refl _
    ·exact Nat.le_add_right _ _
   exact I1.fpOk hb (I1.hok.fresh hb)
def seqD(G:Gp):D->List D->Prop
 |.obj p,ds=>G p=some (.lst ds)
 |.tup es,ds=>ds=es
 |.scr es,ds=>ds=es
 |_,_=>False
def zipD(xs ys:List D):List D:=List.zipWith (fun x y=>.tup [x,y]) xs ys
def iZip(ta:TA3):TI3:=fun τ G R=>ta τ G fun ds G1=>match ds with
 |[x,y]=>∃xs ys,seqD G1 x xs/\seqD G1 y ys/\R ⟨zipD xs ys,fun G=>seqD G x xs/\seqD G y ys⟩ G1
 |_=>False
theorem seqD_sq{K:PySem.W.Frag}{H:Hp}{x:D}{v:V}(hv:Hv K H x v):∃k,∀H' G' xs,Ext H H'->RepG K G' H'->seqD G' x xs->∃a vs,v=.ref a/\SqK K k H' a vs/\Hvs K H' xs vs:=by
 cases x with
 |obj p=>
  unfold Hv at hv;subst hv;refine⟨true,fun H' G' xs E RG h=>?_⟩;obtain⟨vs,e2,e3⟩:=RG p _ h;exact⟨p,vs,rfl,SqL.of e2,e3⟩
 |tup es=>
  unfold Hv at hv;obtain⟨a,vs,rfl,e2,e3⟩:=hv;refine⟨false,fun H' G' xs E RG h=>?_⟩;cases (show xs=es from h);exact⟨a,vs,rfl,SqT.ext E e2,e3.ext E⟩
 |scr es=>
  unfold Hv at hv;obtain⟨a,vs,rfl,e2,e3⟩:=hv;refine⟨true,fun H' G' xs E RG h=>?_⟩;cases (show xs=es from h);exact⟨a,vs,rfl,(SqF.ext E e2).l,e3.ext E⟩
 |non=>exact⟨true,fun _ _ _ _ _ h=>h.elim⟩
 |bl _=>exact⟨true,fun _ _ _ _ _ h=>h.elim⟩
 |int _=>exact⟨true,fun _ _ _ _ _ h=>h.elim⟩
 |str _=>exact⟨true,fun _ _ _ _ _ h=>h.elim⟩
 |dc _=>exact⟨true,fun _ _ _ _ _ h=>h.elim⟩
theorem zipD_get{xs ys:List D}{i:Nat}{d:D}(h:(zipD xs ys)[i]?=some d):∃x y,xs[i]?=some x/\ys[i]?=some y/\d=.tup [x,y]:=by
 unfold zipD at h;rw[List.getElem?_zipWith] at h;cases hx:xs[i]? with
 |none=>rw[hx] at h;cases h
 |some x=>
  cases hy:ys[i]? with
  |none=>rw[hx,hy] at h;cases h
  |some y=>
   rw[hx,hy] at h;cases h;exact⟨x,y,rfl,rfl,rfl⟩
theorem i_zip{a b:Expr}{ta:TA3}(hm:X.mg "zip" = none)(ha:PA3 X [a,b] ta)(hg:Gl X "zip":=by rfl)(hs:notStar a=true:=by rfl)(hs2:notStar b=true:=by rfl):
  PI3 X (.Tuple es n0 ps) (.Call (.Name "zip" p) [a,b] [] pos) (iZip ta):=
 pi_of (pi_zip hg hm ha (by rw[star_of hs,star_of hs2];rfl) (star_of hs2)) fun σ H R ⟨τ,G,R3,RS,RG,h,k⟩=>⟨τ,G,_,RS,RG,h,fun vs H1 ds G1 h1 S1 R1 q1=>by
  rcases ds with _|⟨d,_|⟨d2,_|⟨d3,ds⟩⟩⟩
  ·exact q1.elim
  ·exact q1.elim
  ·obtain⟨xs,ys,s1,s2,q⟩:=q1;obtain⟨v,r,rfl,z1,z2⟩:=h1.inv;obtain⟨v',r',rfl,z3,z4⟩:=z2.inv;cases z4.inv0;obtain⟨k1,f1⟩:=seqD_sq z1;obtain⟨k2,f2⟩:=seqD_sq z3;obtain⟨a1,vs1,rfl,y1,w1⟩:=f1 _ _ _ (Ext.refl _) R1 s1;obtain⟨a2,vs2,rfl,y2,w2⟩:=f2 _ _ _ (Ext.refl _) R1 s2;refine⟨k1,k2,a1,a2,rfl,⟨_,y1⟩,⟨_,y2⟩,k _ _ _ _ ⟨?_,?_⟩ S1 R1 q⟩
   ·intro i d H' G' E' RG' hg hi;obtain⟨x,y,e1,e2,rfl⟩:=zipD_get hi;obtain⟨b1,us1,c1,m1,n1⟩:=f1 _ _ _ E' RG' hg.1;obtain⟨b2,us2,c2,m2,n2⟩:=f2 _ _ _ E' RG' hg.2;cases c1;cases c2;obtain⟨u1,o1,o2⟩:=n1.get e1;obtain⟨u2,o3,o4⟩:=n2.get e2;refine⟨⟨_,_,_,_,⟨m1,o1⟩,m2,o3⟩,fun x' H'' hy=>?_⟩;obtain⟨T,u,v,rfl,hn,rfl,t1,t2⟩:=hy;have:=t1 _ m1;rw[o1] at this;cases this;have:=t2 _ m2;rw[o3] at this;cases this;refine⟨?_,.laid hn,RG'.laid hn⟩;unfold Hv;exact⟨T,_,rfl,.of upd_same,.cons (o2.ext (.laid hn)) (.cons (o4.ext (.laid hn)) .nil)⟩
   ·intro i H' G' E' RG' hg hi;obtain⟨b1,us1,c1,m1,n1⟩:=f1 _ _ _ E' RG' hg.1;obtain⟨b2,us2,c2,m2,n2⟩:=f2 _ _ _ E' RG' hg.2;cases c1;cases c2;refine⟨_,_,m1,m2,?_⟩;have hi:(zipD xs ys).length≤i:=hi;unfold zipD at hi;rw[List.length_zipWith] at hi;rw[←n1.length,←n2.length];lia
  ·exact q1.elim⟩
end
end L3
namespace L3
open PySem PySem.Spec PyProof.Rows L2
open Sem (wp)
section
variable {X:Cx} {K:PySem.W.Frag}
def rIsB3:R3:=fun x y G Q=>match x,y with
 |.bl b,.bl c=>Q (.bl (b==c)) G
 |_,_=>False
theorem op_isnB:OpR X (compareOp .IsNot) (fun x y H Q=>∃b c,x=.bl b/\y=.bl c/\Q (.bl (!(b==c))) H):=by
 intro pins s σ H x y v u Q I rx ry h;obtain⟨b,c,rfl,rfl,q⟩:=h;cases rx;cases ry;exact wpAny_pure (fin_bl I q (by cases b<;>cases c<;>rfl))
def rIsnB3:R3:=fun x y G Q=>match x,y with
 |.bl b,.bl c=>Q (.bl (!(b==c))) G
 |_,_=>False
theorem l_isnB:LowR K rIsnB3 (fun x y H Q=>∃b c,x=.bl b/\y=.bl c/\Q (.bl (!(b==c))) H):=fun x y vx vy G H Q3 Q hx hy RG h k=>by
 cases x with
 |bl b=>
  cases y with
  |bl c=>exact⟨b,c,hv_bl hx,hv_bl hy,k _ H _ G mk_bl (.refl H G) RG h⟩
  |_=>exact h.elim
 |_=>exact h.elim
end
end L3
namespace L3
open PySem PySem.Spec PyProof.Rows L2
open Classical in
noncomputable def eqF (h:Heap) (vs:List Dat.D) (u:Dat.D) (y:Value):Bool:=if q:∃d,d∈vs/\Dat.Hv h d y then (Classical.choose q).eqb u else false
theorem eqF_at{h:Heap}{vs:List Dat.D}{u d:Dat.D}{y:Value}(hd:d∈vs)(hy:Dat.Hv h d y):eqF h vs u y=d.eqb u:=by
 unfold eqF;have q:∃d,d∈vs/\Dat.Hv h d y:=⟨d,hd,hy⟩;rw[dif_pos q,Dat.Hv.inj (Classical.choose_spec q).2 hy]
theorem any_eqF{h:Heap}{vs0:List Dat.D}{u:Dat.D}:∀{vs:List Dat.D} {us:List Value},(∀d∈vs,d∈vs0)->Dat.Hvs h vs us->us.any (eqF h vs0 u)=vs.any fun v=>v.eqb u
 |[],us,_,p=>by
  unfold Dat.Hvs at p;subst p;rfl
 |d::ds,us,hm,p=>by
  unfold Dat.Hvs at p;obtain⟨y,r,rfl,p1,p2⟩:=p;rw[List.any_cons,List.any_cons,eqF_at (hm d List.mem_cons_self) p1,any_eqF (fun d hd=>hm d (List.mem_cons_of_mem _ hd)) p2]
theorem mem_hvs{h:Heap}{y:Value}:∀{vs:List Dat.D} {us:List Value},Dat.Hvs h vs us->y∈us->∃d,d∈vs/\Dat.Hv h d y
 |[],us,p,hy=>by
  unfold Dat.Hvs at p;subst p;cases hy
 |d::ds,us,p,hy=>by
  unfold Dat.Hvs at p;obtain⟨x,r,rfl,p1,p2⟩:=p;rcases List.mem_cons.mp hy with rfl|hy
  ·exact⟨d,List.mem_cons_self,p1⟩
  ·obtain⟨e,h1,h2⟩:=mem_hvs p2 hy;exact⟨e,List.mem_cons_of_mem _ h1,h2⟩
def rIn3(neg:Bool):R3:=fun x y G Q=>∃u vs,toDat G x=some u/\(toDat G y=some (.lst vs)∨toDat G y=some (.tup vs))/\Dat.deps vs≤50/\Q (.bl (if neg then !(vs.any fun v=>v.eqb u) else vs.any fun v=>v.eqb u)) G
section
variable {X:Cx}
theorem inR(hu:X.A.units+64<cLine):CmpR X (compareOp .In) (rIn3 false):=by
 intro pins s σ H G x y vx vy u v Q3 I RG hx hy rx ry ⟨p,vs,e1,e2,hd,h⟩;have dx:=dat_ok I RG hx rx e1;have fin:EP X pins σ (fun w H'=>∃d G',Hv X.K H' d w/\Step H G H' G'/\RepG X.K G' H'/\Q3 d G') (.bool (vs.any fun v=>v.eqb p)) s:=⟨.bl _,H,I,rfl,.bl _,G,mk_bl,.refl H G,RG,h⟩;have he:∀(its:List Value),Dat.Hvs s.heap vs its->∀y,y∈its.toArray->SeqAt.EqAt X.A.in1 s y u (eqF s.heap vs p y):=fun its hv y hy=>by
  obtain⟨d,hd',hv'⟩:=mem_hvs hv (by simpa using hy);rw[eqF_at hd' hv'];exact Dat.eqAt d p y u _ hv' dx (by
   have:=Dat.dep_mem hd';have h1:X.A.in1.units=X.A.units+1:=rfl;omega)
 rcases e2 with e2|e2
 ·have dy:=dat_ok I RG hy ry e2;unfold Dat.Hv at dy;obtain⟨a,its,rfl,hl,hv⟩:=dy;refine SeqAt.in_listAt (eqF s.heap vs p) hl (he its hv) ?_;rw[List.any_toArray,any_eqF (fun d hd=>hd) hv];exact fin
 ·have dy:=dat_ok I RG hy ry e2;unfold Dat.Hv at dy;obtain⟨a,its,rfl,hl,hv⟩:=dy;refine SeqAt.in_tupleAt (eqF s.heap vs p) hl (he its hv) ?_;rw[List.any_toArray,any_eqF (fun d hd=>hd) hv];exact fin
theorem ninR(hu:X.A.units+64<cLine):CmpR X (compareOp .NotIn) (rIn3 true):=by
 intro pins s σ H G x y vx vy u v Q3 I RG hx hy rx ry ⟨p,vs,e1,e2,hd,h⟩;have dx:=dat_ok I RG hx rx e1;have fin:EP X pins σ (fun w H'=>∃d G',Hv X.K H' d w/\Step H G H' G'/\RepG X.K G' H'/\Q3 d G') (.bool (!(vs.any fun v=>v.eqb p))) s:=⟨.bl _,H,I,rfl,.bl _,G,mk_bl,.refl H G,RG,h⟩;have he:∀(its:List Value),Dat.Hvs s.heap vs its->∀y,y∈its.toArray->SeqAt.EqAt X.A.in1 s y u (eqF s.heap vs p y):=fun its hv y hy=>by
  obtain⟨d,hd',hv'⟩:=mem_hvs hv (by simpa using hy);rw[eqF_at hd' hv'];exact Dat.eqAt d p y u _ hv' dx (by
   have:=Dat.dep_mem hd';have h1:X.A.in1.units=X.A.units+1:=rfl;omega)
 rcases e2 with e2|e2
 ·have dy:=dat_ok I RG hy ry e2;unfold Dat.Hv at dy;obtain⟨a,its,rfl,hl,hv⟩:=dy;refine SeqAt.notIn_listAt (eqF s.heap vs p) hl (he its hv) ?_;rw[List.any_toArray,any_eqF (fun d hd=>hd) hv];exact fin
 ·have dy:=dat_ok I RG hy ry e2;unfold Dat.Hv at dy;obtain⟨a,its,rfl,hl,hv⟩:=dy;refine SeqAt.notIn_tupleAt (eqF s.heap vs p) hl (he its hv) ?_;rw[List.any_toArray,any_eqF (fun d hd=>hd) hv];exact fin
theorem op_inA(hu:X.A.units+64<cLine):OpR X (compareOp .In) (cmpR2 X.K (rIn3 false)):=(inR hu).op
theorem op_ninA(hu:X.A.units+64<cLine):OpR X (compareOp .NotIn) (cmpR2 X.K (rIn3 true)):=(ninR hu).op
theorem l_in{K:PySem.W.Frag}:LowR K (rIn3 false) (cmpR2 K (rIn3 false)):=l_cmp
theorem l_nin{K:PySem.W.Frag}:LowR K (rIn3 true) (cmpR2 K (rIn3 true)):=l_cmp
end
end L3
namespace L3
open PySem PySem.Spec PyProof.Rows L2
structure QE(X:Cx)(e:Expr)(t:TE3):Prop where
 of:PE3 X e t
structure QT(X:Cx)(e:Expr)(t:TT3):Prop where
 of:PT3 X e t
structure QW(X:Cx)(e:Expr)(t:TT3):Prop where
 of:PW3 X e t
structure QA(X:Cx)(es:List Expr)(t:TA3):Prop where
 of:PA3 X es t
structure QS(X:Cx)(st:Stmt)(t:TS3):Prop where
 of:PS3 X st t
structure QSs(X:Cx)(st:List Stmt)(t:TS3):Prop where
 of:PSs3 X st t
structure QG(X:Cx)(tg:Expr)(t:TG3):Prop where
 of:PG3 X tg t
structure QGs(X:Cx)(tgs:List Expr)(t:TGs3):Prop where
 of:PGs3 X tgs t
structure QI(X:Cx)(tg iter:Expr)(t:TI3):Prop where
 of:PI3 X tg iter t
structure QO(X:Cx)(e:Option Expr)(t:TO3):Prop where
 of:PO3 X e t
structure QC(X:Cx)(ifs:List Expr)(t:TT3):Prop where
 of:PCt X ifs (lowT X.K t)
section
variable {X:Cx} {a b e c:Expr} {ta tb te:TE3} {tA tB:TT3} {pos:Pos} {es rest:List Expr}
theorem qe_var{i:Nat}{x:Str}(h:PE X (.Name x pos) (tVar i)):QE X (.Name x pos) (eVar i):=⟨e_var (h:=h)⟩
end
section
variable {X:Cx} {a b e c:Expr} {ta tb te:TE3} {tA tB:TT3} {pos:Pos} {es rest:List Expr}
theorem qe_int{i:Int}{j}:QE X (.Constant (.int i) j pos) (eC (.int i)):=⟨e_int ⟩
end
section
variable {X:Cx} {a b e c:Expr} {ta tb te:TE3} {tA tB:TT3} {pos:Pos} {es rest:List Expr}
theorem qe_bl{i:Bool}{j}:QE X (.Constant (.bool i) j pos) (eC (.bl i)):=⟨e_bl ⟩
end
section
variable {X:Cx} {a b e c:Expr} {ta tb te:TE3} {tA tB:TT3} {pos:Pos} {es rest:List Expr}
theorem qe_non{j}:QE X (.Constant .none j pos) (eC .non):=⟨e_non ⟩
end
section
variable {X:Cx} {a b e c:Expr} {ta tb te:TE3} {tA tB:TT3} {pos:Pos} {es rest:List Expr}
theorem qe_str{x:Str}{j}:QE X (.Constant (.str x) j pos) (eC (.str x)):=⟨e_str ⟩
end
section
variable {X:Cx} {a b e c:Expr} {ta tb te:TE3} {tA tB:TT3} {pos:Pos} {es rest:List Expr}
theorem qe_op{op:Operator}{r:R3}{r2:R2}(L:LowR X.K r r2)(ho:OpR X (binaryOp op) r2)(ha:QE X a ta)(hb:QE X b tb):QE X (.BinOp a op b pos) (eOp r ta tb):=⟨e_op (L:=L) (ho:=ho) (ha:=ha.of) (hb:=hb.of)⟩
end
section
variable {X:Cx} {a b e c:Expr} {ta tb te:TE3} {tA tB:TT3} {pos:Pos} {es rest:List Expr}
theorem qe_cmp{op:CmpOp}{r:R3}{r2:R2}(L:LowR X.K r r2)(ho:OpR X (compareOp op) r2)(ha:QE X a ta)(hb:QE X b tb)(hm:behindInMarks op b=false):QE X (.Compare a [op] [b] pos) (eOp r ta tb):=⟨e_cmp (L:=L) (ho:=ho) (ha:=ha.of) (hb:=hb.of) (hm:=hm)⟩
end
section
variable {X:Cx} {a b e c:Expr} {ta tb te:TE3} {tA tB:TT3} {pos:Pos} {es rest:List Expr}
theorem qtt_cmp{op:CmpOp}{r:R3}{r2:R2}(L:LowR X.K r r2)(ho:OpR X (compareOp op) r2)(ha:QE X a ta)(hb:QE X b tb)(hm:behindInMarks op b=false):QT X (.Compare a [op] [b] pos) (eTest (eOp r ta tb)):=⟨tt_cmp (L:=L) (ho:=ho) (ha:=ha.of) (hb:=hb.of) (hm:=hm)⟩
end
section
variable {X:Cx} {a b e c:Expr} {ta tb te:TE3} {tA tB:TT3} {pos:Pos} {es rest:List Expr}
theorem qtt_val(h:QE X a ta)(he:∀whole,isTrue a X.env whole=(do let v ←whole;standAt a.pos;holding [v] (truthy v)):=by intro _;rfl):QT X a (eTest ta):=⟨tt_val (h:=h.of) (he:=he)⟩
end
section
variable {X:Cx} {a b e c:Expr} {ta tb te:TE3} {tA tB:TT3} {pos:Pos} {es rest:List Expr}
theorem qe_neg(ha:QE X a ta):QE X (.UnaryOp .USub a pos) (eUn rNeg3 ta):=⟨e_neg (ha:=ha.of)⟩
end
section
variable {X:Cx} {a b e c:Expr} {ta tb te:TE3} {tA tB:TT3} {pos:Pos} {es rest:List Expr}
theorem qtw_and1(ha:QT X a tA):QW X (.BoolOp .And [a] pos) tA:=⟨tw_and1 (ha:=ha.of)⟩
end
section
variable {X:Cx} {a b e c:Expr} {ta tb te:TE3} {tA tB:TT3} {pos:Pos} {es rest:List Expr}
theorem qtw_or1(ha:QT X a tA):QW X (.BoolOp .Or [a] pos) tA:=⟨tw_or1 (ha:=ha.of)⟩
end
section
variable {X:Cx} {a b e c:Expr} {ta tb te:TE3} {tA tB:TT3} {pos:Pos} {es rest:List Expr}
theorem qtw_and(ha:QT X a tA)(hb:QW X (.BoolOp .And (b::rest) pos) tB):QW X (.BoolOp .And (a::b::rest) pos) (eAnd tA tB):=⟨tw_and (ha:=ha.of) (hb:=hb.of)⟩
end
section
variable {X:Cx} {a b e c:Expr} {ta tb te:TE3} {tA tB:TT3} {pos:Pos} {es rest:List Expr}
theorem qtw_or(ha:QT X a tA)(hb:QW X (.BoolOp .Or (b::rest) pos) tB):QW X (.BoolOp .Or (a::b::rest) pos) (eOr tA tB):=⟨tw_or (ha:=ha.of) (hb:=hb.of)⟩
end
section
variable {X:Cx} {a b e c:Expr} {ta tb te:TE3} {tA tB:TT3} {pos:Pos} {es rest:List Expr}
theorem qtt_w(h:QW X a tA):QT X a tA:=⟨tt_w (h:=h.of)⟩
end
section
variable {X:Cx} {a b e c:Expr} {ta tb te:TE3} {tA tB:TT3} {pos:Pos} {es rest:List Expr}
theorem qtt_not(ha:QT X a tA):QT X (.UnaryOp .Not a pos) (eNot tA):=⟨tt_not (ha:=ha.of)⟩
end
section
variable {X:Cx} {a b e c:Expr} {ta tb te:TE3} {tA tB:TT3} {pos:Pos} {es rest:List Expr}
theorem qe_one{op}(h:QE X a ta):QE X (.BoolOp op [a] pos) ta:=⟨e_one (h:=h.of)⟩
end
section
variable {X:Cx} {a b e c:Expr} {ta tb te:TE3} {tA tB:TT3} {pos:Pos} {es rest:List Expr}
theorem qe_and(ha:QE X a ta)(hb:QE X (.BoolOp .And (b::rest) pos) tb):QE X (.BoolOp .And (a::b::rest) pos) (eAndV ta tb):=⟨e_and (ha:=ha.of) (hb:=hb.of)⟩
end
section
variable {X:Cx} {a b e c:Expr} {ta tb te:TE3} {tA tB:TT3} {pos:Pos} {es rest:List Expr}
theorem qe_not(ha:QE X a ta):QE X (.UnaryOp .Not a pos) (eNotV ta):=⟨e_not (ha:=ha.of)⟩
end
section
variable {X:Cx} {a b e c:Expr} {ta tb te:TE3} {tA tB:TT3} {pos:Pos} {es rest:List Expr}
theorem qa_nil  : QA X [] aNil:=⟨a_nil ⟩
end
section
variable {X:Cx} {a b e c:Expr} {ta tb te:TE3} {tA tB:TT3} {pos:Pos} {es rest:List Expr}
theorem qa_cons{tr:TA3}(ha:QE X a ta)(hr:QA X es tr)(hs:notStar a=true:=by rfl):QA X (a::es) (aCons ta tr):=⟨a_cons (ha:=ha.of) (hr:=hr.of) (hs:=hs)⟩
end
section
variable {X:Cx} {a b e c:Expr} {ta tb te:TE3} {tA tB:TT3} {pos:Pos} {es rest:List Expr}
theorem qe_tup{t:TA3}{x1}(h:QA X es t):QE X (.Tuple es x1 pos) (eTup t):=⟨e_tup (h:=h.of)⟩
end
section
variable {X:Cx} {a b e c:Expr} {ta tb te:TE3} {tA tB:TT3} {pos:Pos} {es rest:List Expr}
theorem qe_lst{t:TA3}(h:QA X es t):QE X (.List es pos) (eLst t):=⟨e_lst (h:=h.of)⟩
end
section
variable {X:Cx} {st:Stmt} {rest:List Stmt} {t u:TS3} {e c:Expr} {te:TE3} {tc:TT3} {pos:Pos}
theorem qs_nil  : QSs X [] sNext:=⟨s_nil ⟩
end
section
variable {X:Cx} {st:Stmt} {rest:List Stmt} {t u:TS3} {e c:Expr} {te:TE3} {tc:TT3} {pos:Pos}
theorem qs_cons(h1:QS X st t)(h2:QSs X rest u):QSs X (st::rest) (sSeq t u):=⟨s_cons (h1:=h1.of) (h2:=h2.of)⟩
end
section
variable {X:Cx} {st:Stmt} {rest:List Stmt} {t u:TS3} {e c:Expr} {te:TE3} {tc:TT3} {pos:Pos}
theorem qs_one(h1:QS X st t):QSs X [st] t:=⟨s_one (h1:=h1.of)⟩
end
section
variable {X:Cx} {st:Stmt} {rest:List Stmt} {t u:TS3} {e c:Expr} {te:TE3} {tc:TT3} {pos:Pos}
theorem qs_expr(he:QE X e te)(hs:swapsWith e none pos.line X.env=pure false:=by rfl):QS X (.Expr e pos) (sDrop te):=⟨s_expr (he:=he.of) (hs:=hs)⟩
end
section
variable {X:Cx} {st:Stmt} {rest:List Stmt} {t u:TS3} {e c:Expr} {te:TE3} {tc:TT3} {pos:Pos}
theorem qs_ret(he:QE X e te):QS X (.Return (some e) pos) (sRet te):=⟨s_ret (he:=he.of)⟩
end
section
variable {X:Cx} {st:Stmt} {rest:List Stmt} {t u:TS3} {e c:Expr} {te:TE3} {tc:TT3} {pos:Pos}
theorem qs_if{a b:List Stmt}(hc:QT X c tc)(ha:QSs X a t)(hb:QSs X b u):QS X (.If c a b pos) (sIf tc t u):=⟨s_if (hc:=hc.of) (ha:=ha.of) (hb:=hb.of)⟩
end
section
variable {X:Cx} {pos:Pos} {e:Expr} {es:List Expr}
theorem qh_name{i:Nat}{x:Str}(hN:X.N.Nodup)(hi:X.N[i]?=some x:=by rfl)(hx:Loc X.env.scope x:=by first|exact Or.inl rfl|exact Or.inr rfl)(hf:X.fn x=true∨X.env.scope.names.lookup x=some .local:=by first|exact .inl rfl|exact .inr rfl|assumption):QG X (.Name x pos) (hName i):=⟨h_name (hN:=hN) (hi:=hi) (hx:=hx) (hf:=hf)⟩
end
section
variable {X:Cx} {pos:Pos} {e:Expr} {es:List Expr}
theorem qhs_nil  : QGs X [] hNil:=⟨hs_nil ⟩
end
section
variable {X:Cx} {pos:Pos} {e:Expr} {es:List Expr}
theorem qhs_cons{t:TG3}{u:TGs3}(h1:QG X e t)(h2:QGs X es u)(hs:(assignEach (e::es) X.env).map (·.2)=assign e X.env::(assignEach es X.env).map (·.2):=by rfl):QGs X (e::es) (hCons t u):=⟨hs_cons (h1:=h1.of) (h2:=h2.of) (hs:=hs)⟩
end
section
variable {X:Cx} {pos:Pos} {e:Expr} {es:List Expr}
theorem qh_tup{k:Nat}{t:TGs3}{n:Nat}(hc:X.calm=true)(h:QGs X es t)(hn:(assignEach es X.env).length=n:=by rfl)(hst:(assignEach es X.env).findIdx? (·.1)=none:=by rfl):QG X (.Tuple es k pos) (hTup n t):=⟨h_tup (hc:=hc) (h:=h.of) (hn:=hn) (hst:=hst)⟩
end
section
variable {X:Cx} {pos:Pos} {e:Expr} {es:List Expr}
theorem qs_asg{tg:Expr}{te:TE3}{g:TG3}(he:QE X e te)(hg:QG X tg g)(hs:swapsWithSole [tg] e pos.line X.env=pure false:=by rfl)(hw:swappedStores [tg] e X.env=pure none:=by rfl)(h1:(assignEach [tg] X.env).map (·.2)=[assign tg X.env]:=by rfl):QS X (.Assign [tg] e pos) (sAsg te g):=⟨s_asg (he:=he.of) (hg:=hg.of) (hs:=hs) (hw:=hw) (h1:=h1)⟩
end
section
variable {X:Cx} {pos:Pos} {e:Expr} {es:List Expr}
theorem qs_set{i:Nat}{x:Str}{te:TE3}{pos':Pos}(hN:X.N.Nodup)(he:QE X e te)(hi:X.N[i]?=some x:=by rfl)(hx:Loc X.env.scope x:=by first|exact Or.inl rfl|exact Or.inr rfl)(hs:swapsWith e (some (.Name x pos')) pos.line X.env=pure false:=by rfl)(hf:X.fn x=true∨X.env.scope.names.lookup x=some .local:=by first|exact .inl rfl|exact .inr rfl|assumption):QS X (.Assign [.Name x pos'] e pos) (sAsg te (hName i)):=⟨s_set (hN:=hN) (he:=he.of) (hi:=hi) (hx:=hx) (hs:=hs) (hf:=hf)⟩
end
section
variable {X:Cx} {pos:Pos} {e:Expr} {es:List Expr}
theorem qh_sub{o i:Expr}{to ti:TE3}(ho:QE X o to)(hi:QE X i ti) (ha:∀v,assign (.Subscript o i pos) X.env v=(do
   let ov ←holding [v] (eval o X.env)
   let iv ←holding [v,ov] (eval i X.env)
   standAt pos
   holding [v,ov,iv] (setItem ov iv v)
   release [v,ov,iv] []):=by intro _;rfl):QG X (.Subscript o i pos) (hSub to ti):=⟨h_sub (ho:=ho.of) (hi:=hi.of) (ha:=ha)⟩
end
section
variable {X:Cx} {pos:Pos} {e:Expr} {es:List Expr}
theorem qs_while{c:Expr}{body:List Stmt}{tc:TT3}{tb:TS3}(hp:PassesOwn (model X.prog X.w) X.A X.env X.xe)(hc:QT X c tc)(hb:QSs X body tb):QS X (.While c body [] pos) (sWhile tc tb):=⟨s_while (hp:=hp) (hc:=hc.of) (hb:=hb.of)⟩
end
section
variable {X:Cx} {k:Nat} {f:Addr} {fd:FuncData} {ps:List Str} {sp:Sp3} {x:Str} {p pos:Pos} {e:Expr} {es:List Expr} {t:TA3}
theorem qe_call(F:FnOk3 X.prog X.w X.K X.mg X.base k f fd ps sp)(hr:Room k X.A)(hm:X.mg x=some (.ref f))(hk:PySem.W.keepIn X.K (.ref f)=true)(hb:Binds X.K fd ps [])(ha:QA X (e::es) t)(hg:Gl X x:=by rfl)(hdb:(x==("__debug__":Str))=false:=by decide)(he:notStar e=true:=by rfl)(hpl:es.all notStar=true:=by rfl):QE X (.Call (.Name x p) (e::es) [] pos) (eCall sp t):=⟨e_call (F:=F) (hr:=hr) (hm:=hm) (hk:=hk) (hb:=hb) (ha:=ha.of) (hg:=hg) (hdb:=hdb) (he:=he) (hpl:=hpl)⟩
end
section
variable {X:Cx} {tg iter:Expr} {pos p:Pos}
theorem qi_seq{l:Expr}{te:TE3}(hl:QE X l te):QI X tg l (iSeq te):=⟨i_seq (hl:=hl.of)⟩
end
section
variable {X:Cx} {tg iter:Expr} {pos p:Pos}
theorem qi_rng1{a:Expr}{ta:TA3}(hm:X.mg "range" = none)(ha:QA X [a] ta)(hg:Gl X "range":=by rfl)(hs:notStar a=true:=by rfl):QI X tg (.Call (.Name "range" p) [a] [] pos) (iRng1 ta):=⟨i_rng1 (hm:=hm) (ha:=ha.of) (hg:=hg) (hs:=hs)⟩
end
section
variable {X:Cx} {tg iter:Expr} {pos p:Pos}
theorem qs_for{body:List Stmt}{ti:TI3}{g:TG3}{tb:TS3}(hp:PassesOwn (model X.prog X.w) X.A X.env X.xe)(hc:X.calm=true)(hi:QI X tg iter ti)(hg:QG X tg g)(hb:QSs X body tb)(hs:∀x,foldedSetIterable iter X.env x=pure x:=by intro _;rfl):QS X (.For tg iter body [] pos) (sFor ti g tb):=⟨s_for (hp:=hp) (hc:=hc) (hi:=hi.of) (hg:=hg.of) (hb:=hb.of) (hs:=hs)⟩
end
section
variable {X:Cx} {tg iter:Expr} {pos p:Pos}
theorem qct_nil  : QC X [] (tNoTest3):=⟨ct_nil ⟩
end
section
variable {X:Cx} {tg iter:Expr} {pos p:Pos}
theorem qct_one{c:Expr}{t:TT3}(h:QT X c t):QC X [c] (t):=⟨ct_one (h:=h.of)⟩
end
section
variable {X:Cx} {K:PySem.W.Frag}
theorem qe_ix{a b:Expr}{ta tb:TE3}{pos:Pos}(ha:QE X a ta)(hb:QE X b tb)(hs:PlainIx b:=by intro _ _;rfl):QE X (.Subscript a b pos) (eOp rIx3 ta tb):=⟨e_ix (ha:=ha.of) (hb:=hb.of) (hs:=hs)⟩
end
section
variable {X:Cx} {K:PySem.W.Frag}
theorem qe_lstIx{es:List Expr}{b:Expr}{ta:TA3}{tb:TE3}{pos pos':Pos}(ha:QA X es ta)(hb:QE X b tb)(hs:PlainIx b:=by intro _ _;rfl):QE X (.Subscript (.List es pos') b pos) (eLstIx ta tb):=⟨e_lstIx (ha:=ha.of) (hb:=hb.of) (hs:=hs)⟩
end
section
variable {X:Cx} {a b e:Expr} {ta tb:TE3} {pos:Pos}
theorem qo_none  : QO X none oNone:=⟨o_none ⟩
end
section
variable {X:Cx} {a b e:Expr} {ta tb:TE3} {pos:Pos}
theorem qo_some(h:QE X e ta):QO X (some e) (oSome ta):=⟨o_some (h:=h.of)⟩
end
section
variable {X:Cx} {a b e:Expr} {ta tb:TE3} {pos:Pos}
theorem qe_sl{lo hi:Option Expr}{tl th:TO3}{p2:Pos}(ha:QE X a ta)(hl:QO X lo tl)(hh:QO X hi th):QE X (.Subscript a (.Slice lo hi none p2) pos) (eSl ta tl th):=⟨e_sl (ha:=ha.of) (hl:=hl.of) (hh:=hh.of)⟩
end
section
variable {X:Cx} {K:PySem.W.Frag} {e:Expr} {es:List Expr} {t:TA3} {ta:TE3} {pos p:Pos}
theorem qeb_len(hu:X.A.units+64<cLine)(hm:X.mg "len" = none)(ha:QA X (e::es) t)(hg:Gl X "len":=by rfl)(he:notStar e=true:=by rfl)(hpl:es.all notStar=true:=by rfl):QE X (.Call (.Name "len" p) (e::es) [] pos) (eCB r_len t):=⟨eb_len (hu:=hu) (hm:=hm) (ha:=ha.of) (hg:=hg) (he:=he) (hpl:=hpl)⟩
end
section
variable {X:Cx} {K:PySem.W.Frag} {e:Expr} {es:List Expr} {t:TA3} {ta:TE3} {pos p:Pos}
theorem qeb_int(hu:X.A.units+64<cLine)(hm:X.mg "int" = none)(ha:QA X (e::es) t)(hg:Gl X "int":=by rfl)(he:notStar e=true:=by rfl)(hpl:es.all notStar=true:=by rfl):QE X (.Call (.Name "int" p) (e::es) [] pos) (eCB r_int t):=⟨eb_int (hu:=hu) (hm:=hm) (ha:=ha.of) (hg:=hg) (he:=he) (hpl:=hpl)⟩
end
section
variable {X:Cx} {K:PySem.W.Frag} {e:Expr} {es:List Expr} {t:TA3} {ta:TE3} {pos p:Pos}
theorem qeb_max(hu:X.A.units+64<cLine)(hm:X.mg "max" = none)(ha:QA X (e::es) t)(hc:X.calm=true:=by rfl)(hg:Gl X "max":=by rfl)(he:notStar e=true:=by rfl)(hpl:es.all notStar=true:=by rfl):QE X (.Call (.Name "max" p) (e::es) [] pos) (eCB r_max t):=⟨eb_max (hu:=hu) (hm:=hm) (ha:=ha.of) (hc:=hc) (hg:=hg) (he:=he) (hpl:=hpl)⟩
end
section
variable {X:Cx} {K:PySem.W.Frag} {e:Expr} {es:List Expr} {t:TA3} {ta:TE3} {pos p:Pos}
theorem qeb_tuple(hu:X.A.units+64<cLine)(hm:X.mg "tuple" = none)(ha:QA X (e::es) t)(hg:Gl X "tuple":=by rfl)(he:notStar e=true:=by rfl)(hpl:es.all notStar=true:=by rfl):QE X (.Call (.Name "tuple" p) (e::es) [] pos) (eCB r_tuple t):=⟨eb_tuple (hu:=hu) (hm:=hm) (ha:=ha.of) (hg:=hg) (he:=he) (hpl:=hpl)⟩
end
section
variable {X:Cx} {K:PySem.W.Frag} {e:Expr} {es:List Expr} {t:TA3} {ta:TE3} {pos p:Pos}
theorem qeb_list(hu:X.A.units+64<cLine)(hm:X.mg "list" = none)(ha:QA X (e::es) t)(hg:Gl X "list":=by rfl)(he:notStar e=true:=by rfl)(hpl:es.all notStar=true:=by rfl):QE X (.Call (.Name "list" p) (e::es) [] pos) (eCB r_list t):=⟨eb_list (hu:=hu) (hm:=hm) (ha:=ha.of) (hg:=hg) (he:=he) (hpl:=hpl)⟩
end
section
variable {X:Cx} {a e:Expr} {es:List Expr} {ta:TE3} {t:TA3} {pos p p2:Pos}
theorem qe_inst{T:String}{TS:Str}(k:Kit T)(hv:bootBuiltins TS=some (.type T))(ha:QE X a ta)(hm:X.mg "isinstance" = none)(hm2:X.mg TS=none)(hgT:Gl X TS)(hnT:TS≠"__name__")(hdT:(TS==("__debug__":Str))=false)(hg:Gl X "isinstance":=by rfl)(he:notStar a=true:=by rfl):QE X (.Call (.Name "isinstance" p) [a,.Name TS p2] [] pos) (eInst T ta):=⟨e_inst (k:=k) (hv:=hv) (ha:=ha.of) (hm:=hm) (hm2:=hm2) (hgT:=hgT) (hnT:=hnT) (hdT:=hdT) (hg:=hg) (he:=he)⟩
end
section
variable {X:Cx} {K:PySem.W.Frag} {e:Expr} {es:List Expr} {t:TA3} {ta:TE3} {pos p p' pos':Pos}
theorem qe_sortSet(hu:X.A.units+64<cLine)(ha:QE X e ta)(hm:X.mg "sorted" = none)(hm2:X.mg "set" = none)(hc:X.calm=true:=by rfl)(hg:Gl X "sorted":=by rfl)(hg2:Gl X "set":=by rfl)(he2:notStar e=true:=by rfl):QE X (.Call (.Name "sorted" p) [.Call (.Name "set" p') [e] [] pos'] [] pos) (eSortSet ta):=⟨e_sortSet (hu:=hu) (ha:=ha.of) (hm:=hm) (hm2:=hm2) (hc:=hc) (hg:=hg) (hg2:=hg2) (he2:=he2)⟩
end
section
variable {X:Cx} {K:PySem.W.Frag} {e:Expr} {es:List Expr} {t:TA3} {ta:TE3} {pos p p' pos':Pos}
theorem qeb_all(hu:X.A.units+64<cLine)(hm:X.mg "all" = none)(ha:QA X (e::es) t)(hc:X.calm=true:=by rfl)(hg:Gl X "all":=by rfl)(he:notStar e=true:=by rfl)(hpl:es.all notStar=true:=by rfl):QE X (.Call (.Name "all" p) (e::es) [] pos) (eCB r_all t):=⟨eb_all (hu:=hu) (hm:=hm) (ha:=ha.of) (hc:=hc) (hg:=hg) (he:=he) (hpl:=hpl)⟩
end
section
variable {X:Cx} {K:PySem.W.Frag} {e:Expr} {es:List Expr} {t:TA3} {ta:TE3} {pos p p' pos':Pos}
theorem qeb_any(hu:X.A.units+64<cLine)(hm:X.mg "any" = none)(ha:QA X (e::es) t)(hc:X.calm=true:=by rfl)(hg:Gl X "any":=by rfl)(he:notStar e=true:=by rfl)(hpl:es.all notStar=true:=by rfl):QE X (.Call (.Name "any" p) (e::es) [] pos) (eCB r_any t):=⟨eb_any (hu:=hu) (hm:=hm) (ha:=ha.of) (hc:=hc) (hg:=hg) (he:=he) (hpl:=hpl)⟩
end
section
variable {X:Cx} {a:Expr} {ta:TE3} {te:TE} {pos p2 p3 p4:Pos} {j:Nat}
theorem qe_rev(ha:QE X a ta):QE X (.Subscript a (.Slice none none (some (.UnaryOp .USub (.Constant (.int 1) j p4) p3)) p2) pos) (eRev ta):=⟨e_rev (ha:=ha.of)⟩
end
section
variable {X:Cx} {a b c:Expr} {ta:TE3} {tb:TA3} {p pos pos':Pos}
theorem qtt_inRng1N(ha:QE X a ta)(hm:X.mg "range" = none)(hb:QA X [b] tb)(hg:Gl X "range":=by rfl)(hs:notStar b=true:=by rfl):QT X (.Compare a [.NotIn] [.Call (.Name "range" p) [b] [] pos'] pos) (eTest (eInRng1 true ta tb)):=⟨tt_inRng1N (ha:=ha.of) (hm:=hm) (hb:=hb.of) (hg:=hg) (hs:=hs)⟩
end
section
variable {X:Cx} {es:List Expr} {n0:Nat} {ps p pos:Pos}
theorem qi_zip{a b:Expr}{ta:TA3}(hm:X.mg "zip" = none)(ha:QA X [a,b] ta)(hg:Gl X "zip":=by rfl)(hs:notStar a=true:=by rfl)(hs2:notStar b=true:=by rfl):QI X (.Tuple es n0 ps) (.Call (.Name "zip" p) [a,b] [] pos) (iZip ta):=⟨i_zip (hm:=hm) (ha:=ha.of) (hg:=hg) (hs:=hs) (hs2:=hs2)⟩
end
section
variable {X:Cx} {a b c e o:Expr} {es:List Expr} {ta tb tc te to:TE3} {t:TA3} {pos apos cpos p:Pos}
theorem qe_chain{op op':CmpOp}{r r':R3}{r2 r2':R2}(L:LowR X.K r r2)(L':LowR X.K r' r2')(ho:OpR X (compareOp op) r2)(ho':OpR X (compareOp op') r2')(ha:QE X a ta)(hb:QE X b tb)(hc:QE X c tc)(hm:lastMarks [op,op'] [b,c]=false:=by with_unfolding_all rfl):
  QE X (.Compare a [op,op'] [b,c] pos) (eChain r r' ta tb tc):=⟨e_chain (op:=op) (op':=op') L L' (pe_chain ho ho' ha.of hb.of hc.of hm)⟩
theorem qe_mth{name:Str}{id:String}{r:D->List D->Gp->V3->Prop}{r2:V->List V->Hp->VK->Prop}(L:LowM X.K r r2)(slot:Slot "list" name id)(hty:typeOf (.builtin id)=pure (.type "method_descriptor"))(hm:MtR X id r2)(ho:QE X o to)(ha:QA X (e::es) t)
  (hbase:attributeBase o name X.env (eval o X.env)=eval o X.env:=by rfl)
  (hfew:((backTo cpos (starEach (e::es) X.env)).all (fun x=>!x.1)&&(backToKw cpos (keywordEach [] X.env)).all (fun x=>x.1.isSome)
   && decide ((e::es).length+([]:List Keyword).length+(if ([]:List Keyword).isEmpty then 0 else 1)<30))=true:=by rfl)
  (hline:(apos.endLine==cpos.line)=true:=by rfl) (he:notStar e=true:=by rfl) (hpl:es.all notStar=true:=by rfl):
  QE X (.Call (.Attribute o name apos) (e::es) [] cpos) (eM r to t):=⟨e_mth L (pe_bm PySem.F.plainAttrs_list slot hty hm ho.of ha.of hbase hfew hline (star_of he) (star_any hpl))⟩
theorem qs_par{i j:Nat}{x y:Str}{px py pt:Pos}{kt k2 pt2}(hc:X.calm=true)(hN:X.N.Nodup)(hi:X.N[i]?=some x)(hj:X.N[j]?=some y)(hij:i≠j)(hx:X.env.scope.names.lookup x=some .local)(hy:X.env.scope.names.lookup y=some .local)(ha:QA X [a,b] t)
  (hw:swappedStores [.Tuple [.Name x px,.Name y py] kt pt] (.Tuple [a,b] k2 pt2) X.env=pure (some [x,y])) (hs:swapsWithSole [.Tuple [.Name x px,.Name y py] kt pt] (.Tuple [a,b] k2 pt2) pos.line X.env=pure false:=by rfl):
  QS X (.Assign [.Tuple [.Name x px,.Name y py] kt pt] (.Tuple [a,b] k2 pt2) pos) (sPar i j t):=⟨s_par (ps_par hc hN hi hj hij hx hy ha.of hw hs)⟩
end
section
variable {X:Cx} {tg iter elt:Expr} {ifs:List Expr} {scope:Scope} {own:List Str} {js:List Nat} {ti:TI3} {g:TG3} {tc:TT3} {te:TE3} {pos:Pos}
theorem qe_comp(hc:X.calm=true)(C:CmpOk X.N X.env.scope scope own js)(hi:QI X tg iter ti)
  (hb:∀s H fp,QG (X.cmp scope own js s H fp) tg g/\QC (X.cmp scope own js s H fp) ifs tc/\QE (X.cmp scope own js s H fp) elt te)
  (hs:∀x,foldedSetIterable iter X.env x=pure x:=by intro _;rfl):QE X (.ListComp elt [⟨tg,iter,ifs,0⟩] scope pos) (eComp own js ti g tc te):=
 ⟨e_comp hc C hi.of (fun s H fp=>⟨(hb s H fp).1.of,(hb s H fp).2.1.of,(hb s H fp).2.2.of⟩) hs⟩
end
theorem qfn3{P:Program}{w:World}{K:PySem.W.Frag}{mg:Str->Option Value}{base:Heap}{x qual:Str}{st:Stmt}{f:Addr}{fd:FuncData}{N ps:List Str}{k:Nat}{sp:Sp3}(F:Fun K x qual st f fd)(S:FnScope N ps (defScope st))(hN:ps.length≤N.length)(len:∀ds G Q,sp ds G Q->ds.length=ps.length)(tb:TS3)
  (hbody:∀(cdv:Value) (A:Around) (outer:List Env) (s:Shared) (H:Hp) (E:XK),Room k (A.deeper (envOfC qual (defScope st) s.heap.objs.size f cdv)) ->
   QSs (cxOf CX0 P w K mg base N qual (defScope st) f cdv A outer s H E).nox (defBody st) tb)
  (hrd:∀ds G Q,sp ds G Q->tb (endsOf Q) (start3 N ds) G):FnOk3 P w K mg base (k+1) f fd ps sp:=fn3 F S hN len tb (fun cdv A outer s H E hr=>(hbody cdv A outer s H E hr).of) hrd
theorem fn3_none{P:Program}{w:World}{K:PySem.W.Frag}{mg:Str->Option Value}{base:Heap}{f:Addr}{fd:FuncData}{ps:List Str}{k:Nat}{sp:Sp3}(h:∀ds G Q,¬sp ds G Q):FnOk3 P w K mg base k f fd ps sp:=
 ⟨fun vs H Q E q=>by obtain⟨ds,G,Q3,_,_,z,_⟩:=q;exact absurd z (h _ _ _),fun A outer s H args us vs Q E _ _ _ _ q=>by obtain⟨ds,G,Q3,_,_,z,_⟩:=q;exact absurd z (h _ _ _)⟩
end L3
namespace My
open PySem L2 L3
def Known(G:Gp):D->Prop
 |.obj a=>∃o,G a=some o/\o.plain
 |_=>True
def wholeD:D->Bool
 |.int _=>true
 |_=>false
theorem ret_ok{Q:V3}{d:D}{G:Gp}(h:Q d G):(endsOf Q).rt d G:=⟨G,Sub.refl G,h⟩
theorem ret_sub{Q:V3}{d:D}{G G':Gp}(s:Sub G G')(h:Q d G):(endsOf Q).rt d G':=⟨G,s,h⟩
theorem big_of{i:Int}(h1:-(10^80)<i)(h2:i<10^80):Big i:=by
 have:i.natAbs<10^80:=by lia
 exact Nat.lt_trans this (by decide)
theorem Sub.updN{G G':Gp}{a:Addr}{o:GO}(s:Sub G G')(h:G a=none):Sub G (upd3 G' a o):=fun b u e=>by
 rw[upd3_ne (fun z=>by rw[z,h] at e;cases e)];exact s b u e
def sp_z11:Sp3:=fun ds G Q=>match ds with
 |[d]=>Known G d/\Q (.bl (wholeD d)) G
 |_=>False
def tb_z11:TS3:=sRet (eAndV (eInst "int" (eVar 0)) (eNotV (eInst "bool" (eVar 0))))
theorem rd_whole{nm:Str}:∀ds G Q,sp_z11 ds G Q->tb_z11 (endsOf Q) (start3 [nm] ds) G:=by
 intro ds G Q h;rcases ds with _|⟨d,_|⟨d2,ds⟩⟩
 ·exact h.elim
 ·cases d with
  |int i=>exact⟨fun _=>ret_ok h.2,nofun⟩
  |bl b=>exact⟨fun _=>ret_ok h.2,nofun⟩
  |non=>exact⟨nofun,fun _=>ret_ok h.2⟩
  |str _=>exact⟨nofun,fun _=>ret_ok h.2⟩
  |tup _=>exact⟨nofun,fun _=>ret_ok h.2⟩
  |scr _=>exact⟨nofun,fun _=>ret_ok h.2⟩
  |dc _=>exact⟨nofun,fun _=>ret_ok h.2⟩
  |obj a=>
   obtain⟨o1,h1,hp⟩:∃o,G a=some o/\o.plain:=h.1;show match instD "int" G (.obj a) with
    |some b=>_
    |none=>_
   cases hG:G a with
   |none=>rw[h1] at hG;cases hG
   |some o=>
    cases o with
    |lst _=>simp only[instD,hG];exact⟨nofun,fun _=>ret_ok h.2⟩
    |pen=>simp only[instD,hG];exact⟨nofun,fun _=>ret_ok h.2⟩
    |dct=>simp only[instD,hG];exact⟨nofun,fun _=>ret_ok h.2⟩
    |gen R=>
     rw[h1] at hG;cases hG;exact hp.elim
 ·exact h.elim
abbrev rd_z11:=@rd_whole "thing"
abbrev sp_z13:=sp_z11
abbrev tb_z13:=tb_z11
abbrev rd_z13:=@rd_whole "found"
def sp_z7:Sp3:=fun ds G Q=>∃(ns:List Int) (k:Nat),ds=[.scr (ns.map .int),.int k]/\∀i:Int,Q (.int i) G
def tb_z7:TS3:=sSeq (sIf (eTest (eOp rLtT3 (eVar 1) (eCB r_len (aCons (eVar 0) (aNil))))) (sRet (eOp rIx3 (eVar 0) (eVar 1))) (sNext)) (sRet (eC (.int 0)))
theorem rd_z7:∀ds G Q,sp_z7 ds G Q->tb_z7 (endsOf Q) (start3 ["script","k"] ds) G:=by
 rintro ds G Q ⟨ns,k,rfl,q⟩;refine⟨fun h=>?_,fun h=>ret_ok (q 0)⟩;have h':(k:Int)<((ns.map D.int).length:Nat):=of_decide_eq_true h;rw[List.length_map] at h';have hk:k<ns.length:=by lia
 exact⟨.int ns[k],atI_nat (by rw[List.getElem?_map,List.getElem?_eq_getElem hk];rfl),ret_ok (q _)⟩
def sp_z20:Sp3:=fun ds G Q=>∃n:Int,ds=[.int n]/\0≤n/\∀r:Int,0≤r->r<2147483629->Q (.int r) G
def tb_z20:TS3:=sSeq (sAsg (eOp rMod3 (eOp rAdd3 (eVar 0) (eC (.int 7919))) (eC (.int 2147483647))) (hName 0)) (sRet (eOp rMod3 (eOp rAdd3 (eOp rAdd3 (eOp rMul3 (eVar 0) (eVar 0)) (eOp rMul3 (eC (.int 48271)) (eVar 0))) (eC (.int 12345))) (eC (.int 2147483629))))
theorem rd_z20:∀ds G Q,sp_z20 ds G Q->tb_z20 (endsOf Q) (start3 ["seed"] ds) G:=by
 rintro ds G Q ⟨n,rfl,hn,q⟩;have h1:=Int.emod_nonneg (n+7919) (show (2147483647:Int)≠0 by decide);have h2:=Int.emod_lt_of_pos (n+7919) (show (0:Int)<2147483647 by decide);have hb:Big ((n+7919)%2147483647):=big_of (by lia) (by lia);refine⟨(by decide:(0:Int)<2147483647),⟨hb,hb⟩,⟨big_of (by decide) (by decide),hb⟩,(by decide:(0:Int)<2147483629),ret_ok (q _ ?_ ?_)⟩
 ·exact Int.emod_nonneg _ (by decide)
 ·exact Int.emod_lt_of_pos _ (by decide)
def sp_law_draw0:Sp3:=fun ds G Q=>∃(p:Addr) (m i j k:Int),ds=[.obj p,.int m]/\G p=some (.lst [.int i,.int j,.int k])/\PenOk i j k/\0<m/\Big m ∧
 ∀r i' j' k':Int,PenOk i' j' k'->0≤r->r<m->Q (.int r) (upd3 G p (.lst [.int i',.int j',.int k']))
def sp_z21:Sp3:=fun ds G Q=>∃(p:Addr) (m:Int),ds=[.obj p,.int m]/\G p=some .pen/\(0<m/\Big m)/\∀r:Int,0≤r->r<m->Q (.int r) G
def tb_z21:TS3:=sSeq (sIf (eTest (eOp (rEq3 false) (eOp rIx3 (eVar 0) (eC (.int 1))) (eC (.int 1)))) (sSeq (sAsg (eOp rMod3 (eOp rIx3 (eVar 0) (eC (.int 0))) (eVar 1)) (hName 2)) (sSeq (sAsg (eOp rDiv3 (eOp rIx3 (eVar 0) (eC (.int 0))) (eVar 1)) (hSub (eVar 0) (eC (.int 0)))) (sRet (eVar 2)))) (sNext)) (sSeq (sAsg (eCall sp_z20 (aCons (eOp rAdd3 (eCall sp_z20 (aCons (eOp rIx3 (eVar 0) (eC (.int 2))) (aNil))) (eC (.int 7))) (aNil))) (hSub (eVar 0) (eC (.int 2)))) (sRet (eOp rMod3 (eOp rDiv3 (eOp rIx3 (eVar 0) (eC (.int 2))) (eC (.int 64))) (eVar 1))))
theorem rd_law_draw0:∀ds G Q,sp_law_draw0 ds G Q->tb_z21 (endsOf Q) (start3 ["pen","many","found"] ds) G:=by
 rintro ds G Q ⟨p,m,i,j,k,rfl,hp,ok,hm,hb,q⟩;obtain⟨o1,o2,o3⟩:=ok;refine⟨_,_,hp,rfl,_,_,rfl,rfl,Nat.zero_le _,fun _=>?_,fun _=>?_⟩
 ·refine⟨_,_,hp,rfl,hm,_,_,hp,rfl,⟨hm,hb⟩,_,0,hp,rfl,?_⟩;refine ret_ok (q (i%m) (i / m) j k ⟨?_,o2,o3⟩ ?_ ?_)
  ·exact Int.ediv_nonneg o1 (by lia)
  ·exact Int.emod_nonneg _ (by lia)
  ·exact Int.emod_lt_of_pos _ hm
 ·refine⟨_,_,hp,rfl,_,rfl,o2,fun r h1 h2=>⟨_,rfl,(by lia),fun r' h3 h4=>?_⟩⟩;refine⟨_,2,hp,rfl,_,_,upd3_same,rfl,⟨by decide,big_of (by decide) (by decide)⟩,hm,?_⟩;refine ret_ok (q _ i j r' ⟨o1,h3,by lia⟩ ?_ ?_)
  ·exact Int.emod_nonneg _ (by lia)
  ·exact Int.emod_lt_of_pos _ hm
theorem draw_imp{K:PySem.W.Frag}:∀vs H Q E,lowSp K sp_z21 vs H Q E->lowSp K sp_law_draw0 vs H Q E:=by
 rintro vs H Q E ⟨ds,G,Q3,hd,RG,⟨p,m,rfl,hp,hm,q⟩,k⟩;obtain⟨i,j,l,e,ok⟩:=RG p _ hp;refine⟨_,upd3 G p (.lst [.int i,.int j,.int l]),fun d G'=>∃i' j' l',PenOk i' j' l'/\G'=upd3 G p (.lst [.int i',.int j',.int l'])/\Q3 d G,hd,?_,⟨p,m,i,j,l,rfl,upd3_same,ok,hm.1,hm.2,fun r i' j' k' ok' h1 h2=>⟨i',j',k',ok',upd3_upd3,q r h1 h2⟩⟩,?_⟩
 ·intro a o ea;by_cases z:a=p
  ·subst z;rw[upd3_same] at ea;cases ea;exact⟨_,e,.cons (by simp[Hv]) (.cons (by simp[Hv]) (.cons (by simp[Hv]) .nil))⟩
  ·rw[upd3_ne z] at ea;exact RG a o ea
 ·rintro v H' d G' hv S R ⟨i',j',l',ok',rfl,h3⟩;refine k v H' d G hv ⟨fun a o ea n=>S.fr a o ea ?_,S.trk,fun a n z=>absurd n z⟩ (fun a o ea=>?_) h3
  ·have:a≠p:=fun z=>by rw[z,hp] at n;cases n
   rw[upd3_ne this];exact n
  ·by_cases z:a=p
   ·subst z;rw[hp] at ea;cases ea;obtain⟨ws,e1,e2⟩:=R a _ upd3_same;have:=intsOf_vals e2 (ns:=[i',j',l']) rfl;subst this;exact⟨i',j',l',e1,ok'⟩
   ·exact R a o (by rw[upd3_ne z];exact ea)
def sp_law_pen_of0:Sp3:=fun ds G Q=>∃c:Int,ds=[.int c]/\∀p i j k G',New G p (.lst [.int i,.int j,.int k]) G'->PenOk i j k->Q (.obj p) G'
def sp_z8:Sp3:=fun ds G Q=>∃c:Int,ds=[.int c]/\∀p G',New G p .pen G'->Q (.obj p) G'
def tb_z8:TS3:=sSeq (sAsg (eCB r_max (aCons (eVar 0) (aCons (eOp rSub3 (eC (.int 0)) (eVar 0)) (aNil)))) (hName 1)) (sRet (eLst (aCons (eVar 1) (aCons (eCB r_int (aCons (eOp rGe3 (eVar 1) (eOp rPow3 (eC (.int 10)) (eC (.int 18)))) (aNil))) (aCons (eOp rMod3 (eVar 1) (eC (.int 1000003))) (aNil))))))
theorem rd_law_pen_of0:∀ds G Q,sp_law_pen_of0 ds G Q->tb_z8 (endsOf Q) (start3 ["cell","left"] ds) G:=by
 rintro ds G Q ⟨c,rfl,q⟩;refine⟨⟨by decide,by decide,by decide⟩,(by decide:(0:Int)<1000003),fun p G' hp=>ret_ok (q p _ _ _ _ hp ⟨?_,?_,?_⟩)⟩
 ·split<;>lia
 ·exact Int.emod_nonneg _ (by decide)
 ·exact Int.lt_trans (Int.emod_lt_of_pos _ (by decide)) (by decide)
theorem pen_imp{K:PySem.W.Frag}:∀vs H Q E,lowSp K sp_z8 vs H Q E->lowSp K sp_law_pen_of0 vs H Q E:=by
 rintro vs H Q E ⟨ds,G,Q3,hd,RG,⟨c,rfl,q⟩,k⟩;refine⟨_,G,fun d G'=>∃p i j l,PenOk i j l/\New G p (.lst [.int i,.int j,.int l]) G'/\d=.obj p,hd,RG,⟨c,rfl,fun p i j l G' hp ok=>⟨p,i,j,l,ok,hp,rfl⟩⟩,?_⟩;rintro v H' d G' hv S R ⟨p,i,j,l,ok,hp,rfl⟩;refine k v H' _ (upd3 G' p .pen) hv ⟨S.fr,S.trk,fun a n z=>S.new a n ?_⟩ (fun a o ea=>?_) (q p _ ⟨hp.non,Sub.updN hp.sub hp.non,upd3_same⟩)
 ·by_cases y:a=p
  ·rw[y,hp.at_];simp
  ·rw[upd3_ne y] at z;exact z
 ·by_cases z:a=p
  ·subst z;rw[upd3_same] at ea;cases ea;obtain⟨ws,e1,e2⟩:=R a _ hp.at_;have:=intsOf_vals e2 (ns:=[i,j,l]) rfl;subst this;exact⟨i,j,l,e1,ok⟩
  ·rw[upd3_ne z] at ea;exact R a o ea
abbrev Clk:=Int×Int
def cD(c:Clk):D:=.tup [.int c.1,.int c.2]
def csD(cs:List Clk):D:=.tup (cs.map cD)
def Valid(c:Clk):Prop:=0<c.1/\0≤c.2/\c.2<c.1
def rg(n:Int)(c:Clk):Bool:=n%c.1==c.2
def sp_z23:Sp3:=fun ds G Q=>∃(c:Clk) (n:Int),ds=[cD c,.int n]/\0<c.1/\Q (.bl (rg n c)) G
def tb_z23:TS3:=sRet (eOp (rEq3 false) (eOp rMod3 (eVar 1) (eOp rIx3 (eVar 0) (eC (.int 0)))) (eOp rIx3 (eVar 0) (eC (.int 1))))
theorem rd_z23:∀ds G Q,sp_z23 ds G Q->tb_z23 (endsOf Q) (start3 ["clock","number"] ds) G:=by
 rintro ds G Q ⟨⟨s,r⟩,n,rfl,hs,q⟩;exact⟨_,rfl,hs,_,rfl,_,_,rfl,rfl,Nat.zero_le _,ret_ok q⟩
theorem line1000{n:Nat}(h:n≤1000):n≤sizeLine:=Nat.le_trans h (by decide)
theorem compGo_of{α:Type}{guard:Gp->Prop}{g:TG3}{tc:TT3}{te:TE3}{Q:List D->Gp->Prop}(I:S3->Prop)(h:α->D)(pr:α->Bool)(f:α->D){G:Gp}(hg:guard G):∀(xs:List α) (acc:List D) (τ:S3),I τ ->
  (∀x∈xs,∀τ (K1:S3->Gp->Prop) (K2:S3->D->Gp->Prop),I τ->(pr x=true->∀τ2,I τ2->K2 τ2 (f x) G)->(pr x=false->∀τ2,I τ2->K1 τ2 G)->g (h x) τ G fun τ2 G2=>tc τ2 G2 fun b G3=>Br b (te τ2 G3 fun v G4=>K2 τ2 v G4) (K1 τ2 G3)) ->
  Q (acc++(xs.filter pr).map f) G->compGo guard g tc te Q (xs.map h) acc τ G
 |[],acc,τ,_,_,q=>⟨hg,by simpa using q⟩
 |d::ds,acc,τ,hI,hs,q=>by
  refine⟨hg,hs d List.mem_cons_self τ (fun τ2 G3=>compGo guard g tc te Q (ds.map h) acc τ2 G3) (fun τ2 v G4=>compGo guard g tc te Q (ds.map h) (acc++[v]) τ2 G4) hI (fun hp τ2 h2=>?_) fun hp τ2 h2=>?_⟩
  ·refine compGo_of I h pr f hg ds _ τ2 h2 (fun d' hd=>hs d' (List.mem_cons_of_mem _ hd)) ?_;rw[List.filter_cons_of_pos hp] at q;simpa using q
  ·refine compGo_of I h pr f hg ds _ τ2 h2 (fun d' hd=>hs d' (List.mem_cons_of_mem _ hd)) ?_;rw[List.filter_cons_of_neg (by rw[hp];simp)] at q;exact q
end My
namespace My
open PySem L2 L3
def cX(c:Clk):Dat.D:=.tup [.int c.1,.int c.2]
theorem toDats_cs:∀cs:List Clk,toDats0 (cs.map cD)=some (cs.map cX)
 |[]=>rfl
 |c::cs=>by
  show (match toDat0 (cD c) with
   |some x=>match toDats0 (cs.map cD) with
    |some xs=>some (x::xs)
    |none=>none
   | none=>none)=_
  rw[toDats_cs cs];rfl
theorem toDat_lst{G:Gp}{a:Addr}{ds:List D}{xs:List Dat.D}(h:G a=some (.lst ds))(e:toDats0 ds=some xs):toDat G (.obj a)=some (.lst xs):=by
 unfold toDat;simp only[h,e]
theorem deps_cs:∀cs:List Clk,Dat.deps (cs.map cX)≤1
 |[]=>Nat.zero_le _
 |c::cs=>by
  show max (cX c).dep (Dat.deps (cs.map cX))≤1;have h1:(cX c).dep=1:=rfl;have:=deps_cs cs;omega
theorem dep_cs(cs:List Clk):(Dat.D.lst (cs.map cX)).dep≤50:=by
 show Dat.deps (cs.map cX)+1≤50;have:=deps_cs cs;omega
theorem eqb_nil(xs:List Dat.D):(Dat.D.lst xs).eqb (.lst [])=xs.isEmpty:=by
 cases xs with
 |nil=>rfl
 |cons x xs=>rfl
def rg2(n:Int)(c:Clk):Bool:=(n-c.2)%c.1==0
theorem rg_eq{c:Clk}(h:Valid c)(n:Int):rg2 n c=rg n c:=by
 obtain⟨h1,h2,h3⟩:=h;unfold rg rg2;rw[Bool.eq_iff_iff];simp only[beq_iff_eq];constructor
 ·intro e;have h4:=Int.emod_emod_of_dvd n (Int.dvd_refl c.1);have:n%c.1=c.2%c.1:=Int.emod_eq_emod_iff_emod_sub_eq_zero.mpr e;rw[this];exact Int.emod_eq_of_lt h2 h3
 ·intro e;refine Int.emod_eq_emod_iff_emod_sub_eq_zero.mp ?_;rw[e];exact (Int.emod_eq_of_lt h2 h3).symm
end My
namespace My
open PySem L2 L3
def cutG{α:Type}(xs:List α)(lo hi:Option Int):List α:=(xs.drop (HT.sIx xs.length 0 lo)).take (HT.sIx xs.length xs.length hi-HT.sIx xs.length 0 lo)
theorem cut3_map{α:Type}(f:α->D)(xs:List α)(lo hi:Option Int):cut3 (xs.map f) lo hi=(cutG xs lo hi).map f:=by
 unfold cut3 cutG;rw[List.length_map,List.map_take,List.map_drop]
theorem cutG_le{α:Type}(xs:List α)(lo hi:Option Int):(cutG xs lo hi).length≤xs.length:=by
 unfold cutG;rw[List.length_take,List.length_drop];lia
theorem cutG_to{α:Type}(xs:List α)(k:Nat):cutG xs none (some (k:Int))=xs.take k:=by
 unfold cutG;rw[HT.sIx_none,HT.sIx_nat];simp only[List.drop_zero,Nat.sub_zero];by_cases h:k≤xs.length
 ·rw[Nat.min_eq_left h]
 ·rw[Nat.min_eq_right (by lia),List.take_length,List.take_of_length_le (by lia)]
theorem cutG_from{α:Type}(xs:List α)(k:Nat):cutG xs (some (k:Int)) none=xs.drop k:=by
 unfold cutG;rw[HT.sIx_none,HT.sIx_nat];by_cases h:k≤xs.length
 ·rw[Nat.min_eq_left h];exact List.take_of_length_le (by rw[List.length_drop];lia)
 ·rw[Nat.min_eq_right (by lia),List.drop_length,List.drop_eq_nil_of_le (by lia)];simp
def ClOk(M:Int)(cs:List Clk):Prop:=∀c∈cs,Valid c/\c.1≤M
theorem part_valid{s r k i:Int}(h:Valid (s,r))(h1:0≤i)(h2:i<k):Valid (s*k,r+s*i):=by
 obtain⟨a,b,c⟩:=h;simp only at a b c;have q:=Int.mul_le_mul_of_nonneg_left (show i≤k-1 by lia) (show 0≤s by lia);rw[Int.mul_sub,Int.mul_one] at q;have q2:=Int.mul_nonneg (show 0≤s by lia) h1;refine⟨?_,?_,?_⟩
 ·exact Int.mul_pos a (by lia)
 ·show 0≤r+s*i;lia
 ·show r+s*i<s*k;lia
def sp_z16:Sp3:=fun ds G Q=>∃(p:Addr) (t:Int),ds=[.obj p,.int t]/\G p=some .pen/\(0≤t/\t≤1000)/\∀q cs G',ClOk 24 cs->1≤cs.length->cs.length≤12->New G q (.lst (cs.map cD)) G'->Q (.obj q) G'
def tb_z16_6:TS3:=sIf (eAnd (eTest (eOp rLtT3 (eOp rAdd3 (eCB r_len (aCons (eVar 2) (aNil))) (eVar 5)) (eC (.int 13)))) (eTest (eOp rLtT3 (eOp rMul3 (eVar 6) (eVar 5)) (eC (.int 25))))) (sAsg (eOp rAdd3 (eOp rAdd3 (eSl (eVar 2) (oNone) (oSome (eVar 4))) (eComp ["part"] [6,5,7] (iRng1 (aCons (eVar 5) (aNil))) (hName 0) (tNoTest3) (eTup (aCons (eOp rMul3 (eVar 1) (eVar 2)) (aCons (eOp rAdd3 (eVar 3) (eOp rMul3 (eVar 1) (eVar 0))) (aNil)))))) (eSl (eVar 2) (oSome (eOp rAdd3 (eVar 4) (eC (.int 1)))) (oNone))) (hName 2)) (sNext)
def tb_z16_5:TS3:=sSeq (sAsg (eOp rIx3 (eVar 2) (eVar 4)) (hTup 2 (hCons (hName 6) (hCons (hName 7) (hNil))))) tb_z16_6
def tb_z16_4:TS3:=sSeq (sAsg (eLstIx (aCons (eC (.int 2)) (aCons (eC (.int 2)) (aCons (eC (.int 3)) (aNil)))) (eCall sp_z21 (aCons (eVar 0) (aCons (eC (.int 3)) (aNil))))) (hName 5)) tb_z16_5
def tb_z16_3:TS3:=sSeq (sAsg (eCall sp_z21 (aCons (eVar 0) (aCons (eCB r_len (aCons (eVar 2) (aNil))) (aNil)))) (hName 4)) tb_z16_4
def tb_z16_8:TS3:=sRet (eVar 2)
def tb_z16_2:TS3:=sSeq (sFor (iRng1 (aCons (eVar 1) (aNil))) (hName 3) (tb_z16_3)) tb_z16_8
def tb_z16:TS3:=sSeq (sAsg (eLst (aCons (eTup (aCons (eC (.int 1)) (aCons (eC (.int 0)) (aNil)))) (aNil))) (hName 2)) tb_z16_2
theorem at_map{α:Type}(f:α->D){xs:List α}{r:Int}(h1:0≤r)(h2:r<(xs.length:Nat)):∃x,xs[r.toNat]?=some x/\x∈xs/\atI (xs.map f) r=some (f x):=by
 have hk:r.toNat<xs.length:=by lia
 refine⟨xs[r.toNat],List.getElem?_eq_getElem hk,List.getElem_mem hk,?_⟩;have e:r=((r.toNat:Nat):Int):=by lia
 have q:atI (xs.map f) ((r.toNat:Nat):Int)=some (f xs[r.toNat]):=atI_nat (by rw[List.getElem?_map];simp[hk]);rw[←e] at q;exact q
theorem at_ints{ns:List Int}{r:Int}(h1:0≤r)(h2:r<(ns.length:Nat)):∃n,n∈ns/\atI (ns.map D.int) r=some (.int n):=by
 obtain⟨x,_,h3,h4⟩:=at_map D.int h1 h2;exact⟨x,h3,h4⟩
theorem rd_z16:∀ds G Q,sp_z16 ds G Q->tb_z16 (endsOf Q) (start3 ["pen","times","found","turn","spot","k","step","rest"] ds) G:=by
 rintro ds G Q ⟨p,t,rfl,hp,ht,q⟩;intro q0 G0 hq0;refine⟨⟨by lia,by lia⟩,?_⟩;refine forGo_go (fun _ τ G'=>∃q cs x3 x4 x5 x6 x7,τ=[some (.obj p),some (.int t),some (.obj q),x3,x4,x5,x6,x7]/\New G q (.lst (cs.map cD)) G'/\ClOk 24 cs/\1≤cs.length/\cs.length≤12) (fun _ _ _ _=>trivial) ?_ ?_ _ _ _ ?_
 ·rintro d ds τ G1 N ⟨q1,cs,x3,x4,x5,x6,x7,rfl,n1,ok,l1,l2⟩ hN;have e1:=n1.at_;have hp1:=n1.sub p _ hp;refine⟨_,e1,p,_,rfl,hp1,⟨?_,?_⟩,fun spot h1 h2=>?_⟩
  ·rw[List.length_map];lia
  ·exact big_of (by rw[List.length_map];lia) (by rw[List.length_map];lia)
  rw[List.length_map] at h2;refine⟨p,3,rfl,hp1,⟨by decide,big_of (by decide) (by decide)⟩,fun r h3 h4=>?_⟩;obtain⟨k,hk,ek⟩:=at_ints (ns:=[2,2,3]) h3 h4;refine⟨.int k,ek,?_⟩;obtain⟨c,ec1,hc,ec⟩:=at_map cD h1 h2;obtain⟨s,r'⟩:=c;refine⟨_,cD (s,r'),e1,ec,rfl,?_⟩;have hv:=(ok _ hc).1;have hs24:=(ok _ hc).2;have hk':k=2∨k=3:=by simp at hk;lia
  have again:N [some (.obj p),some (.int t),some (.obj q1),some d,some (.int spot),some (.int k),some (.int s),some (.int r')] G1:=
   hN _ _ ⟨q1,cs,_,_,_,_,_,rfl,n1,ok,l1,l2⟩
  refine⟨_,e1,fun h5=>⟨⟨big_of ?_ ?_,big_of ?_ ?_⟩,fun h6=>?_,fun h6=>again⟩,fun h5=>⟨nofun,fun _=>again⟩⟩
  ·have:=hv.1;simp only at this;lia
  ·simp only at hs24;lia
  ·lia
  ·lia
  have h5':((cs.map cD).length:Int)+k<13:=of_decide_eq_true h5;have h6':s*k<25:=of_decide_eq_true h6;rw[List.length_map] at h5';refine⟨_,e1,fun p1 G2 a1=>⟨⟨by lia,by lia⟩,?_,?_⟩⟩
  ·show (rngL 0 k.toNat).length≤sizeLine;rw[rngL_length];exact line1000 (by lia)
  refine compGo_of (fun τ=>∃x,τ=[x,some (.int s),some (.int k),some (.int r')]) (fun i:Nat=>D.int (0+(i:Int))) (fun _=>true) (fun i:Nat=>cD (s*k,r'+s*(0+(i:Int)))) trivial (List.range k.toNat) [] _ ⟨none,rfl⟩ ?_ ?_
  ·rintro i hi τ K1 K2 ⟨x,rfl⟩ g1 g2;have hi':(i:Int)<k:=by have:=List.mem_range.mp hi;lia
   have b1:Big s:=big_of (by have:=hv.1;simp only at this;lia) (by simp only at hs24;lia);refine⟨fun _=>⟨⟨b1,big_of (by lia) (by lia)⟩,⟨b1,big_of (by lia) (by lia)⟩,?_⟩,nofun⟩;exact g1 rfl _ ⟨_,rfl⟩
  ·intro p2 G3 a2;obtain⟨j,rfl⟩:∃j:Nat,spot=(j:Int):=⟨spot.toNat,by lia⟩;have hj:j<cs.length:=by lia
   have el:(cut3 (cs.map cD) none (some (j:Int))++([]++((List.range k.toNat).filter fun _=>true).map fun i:Nat=>cD (s*k,r'+s*(0+(i:Int))))++cut3 (cs.map cD) (some ((j:Int)+1)) none) =
     (cs.take j++((List.range k.toNat).map fun i:Nat=>(s*k,r'+s*(0+(i:Int))))++cs.drop (j+1)).map cD:=by
    rw[cut3_map,cut3_map,cutG_to,show ((j:Int)+1)=((j+1:Nat):Int) by lia,cutG_from,List.filter_eq_self.mpr (fun _ _=>rfl)];simp[List.map_append,List.map_map]
   have hlen:(cs.take j++((List.range k.toNat).map fun i:Nat=>(s*k,r'+s*(0+(i:Int))))++cs.drop (j+1)).length=cs.length-1+k.toNat:=by
    rw[List.length_append,List.length_append,List.length_take,List.length_drop,List.length_map,List.length_range];lia
   have hle:(cut3 (cs.map cD) none (some (j:Int))++([]++((List.range k.toNat).filter fun _=>true).map fun i:Nat=>cD (s*k,r'+s*(0+(i:Int))))++cut3 (cs.map cD) (some ((j:Int)+1)) none).length≤12:=by
    rw[el,List.length_map,hlen];lia
   refine⟨_,_,a2.sub _ _ a1.at_,a2.at_,?_,fun p3 G4 a3=>?_⟩
   ·rw[List.length_append,List.length_append] at hle;exact line1000 (by lia)
   refine⟨_,a3.sub _ _ (a2.sub _ _ (a1.sub _ _ e1)),fun p4 G5 a4=>?_⟩;refine⟨_,_,a4.sub _ _ a3.at_,a4.at_,?_,fun p5 G6 a5=>?_⟩
   ·rw[←List.length_append];exact line1000 (by lia)
   ·rw[el] at a5;have s4:=((n1.sub.trans a1.sub).trans a2.sub).trans (a3.sub.trans a4.sub);refine hN _ _ ⟨p5,_,_,_,_,_,_,rfl,⟨s4.of_none a5.non,s4.trans a5.sub,a5.at_⟩,fun c hc=>?_,by lia,by lia⟩;rcases List.mem_append.mp hc with hc|hc
    ·rcases List.mem_append.mp hc with hc|hc
     ·exact ok c (List.mem_of_mem_take hc)
     ·obtain⟨i,hi,rfl⟩:=List.mem_map.mp hc;have:=List.mem_range.mp hi;exact⟨part_valid hv (by lia) (by lia),by show s*k≤24;lia⟩
    ·exact ok c (List.mem_of_mem_drop hc)
 ·rintro τ G1 ⟨q1,cs,x3,x4,x5,x6,x7,rfl,n1,ok,l1,l2⟩;exact ret_ok (q q1 cs _ ok l1 l2 n1)
 ·exact⟨q0,[(1,0)],_,_,_,_,_,rfl,hq0,by intro c hc;simp at hc;subst hc;exact⟨⟨by decide,by decide,by decide⟩,by decide⟩,by decide,by decide⟩
end My
namespace My
open PySem L2 L3
def toL(c:Clk):List Int:=[c.1,c.2]
theorem map_tupI(cs:List Clk):(cs.map toL).map tupI=cs.map cD:=by
 rw[List.map_map];rfl
theorem of_mss{cs:List Clk}:∀{mss:List (List Int)},(∀ns∈mss,ns∈cs.map toL)->∃cs':List Clk,mss=cs'.map toL/\∀c∈cs',c∈cs
 |[],_=>⟨[],rfl,fun c hc=>nomatch hc⟩
 |ns::mss,h=>by
  obtain⟨cs',e,hc⟩:=of_mss (mss:=mss) fun n hn=>h n (List.mem_cons_of_mem _ hn);obtain⟨c,h1,rfl⟩:=List.mem_map.mp (h ns List.mem_cons_self);refine⟨c::cs',by simp[e],fun d hd=>?_⟩;rcases List.mem_cons.mp hd with rfl|hd
  ·exact h1
  ·exact hc d hd
def cLt(a b:Clk):Prop:=a.1<b.1∨(a.1=b.1/\a.2<b.2)
def Rise(cs:List Clk):Prop:=cs.Pairwise cLt
theorem toL_inj{a b:Clk}(h:toL a=toL b):a=b:=by
 obtain⟨s,r⟩:=a;obtain⟨s',r'⟩:=b;simp[toL] at h;simp[h]
theorem lt_of_lx{a b:Clk}(h:SortV.lx (toL b) (toL a)=false)(hne:a≠b):cLt a b:=by
 obtain⟨s,r⟩:=a;obtain⟨s',r'⟩:=b;unfold toL at h;simp only[SortV.lx] at h;by_cases e:s'=s
 ·rw[if_pos e] at h;by_cases e2:r'=r
  ·exact absurd (by rw[e,e2]) hne
  ·rw[if_neg e2] at h;have:=of_decide_eq_false h;exact .inr ⟨e.symm,by simp only;omega⟩
 ·rw[if_neg e] at h;have:=of_decide_eq_false h;exact .inl (by simp only;omega)
theorem rise_of{cs:List Clk}(h:RiseL (cs.map toL))(nd:(cs.map toL).Nodup):Rise cs:=by
 have h1:=List.pairwise_map.mp h;have h2:=List.pairwise_map.mp nd;exact (h1.and h2).imp fun {a b} q=>lt_of_lx q.1 fun z=>q.2 (by rw[z])
theorem Rise.take{cs:List Clk}(h:Rise cs)(n:Nat):Rise (cs.take n):=List.Pairwise.sublist (List.take_sublist n cs) h
theorem sort_facts{cs:List Clk}{mss:List (List Int)}(hmem:∀ns,ns∈mss↔ns∈cs.map toL)(nd:mss.Nodup)(hr:RiseL mss)(hl:mss.length≤(cs.map toL).length):
  ∃cs':List Clk,mss=cs'.map toL/\(∀c,c∈cs'↔c∈cs)/\Rise cs'/\cs'.length≤cs.length:=by
 obtain⟨cs',rfl,hc⟩:=of_mss fun ns hn=>(hmem ns).mp hn;refine⟨cs',rfl,fun c=>⟨fun h=>hc c h,fun h=>?_⟩,rise_of hr nd,by simpa using hl⟩;obtain⟨c',h1,h2⟩:=List.mem_map.mp ((hmem (toL c)).mpr (List.mem_map.mpr ⟨c,h,rfl⟩));rw[←toL_inj h2];exact h1
theorem toL_ne{cs:List Clk}:∀ns∈cs.map toL,ns≠[]:=fun ns hn=>by
 obtain⟨c,_,rfl⟩:=List.mem_map.mp hn;simp[toL]
theorem at_tupI{G:Gp}{a:Addr}{cs:List Clk}(e:G a=some (.lst (cs.map cD))):G a=some (.lst ((cs.map toL).map tupI)):=by rw[map_tupI];exact e
theorem seq_ix{r:Int}{n:Nat}(h1:0≤r)(h2:r<(n:Int)):seqIndex? r n=some r.toNat:=by
 unfold seqIndex?;simp only[if_neg (show ¬r<0 by omega)];rw[if_pos (by simp;omega)]
theorem eraseIdx_map{α β:Type}(f:α->β):∀(xs:List α) (i:Nat),(xs.map f).eraseIdx i=(xs.eraseIdx i).map f
 |[],_=>rfl
 |_::_,0=>rfl
 |x::xs,i+1=>by simp[eraseIdx_map f xs i]
def sp_z3:Sp3:=fun ds G Q=>∃p:Addr,ds=[.obj p]/\G p=some .pen/\∀cs,ClOk 24 cs->cs.length≤12->Rise cs->Q (csD cs) G
def tb_z3_5:TS3:=sIf (eAnd (eTest (eOp (rEq3 false) (eVar 1) (eC (.int 1)))) (eTest (eOp (rEq3 true) (eVar 2) (eLst (aNil))))) (sDrop (eM r_mpop (eVar 2) (aCons (eCall sp_z21 (aCons (eVar 0) (aCons (eCB r_len (aCons (eVar 2) (aNil))) (aNil)))) (aNil)))) (sNext)
def tb_z3_10:TS3:=sDrop (eM r_mappend (eVar 2) (aCons (eTup (aCons (eVar 5) (aCons (eCall sp_z21 (aCons (eVar 0) (aCons (eVar 5) (aNil)))) (aNil)))) (aNil)))
def tb_z3_9:TS3:=sSeq (sAsg (eOp rIx3 (eVar 3) (eCall sp_z21 (aCons (eVar 0) (aCons (eC (.int 10)) (aNil))))) (hName 5)) tb_z3_10
def tb_z3_11:TS3:=sRet (eCB r_tuple (aCons (eSl (eSortSet (eVar 2)) (oNone) (oSome (eC (.int 12)))) (aNil)))
def tb_z3_8:TS3:=sSeq (sFor (iRng1 (aCons (eLstIx (aCons (eC (.int 0)) (aCons (eC (.int 1)) (aCons (eC (.int 2)) (aCons (eC (.int 3)) (aCons (eC (.int 5)) (aCons (eC (.int 9)) (aNil))))))) (eVar 1)) (aNil))) (hName 4) (tb_z3_9)) tb_z3_11
def tb_z3_7:TS3:=sSeq (sAsg (eLst (aCons (eC (.int 2)) (aCons (eC (.int 3)) (aCons (eC (.int 4)) (aCons (eC (.int 5)) (aCons (eC (.int 6)) (aCons (eC (.int 8)) (aCons (eC (.int 9)) (aCons (eC (.int 12)) (aCons (eC (.int 18)) (aCons (eC (.int 24)) (aNil)))))))))))) (hName 3)) tb_z3_8
def tb_z3_3:TS3:=sSeq (sIf (eTest (eOp rLtT3 (eVar 1) (eC (.int 4)))) (sSeq (sAsg (eCall sp_z16 (aCons (eVar 0) (aCons (eCall sp_z21 (aCons (eVar 0) (aCons (eC (.int 6)) (aNil)))) (aNil)))) (hName 2)) tb_z3_5) (sNext)) tb_z3_7
def tb_z3_2:TS3:=sSeq (sAsg (eLst (aNil)) (hName 2)) tb_z3_3
def tb_z3:TS3:=sSeq (sAsg (eCall sp_z21 (aCons (eVar 0) (aCons (eC (.int 6)) (aNil)))) (hName 1)) tb_z3_2
theorem clocks_tail{G:Gp}{Q:V3}{p:Addr}(hp:G p=some .pen)(q:∀cs,ClOk 24 cs->cs.length≤12->Rise cs->Q (csD cs) G){G1:Gp}{q1:Addr}{cs:List Clk}{way:Int}{x3 x4 x5:Option D}(hw:0≤way/\way<6)
  (n1:New G q1 (.lst (cs.map cD)) G1) (ok:ClOk 24 cs) (hl:cs.length≤12):tb_z3_7 (endsOf Q) [some (.obj p),some (.int way),some (.obj q1),x3,x4,x5] G1:=by
 intro st G0 hst;obtain⟨n,hn,en⟩:=at_ints (ns:=[0,1,2,3,5,9]) hw.1 hw.2;refine⟨.int n,en,?_⟩;have hn':0≤n/\n≤9:=by simp at hn;omega
 refine⟨⟨by omega,by omega⟩,?_⟩;refine forGo_go (fun ds τ G'=>∃cs x4 x5,τ=[some (.obj p),some (.int way),some (.obj q1),some (.obj st),x4,x5]/\New G q1 (.lst (cs.map cD)) G'/\G' st=some (.lst (([2,3,4,5,6,8,9,12,18,24]:List Int).map D.int))/\ClOk 24 cs/\cs.length+ds.length≤21) (fun _ _ _ _=>trivial) ?_ ?_ _ _ _ ?_
 ·rintro d ds τ G2 N ⟨cs,x4,x5,rfl,n2,e3,ok,hl⟩ hN;have hp2:=n2.sub p _ hp;have e2:=n2.at_;refine⟨p,10,rfl,hp2,⟨by decide,big_of (by decide) (by decide)⟩,fun r h1 h2=>?_⟩;obtain⟨stp,hm,es⟩:=at_ints (ns:=[2,3,4,5,6,8,9,12,18,24]) h1 h2;have hs:2≤stp/\stp≤24:=by simp at hm;omega
  refine⟨_,.int stp,e3,es,⟨q1,_,rfl,e2⟩,p,stp,rfl,hp2,⟨by omega,big_of (by omega) (by omega)⟩,fun r2 h3 h4=>?_⟩;refine⟨_,e2,by rw[List.length_map];exact Nat.lt_of_le_of_lt (show cs.length≤21 by omega) (by decide),?_⟩;have hne:st≠q1:=fun z=>by
   rw[z,e2] at e3;cases cs with
   |nil=>simp at e3
   |cons c cs=>simp[cD] at e3
  refine hN _ _ ⟨cs++[(stp,r2)],_,_,rfl,⟨n2.non,Sub.updN n2.sub n2.non,?_⟩,?_,fun c hc=>?_,?_⟩
  ·rw[upd3_same,List.map_append];rfl
  ·rw[upd3_ne hne];exact e3
  ·rcases List.mem_append.mp hc with hc|hc
   ·exact ok c hc
   ·have:c=(stp,r2):=by simpa using hc
    subst this;exact⟨⟨by show 0<stp;omega,h3,h4⟩,hs.2⟩
  ·rw[List.length_append,List.length_singleton];simp only[List.length_cons] at hl;omega
 ·rintro τ G2 ⟨cs,x4,x5,rfl,n2,e3,ok,hl⟩;refine⟨_,at_tupI n2.at_,by rw[List.length_map];omega,toL_ne,fun p1 mss G3 hp1 hmem nd hr hlen=>?_⟩;obtain⟨cs',rfl,hmem,hr,hlen⟩:=sort_facts hmem nd hr hlen;rw[map_tupI] at hp1;refine⟨_,hp1.at_,fun p2 G4 hp2=>⟨_,hp2.at_,?_⟩⟩;rw[cut3_map,show (some (12:Int))=some ((12:Nat):Int) from rfl,cutG_to];refine ret_sub ((n2.sub.trans hp1.sub).trans hp2.sub) (q _ (fun c hc=>ok c ((hmem c).mp (List.mem_of_mem_take hc))) ?_ (hr.take 12));rw[List.length_take];omega
 ·refine⟨cs,_,_,rfl,⟨n1.non,n1.sub.trans hst.sub,hst.sub _ _ n1.at_⟩,hst.at_,ok,?_⟩;show cs.length+(rngL 0 n.toNat).length≤21;rw[rngL_length];omega
theorem rd_z3:∀ds G Q,sp_z3 ds G Q->tb_z3 (endsOf Q) (start3 ["pen","way","found","steps","turn","step"] ds) G:=by
 rintro ds G Q ⟨p,rfl,hp,q⟩;refine⟨p,6,rfl,hp,⟨by decide,big_of (by decide) (by decide)⟩,fun way h1 h2 q0 G0 n0=>⟨fun hw=>?_,fun hw=>?_⟩⟩
 ·have hp0:=n0.sub p _ hp;refine⟨p,6,rfl,hp0,⟨by decide,big_of (by decide) (by decide)⟩,fun t h3 h4=>⟨p,t,rfl,hp0,⟨by omega,by omega⟩,fun q1 cs G1 ok l1 l2 n1=>?_⟩⟩;have m1:New G q1 (.lst (cs.map cD)) G1:=⟨n0.sub.of_none n1.non,n0.sub.trans n1.sub,n1.at_⟩;refine⟨_,_,rfl,rfl,Nat.zero_le _,fun hw1=>?_,fun hw1=>⟨nofun,fun _=>?_⟩⟩
  ·intro q2 G2 n2;have e2:=n2.sub _ _ m1.at_;have m2:New G q1 (.lst (cs.map cD)) G2:=⟨m1.non,m1.sub.trans n2.sub,e2⟩;refine⟨_,_,toDat_lst e2 (toDats_cs cs),toDat_lst n2.at_ rfl,dep_cs cs,fun hne=>?_,fun hne=>?_⟩
   ·refine⟨⟨q1,_,rfl,e2⟩,_,e2,p,_,rfl,m2.sub p _ hp,⟨by rw[List.length_map];omega,big_of (by rw[List.length_map];omega) (by rw[List.length_map];omega)⟩,fun r h5 h6=>?_⟩;rw[List.length_map] at h6;obtain⟨c,ec,hc,_⟩:=at_map cD h5 h6;refine⟨_,r.toNat,cD c,e2,⟨by omega,by omega⟩,?_,by rw[List.getElem?_map,ec];rfl,?_⟩
    ·rw[List.length_map];exact seq_ix h5 h6
    ·refine clocks_tail (cs:=cs.eraseIdx r.toNat) hp q ⟨h1,h2⟩ ⟨m2.non,Sub.updN m2.sub m2.non,?_⟩ (fun c hc=>ok c (List.mem_of_mem_eraseIdx hc)) ?_
     ·rw[upd3_same,eraseIdx_map]
     ·exact Nat.le_trans (len_erase cs _) l2
   ·exact clocks_tail hp q ⟨h1,h2⟩ m2 ok l2
  ·exact clocks_tail hp q ⟨h1,h2⟩ m1 ok l2
 ·exact clocks_tail (cs:=[]) hp q ⟨h1,h2⟩ n0 (fun c hc=>nomatch hc) (by decide)
end My
namespace My
open PySem L2 L3
theorem compGo_go{guard:Gp->Prop}{g:TG3}{tc:TT3}{te:TE3}{Q:List D->Gp->Prop}(I:List D->List D->S3->Gp->Prop)(hg:∀ds acc τ G,I ds acc τ G->guard G)
  (step:∀d ds acc τ G (K1:S3->Gp->Prop) (K2:S3->D->Gp->Prop),I (d::ds) acc τ G->(∀τ' v G',I ds (acc++[v]) τ' G'->K2 τ' v G')->(∀τ' G',I ds acc τ' G'->K1 τ' G')->g d τ G fun τ2 G2=>tc τ2 G2 fun b G3=>Br b (te τ2 G3 fun v G4=>K2 τ2 v G4) (K1 τ2 G3))
  (hend:∀acc τ G,I [] acc τ G->Q acc G):∀ds acc τ G,I ds acc τ G->compGo guard g tc te Q ds acc τ G
 |[],acc,τ,G,h=>⟨hg _ _ _ _ h,hend _ _ _ h⟩
 |d::ds,acc,τ,G,h=>⟨hg _ _ _ _ h,step d ds acc τ G (fun τ2 G3=>compGo guard g tc te Q ds acc τ2 G3) (fun τ2 v G4=>compGo guard g tc te Q ds (acc++[v]) τ2 G4) h
   (fun τ' v G' q=>compGo_go I hg step hend ds _ τ' G' q) fun τ' G' q=>compGo_go I hg step hend ds _ τ' G' q⟩
theorem wrote{G G1:Gp}{q:Addr}{o o':GO}(n:New G q o G1):New G q o' (upd3 G1 q o'):=⟨n.non,Sub.updN n.sub n.non,upd3_same⟩
end My
namespace My
open PySem L2 L3
def sp_law_common:Sp3:=fun ds G Q=>∃a b:Nat,ds=[.int a,.int b]/\Q (.int (Nat.gcd a b:Nat)) G
def tb_law_common_2:TS3:=sPar 0 1 (aCons (eVar 1) (aCons (eOp rMod3 (eVar 0) (eVar 1)) (aNil)))
def tb_law_common_3:TS3:=sRet (eVar 0)
def tb_law_common:TS3:=sSeq (sWhile (eTest (eOp rGt3 (eVar 1) (eC (.int 0)))) (tb_law_common_2)) tb_law_common_3
theorem rd_law_common:∀ds G Q,sp_law_common ds G Q->tb_law_common (endsOf Q) (start3 ["one","other"] ds) G:=by
 rintro ds G Q ⟨a,b,rfl,q⟩;refine⟨fun m τ G'=>G'=G/\∃a':Nat,τ=[some (.int a'),some (.int (m:Nat))]/\Nat.gcd a' m=Nat.gcd a b,⟨b,rfl,a,rfl,rfl⟩,?_⟩;rintro m τ G' ⟨rfl,a',rfl,hg⟩;refine⟨fun h=>?_,fun h=>?_⟩
 ·have h':(0:Int)<(m:Int):=of_decide_eq_true h;refine⟨h',a'%m,by exact_mod_cast Nat.mod_lt a' (by omega),rfl,m,?_,?_⟩
  ·show [some (D.int (m:Nat)),some (D.int ((a':Int)%(m:Int)))]=_;rw[←Int.natCast_emod]
  ·rw[←hg,Nat.gcd_comm a' m,Nat.gcd_rec m a',Nat.gcd_comm]
 ·have h':¬((0:Int)<(m:Int)):=of_decide_eq_false h;have:m=0:=by omega
  subst this;rw[Nat.gcd_zero_right] at hg;rw[←hg] at q;exact ret_ok q
end My
namespace My
open PySem L2 L3
def nD(n:Nat):D:=.int (n:Nat)
theorem filter_all{α:Type}(xs:List α):xs.filter (fun _=>true)=xs:=List.filter_eq_self.mpr fun _ _=>rfl
end My
namespace My
open PySem L2 L3
theorem rng0(n:Nat):rngL 0 n=(List.range n).map nD:=by
 unfold rngL;refine List.map_congr_left fun i _=>?_;show D.int (0+(i:Int))=D.int (i:Int);rw[Int.zero_add]
end My
namespace My
open PySem L2 L3
def Known2(G:Gp):D->Prop
 |.tup ds=>∀d∈ds,Known G d
 |.obj a=>∃o,G a=some o/\o.plain
 |_=>True
theorem Known.sub{G G':Gp}{d:D}(s:Sub G G')(h:Known G d):Known G' d:=by
 cases d with
 |obj a=>
  obtain⟨o,e,hp⟩:=h;exact⟨o,s a o e,hp⟩
 |_=>trivial
theorem Known2.sub{G G':Gp}{d:D}(s:Sub G G')(h:Known2 G d):Known2 G' d:=by
 cases d with
 |obj a=>
  obtain⟨o,e,hp⟩:=h;exact⟨o,s a o e,hp⟩
 |tup ds=>exact fun d hd=>(h d hd).sub s
 |_=>trivial
theorem inst_not{G:Gp}{d:D}(h:Known2 G d)(hn:∀ds,d≠.tup ds):instD "tuple" G d=some false:=by
 cases d with
 |obj a=>
  obtain⟨o,hG,hp⟩:∃o,G a=some o/\o.plain:=h;cases o with
  |gen R=>exact hp.elim
  |_=>simp[instD,hG]
 |tup ds=>exact absurd rfl (hn ds)
 |_=>rfl
end My
namespace My
open PySem L2 L3
abbrev sp_z22:=sp_law_common
abbrev tb_z22:=tb_law_common
abbrev rd_z22:=rd_law_common
theorem bls_map{α:Type}(f:α->Bool):∀xs:List α,blsOf (xs.map fun x=>D.bl (f x))=some (xs.map f)
 |[]=>rfl
 |x::xs=>by
  show Option.map _ (blsOf (xs.map fun x=>D.bl (f x)))=_;rw[bls_map f xs];rfl
theorem all_map{α:Type}(f:α->Bool)(xs:List α):(xs.map f).all id=xs.all f:=by
 induction xs with
 |nil=>rfl
 |cons x xs ih=>simp
end My
namespace My
open PySem L2 L3
theorem zip_fg{α β:Type}(f:α->D)(g:β->D):∀(as:List α) (bs:List β),zipD (as.map f) (bs.map g)=(as.zip bs).map fun p=>D.tup [f p.1,g p.2]
 |[],_=>rfl
 |a::as,[]=>rfl
 |a::as,b::bs=>by
  show D.tup [f a,g b]::zipD (as.map f) (bs.map g)=D.tup [f a,g b]::(as.zip bs).map _;rw[zip_fg f g as bs]
theorem zip_g{β:Type}(g:β->D)(as:List D)(bs:List β):zipD as (bs.map g)=(as.zip bs).map fun p=>D.tup [p.1,g p.2]:=by
 have:=zip_fg (fun d:D=>d) g as bs;rw[List.map_id'] at this;exact this
end My
namespace My
open PySem L2 L3
def parts(c:Clk)(k:Nat):List Clk:=(List.range k).map fun t:Nat=>(c.1*(k:Int),c.2+c.1*(t:Int))
def sp_z19:Sp3:=fun ds G Q=>∃(c:Clk) (k:Nat),ds=[cD c,.int k]/\k≤10000/\Big c.1/\∀p G',New G p (.lst ((parts c k).map cD)) G'->Q (.obj p) G'
def tbp(nm:Str):TS3:=sRet (eComp [nm] [0,1] (iRng1 (aCons (eVar 1) (aNil))) (hName 0) (tNoTest3) (eTup (aCons (eOp rMul3 (eOp rIx3 (eVar 1) (eC (.int 0))) (eVar 2)) (aCons (eOp rAdd3 (eOp rIx3 (eVar 1) (eC (.int 1))) (eOp rMul3 (eOp rIx3 (eVar 1) (eC (.int 0))) (eVar 0))) (aNil)))))
theorem parts_rd{nm:Str}:∀ds G Q,sp_z19 ds G Q->tbp nm (endsOf Q) (start3 ["clock","k"] ds) G:=by
 rintro ds G Q ⟨c,k,rfl,hk,hb,q⟩;obtain⟨s,r⟩:=c;have bk:∀t:Nat,t≤10000->Big (t:Int):=fun t ht=>big_of (by omega) (by omega);refine⟨⟨by omega,by omega⟩,?_,?_⟩
 ·show (rngL 0 ((k:Int)).toNat).length≤sizeLine;rw[rngL_length];exact Nat.le_trans (show ((k:Int)).toNat≤10000 by omega) (by decide)
 show compGo _ _ _ _ _ (rngL 0 ((k:Int)).toNat) _ _ _;rw[Int.toNat_natCast,rng0];refine compGo_of (fun τ=>∃x,τ=[x,some (cD (s,r)),some (.int k)]) nD (fun _=>true) (fun t:Nat=>cD (s*(k:Int),r+s*(t:Int))) (G:=G) trivial (List.range k) [] _ ⟨none,rfl⟩ ?_ ?_
 ·rintro t hm τ K1 K2 ⟨x,rfl⟩ h1 h2;have ht:t<k:=by simpa using hm
  exact⟨fun _=>⟨_,rfl,⟨hb,bk k hk⟩,_,rfl,_,rfl,⟨hb,bk t (by omega)⟩,h1 rfl _ ⟨_,rfl⟩⟩,nofun⟩
 ·intro p G' n;rw[filter_all,List.nil_append] at n;refine ret_ok (q p G' ?_);unfold parts;rw[List.map_map];exact n
def tb_z19:TS3:=sRet (eComp ["turn"] [0,1] (iRng1 (aCons (eVar 1) (aNil))) (hName 0) (tNoTest3) (eTup (aCons (eOp rMul3 (eOp rIx3 (eVar 1) (eC (.int 0))) (eVar 2)) (aCons (eOp rAdd3 (eOp rIx3 (eVar 1) (eC (.int 1))) (eOp rMul3 (eOp rIx3 (eVar 1) (eC (.int 0))) (eVar 0))) (aNil)))))
theorem rd_z19:∀ds G Q,sp_z19 ds G Q->tb_z19 (endsOf Q) (start3 ["clock","k"] ds) G:=parts_rd
abbrev sp_law_parts:=sp_z19
def tb_law_parts:TS3:=sRet (eComp ["part"] [0,1] (iRng1 (aCons (eVar 1) (aNil))) (hName 0) (tNoTest3) (eTup (aCons (eOp rMul3 (eOp rIx3 (eVar 1) (eC (.int 0))) (eVar 2)) (aCons (eOp rAdd3 (eOp rIx3 (eVar 1) (eC (.int 1))) (eOp rMul3 (eOp rIx3 (eVar 1) (eC (.int 0))) (eVar 0))) (aNil)))))
theorem rd_law_parts:∀ds G Q,sp_law_parts ds G Q->tb_law_parts (endsOf Q) (start3 ["clock","k"] ds) G:=parts_rd
abbrev sp_z5:=sp_z19
abbrev tb_z5:=tb_law_parts
abbrev rd_z5:=rd_law_parts
def formB:D->D->Bool
 |.int k,.tup ps=>decide (2≤k)&&(((ps.length:Nat):Int)==k)
 |_,_=>false
def sp_z1:Sp3:=fun ds G Q=>∃a b:D,ds=[a,b]/\Known G a/\Known2 G b/\Q (.bl (formB a b)) G
def tb_z1:TS3:=sRet (eAndV (eCall sp_z11 (aCons (eVar 0) (aNil))) (eAndV (eOp rGe3 (eVar 0) (eC (.int 2))) (eAndV (eInst "tuple" (eVar 1)) (eOp (rEq3 false) (eCB r_len (aCons (eVar 1) (aNil))) (eVar 0)))))
theorem form_int(k:Int)(b:D)(h:∀ds,b≠.tup ds):formB (.int k) b=false:=by
 cases b with
 |tup ds=>exact absurd rfl (h ds)
 |_=>rfl
theorem rd_z1:∀ds G Q,sp_z1 ds G Q->tb_z1 (endsOf Q) (start3 ["k","papers"] ds) G:=by
 rintro ds G Q ⟨a,b,rfl,ka,kb,q⟩;refine⟨ka,?_⟩;cases a with
 |int k=>
  refine⟨fun _=>⟨fun h=>?_,fun h=>?_⟩,nofun⟩
  ·have h':2≤k:=of_decide_eq_true h;cases b with
   |tup ps=>
    refine⟨fun _=>⟨_,_,rfl,rfl,Nat.zero_le _,?_⟩,nofun⟩;show (endsOf Q).rt (.bl (((ps.length:Nat):Int)==k)) G;have e:formB (.int k) (.tup ps)=(((ps.length:Nat):Int)==k):=by
     show (decide (2≤k)&&_)=_;rw[decide_eq_true h',Bool.true_and]
    rw[e] at q;exact ret_ok q
   |obj a=>
    show match instD "tuple" G (.obj a) with
     |some b=>_
     |none=>False
    rw[inst_not kb (fun ds h=>by cases h)];rw[form_int k _ (fun ds h=>by cases h)] at q;exact⟨nofun,fun _=>ret_ok q⟩
   |_=>exact⟨nofun,fun _=>ret_ok q⟩
  ·have h':¬(2≤k):=of_decide_eq_false h;have e:formB (.int k) b=false:=by
    cases b with
    |tup ps=>
     show (decide (2≤k)&&_)=false;rw[decide_eq_false h',Bool.false_and]
    |_=>rfl
   rw[e] at q;exact ret_ok q
 |_=>
  refine⟨nofun,fun _=>?_⟩;exact ret_ok q
end My
namespace My
open PySem L2 L3
def insB(a b:Clk):Bool:=a.1%b.1==0&&rg a.2 b
def sp_z14:Sp3:=fun ds G Q=>∃a b:Clk,ds=[cD a,cD b]/\0<b.1/\Q (.bl (insB a b)) G
def tb_z14:TS3:=sRet (eAndV (eOp (rEq3 false) (eOp rMod3 (eOp rIx3 (eVar 0) (eC (.int 0))) (eOp rIx3 (eVar 1) (eC (.int 0)))) (eC (.int 0))) (eCall sp_z23 (aCons (eVar 1) (aCons (eOp rIx3 (eVar 0) (eC (.int 1))) (aNil)))))
theorem rd_z14:∀ds G Q,sp_z14 ds G Q->tb_z14 (endsOf Q) (start3 ["one","other"] ds) G:=by
 rintro ds G Q ⟨⟨s1,r1⟩,⟨s2,r2⟩,rfl,hb,q⟩;refine⟨_,rfl,_,rfl,hb,_,_,rfl,rfl,Nat.zero_le _,fun h=>?_,fun h=>?_⟩
 ·have h':(s1%s2==0)=true:=h;have e:insB (s1,r1) (s2,r2)=rg r1 (s2,r2):=by
   show (s1%s2==0&&rg r1 (s2,r2))=_;rw[h',Bool.true_and]
  rw[e] at q;exact⟨_,rfl,(s2,r2),r1,rfl,hb,ret_ok q⟩
 ·have h':(s1%s2==0)=false:=h;have e:insB (s1,r1) (s2,r2)=false:=by
   show (s1%s2==0&&rg r1 (s2,r2))=_;rw[h',Bool.false_and]
  rw[e] at q;exact ret_ok q
end My
namespace My
open PySem L2 L3
def placeB(n:Nat):D->Bool
 |.int i=>decide (0≤i)&&decide (i<n)
 |_=>false
def sp_z10:Sp3:=fun ds G Q=>∃(cs:List Clk) (d:D),ds=[csD cs,d]/\Known G d/\Q (.bl (placeB cs.length d)) G
def tb_z10:TS3:=sRet (eAndV (eCall sp_z11 (aCons (eVar 1) (aNil))) (eChain rLe3 rLtT3 (eC (.int 0)) (eVar 1) (eCB r_len (aCons (eVar 0) (aNil)))))
theorem rd_z10:∀ds G Q,sp_z10 ds G Q->tb_z10 (endsOf Q) (start3 ["things","thing"] ds) G:=by
 rintro ds G Q ⟨cs,d,rfl,hk,q⟩;refine⟨hk,?_⟩;cases d with
 |int i=>
  refine⟨fun _=>⟨fun h=>?_,fun h=>?_⟩,nofun⟩
  ·have h':decide ((0:Int)≤i)=true:=h;have e:placeB cs.length (.int i)=decide (i<(cs.length:Nat)):=by
    show (decide (0≤i)&&decide (i<(cs.length:Nat)))=_;rw[h',Bool.true_and]
   rw[e] at q;show (endsOf Q).rt (.bl (decide (i<((cs.map cD).length:Nat)))) G;rw[List.length_map];exact ret_ok q
  ·have h':decide ((0:Int)≤i)=false:=h;have e:placeB cs.length (.int i)=false:=by
    show (decide (0≤i)&&decide (i<(cs.length:Nat)))=_;rw[h',Bool.false_and]
   rw[e] at q;exact ret_ok q
 |_=>exact⟨nofun,fun _=>ret_ok q⟩
theorem place_at{cs:List Clk}{d:D}(h:placeB cs.length d=true):∃(i:Nat) (a:Clk),d=.int i/\cs[i]?=some a/\a∈cs:=by
 cases d with
 |int i=>
  have h':(decide (0≤i)&&decide (i<(cs.length:Nat)))=true:=h;rw[Bool.and_eq_true,decide_eq_true_iff,decide_eq_true_iff] at h';obtain⟨n,rfl⟩:∃n:Nat,i=(n:Int):=⟨i.toNat,by omega⟩;have hn:n<cs.length:=by omega
  exact⟨n,cs[n],rfl,List.getElem?_eq_getElem hn,List.getElem_mem hn⟩
 |_=>cases h
def isS(s:Str):D->Bool
 |.str x=>(Dat.D.str x).eqb (.str s)
 |_=>false
def tupL:D->List D
 |.tup ps=>ps
 |_=>[]
def intI:D->Int
 |.int i=>i
 |_=>0
def leafB(cs:List Clk)(b:D)(c:Clk):Bool:=placeB cs.length b&&(match cs[(intI b).toNat]? with
 |some a=>insB c a
 | none=>false)
mutual
def pB:Nat->List Clk->D->Clk->Bool
 |0,_,_,_=>false
 |n+1,cs,d,c=>match d with
  |.tup [a,b]=>isS "leaf" a&&leafB cs b c
  |.tup [a,b,e]=>isS "split" a&&psB n cs b e c
  |_=>false
def psB:Nat->List Clk->D->D->Clk->Bool
 |0,_,_,_,_=>false
 |n+1,cs,b,e,c=>formB b e&&((tupL e).zip (parts c (intI b).toNat)).all fun z=>pB n cs z.1 z.2
end
mutual
def PapD(G:Gp):Nat->D->Int->Prop
 |0,_,_=>False
 |n+1,d,s=>Known2 G d/\Big s/\(∀a r,d=.tup (a::r)->∃x,a=.str x)/\(∀a b,d=.tup [a,b]->Known G b)/\∀a b e,d=.tup [a,b,e]->isS "split" a=true->PapE G n b e s
def PapE(G:Gp):Nat->D->D->Int->Prop
 |0,_,_,_=>False
 |n+1,b,e,s=>Known G b/\Known2 G e/\Big s/\∀(k:Int) (ps:List D),b=.int k->e=.tup ps->ps.length≤10000/\∀p∈ps,PapD G n p (s*k)
end
def sp_z12(n:Nat):Sp3:=fun ds G Q=>∃(cs:List Clk) (d:D) (c:Clk),ds=[csD cs,d,cD c]/\PapD G n d c.1/\(∀z∈cs,0<z.1)/\Q (.bl (pB n cs d c)) G
def sp_z6(n:Nat):Sp3:=fun ds G Q=>∃(cs:List Clk) (b e:D) (c:Clk),ds=[csD cs,b,e,cD c]/\PapE G n b e c.1/\(∀z∈cs,0<z.1)/\Q (.bl (psB n cs b e c)) G
theorem no_z12:∀ds G Q,¬sp_z12 0 ds G Q:=by
 rintro ds G Q ⟨_,_,_,_,h,_⟩;exact h
theorem no_z6:∀ds G Q,¬sp_z6 0 ds G Q:=by
 rintro ds G Q ⟨_,_,_,_,_,h,_⟩;exact h
def tb_z12_7(n:Nat):TS3:=sRet (eC (.bl false))
def tb_z12_5(n:Nat):TS3:=sSeq (sIf (eAnd (eTest (eOp (rEq3 false) (eCB r_len (aCons (eVar 1) (aNil))) (eC (.int 3)))) (eTest (eOp (rEq3 false) (eOp rIx3 (eVar 1) (eC (.int 0))) (eC (.str "split"))))) (sRet (eCall (sp_z6 n) (aCons (eVar 0) (aCons (eOp rIx3 (eVar 1) (eC (.int 1))) (aCons (eOp rIx3 (eVar 1) (eC (.int 2))) (aCons (eVar 2) (aNil))))))) (sNext)) (tb_z12_7 n)
def tb_z12_3(n:Nat):TS3:=sSeq (sIf (eAnd (eTest (eOp (rEq3 false) (eCB r_len (aCons (eVar 1) (aNil))) (eC (.int 2)))) (eTest (eOp (rEq3 false) (eOp rIx3 (eVar 1) (eC (.int 0))) (eC (.str "leaf"))))) (sRet (eAndV (eCall sp_z10 (aCons (eVar 0) (aCons (eOp rIx3 (eVar 1) (eC (.int 1))) (aNil)))) (eCall sp_z14 (aCons (eVar 2) (aCons (eOp rIx3 (eVar 0) (eOp rIx3 (eVar 1) (eC (.int 1)))) (aNil)))))) (sNext)) (tb_z12_5 n)
def tb_z12(n:Nat):TS3:=sSeq (sIf (eNot (eTest (eInst "tuple" (eVar 1)))) (sRet (eC (.bl false))) (sNext)) (tb_z12_3 n)
theorem rd_z12(n:Nat):∀ds G Q,sp_z12 (n+1) ds G Q->tb_z12 n (endsOf Q) (start3 ["clocks","thing","clock"] ds) G:=by
 rintro ds G Q ⟨cs,d,c,rfl,hp,hz,q⟩;have hp:Known2 G d/\Big c.1/\(∀a r,d=.tup (a::r)->∃x,a=.str x)/\(∀a b,d=.tup [a,b]->Known G b)/\∀a b e,d=.tup [a,b,e]->isS "split" a=true->PapE G n b e c.1:=hp;obtain⟨p1,p2,p3,p4,p5⟩:=hp;have not_tup:(∀ds,d≠.tup ds)->tb_z12 n (endsOf Q) (start3 ["clocks","thing","clock"] [csD cs,d,cD c]) G:=by
  intro hn;have e:pB (n+1) cs d c=false:=by
   cases d with
   |tup ds=>exact absurd rfl (hn ds)
   |_=>rfl
  rw[e] at q;show match instD "tuple" G d with
   |some b=>_
   |none=>False
  rw[inst_not p1 hn];exact⟨fun _=>ret_ok q,nofun⟩
 cases d with
 |tup ds=>
  refine⟨nofun,fun _=>⟨_,_,rfl,rfl,Nat.zero_le _,?_⟩⟩;rcases ds with _|⟨a,_|⟨b,_|⟨e,_|⟨f,ds⟩⟩⟩⟩
  ·exact⟨nofun,fun _=>⟨nofun,fun _=>⟨_,_,rfl,rfl,Nat.zero_le _,nofun,fun _=>⟨nofun,fun _=>ret_ok q⟩⟩⟩⟩
  ·exact⟨nofun,fun _=>⟨nofun,fun _=>⟨_,_,rfl,rfl,Nat.zero_le _,nofun,fun _=>⟨nofun,fun _=>ret_ok q⟩⟩⟩⟩
  ·obtain⟨x,rfl⟩:=p3 a [b] rfl;refine⟨fun _=>⟨_,rfl,_,_,rfl,rfl,Nat.zero_le _,fun h=>?_,fun h=>?_⟩,nofun⟩
   ·have h':isS "leaf" (.str x)=true:=h;have e:pB (n+1) cs (.tup [.str x,b]) c=leafB cs b c:=by
     show (isS "leaf" (.str x)&&leafB cs b c)=_;rw[h',Bool.true_and]
    rw[e] at q;refine⟨_,rfl,cs,b,rfl,p4 _ _ rfl,fun h2=>?_,fun h2=>?_⟩
    ·obtain⟨i,z,rfl,ez,hm⟩:=place_at h2;have e2:leafB cs (.int i) c=insB c z:=by
      show (placeB cs.length (.int i)&&(match cs[((i:Int)).toNat]? with
       |some a=>insB c a
       | none=>false))=_
      rw[h2,Int.toNat_natCast,ez,Bool.true_and]
     rw[e2] at q;exact⟨_,rfl,cD z,atI_nat (by rw[List.getElem?_map,ez];rfl),c,z,rfl,hz z hm,ret_ok q⟩
    ·have e2:leafB cs b c=false:=by
      unfold leafB;rw[h2,Bool.false_and]
     rw[e2] at q;exact ret_ok q
   ·have h':isS "leaf" (.str x)=false:=h;have e:pB (n+1) cs (.tup [.str x,b]) c=false:=by
     show (isS "leaf" (.str x)&&leafB cs b c)=_;rw[h',Bool.false_and]
    rw[e] at q;exact⟨_,_,rfl,rfl,Nat.zero_le _,nofun,fun _=>⟨nofun,fun _=>ret_ok q⟩⟩
  ·obtain⟨x,rfl⟩:=p3 a [b,e] rfl;refine⟨nofun,fun _=>⟨nofun,fun _=>⟨_,_,rfl,rfl,Nat.zero_le _,fun _=>⟨_,rfl,_,_,rfl,rfl,Nat.zero_le _,fun h=>?_,fun h=>?_⟩,nofun⟩⟩⟩
   ·have h':isS "split" (.str x)=true:=h;have e1:pB (n+1) cs (.tup [.str x,b,e]) c=psB n cs b e c:=by
     show (isS "split" (.str x)&&psB n cs b e c)=_;rw[h',Bool.true_and]
    rw[e1] at q;exact⟨_,rfl,_,rfl,cs,b,e,c,rfl,p5 _ _ _ rfl h',hz,ret_ok q⟩
   ·have h':isS "split" (.str x)=false:=h;have e1:pB (n+1) cs (.tup [.str x,b,e]) c=false:=by
     show (isS "split" (.str x)&&psB n cs b e c)=_;rw[h',Bool.false_and]
    rw[e1] at q;exact ret_ok q
  ·have l2:¬((((ds.length+1+1+1+1:Nat):Int)==2)=true):=by simp;omega
   have l3:¬((((ds.length+1+1+1+1:Nat):Int)==3)=true):=by simp;omega
   refine⟨fun h=>absurd h l2,fun _=>⟨nofun,fun _=>⟨_,_,rfl,rfl,Nat.zero_le _,fun h=>absurd h l3,fun _=>⟨nofun,fun _=>ret_ok q⟩⟩⟩⟩
 |_=>exact not_tup nofun
def tb_z6_4(n:Nat):TS3:=sIf (eNot (eTest (eCall (sp_z12 n) (aCons (eVar 0) (aCons (eVar 4) (aCons (eVar 5) (aNil))))))) (sRet (eC (.bl false))) (sNext)
def tb_z6_6(n:Nat):TS3:=sRet (eC (.bl true))
def tb_z6_3(n:Nat):TS3:=sSeq (sFor (iZip (aCons (eVar 2) (aCons (eCall sp_z19 (aCons (eVar 3) (aCons (eVar 1) (aNil)))) (aNil)))) (hTup 2 (hCons (hName 4) (hCons (hName 5) (hNil)))) ((tb_z6_4 n))) (tb_z6_6 n)
def tb_z6(n:Nat):TS3:=sSeq (sIf (eNot (eTest (eCall sp_z1 (aCons (eVar 1) (aCons (eVar 2) (aNil)))))) (sRet (eC (.bl false))) (sNext)) (tb_z6_3 n)
theorem form_is{a b:D}(h:formB a b=true):∃(k:Nat) (ps:List D),a=.int k/\b=.tup ps/\2≤k/\ps.length=k:=by
 unfold formB at h;split at h
 ·rename_i k ps;rw[Bool.and_eq_true,decide_eq_true_iff,beq_iff_eq] at h;exact⟨ps.length,ps,by rw[h.2],rfl,by omega,rfl⟩
 ·cases h
mutual
theorem PapD.sub{G G':Gp}(s:Sub G G'):∀{n:Nat} {d:D} {i:Int},PapD G n d i->PapD G' n d i
 |0,_,_,h=>h
 |n+1,d,i,h=>by
  obtain⟨h1,h2,h3,h4,h5⟩:=(show Known2 G d/\Big i/\(∀a r,d=.tup (a::r)->∃x,a=.str x)/\(∀a b,d=.tup [a,b]->Known G b)/\∀a b e,d=.tup [a,b,e]->isS "split" a=true->PapE G n b e i from h);exact⟨Known2.sub s h1,h2,h3,fun a b e=>Known.sub s (h4 a b e),fun a b e q q2=>PapE.sub s (h5 a b e q q2)⟩
theorem PapE.sub{G G':Gp}(s:Sub G G'):∀{n:Nat} {b e:D} {i:Int},PapE G n b e i->PapE G' n b e i
 |0,_,_,_,h=>h
 |n+1,b,e,i,h=>by
  obtain⟨h1,h2,h3,h4⟩:=(show Known G b/\Known2 G e/\Big i/\∀(k:Int) (ps:List D),b=.int k->e=.tup ps->ps.length≤10000/\∀p∈ps,PapD G n p (i*k) from h);exact⟨Known.sub s h1,Known2.sub s h2,h3,fun k ps q1 q2=>⟨(h4 k ps q1 q2).1,fun p hp=>PapD.sub s ((h4 k ps q1 q2).2 p hp)⟩⟩
end
theorem rd_z6(n:Nat):∀ds G Q,sp_z6 (n+1) ds G Q->tb_z6 n (endsOf Q) (start3 ["clocks","k","papers","clock","paper","part"] ds) G:=by
 rintro ds G Q ⟨cs,b,e,c,rfl,hp,hz,q⟩;obtain⟨p1,p2,p3,p4⟩:=(show Known G b/\Known2 G e/\Big c.1/\∀(k:Int) (ps:List D),b=.int k->e=.tup ps->ps.length≤10000/\∀p∈ps,PapD G n p (c.1*k) from hp);refine⟨b,e,rfl,p1,p2,fun h=>?_,fun h=>?_⟩
 ·have hf:formB b e=false:=by simpa using h
  have e1:psB (n+1) cs b e c=false:=by
   show (formB b e&&_)=false;rw[hf,Bool.false_and]
  rw[e1] at q;exact ret_ok q
 ·have hf:formB b e=true:=by simpa using h
  obtain⟨k,ps,rfl,rfl,k2,hl⟩:=form_is hf;obtain⟨p5,p6⟩:=p4 k ps rfl rfl;have e1:psB (n+1) cs (.int k) (.tup ps) c=(ps.zip (parts c k)).all fun z=>pB n cs z.1 z.2:=by
   show (formB (.int k) (.tup ps)&&(ps.zip (parts c ((k:Int)).toNat)).all fun z=>pB n cs z.1 z.2)=_;rw[hf,Bool.true_and,Int.toNat_natCast]
  rw[e1] at q;refine⟨c,k,rfl,by omega,p3,fun p2 G2 n2=>⟨ps,(parts c k).map cD,rfl,n2.at_,?_⟩⟩;rw[zip_g cD ps (parts c k)];refine forGo_go (fun ds τ G'=>G'=G2/\∃(zs:List (D×Clk)) (x4 x5:Option D),ds=zs.map (fun z=>D.tup [z.1,cD z.2])/\τ=[some (csD cs),some (.int k),some (.tup ps),some (cD c),x4,x5]/\(∀z∈zs,z.1∈ps/\z.2∈parts c k)/\(zs.all fun z=>pB n cs z.1 z.2)=(ps.zip (parts c k)).all fun z=>pB n cs z.1 z.2) (fun _ _ _ h=>by
   obtain⟨rfl,_⟩:=h;exact⟨rfl,n2.at_⟩) ?_ ?_ _ _ _ ⟨rfl,ps.zip (parts c k),none,none,rfl,rfl,fun z hz=>List.of_mem_zip hz,rfl⟩
  ·rintro d ds τ G' N ⟨eg,zs,x4,x5,e2,rfl,hm,ha⟩ hN;cases zs with
   |nil=>cases e2
   |cons z zs=>
    cases e2;obtain⟨m1,m2⟩:=hm z List.mem_cons_self;obtain⟨t,_,et⟩:=List.mem_map.mp m2;have es:z.2.1=c.1*(k:Int):=by rw[←et]
    have hp':PapD G' n z.1 z.2.1:=by
     rw[es,eg];exact (p6 z.1 m1).sub n2.sub
    rw[List.all_cons] at ha;refine⟨rfl,cs,z.1,z.2,rfl,hp',hz,fun h=>?_,fun h=>?_⟩
    ·have hb:pB n cs z.1 z.2=false:=by simpa using h
     rw[hb,Bool.false_and] at ha;rw[←ha] at q;rw[eg];exact ret_sub n2.sub q
    ·have hb:pB n cs z.1 z.2=true:=by simpa using h
     rw[hb,Bool.true_and] at ha;exact hN _ _ ⟨eg,zs,_,_,rfl,rfl,fun y hy=>hm y (List.mem_cons_of_mem _ hy),ha⟩
  ·rintro τ G' ⟨eg,zs,x4,x5,e2,rfl,hm,ha⟩;cases zs with
   |cons z zs=>cases e2
   |nil=>
    have ha:true=(ps.zip (parts c k)).all fun z=>pB n cs z.1 z.2:=ha;rw[←ha] at q;rw[eg];exact ret_sub n2.sub q
def sp_z0:Sp3:=fun ds G Q=>∃(cs:List Clk) (d:D),ds=[csD cs,d]/\PapD G 40 d 1/\(∀z∈cs,0<z.1)/\Q (.bl (pB 40 cs d (1,0))) G
def tb_z0:TS3:=sRet (eCall (sp_z12 40) (aCons (eVar 0) (aCons (eVar 1) (aCons (eTup (aCons (eC (.int 1)) (aCons (eC (.int 0)) (aNil)))) (aNil)))))
theorem rd_z0:∀ds G Q,sp_z0 ds G Q->tb_z0 (endsOf Q) (start3 ["clocks","thing"] ds) G:=by
 rintro ds G Q ⟨cs,d,rfl,hp,hz,q⟩;exact⟨cs,d,(1,0),rfl,hp,hz,ret_ok q⟩
end My
namespace L2
open PySem PySem.Spec PyProof.Rows
structure CmpOkC(N:List Str)(sc scope:Scope)(own:List Str)(js:List Nat)(z:Str):Prop where
 kind:scope.kind=.function
 isz:∀y∈scope.names,y.2=.cell->y.1=z
 ownz:own.contains z=true
 cells:∀n acc,cellsFrom n scope.names acc=(z,n)::acc
 push:∀h,pushCells h scope.names=h.push { cls:=.type "cell",data:=.cell none }
 names:∀y∈scope.names,y.2=.local->scope.names.lookup y.1=some .local
 free:∀y∈scope.names,y.2=.free->sc.names.lookup y.1=some .cell/\own.contains y.1=false
 only:∀y∈scope.names,y.2=.free->scope.names.lookup y.1=some .free
 js:∀j∈js,j<N.length/\(N.getD j Str.empty,NameKind.free)∈scope.names
def Cx.cmpC(X:Cx)(scope:Scope)(own:List Str)(js:List Nat)(z:Str)(s:Shared)(H:Hp)(fp:List Addr):Cx:=
 { X with N:=cmpN X.N own js,s₀:=s,H₀:=H,env:=compEnvC scope ((z,s.heap.objs.size+1)::clos X.env scope.names []) s.heap.objs.size X.env,outer:=X.stack,ex:=fp,fn:=fun x=>own.contains x,pn:=[],xe:=fun _ _=>False }
theorem cellsC{z x:Str}{n c:Addr}{l:List (Str×Addr)}(h:((z,n)::l).lookup x=some c):(x=z/\c=n)∨(x≠z/\l.lookup x=some c):=by
 rw[List.lookup_cons] at h;cases hx:x==z with
 |true=>
  rw[hx] at h;exact .inl ⟨by simpa using hx,(Option.some.inj h).symm⟩
 |false=>
  rw[hx] at h;exact .inr ⟨by simpa using hx,h⟩
theorem cellsC_own{z:Str}{n:Addr}{l:List (Str×Addr)}:((z,n)::l).lookup z=some n:=by
 rw[List.lookup_cons,beq_self_eq_true]
theorem cellsC_other{z x:Str}{n c:Addr}{l:List (Str×Addr)}(hx:x≠z)(h:l.lookup x=some c):((z,n)::l).lookup x=some c:=by
 rw[List.lookup_cons,show (x==z)=false by simpa using hx];exact h
theorem wp_newEnvC{M:Model}{A:Around}{E:Value->Shared->Prop}{s:Shared}{scope:Scope}{globals:Addr}{closure:List (Str×Addr)}{qual:Str}{env:Env}{z:Str}{Q:Env->Shared->Prop}
  (hcells:∀n acc,cellsFrom n scope.names acc=(z,n)::acc) (hpush:∀h,pushCells h scope.names=h.push { cls:=.type "cell",data:=.cell none })
  (hQ:∀h',h'.Ns s.heap.objs.size (fun _=>none)->h'.IsCell (s.heap.objs.size+1) none->(∀b o,s.heap.get? b=some o->h'.get? b=some o) ->
   Q (newEnv scope s.heap.objs.size globals ((z,s.heap.objs.size+1)::closure) qual none .none (some env) builtinsNs) { s with heap:=h',toks:=s.toks }):
  wpAny M A (newFunctionEnv scope globals closure [] qual none .none (some env)) Q E s:=by
 simp only[newFunctionEnv,Option.isSome_some,if_true];refine wpAny_bind (wpAny_alloc ?_);refine wpAny_bind (wpAny_layCells _ (fun name kind cells=>by cases hkc:kind==NameKind.cell<;>simp[hkc]) _ _ _ _ ?_)
 rw[show ({ s with heap:=s.heap.push { cls:=.type "dict",data:=.dict #[]}}:Shared).heap.objs.size=s.heap.objs.size+1 from Heap.size_push ..,hcells,hpush];refine wpAny_bind (by
  rw[List.forIn_nil];refine wpAny_pure (wpAny_pure ?_);refine hQ _ ((Heap.Ns.new s.heap (.type "dict")).keeps fun b o e=>Heap.get?_push_of_some _ e) ⟨{ cls:=.type "cell",data:=.cell none },?_,rfl⟩ fun b o e=>Heap.get?_push_of_some _ (Heap.get?_push_of_some _ e);have e:=Heap.get?_push_size (s.heap.push { cls:=.type "dict",data:=.dict #[]}) (o:={ cls:=.type "cell",data:=.cell none }) rfl;rwa [Heap.size_push] at e)
section
variable {X:Cx} {pins:List (Addr×Obj)} {σ:St} {H:Hp} {s:Shared} {scope:Scope} {own:List Str} {js:List Nat} {fp:List Addr} {z:Str}
theorem Inv.cellLt(I:Inv X pins σ H s){x:Str}{c:Addr}(h:X.env.cells.lookup x=some c):c<s.heap.objs.size:=by
 obtain⟨v,o,e,_⟩:=I.cell x c h;exact Heap.lt_size e
theorem CmpOkC.neq(C:CmpOkC X.N X.env.scope scope own js z){x:Str}(h:(x,NameKind.free)∈scope.names):x≠z:=fun e=>by
 have:=(C.free _ h rfl).2;rw[e,C.ownz] at this;cases this
theorem CmpOkC.cellsL(C:CmpOkC X.N X.env.scope scope own js z)(ok:X.Ok):∀y∈scope.names,y.2=.free->∃c,X.env.cells.lookup y.1=some c:=fun y hy e=>
 ok.has y.1 (.inl (C.free y hy e).1)
theorem CmpOkC.cl_of(C:CmpOkC X.N X.env.scope scope own js z)(ok:X.Ok){x:Str}{c:Addr}(h:(clos X.env scope.names []).lookup x=some c):(x,NameKind.free)∈scope.names/\X.env.cells.lookup x=some c:=by
 rcases clos_lookup scope.names [] h with q|⟨q1,q2⟩
 ·cases q
 ·obtain⟨c',e⟩:=C.cellsL ok _ q1 rfl;refine⟨q1,?_⟩;rw[q2,show X.env.cells.lookup x=some c' from e];rfl
theorem CmpOkC.cl_has(C:CmpOkC X.N X.env.scope scope own js z)(ok:X.Ok){x:Str}(h:(x,NameKind.free)∈scope.names):∃c,(clos X.env scope.names []).lookup x=some c/\X.env.cells.lookup x=some c:=by
 obtain⟨c,e⟩:=C.cellsL ok _ h rfl;refine⟨c,?_,e⟩;rw[clos_has scope.names [] h,show X.env.cells.lookup x=some c from e];rfl
theorem Inv.cmpOkC(I:Inv X pins σ H s)(C:CmpOkC X.N X.env.scope scope own js z)(hf:∀b∈fp,FpOk X pins H b/\b<s.heap.objs.size):(X.cmpC scope own js z s H fp).Ok where
 mod:=I.ok.mod
 kind:=C.kind
 glob:=I.ok.glob
 blt:=I.ok.blt
 above:=Nat.le_refl _
 inj:=fun x y c h1 h2=>by
  rcases cellsC h1 with⟨rfl,rfl⟩|⟨n1,k1⟩
  ·rcases cellsC h2 with⟨rfl,_⟩|⟨n2,h2⟩
   ·rfl
   ·exact absurd (I.cellLt (C.cl_of I.ok h2).2) (Nat.not_lt_of_le (Nat.le_succ _))
  ·rcases cellsC h2 with⟨rfl,rfl⟩|⟨n2,h2⟩
   ·exact absurd (I.cellLt (C.cl_of I.ok k1).2) (Nat.not_lt_of_le (Nat.le_succ _))
   ·exact I.ok.inj x y c (C.cl_of I.ok k1).2 (C.cl_of I.ok h2).2
 has:=fun x h=>by
  by_cases hxz:x=z
  ·subst hxz;exact⟨_,cellsC_own⟩
  have hfree:(x,NameKind.free)∈scope.names:=by
   rcases h with h|h
   ·rcases lookup_relabel (sc:=scope) (env:=X.env) scope.names h with⟨q,_⟩|⟨_,q⟩
    ·exact absurd (C.isz _ (mem_of_look q) rfl) hxz
    ·exact mem_of_look q
   ·rcases lookup_relabel (sc:=scope) (env:=X.env) scope.names h with⟨q,_⟩|⟨q,_⟩
    ·exact mem_of_look q
    ·cases q
  obtain⟨c,e,_⟩:=C.cl_has I.ok hfree;exact⟨c,cellsC_other hxz e⟩
 cab:=fun x c h1 h2=>by
  rcases cellsC h2 with⟨rfl,rfl⟩|⟨_,h2⟩
  ·show s.heap.objs.size≤s.heap.objs.size+1;omega
  have q:=(C.free _ (C.cl_of I.ok h2).1 rfl).2;have h1':own.contains x=true:=h1;rw[q] at h1';cases h1'
 hd:=I.ok.hd
 frames:=I.ok.frames
 stk:=.inl rfl
 exf:=fun b hb=>⟨Nat.ne_of_lt (hf b hb).2,fun x c e=>by
  rcases cellsC e with⟨rfl,rfl⟩|⟨_,e⟩
  ·intro e;have:=(hf b hb).2;rw[←e] at this;exact absurd this (Nat.not_lt_of_le (Nat.le_succ _))
  ·exact (hf b hb).1.2.2.2.2.1 x c (C.cl_of I.ok e).2⟩
 bs:=I.bs
 bsz:=Nat.le_trans I.ok.bsz I.sz
 noex:=fun b o e hb=>by
  rcases (hf b hb).1.2.2.2.1 with z|z
  ·exact I.ok.noex b o e z
  ·exact absurd (Nat.lt_of_lt_of_le (Heap.lt_size e) (Nat.le_trans I.ok.bsz z)) (Nat.lt_irrefl _)
 exfs:=fun b hb z=>by
  rcases List.mem_cons.mp (I.stkSub b z) with e|e
  ·exact (hf b hb).1.2.1 e
  ·exact (hf b hb).1.2.2.1 e
 funs:=I.stack
 frf:=I.stkFree
theorem Inv.cmpC(I:Inv X pins σ H s)(C:CmpOkC X.N X.env.scope scope own js z)(hf:∀b∈fp,FpOk X pins H b/\b<s.heap.objs.size){h':Heap}{tk:Nat}(hn:h'.Ns s.heap.objs.size fun _=>none)(hz:h'.IsCell (s.heap.objs.size+1) none)
  (kept:∀b o,s.heap.get? b=some o->h'.get? b=some o):Inv (X.cmpC scope own js z s H fp) [] (cmpSt own js σ) H { s with heap:=h',toks:=tk }:=by
 have ok:=I.cmpOkC C hf;refine⟨ok,rfl,I.bare,Un.kept kept,⟨_,hn,fun i x v h1 h2 h3=>?_⟩,fun x c e=>?_,I.hok.fresh (Nat.le_refl _),fun x c e=>by
  rcases cellsC e with⟨rfl,rfl⟩|⟨_,e⟩
  ·exact I.hok.fresh (Nat.le_succ _)
  ·exact I.freeC x c (C.cl_of I.ok e).2,fun p hp=>?_,I.hok.kept kept,?_⟩
 ·have h1':(own++js.map fun j=>X.N.getD j Str.empty)[i]?=some x:=h1;have h2':(List.replicate own.length none++js.map fun j=>(σ[j]?).getD none)[i]?=some (some v):=h2;by_cases hi:i<own.length
  ·rw[List.getElem?_append_left (by simpa using hi),List.getElem?_replicate,if_pos hi] at h2';cases h2'
  ·rw[List.getElem?_append_right (by omega)] at h1';rw[List.getElem?_append_right (by simp;omega),List.length_replicate] at h2';obtain⟨j,hj,rfl⟩:=getD_map_get h1';rw[List.getElem?_map,hj] at h2';have h2'':(σ[j]?).getD none=some v:=Option.some.inj h2';have hσ:σ[j]?=some (some v):=by
    cases e:σ[j]? with
    |none=>rw[e] at h2'';cases h2''
    |some o=>
     rw[e] at h2'';have:o=some v:=h2'';rw[this]
   obtain⟨jl,jf⟩:=C.js j (List.mem_of_getElem? hj);have hN:X.N[j]?=some (X.N.getD j Str.empty):=by
    rw[List.getD_eq_getElem?_getD,List.getElem?_eq_getElem jl];rfl
   have hcell:=(C.free _ jf rfl).1;obtain⟨m,hm,hl⟩:=I.loc;obtain⟨u,ru,lk⟩:=hl j _ v hN hσ (.inr (.inl hcell));refine⟨u,ru,?_⟩;obtain⟨c,e1,e2⟩:=C.cl_has I.ok jf;have e1:=cellsC_other (n:=s.heap.objs.size+1) (C.neq jf) e1;rcases lk with⟨z,_⟩|⟨_,c',z1,z2⟩
   ·have z':X.env.scope.names.lookup (X.N.getD j Str.empty)=some .local:=z;rw[show X.env.scope.names.lookup (X.N.getD j Str.empty)=some .cell from hcell] at z';cases z'
   ·rw[e2] at z1;cases z1;have ic:h'.IsCell c (some u):=by
     obtain⟨o,q1,q2⟩:=z2;exact⟨o,kept _ _ q1,q2⟩
    rcases h3 with h3|h3|h3
    ·exfalso;rcases lookup_relabel (sc:=scope) (env:=X.env) scope.names h3 with⟨q,_⟩|⟨q,_⟩
     ·have z:=C.only _ jf rfl;rw[q] at z;cases z
     ·cases q
    ·exact .inr ⟨.inl h3,c,e1,ic⟩
    ·exact .inr ⟨.inr h3,c,e1,ic⟩
 ·rcases cellsC e with⟨rfl,rfl⟩|⟨_,e⟩
  ·exact⟨none,hz⟩
  obtain⟨v,o,q1,q2⟩:=I.cell x c (C.cl_of I.ok e).2;exact⟨v,o,kept _ _ q1,q2⟩
 ·exact absurd (show p∈([]:List (Addr×Obj)) from hp) (by simp)
 ·show (List.replicate own.length none++js.map fun j=>(σ[j]?).getD none).length=(own++js.map fun j=>X.N.getD j Str.empty).length;simp
theorem Inv.uncmpC{σ':St}{H':Hp}{s':Shared}{pl:List (Addr×Obj)}(I:Inv X pins σ H s)(hf:∀b∈fp,FpOk X pins H b/\b<s.heap.objs.size)(J:Inv (X.cmpC scope own js z s H fp) pl σ' H' s'):Inv X pins σ H' s':=by
 refine I.call' (ch:=fp) J.os J.base J.hok J.bare fun b hb=>?_;obtain⟨f0,f1,f2,f3,f4,f5⟩:=(hf b hb).1;exact⟨f3,f1,f4,f5⟩
end
section
variable {X:Cx} {tg iter elt:Expr} {ifs:List Expr} {scope:Scope} {pos:Pos} {own:List Str} {js:List Nat} {g:TG} {tc:TT} {te:TE} {z:Str}
theorem comp_blockZ{pins:List (Addr×Obj)}{σ:St}{H:Hp}{s:Shared}{Q:VK}{it:Addr}{fp:List Addr}{tn:Nat->Heap->Prop}{J:It}{E:Value->Shared->Prop}{RR:Value->Addr->Result->Shared->Prop}
  (hc:X.calm=true) (C:CmpOkC X.N X.env.scope scope own js z)
  (hb:∀s H fp,PG (X.cmpC scope own js z s H fp) tg g/\PCt (X.cmpC scope own js z s H fp) ifs tc/\PE (X.cmpC scope own js z s H fp) elt te)
  (I:Inv X pins σ H s) (T:Turn X.prog X.w X.K tg J fp it tn) (st:tn 0 s.heap) (hf:∀b∈fp,FpOk X pins H b) (rd:LcRd own js g tc te J σ H Q)
  (hRR:∀D N s' H',Inv X pins σ H' s'->Q (.ref D) H'->s.heap.objs.size≤N->H' N=none->(∃m,s'.heap.Ns N m)->RR (.ref D) N (.ok .next) s'):
  wpAny (model X.prog X.w) X.A (newList []) (fun acc s₃=>wpAny (model X.prog X.w) X.A (newFunctionEnv scope X.env.globals (clos X.env scope.names []) [] X.env.qual none .none (some X.env)) (fun cenv s₄=>
   codeAny (model X.prog X.w) X.A (.compStart (.ListComp elt [⟨tg,iter,ifs,0⟩] scope pos) 0 (.ref it) acc { cenv with scope:=relabel scope X.env }) (RR acc cenv.locals) s₄) E s₃) E s:=by
 have hD:H s.heap.objs.size=none:=I.fresh;obtain⟨W,⟨m0,w0⟩,turn⟩:=rd s.heap.objs.size hD;refine wpAny_newObj_type ?_;have hI3:Inv X pins σ (upd H s.heap.objs.size (.lst [])) { s with heap:=s.heap.push { cls:=.type "list",data:=.seq ([]:List Value).toArray }}:=
  I.lnew (t':=s.toks) (its:=[]) (ys:=[]) .nil (Nat.zero_le _)
 have hlt:∀b∈fp,b<s.heap.objs.size:=fun b hb=>by
  obtain⟨o,e,_⟩:=T.obj 0 _ st b hb;exact Heap.lt_size e
 have st3:tn 0 (s.heap.push { cls:=.type "list",data:=.seq ([]:List Value).toArray }):=T.keep 0 _ _ st fun b _ o e=>Heap.get?_push_of_some _ e;generalize hs3:({ s with heap:=s.heap.push { cls:=.type "list",data:=.seq ([]:List Value).toArray }}:Shared)=s3 at hI3 ⊢;have hsz3:s3.heap.objs.size=s.heap.objs.size+1:=by rw[←hs3];exact Heap.size_push ..
 have st3':tn 0 s3.heap:=by rw[←hs3];exact st3
 have hf3:∀b∈fp,FpOk X pins (upd H s.heap.objs.size (.lst [])) b/\b<s3.heap.objs.size:=fun b hb=>by
  obtain⟨f0,f1⟩:=hf b hb;refine⟨⟨?_,f1⟩,by rw[hsz3];exact Nat.lt_succ_of_lt (hlt b hb)⟩;rw[upd_ne (Nat.ne_of_lt (hlt b hb))];exact f0
 refine wp_newEnvC (z:=z) C.cells C.push (fun h₁ hns₁ hz₁ kept1=>?_);have I4:Inv (X.cmpC scope own js z s3 (upd H s.heap.objs.size (.lst [])) fp) [] (cmpSt own js σ) (upd H s.heap.objs.size (.lst [])) { s3 with heap:=h₁,toks:=s3.toks }:=
  hI3.cmpC C hf3 hns₁ hz₁ kept1
 have st4:tn 0 h₁:=T.keep 0 _ _ st3' fun b _ o e=>kept1 b o e;obtain⟨hg,ht,he⟩:=hb s3 (upd H s.heap.objs.size (.lst [])) fp
 -- the iterator's objects in the block's context
 have stat:∀{H':Hp},(∀b∈fp,H' b=none)->∀b∈fp,FpOk (X.cmpC scope own js z s3 (upd H s.heap.objs.size (.lst [])) fp) [] H' b:=fun {H'} hn b hb=>by
  have q:=I4.ok;exact⟨hn b hb,(q.exf b hb).1,q.exfs b hb,.inl hb,(q.exf b hb).2,fun p hp=>absurd (show p∈([]:List (Addr×Obj)) from hp) (by simp)⟩
 have loop:codeAny (model X.prog X.w) X.A (.compLoop (.ListComp elt [⟨tg,iter,ifs,0⟩] scope pos) 0 (.ref it) (.ref s.heap.objs.size) (compEnvC scope ((z,s3.heap.objs.size+1)::clos X.env scope.names []) s3.heap.objs.size X.env))
   (RR (.ref s.heap.objs.size) s3.heap.objs.size) { s3 with heap:=h₁,toks:=s3.toks }:=by
  refine compLoop_turns (fun n s'=>∃i ys σ' H',Inv (X.cmpC scope own js z s3 (upd H s.heap.objs.size (.lst [])) fp) [] σ' H' s'/\tn i s'.heap/\(∀b∈fp,H' b=none)/\W i n ys σ' H') ?_ m0
   ⟨0,[],_,_,I4,st4,fun b hb=>(hf3 b hb).1.1,w0⟩
  rintro n s5 ⟨i,ys,σ5,H5,I5,st5,fr5,w5⟩;obtain⟨hacc,hcase⟩:=turn i n ys σ5 H5 w5;rcases hcase with⟨stop,qn⟩|⟨go,hys,step⟩
  ·refine thn (T.done (X.cmpC scope own js z s3 (upd H s.heap.objs.size (.lst [])) fp) rfl rfl rfl hc i [] s5 σ5 H5 (fun _ _=>False) I5 (stat fr5) st5 stop) fun r s6 ⟨hr,I6⟩=>?_;subst hr;have I7:=hI3.uncmpC hf3 I6;obtain⟨m,hm,_⟩:=I6.loc;exact hRR _ _ _ _ I7 qn (by rw[hsz3];exact Nat.le_succ _) I6.free ⟨m,hm⟩
  ·refine thn (T.item (X.cmpC scope own js z s3 (upd H s.heap.objs.size (.lst [])) fp) rfl rfl rfl hc i [] s5 σ5 H5 (fun _ _=>False) I5 (stat fr5) st5 go) fun r s6 ⟨u,hr,h6⟩=>?_;subst hr;refine thn h6 fun _ s7 ⟨x,H7,I7,r7,y7,st7,fr7⟩=>?_;have I7':=I7.pinned (stat fr7) (T.obj _ _ st7);refine thn (hg _ s7 σ5 H7 x u _ I7' r7 (step x H7 y7)) fun _ s8 ⟨σ8,H8,I8,q8⟩=>?_;refine thn (ht _ s8 σ8 H8 _ I8 q8) fun ok s9 ⟨H9,I9,q9⟩=>?_;have back:∀{σ':St} {H':Hp} {s':Shared} {ys':List V},Inv (X.cmpC scope own js z s3 (upd H s.heap.objs.size (.lst [])) fp) ([]++pinsAt fp s7.heap) σ' H' s'->(∃m',m' < n/\W (i+1) m' ys' σ' H') ->
     ∃m',m' < n/\∃i ys σ' H',Inv (X.cmpC scope own js z s3 (upd H s.heap.objs.size (.lst [])) fp) [] σ' H' s'/\tn i s'.heap/\(∀b∈fp,H' b=none)/\W i m' ys σ' H':=fun {σ' H' s' ys'} I' ⟨m',hm,w'⟩=>by
    refine⟨m',hm,i+1,ys',σ',H',I'.unpinned,T.keep _ _ _ st7 fun b hb o e=>(I'.pin (b,o) (List.mem_append_right _ (List.mem_append_right _ (mem_pinsAt hb e)))).1,fun b hb=>?_,w'⟩;obtain⟨o,e,d⟩:=T.obj _ _ st7 b hb;exact (I'.pin (b,o) (List.mem_append_right _ (List.mem_append_right _ (mem_pinsAt hb e)))).2.1
   cases ok with
   |false=>
    rw[if_neg Bool.false_ne_true] at q9 ⊢;exact back I9 q9
   |true=>
    rw[if_pos rfl] at q9 ⊢;refine thn (he _ s9 σ8 H9 _ I9 q9) fun xv s10 ⟨v,H10,I10,r10,hD10,q10⟩=>?_;refine thn (mt_append (X:=X.cmpC scope own js z s3 (upd H s.heap.objs.size (.lst [])) fp) _ s10 σ8 H10 (.ref s.heap.objs.size) [v] (.ref s.heap.objs.size) [xv] (fun _ H'=>H'=upd H10 s.heap.objs.size (.lst (ys++[v]))) I10 rfl (.cons r10 .nil)
     ⟨_,ys,v,rfl,rfl,hD10,hys,rfl⟩) fun _ s11 ⟨_,H11,I11,_,e11⟩=>?_
    subst e11;exact back I11 q10
 exact codeAny_compStart_list loop (T.self _ 0 _ _ _ st4 loop)
theorem ps_setCompZ{wi:TI}{i:Nat}{y:Str}{py spos:Pos}(hc:X.calm=true)(hN:X.N.Nodup)(hy:X.N[i]?=some y)(hyl:X.env.scope.names.lookup y=some .local)(C:CmpOkC X.N X.env.scope scope own js z)(hi:PI X tg iter wi)
  (hb:∀s H fp,PG (X.cmpC scope own js z s H fp) tg g/\PCt (X.cmpC scope own js z s H fp) ifs tc/\PE (X.cmpC scope own js z s H fp) elt te)
  (hsw:swapsWith (.ListComp elt [⟨tg,iter,ifs,0⟩] scope pos) (some (.Name y py)) spos.line X.env=pure true:=by rfl)
  (hs:∀x,foldedSetIterable iter X.env x=pure x:=by intro _;rfl):PS X (.Assign [.Name y py] (.ListComp elt [⟨tg,iter,ifs,0⟩] scope pos) spos) (tAsg (tLc own js wi g tc te) (gName i)):=by
 intro pins s σ H D I h;rw[exec_Assign_Name_used _ _ _ _ hsw];refine wpAny_bind (wpAny_standAt (wpAny_bind ?_));show wpAny _ X.A (do let _ ←comprehension (.ListComp elt [⟨tg,iter,ifs,0⟩] scope pos) scope X.env _ (newList []) false (eval iter X.env) (some (assign (.Name y py) X.env))) _ _ s;refine wpAny_bind (wpAny_mono (wpAny_comprehension_free (use:=some (assign (.Name y py) X.env)) (Q:=fun _ s'=>SP X pins D .next s') rfl hs (closureFor_clos (C.cellsL I.ok)) C.kind C.names
  (thn (hi pins s σ H _ I h) fun xv s₁ h₁=>thn h₁ fun itv s₂ h₂=>?_)) (fun _ s' hq=>wpAny_pure (wpAny_pure hq)) fun _ _ e=>e)
 obtain⟨it,fp,tn,J,H2,e,I2,T,st2,f2,rd⟩:=h₂;subst e;refine comp_blockZ (RR:=fun acc C'=>compPost (model X.prog X.w) X.A X.xe (some (assign (.Name y py) X.env)) (fun _ s'=>SP X pins D .next s') acc C') hc C hb I2 T st2 f2 rd fun L N s' H' I' q hN' hHN ⟨m,hm⟩=>?_
 show wpAny _ _ (assign (.Name y py) X.env (.ref L)) _ _ _;refine wpAny_assign_Name (store_ok2 I' hN hy (.inl hyl) (v:=.ref L) rfl (fun s'' I'' ⟨a,sb,ha⟩=>?_) (.inr hyl));have hNa:N≠a:=by
  obtain⟨f0,f1,f2,f3,f4,f5⟩:=I2.fpOk hN' hHN;rcases ha with rfl|ha
  ·exact f1
  ·exact Ne.symm (f4 _ _ ha)
 refine⟨m,hm.sameBut sb hNa,fun h'' sb''=>?_⟩;refine⟨σ.set i (some (.ref L)),H',?_,q⟩;obtain⟨f0,f1,f2,f3,f4,f5⟩:=I2.fpOk hN' hHN;exact I''.turned (t':=s''.toks) (fun c o hc e=>(sb''.2 c hc).trans e) f0 f1 f3 f4 f5
def relab(outer fsc:Scope):Scope:={ outer with names:=outer.names.map fun (n,k)=>if (k==.free&&fsc.kind==.function&&fsc.names.lookup n==some .cell) then (n,.cell) else (n,k)}
theorem cmpOk_in{X:Cx}{outer fsc scope:Scope}{own own2:List Str}{js js2:List Nat}{z:Str}{s:Shared}{H:Hp}{fp:List Addr}{N2:List Str}(he:X.env.scope=fsc)(hN:(X.cmpC outer own js z s H fp).N=N2)(C:CmpOk N2 (relab outer fsc) scope own2 js2):
  CmpOk (X.cmpC outer own js z s H fp).N (X.cmpC outer own js z s H fp).env.scope scope own2 js2:=by
 subst he hN;exact C
end
end L2
namespace L3
open PySem PySem.Spec PyProof.Rows L2
section
variable {X:Cx} {tg iter elt:Expr} {ifs:List Expr} {scope:Scope} {own:List Str} {js:List Nat} {ti:TI3} {g:TG3} {tc:TT3} {te:TE3} {pos:Pos} {z:Str}
theorem s_setCompZ{i:Nat}{y:Str}{py spos:Pos}(hc:X.calm=true)(hN:X.N.Nodup)(C:CmpOkC X.N X.env.scope scope own js z)(hi:PI3 X tg iter ti)
  (hb:∀s H fp,PG3 (X.cmpC scope own js z s H fp) tg g/\PCt (X.cmpC scope own js z s H fp) ifs (lowT X.K tc)/\PE3 (X.cmpC scope own js z s H fp) elt te) (hy:X.N[i]?=some y:=by rfl) (hyl:X.env.scope.names.lookup y=some .local:=by rfl)
  (hsw:swapsWith (.ListComp elt [⟨tg,iter,ifs,0⟩] scope pos) (some (.Name y py)) spos.line X.env=pure true:=by rfl)
  (hs:∀x,foldedSetIterable iter X.env x=pure x:=by intro _;rfl):PS3 X (.Assign [.Name y py] (.ListComp elt [⟨tg,iter,ifs,0⟩] scope pos) spos) (sAsg (eComp own js ti g tc te) (hName i)):=
 ps_of (ps_setCompZ hc hN hy hyl C hi hb hsw hs) fun D2 σ H ⟨τ,G,D3,RS,RG,h,k⟩=>
  low_comp ⟨τ,G,_,RS,RG,h,fun v H1 d G1 h1 S1 R1 q1=>k.nx _ _ G1 H1 ((RS.ext (S1.ext RG)).set h1) S1 R1 q1⟩
theorem qs_setCompZ{i:Nat}{y:Str}{py spos:Pos}(hc:X.calm=true)(hN:X.N.Nodup)(C:CmpOkC X.N X.env.scope scope own js z)(hi:QI X tg iter ti)
  (hb:∀s H fp,QG (X.cmpC scope own js z s H fp) tg g/\QC (X.cmpC scope own js z s H fp) ifs tc/\QE (X.cmpC scope own js z s H fp) elt te) (hy:X.N[i]?=some y:=by rfl) (hyl:X.env.scope.names.lookup y=some .local:=by rfl)
  (hsw:swapsWith (.ListComp elt [⟨tg,iter,ifs,0⟩] scope pos) (some (.Name y py)) spos.line X.env=pure true:=by rfl)
  (hs:∀x,foldedSetIterable iter X.env x=pure x:=by intro _;rfl):QS X (.Assign [.Name y py] (.ListComp elt [⟨tg,iter,ifs,0⟩] scope pos) spos) (sAsg (eComp own js ti g tc te) (hName i)):=
 ⟨s_setCompZ hc hN C hi.of (fun s H fp=>⟨(hb s H fp).1.of,(hb s H fp).2.1.of,(hb s H fp).2.2.of⟩) hy hyl hsw hs⟩
end
end L3
namespace L2
open PySem PySem.Spec PyProof.Rows
theorem noFill_tuple_mul:fillsNumberSlot (.type "tuple") "mul" = pure false:=
 PySem.fillsNumberSlot_seq (id:="tuple.__mul__") (r:=some (.builtin "tuple.__rmul__")) F.slot_tuple_mul.lookup (by decide +kernel) F.slot_tuple_rmul.lookup (by decide +kernel)
theorem repeat_tuple:seqRepeat? (.type "tuple")=pure (some (.builtin "tuple.__mul__")):=by
 unfold seqRepeat?;rw[PySem.seqSlot_of (T:="tuple") (name:="__mul__") (id:="tuple.__mul__") F.slot_tuple_mul.lookup (by decide +kernel),PySem.seqSlot_of (T:="tuple") (name:="__rmul__") (id:="tuple.__rmul__") F.slot_tuple_rmul.lookup (by decide +kernel)];rfl
theorem int_rmul_tup(a:Int)(t:Tok)(l:Addr)(v:Value)(n:Nat)(dd:Option Addr)(sl:Array (Option Value)):
  Meets (Builtin.«int.__rmul__» ⟨[.int a t,.ref l],[]⟩) (fun _ R s=>s.heap.get? l=some { cls:=.type "tuple",dict:=dd,data:=.seq #[v] n,slots:=sl }/\R (.ok (.ret Value.notImplemented)) s):=
 .of_wp fun prog w A R s h=>by obtain⟨hp,g,d,tk,os⟩:=s;obtain⟨hl,h⟩:=h;wp_walk;exact⟨_,rfl,h⟩
theorem tup_mul2(t:Tok)(l:Addr)(v:Value)(n:Nat)(dd:Option Addr)(sl:Array (Option Value)):
  Meets (Builtin.«tuple.__mul__» ⟨[.ref l,.int 2 t],[]⟩) (fun _ R s=>s.heap.get? l=some { cls:=.type "tuple",dict:=dd,data:=.seq #[v] n,slots:=sl }/\R (.ok (.ret (.ref s.heap.objs.size))) { s with heap:=s.heap.push { cls:=.type "tuple",data:=.seq #[v,v]}}):=
 .of_wp fun prog w A R s h=>by obtain⟨hp,g,d,tk,os⟩:=s;obtain⟨hl,h⟩:=h;wp_walk;exact⟨_,rfl,h⟩
def rTwice(K:PySem.W.Frag):R2:=fun x y H Q=>∃a v,x=.ref a/\y=.int 2/\SqT K H a [v]/\∀p,H p=none->Q (.ref p) (upd H p (.tup [v,v]))
theorem op_twice{X:Cx}:OpR X (binaryOp .Mult) (rTwice X.K):=by
 intro pins s σ H x y v u Q I rx ry h;obtain⟨a,w,rfl,rfl,ha,q⟩:=h;cases rx;obtain⟨t,rfl⟩:=ry;obtain⟨its,r1,p1,_⟩:=I.tuple ha;cases r1 with
 |cons r rr=>
 cases rr;obtain⟨⟨cls,dd,data,sl⟩,ho,hc,n,hd⟩:=id p1;simp only at hc hd;subst hc hd;refine wpAny_binaryOp_repeat_ref (T:="tuple") (U:="int") (by decide) ⟨_,ho,rfl⟩ (fun s'=>typeIs_int s' 2 t) noFill_tuple_mul F.fills_int_mul F.slot_int_rmul repeat_tuple F.slot_int_index.lookup
  (call_meets F.slot_int_rmul (typeIs_int s 2 t) F.entry_int_rmul (F.args_int_rmul_2 _ _) (int_rmul_tup 2 t a _ n dd sl)
   ⟨ho,rfl,⟨_,ho,rfl⟩,call_meets F.slot_tuple_mul ⟨_,ho,rfl⟩ F.entry_tuple_mul (F.args_tuple_mul_2 _ _) (tup_mul2 t a _ n dd sl) ⟨ho,?_⟩⟩)
 refine⟨.ref s.heap.objs.size,_,I.laid (t':=s.toks) (o:=.tup [w,w]) (fun b ob q=>Heap.get?_push_of_some _ q) (Nat.le_refl _) ?_,rfl,q _ (I.hok.fresh (Nat.le_refl _))⟩;exact⟨(by decide:2≤sizeLine),[_,_],.cons r (.cons r .nil),IsTup.new _ _⟩
end L2
namespace L3
open PySem PySem.Spec PyProof.Rows L2
def rMulT3:R3:=fun x y G Q=>match x,y with
 |.tup [d],.int 2=>Q (.tup [d,d]) G
 |_,_=>False
theorem l_mulT{K:PySem.W.Frag}:LowR K rMulT3 (rTwice K):=fun x y vx vy G H Q3 Q hx hy RG h k=>by
 unfold rMulT3 at h;split at h
 ·rename_i d;obtain⟨a,us,rfl,e1,e2⟩:=hv_tup hx;obtain⟨v,rfl,hv⟩:=hvs1 e2;rw[hv_int hy];exact⟨a,v,rfl,rfl,e1,fun p hp=>k _ _ (.tup [d,d]) G (mk_tup (.of upd_same) (.cons (hv.ext (.laid hp)) (.cons (hv.ext (.laid hp)) .nil))) (.laid hp) (RG.laid hp) h⟩
 ·exact h.elim
end L3
namespace My
open PySem L2 L3
def sp_z9:Sp3:=fun ds G Q=>∃a b:Clk,ds=[cD a,cD b]/\Valid b/\Q (.bl (insB a b)) G
def tb_z9:TS3:=sRet (eAndV (eOp (rEq3 false) (eOp rMod3 (eOp rIx3 (eVar 0) (eC (.int 0))) (eOp rIx3 (eVar 1) (eC (.int 0)))) (eC (.int 0))) (eOp (rEq3 false) (eOp rMod3 (eOp rSub3 (eOp rIx3 (eVar 0) (eC (.int 1))) (eOp rIx3 (eVar 1) (eC (.int 1)))) (eOp rIx3 (eVar 1) (eC (.int 0)))) (eC (.int 0))))
theorem rd_z9:∀ds G Q,sp_z9 ds G Q->tb_z9 (endsOf Q) (start3 ["clock","other"] ds) G:=by
 rintro ds G Q ⟨⟨s,r⟩,⟨s',r'⟩,rfl,hv,q⟩;have h0:0<s':=hv.1;have e:insB (s,r) (s',r')=(((s%s'==0):Bool)&&rg2 r (s',r')):=by
  rw[rg_eq hv];rfl
 rw[e] at q;refine⟨_,rfl,_,rfl,h0,_,_,rfl,rfl,Nat.zero_le _,fun h=>?_,fun h=>?_⟩
 ·have h':(s%s'==0)=true:=h;rw[h',Bool.true_and] at q;exact⟨_,rfl,_,rfl,_,rfl,h0,_,_,rfl,rfl,Nat.zero_le _,ret_ok q⟩
 ·have h':(s%s'==0)=false:=h;rw[h',Bool.false_and] at q;exact ret_ok q
def sp_z2(n:Nat):Sp3:=fun ds G Q=>∃(cs:List Clk) (c:Clk) (d:D) (m:Nat),ds=[csD cs,cD c,d]/\m≤n/\PapD G m d c.1/\(∀z∈cs,Valid z)/\∀G',Sub G G'->Q (.bl (pB m cs d c)) G'
theorem no_z2:∀ds G Q,¬sp_z2 0 ds G Q:=by
 rintro ds G Q ⟨_,_,_,m,_,hm,h,_⟩;have:m=0:=by omega
 subst this;exact h
def tb_z2_6(n:Nat):TS3:=sRet (eCall sp_z9 (aCons (eVar 1) (aCons (eOp rIx3 (eVar 0) (eOp rIx3 (eVar 2) (eC (.int 1)))) (aNil))))
def tb_z2_12(n:Nat):TS3:=sRet (eCB r_all (aCons (eComp ["k"] [0,3,2] (iRng1 (aCons (eCB r_len (aCons (eVar 3) (aNil))) (aNil))) (hName 0) (tNoTest3) (eCall (sp_z2 n) (aCons (eVar 1) (aCons (eOp rIx3 (eVar 2) (eVar 0)) (aCons (eOp rIx3 (eOp rIx3 (eVar 3) (eC (.int 2))) (eVar 0)) (aNil)))))) (aNil)))
def tb_z2_11(n:Nat):TS3:=sSeq (sAsg (eCall sp_z5 (aCons (eVar 1) (aCons (eOp rIx3 (eVar 2) (eC (.int 1))) (aNil)))) (hName 3)) (tb_z2_12 n)
def tb_z2_9(n:Nat):TS3:=sSeq (sIf (eOr (eNot (eTest (eInst "tuple" (eOp rIx3 (eVar 2) (eC (.int 2)))))) (eTest (eOp (rEq3 true) (eCB r_len (aCons (eOp rIx3 (eVar 2) (eC (.int 2))) (aNil))) (eOp rIx3 (eVar 2) (eC (.int 1)))))) (sRet (eC (.bl false))) (sNext)) (tb_z2_11 n)
def tb_z2_7(n:Nat):TS3:=sSeq (sIf (eOr (eTest (eOp (rEq3 true) (eOp rIx3 (eVar 2) (eC (.int 0))) (eC (.str "split")))) (eOr (eTest (eOp (rEq3 true) (eCB r_len (aCons (eVar 2) (aNil))) (eC (.int 3)))) (eOr (eNot (eTest (eCall sp_z13 (aCons (eOp rIx3 (eVar 2) (eC (.int 1))) (aNil))))) (eTest (eOp rLtT3 (eOp rIx3 (eVar 2) (eC (.int 1))) (eC (.int 2))))))) (sRet (eC (.bl false))) (sNext)) (tb_z2_9 n)
def tb_z2_3(n:Nat):TS3:=sSeq (sIf (eTest (eOp (rEq3 false) (eOp rIx3 (eVar 2) (eC (.int 0))) (eC (.str "leaf")))) (sSeq (sIf (eOr (eTest (eOp (rEq3 true) (eCB r_len (aCons (eVar 2) (aNil))) (eC (.int 2)))) (eOr (eNot (eTest (eCall sp_z13 (aCons (eOp rIx3 (eVar 2) (eC (.int 1))) (aNil))))) (eTest (eInRng1 true (eOp rIx3 (eVar 2) (eC (.int 1))) (aCons (eCB r_len (aCons (eVar 0) (aNil))) (aNil)))))) (sRet (eC (.bl false))) (sNext)) (tb_z2_6 n)) (sNext)) (tb_z2_7 n)
def tb_z2(n:Nat):TS3:=sSeq (sIf (eOr (eNot (eTest (eInst "tuple" (eVar 2)))) (eOr (eTest (eOp rLtT3 (eCB r_len (aCons (eVar 2) (aNil))) (eC (.int 2)))) (eNot (eTest (eInst "str" (eOp rIx3 (eVar 2) (eC (.int 0)))))))) (sRet (eC (.bl false))) (sNext)) (tb_z2_3 n)
theorem dueSplit{n m:Nat}{G:Gp}{Q:V3}{cs:List Clk}{c:Clk}{b e:D}(hm:m+1≤n+1)(hp:PapE G m b e c.1)(hz:∀z∈cs,Valid z)(q:∀G',Sub G G'->Q (.bl (psB m cs b e c)) G')(hb:∃k:Int,b=.int k/\2≤k)(x3:Option D):
  tb_z2_9 n (endsOf Q) [some (csD cs),some (cD c),some (.tup [.str "split",b,e]),x3] G:=by
 obtain⟨k,rfl,k2⟩:=hb;cases m with
 |zero=>exact hp.elim
 |succ m=>
 obtain⟨p1,p2,p3,p4⟩:=(show Known G (.int k)/\Known2 G e/\Big c.1/\∀(k':Int) (ps:List D),D.int k=.int k'->e=.tup ps->ps.length≤10000/\∀p∈ps,PapD G m p (c.1*k') from hp);have nof:formB (.int k) e=false->∀G',Sub G G'->Q (.bl false) G':=fun h G' s=>by
  have:=q G' s;rw[show psB (m+1) cs (.int k) e c=(formB (.int k) e&&_) from rfl,h,Bool.false_and] at this;exact this
 have not_tup:(∀ds,e≠.tup ds)->tb_z2_9 n (endsOf Q) [some (csD cs),some (cD c),some (.tup [.str "split",.int k,e]),x3] G:=by
  intro hn;have hf:formB (.int k) e=false:=by
   cases e with
   |tup ds=>exact absurd rfl (hn ds)
   |_=>rfl
  refine⟨_,rfl,?_⟩;show match instD "tuple" G e with
   |some b=>_
   |none=>False
  rw[inst_not p2 hn];exact⟨fun _=>⟨fun _=>ret_ok (nof hf _ (Sub.refl _)),nofun⟩,nofun⟩
 cases e with
 |tup ps=>
  obtain⟨p5,p6⟩:=p4 k ps rfl rfl;refine⟨_,rfl,nofun,fun _=>⟨_,rfl,_,rfl,_,_,rfl,rfl,Nat.zero_le _,fun h=>?_,fun h=>?_⟩⟩
  ·have h':(!(((ps.length:Nat):Int)==k))=true:=h;refine ret_ok (nof ?_ _ (Sub.refl _));show (decide (2≤k)&&(((ps.length:Nat):Int)==k))=false;rw[show ((((ps.length:Nat):Int)==k))=false by simpa using h',Bool.and_false]
  ·have h':(!(((ps.length:Nat):Int)==k))=false:=h;have hk:((ps.length:Nat):Int)=k:=by simpa using h'
   subst hk;have hf:formB (.int ((ps.length:Nat):Int)) (.tup ps)=true:=by
    show (decide (2≤((ps.length:Nat):Int))&&(((ps.length:Nat):Int)==((ps.length:Nat):Int)))=true;rw[decide_eq_true k2,beq_self_eq_true];rfl
   have e1:psB (m+1) cs (.int ((ps.length:Nat):Int)) (.tup ps) c=(ps.zip (parts c ps.length)).all fun z=>pB m cs z.1 z.2:=by
    show (formB (.int ((ps.length:Nat):Int)) (.tup ps)&&(ps.zip (parts c (((ps.length:Nat):Int)).toNat)).all fun z=>pB m cs z.1 z.2)=_;rw[hf,Bool.true_and,Int.toNat_natCast]
   rw[e1] at q;refine⟨_,rfl,c,ps.length,rfl,p5,p3,fun p2 G2 n2=>?_⟩;have hlp:((parts c ps.length).map cD).length=ps.length:=by
    unfold parts;rw[List.length_map,List.length_map,List.length_range]
   refine⟨_,n2.at_,⟨by omega,by omega⟩,?_,?_⟩
   ·show (rngL 0 ((((parts c ps.length).map cD).length:Nat):Int).toNat).length≤sizeLine;rw[rngL_length,hlp];exact Nat.le_trans (show (((ps.length:Nat):Int)).toNat≤10000 by omega) (by decide)
   show compGo _ _ _ _ _ (rngL 0 ((((parts c ps.length).map cD).length:Nat):Int).toNat) _ _ _;rw[hlp,Int.toNat_natCast,rng0];have eall:((ps.zip (parts c ps.length)).all fun z=>pB m cs z.1 z.2)=(List.range ps.length).all fun t:Nat=>match ps[t]? with
     |some p=>pB m cs p (c.1*((ps.length:Nat):Int),c.2+c.1*(t:Int))
     |none=>true:=by
    rw[Bool.eq_iff_iff,List.all_eq_true,List.all_eq_true];constructor
    ·intro h t ht;have ht':t<ps.length:=List.mem_range.mp ht;rw[List.getElem?_eq_getElem ht'];refine h (ps[t],(c.1*((ps.length:Nat):Int),c.2+c.1*(t:Int))) (List.mem_iff_getElem?.mpr ⟨t,?_⟩);rw[List.getElem?_zip_eq_some];refine⟨List.getElem?_eq_getElem ht',?_⟩;unfold parts;rw[List.getElem?_map,List.getElem?_range ht'];rfl
    ·rintro h ⟨p,x⟩ hz;obtain⟨t,ht⟩:=List.mem_iff_getElem?.mp hz;rw[List.getElem?_zip_eq_some] at ht;obtain⟨t1,t2⟩:=ht;have ht':t<ps.length:=(List.getElem?_eq_some_iff.mp t1).1;have:=h t (List.mem_range.mpr ht');rw[t1] at this;unfold parts at t2;rw[List.getElem?_map,List.getElem?_range ht'] at t2;cases t2;exact this
   rw[eall] at q;refine compGo_go (fun ds acc τ G'=>Sub G2 G'/\(∃xs ys:List Nat,ys++xs=List.range ps.length/\ds=xs.map nD/\acc=ys.map fun t:Nat=>D.bl (match ps[t]? with
     |some p=>pB m cs p (c.1*((ps.length:Nat):Int),c.2+c.1*(t:Int))
     | none=>true))/\∃x,τ=[x,some (csD cs),some (.obj p2),some (.tup [.str "split",.int ((ps.length:Nat):Int),.tup ps])]) (fun _ _ _ _ _=>trivial) ?_ ?_ _ _ _ _ ⟨Sub.refl _,⟨_,[],rfl,rfl,rfl⟩,none,rfl⟩
   ·rintro d ds acc τ G3 K1 K2 ⟨s3,⟨xs,ys,hxy,e,rfl⟩,x,rfl⟩ g1 g2;cases xs with
    |nil=>cases e
    |cons t xs=>
     cases e;have ht:t<ps.length:=by
      have:t∈List.range ps.length:=by rw[←hxy];simp
      simpa using this
     have et:ps[t]?=some ps[t]:=List.getElem?_eq_getElem ht;have ept:((parts c ps.length).map cD)[t]?=some (cD (c.1*((ps.length:Nat):Int),c.2+c.1*(t:Int))):=by
      unfold parts;rw[List.map_map,List.getElem?_map,List.getElem?_range ht];rfl
     refine⟨fun _=>⟨_,_,s3 _ _ n2.at_,atI_nat ept,_,rfl,_,atI_nat et,cs,_,_,m,rfl,by omega,(p6 _ (List.getElem_mem ht)).sub (n2.sub.trans s3),hz,fun G4 s4=>?_⟩,nofun⟩;refine g1 _ _ _ ⟨s3.trans s4,⟨xs,ys++[t],by rw[List.append_assoc];exact hxy,rfl,?_⟩,_,rfl⟩;rw[List.map_append,List.map_cons,List.map_nil,et]
   ·rintro acc τ G3 ⟨s3,⟨xs,ys,hxy,e,rfl⟩,x,rfl⟩ p4 G4 n4;have hx:xs=[]:=by
     cases xs with
     |nil=>rfl
     |cons _ _=>cases e
    subst hx;rw[List.append_nil] at hxy;refine⟨_,_,n4.at_,bls_map _ _,ret_ok ?_⟩;rw[all_map,hxy];exact q _ ((n2.sub.trans s3).trans n4.sub)
 |_=>exact not_tup nofun
end My
namespace My
open PySem L2 L3
theorem isS_eq{s x:Str}(h:isS s (.str x)=true):x=s:=by
 have h':(x==s)=true:=h;simpa using h'
theorem leaf_not{x:Str}(h:isS "leaf" (.str x)=true):isS "split" (.str x)=false:=by
 have:=isS_eq h;subst this;decide
theorem place_rng(n:Nat)(i:Int):placeB n (.int i) = !inB true 0 (n:Int) i:=by
 show (decide (0≤i)&&decide (i<(n:Int))) = !!(decide (0≤i)&&decide (i<(n:Int)));rw[Bool.not_not]
theorem rd_z2(n:Nat):∀ds G Q,sp_z2 (n+1) ds G Q->tb_z2 n (endsOf Q) (start3 ["clocks","clock","thing","parts"] ds) G:=by
 rintro ds G Q ⟨cs,c,d,m,rfl,hm,hp,hz,q⟩;cases m with
 |zero=>exact hp.elim
 |succ m=>
 obtain⟨p1,p2,p3,p4,p5⟩:=(show Known2 G d/\Big c.1/\(∀a r,d=.tup (a::r)->∃x,a=.str x)/\(∀a b,d=.tup [a,b]->Known G b)/\∀a b e,d=.tup [a,b,e]->isS "split" a=true->PapE G m b e c.1 from hp);have no:pB (m+1) cs d c=false->(endsOf Q).rt (.bl false) G:=fun h=>by
  have:=q G (Sub.refl _);rw[h] at this;exact ret_ok this
 have not_tup:(∀ds,d≠.tup ds)->tb_z2 n (endsOf Q) (start3 ["clocks","clock","thing","parts"] [csD cs,cD c,d]) G:=by
  intro hn;have e:pB (m+1) cs d c=false:=by
   cases d with
   |tup ds=>exact absurd rfl (hn ds)
   |_=>rfl
  show match instD "tuple" G d with
   |some b=>_
   |none=>False
  rw[inst_not p1 hn];exact⟨fun _=>⟨fun _=>no e,nofun⟩,nofun⟩
 cases d with
 |tup ds=>
  rcases ds with _|⟨a,_|⟨b,_|⟨e,_|⟨f,ds⟩⟩⟩⟩
  ·exact⟨nofun,fun _=>⟨fun _=>⟨fun _=>no rfl,nofun⟩,nofun⟩⟩
  ·exact⟨nofun,fun _=>⟨fun _=>⟨fun _=>no rfl,nofun⟩,nofun⟩⟩
  ·obtain⟨x,rfl⟩:=p3 a [b] rfl;refine⟨nofun,fun _=>⟨nofun,fun _=>⟨_,rfl,nofun,fun _=>?_⟩⟩⟩;refine⟨_,rfl,_,_,rfl,rfl,Nat.zero_le _,fun h=>?_,fun h=>?_⟩
   ·have h':isS "leaf" (.str x)=true:=h;have e1:pB (m+1) cs (.tup [.str x,b]) c=leafB cs b c:=by
     show (isS "leaf" (.str x)&&leafB cs b c)=_;rw[h',Bool.true_and]
    refine⟨_,_,rfl,rfl,Nat.zero_le _,nofun,fun _=>⟨_,rfl,p4 _ _ rfl,fun hw=>?_,fun hw=>?_⟩⟩
    ·refine⟨fun _=>no ?_,nofun⟩;rw[e1];cases b with
     |int i=>cases hw
     |_=>rfl
    ·cases b with
     |int i=>
      refine⟨_,rfl,fun h2=>no ?_,fun h2=>?_⟩
      ·have h2':inB true 0 (((cs.map cD).length:Nat):Int) i=true:=h2;rw[List.length_map] at h2';rw[e1];unfold leafB;rw[place_rng,h2'];rfl
      ·have h2':inB true 0 (((cs.map cD).length:Nat):Int) i=false:=h2;rw[List.length_map] at h2';have h3:placeB cs.length (.int i)=true:=by rw[place_rng,h2'];rfl
       obtain⟨j,z,ej,ez,hmz⟩:=place_at h3;cases ej;have e2:leafB cs (.int (j:Int)) c=insB c z:=by
        show (placeB cs.length (.int (j:Int))&&(match cs[((j:Int)).toNat]? with
         |some a=>insB c a
         | none=>false))=_
        rw[h3,Int.toNat_natCast,ez,Bool.true_and]
       refine⟨_,rfl,cD z,atI_nat (by rw[List.getElem?_map,ez];rfl),c,z,rfl,hz z hmz,?_⟩;have:=q G (Sub.refl _);rw[e1,e2] at this;exact ret_ok this
     |_=>cases hw
   ·have h':isS "leaf" (.str x)=false:=h;have e1:pB (m+1) cs (.tup [.str x,b]) c=false:=by
     show (isS "leaf" (.str x)&&leafB cs b c)=_;rw[h',Bool.false_and]
    exact⟨_,rfl,_,_,rfl,rfl,Nat.zero_le _,fun _=>⟨fun _=>no e1,nofun⟩,fun _=>⟨_,_,rfl,rfl,Nat.zero_le _,fun _=>⟨fun _=>no e1,nofun⟩,nofun⟩⟩
  ·obtain⟨x,rfl⟩:=p3 a [b,e] rfl;have nos:isS "split" (.str x)=false->pB (m+1) cs (.tup [.str x,b,e]) c=false:=fun h=>by
    show (isS "split" (.str x)&&psB m cs b e c)=_;rw[h,Bool.false_and]
   refine⟨nofun,fun _=>⟨nofun,fun _=>⟨_,rfl,nofun,fun _=>?_⟩⟩⟩;refine⟨_,rfl,_,_,rfl,rfl,Nat.zero_le _,fun h=>?_,fun h=>?_⟩
   ·have h':isS "leaf" (.str x)=true:=h;exact⟨_,_,rfl,rfl,Nat.zero_le _,fun _=>⟨fun _=>no (nos (leaf_not h')),nofun⟩,nofun⟩
   ·refine⟨_,rfl,_,_,rfl,rfl,Nat.zero_le _,fun h2=>⟨fun _=>no (nos ?_),nofun⟩,fun h2=>?_⟩
    ·have h2':(!isS "split" (.str x))=true:=h2;simpa using h2'
    have h2':(!isS "split" (.str x))=false:=h2;have h3:isS "split" (.str x)=true:=by simpa using h2'
    have e1:pB (m+1) cs (.tup [.str x,b,e]) c=psB m cs b e c:=by
     show (isS "split" (.str x)&&psB m cs b e c)=_;rw[h3,Bool.true_and]
    have hE:=p5 _ _ _ rfl h3;have hx:=isS_eq h3;subst hx;cases m with
    |zero=>exact hE.elim
    |succ m=>
    obtain⟨k1,k2,k3,k4⟩:=(show Known G b/\Known2 G e/\Big c.1/\∀(k:Int) (ps:List D),b=.int k->e=.tup ps->ps.length≤10000/\∀p∈ps,PapD G m p (c.1*k) from hE);have nof:formB b e=false->pB (m+1+1) cs (.tup [.str "split",b,e]) c=false:=fun h=>by
     rw[e1];show (formB b e&&_)=false;rw[h,Bool.false_and]
    refine⟨_,_,rfl,rfl,Nat.zero_le _,nofun,fun _=>⟨_,rfl,k1,fun hw=>⟨fun _=>no (nof ?_),nofun⟩,fun hw=>?_⟩⟩
    ·cases b with
     |int i=>cases hw
     |_=>rfl
    ·cases b with
     |int k=>
      refine⟨_,rfl,fun h4=>no (nof ?_),fun h4=>?_⟩
      ·have h4':k<2:=of_decide_eq_true h4;cases e with
       |tup ps=>
        show (decide (2≤k)&&_)=false;rw[decide_eq_false (by omega),Bool.false_and]
       |_=>rfl
      ·have h4':¬k<2:=of_decide_eq_false h4;refine dueSplit (m:=m+1) (by omega) hE hz (fun G' s=>?_) ⟨k,rfl,by omega⟩ _;have:=q G' s;rw[e1] at this;exact this
     |_=>cases hw
  ·obtain⟨x,rfl⟩:=p3 a (b::e::f::ds) rfl;have l2:(!((((ds.length+1+1+1+1:Nat):Int))==2))=true:=by simp;omega
   have l3:(!((((ds.length+1+1+1+1:Nat):Int))==3))=true:=by simp;omega
   have l4:¬((((ds.length+1+1+1+1:Nat):Int))<2):=by omega
   have n2:¬(!((((ds.length+1+1+1+1:Nat):Int))==2))=false:=by rw[l2];decide
   have n3:¬(!((((ds.length+1+1+1+1:Nat):Int))==3))=false:=by rw[l3];decide
   have e0:atI (D.str x::b::e::f::ds) 0=some (.str x):=by
    have h0:(D.str x::b::e::f::ds)[0]?=some (.str x):=rfl;exact atI_nat h0
   refine⟨nofun,fun _=>⟨fun h=>absurd (of_decide_eq_true h) l4,fun _=>⟨_,e0,nofun,fun _=>?_⟩⟩⟩;refine⟨_,e0,_,_,rfl,rfl,Nat.zero_le _,fun _=>⟨_,_,rfl,rfl,Nat.zero_le _,fun _=>⟨fun _=>no rfl,nofun⟩,fun h=>absurd h n2⟩,fun _=>?_⟩;exact⟨_,e0,_,_,rfl,rfl,Nat.zero_le _,fun _=>⟨fun _=>no rfl,nofun⟩,fun _=>⟨_,_,rfl,rfl,Nat.zero_le _,fun _=>⟨fun _=>no rfl,nofun⟩,fun h=>absurd h n3⟩⟩
 |_=>exact not_tup nofun
def Pd(G:Gp):Nat->D->Prop
 |0,_=>False
 |n+1,d=>Known2 G d/\(∀a r,d=.tup (a::r)->∃x,a=.str x)/\(∀a b,d=.tup [a,b]->Known G b)/\∀a b e,d=.tup [a,b,e]->isS "split" a=true->Known G b/\Known2 G e/\∀(k:Int) (ps:List D),b=.int k->e=.tup ps->(0≤k/\k≤20/\ps.length≤20)/\∀p∈ps,Pd G n p
theorem Pd.sub{G G':Gp}(s:Sub G G'):∀{n:Nat} {d:D},Pd G n d->Pd G' n d
 |0,_,h=>h
 |n+1,d,h=>by
  obtain⟨h1,h2,h3,h4⟩:=(show Known2 G d/\(∀a r,d=.tup (a::r)->∃x,a=.str x)/\(∀a b,d=.tup [a,b]->Known G b)/\∀a b e,d=.tup [a,b,e]->isS "split" a=true->Known G b/\Known2 G e/\∀(k:Int) (ps:List D),b=.int k->e=.tup ps->(0≤k/\k≤20/\ps.length≤20)/\∀p∈ps,Pd G n p from h);exact⟨h1.sub s,h2,fun a b e=>(h3 a b e).sub s,fun a b e q q2=>⟨(h4 a b e q q2).1.sub s,(h4 a b e q q2).2.1.sub s,fun k ps r1 r2=>⟨((h4 a b e q q2).2.2 k ps r1 r2).1,fun p hp=>Pd.sub s (((h4 a b e q q2).2.2 k ps r1 r2).2 p hp)⟩⟩⟩
theorem big_pow{s:Int}(h0:0≤s)(h:s≤20^60):Big s:=by
 have:s.natAbs≤20^60:=by omega
 exact Nat.lt_of_le_of_lt this (by decide)
theorem Pd.pap{G:Gp}:∀{n m:Nat} {d:D} {s:Int},Pd G n d->2*n≤m->0≤s->s*20^n≤20^60->PapD G m d s
 |0,_,_,_,h,_,_,_=>h.elim
 |n+1,m,d,s,h,hm,h0,hs=>by
  obtain⟨m,rfl⟩:∃k,m=k+1+1:=⟨m-2,by omega⟩;obtain⟨h1,h2,h3,h4⟩:=(show Known2 G d/\(∀a r,d=.tup (a::r)->∃x,a=.str x)/\(∀a b,d=.tup [a,b]->Known G b)/\∀a b e,d=.tup [a,b,e]->isS "split" a=true->Known G b/\Known2 G e/\∀(k:Int) (ps:List D),b=.int k->e=.tup ps->(0≤k/\k≤20/\ps.length≤20)/\∀p∈ps,Pd G n p from h);have hp0:(0:Int)<20^(n+1):=Int.pow_pos (by decide);have hp1:(1:Int)≤20^(n+1):=hp0;have hb:Big s:=big_pow h0 (Int.le_trans (by have:=Int.mul_le_mul_of_nonneg_left hp1 h0;rwa [Int.mul_one] at this) hs);refine⟨h1,hb,h2,h3,fun a b e q q2=>?_⟩;obtain⟨k1,k2,k3⟩:=h4 a b e q q2;refine⟨k1,k2,hb,fun k ps r1 r2=>?_⟩;obtain⟨⟨b1,b2,b3⟩,b4⟩:=k3 k ps r1 r2;refine⟨by omega,fun p hp=>(b4 p hp).pap (by omega) (Int.mul_nonneg h0 b1) (Int.le_trans ?_ hs)⟩;have e:s*(20:Int)^(n+1)=s*20*20^n:=by rw[Int.pow_succ,Int.mul_comm (20^n) 20,Int.mul_assoc]
  rw[e];exact Int.mul_le_mul_of_nonneg_right (Int.mul_le_mul_of_nonneg_left b2 h0) (Int.pow_nonneg (by decide))
end My
namespace My
open PySem L2 L3
theorem pd_not{G:Gp}{n:Nat}{d:D}(hn:∀ds,d≠.tup ds)(hk:Known2 G d):Pd G (n+1) d:=⟨hk,fun a r e=>absurd e (hn _),fun a b e=>absurd e (hn _),fun a b e q=>absurd q (hn _)⟩
theorem pd_nil{G:Gp}{n:Nat}:Pd G (n+1) (.tup []):=⟨nofun,fun a r e=>(by cases e),fun a b e=>(by cases e),fun a b e q=>(by cases q)⟩
theorem pd_one{G:Gp}{n:Nat}{x:Str}:Pd G (n+1) (.tup [.str x]):=⟨fun d hd=>(by rw[List.mem_singleton.mp hd];trivial),fun a r e=>(by cases e;exact⟨x,rfl⟩),fun a b e=>(by cases e),fun a b e q=>(by cases q)⟩
theorem pd_two{G:Gp}{n:Nat}{x:Str}{b:D}(hb:Known G b):Pd G (n+1) (.tup [.str x,b]):=by
 refine⟨fun d hd=>?_,fun a r e=>(by cases e;exact⟨x,rfl⟩),fun a b e=>(by cases e;exact hb),fun a b e q=>(by cases q)⟩;simp only[List.mem_cons,List.not_mem_nil,or_false] at hd;rcases hd with rfl|rfl
 ·trivial
 ·exact hb
theorem pd_three{G:Gp}{n:Nat}{x:Str}{b e:D}(hb:Known G b)(he:Known2 G e)(hk:Known G e)(h:isS "split" (.str x)=true->∀(k:Int) (ps:List D),b=.int k->e=.tup ps->(0≤k/\k≤20/\ps.length≤20)/\∀p∈ps,Pd G n p):Pd G (n+1) (.tup [.str x,b,e]):=by
 refine⟨fun d hd=>?_,fun a r e=>(by cases e;exact⟨x,rfl⟩),fun a b e=>(by cases e),fun a b e q q2=>(by cases q;exact⟨hb,he,h q2⟩)⟩;simp only[List.mem_cons,List.not_mem_nil,or_false] at hd;rcases hd with rfl|rfl|rfl
 ·trivial
 ·exact hb
 ·exact hk
theorem pd_up{G:Gp}:∀{n m:Nat} {d:D},Pd G n d->n≤m->Pd G m d
 |0,_,_,h,_=>h.elim
 |n+1,m,d,h,hm=>by
  obtain⟨m,rfl⟩:∃k,m=k+1:=⟨m-1,by omega⟩;obtain⟨h1,h2,h3,h4⟩:=(show Known2 G d/\(∀a r,d=.tup (a::r)->∃x,a=.str x)/\(∀a b,d=.tup [a,b]->Known G b)/\∀a b e,d=.tup [a,b,e]->isS "split" a=true->Known G b/\Known2 G e/\∀(k:Int) (ps:List D),b=.int k->e=.tup ps->(0≤k/\k≤20/\ps.length≤20)/\∀p∈ps,Pd G n p from h);exact⟨h1,h2,h3,fun a b e q q2=>⟨(h4 a b e q q2).1,(h4 a b e q q2).2.1,fun k ps r1 r2=>⟨((h4 a b e q q2).2.2 k ps r1 r2).1,fun p hp=>pd_up (((h4 a b e q q2).2.2 k ps r1 r2).2 p hp) (by omega)⟩⟩⟩
def sp_z17:Sp3:=fun ds G Q=>∃(pp:Addr) (cs:List Clk),ds=[.obj pp,csD cs]/\G pp=some .pen/\cs.length≤12/\∀d G',Sub G G'->Pd G' 2 d->Q d G'
def tb_z17_5:TS3:=sRet (eOp rIx3 (eVar 3) (eCall sp_z21 (aCons (eVar 0) (aCons (eC (.int 16)) (aNil)))))
def tb_z17_4:TS3:=sSeq (sAsg (eOp rAdd3 (eVar 3) (eLst (aCons (eTup (aCons (eC (.str "Leaf")) (aCons (eVar 2) (aNil)))) (aCons (eC (.str "leaf")) (aCons (eVar 2) (aCons (eTup (aCons (eC (.str "split")) (aCons (eC (.int 3)) (aCons (eTup (aNil)) (aNil))))) (aCons (eTup (aCons (eC (.str "leaf")) (aCons (eC .non) (aNil)))) (aNil)))))))) (hName 3)) tb_z17_5
def tb_z17_3:TS3:=sSeq (sAsg (eOp rAdd3 (eVar 3) (eLst (aCons (eLst (aCons (eC (.str "leaf")) (aCons (eVar 2) (aNil)))) (aCons (eTup (aCons (eC (.str "split")) (aCons (eC (.int 2)) (aCons (eOp rMulT3 (eTup (aCons (eTup (aCons (eC (.str "leaf")) (aCons (eVar 2) (aNil)))) (aNil))) (eC (.int 2))) (aNil))))) (aCons (eTup (aCons (eC (.str "split")) (aCons (eC (.int 1)) (aCons (eTup (aCons (eTup (aCons (eC (.str "leaf")) (aCons (eVar 2) (aNil)))) (aNil))) (aNil))))) (aNil)))))) (hName 3)) tb_z17_4
def tb_z17_2:TS3:=sSeq (sAsg (eLst (aCons (eTup (aCons (eC (.str "leaf")) (aCons (eVar 2) (aNil)))) (aCons (eTup (aCons (eC (.str "leaf")) (aCons (eVar 2) (aNil)))) (aCons (eTup (aCons (eC (.str "leaf")) (aCons (eUn rNeg3 (eC (.int 1))) (aNil)))) (aCons (eTup (aCons (eC (.str "leaf")) (aCons (eC (.bl true)) (aNil)))) (aCons (eTup (aCons (eC (.str "leaf")) (aNil))) (aCons (eTup (aCons (eC (.str "leaf")) (aCons (eVar 2) (aCons (eC (.int 0)) (aNil))))) (aCons (eC .non) (aCons (eTup (aNil)) (aNil)))))))))) (hName 3)) tb_z17_3
def tb_z17:TS3:=sSeq (sAsg (eCall sp_z21 (aCons (eVar 0) (aCons (eOp rAdd3 (eCB r_len (aCons (eVar 1) (aNil))) (eC (.int 1))) (aNil)))) (hName 2)) tb_z17_2
theorem rd_z17:∀ds G Q,sp_z17 ds G Q->tb_z17 (endsOf Q) (start3 ["pen","clocks","place","odd"] ds) G:=by
 rintro ds G Q ⟨pp,cs,rfl,hp,hl,q⟩;refine⟨pp,_,rfl,hp,⟨by rw[List.length_map];omega,big_of (by rw[List.length_map];omega) (by rw[List.length_map];omega)⟩,fun i i0 i1=>?_⟩;intro a1 G1 n1 a2 G2 n2 a3 G3 n3;refine⟨_,_,n3.sub _ _ (n2.sub _ _ n1.at_),n3.at_,line1000 (Nat.le_of_ble_eq_true rfl),fun a4 G4 n4=>?_⟩;intro a5 G5 n5;refine⟨_,_,n5.sub _ _ n4.at_,n5.at_,line1000 (Nat.le_of_ble_eq_true rfl),fun a6 G6 n6=>?_⟩;have s6:Sub G G6:=n1.sub.trans (n2.sub.trans (n3.sub.trans (n4.sub.trans (n5.sub.trans n6.sub))));refine⟨pp,16,rfl,s6 _ _ hp,⟨by decide,big_of (by decide) (by decide)⟩,fun r r0 r16=>?_⟩;obtain⟨x,_,hx,ex⟩:=at_map (fun d:D=>d) (xs:=(([.tup [.str "leaf",.int i],.tup [.str "leaf",.int i],.tup [.str "leaf",.int (-1)],.tup [.str "leaf",.bl true],.tup [.str "leaf"],.tup [.str "leaf",.int i,.int 0],.non,.tup []]:List D)++([.obj a2,.tup [.str "split",.int 2,.tup [.tup [.str "leaf",.int i],.tup [.str "leaf",.int i]]],.tup [.str "split",.int 1,.tup [.tup [.str "leaf",.int i]]]]:List D))++([.tup [.str "Leaf",.int i],.str "leaf",.int i,.tup [.str "split",.int 3,.tup []],.tup [.str "leaf",.non]]:List D)) r0 r16;rw[List.map_id'] at ex;refine⟨_,x,n6.at_,ex,ret_ok (q _ _ s6 ?_)⟩;have h2:G6 a2=some (.lst [.str "leaf",.int i]):=n6.sub _ _ (n5.sub _ _ (n4.sub _ _ (n3.sub _ _ n2.at_)));have lf:∀p∈[D.tup [.str "leaf",.int i],.tup [.str "leaf",.int i]],Pd G6 1 p:=fun p hp=>by
  simp only[List.mem_cons,List.not_mem_nil,or_false,or_self] at hp;rw[hp];exact pd_two trivial
 simp only[List.cons_append,List.nil_append,List.mem_cons,List.not_mem_nil,or_false] at hx;rcases hx with rfl|rfl|rfl|rfl|rfl|rfl|rfl|rfl|rfl|rfl|rfl|rfl|rfl|rfl|rfl|rfl
 ·exact pd_two trivial
 ·exact pd_two trivial
 ·exact pd_two trivial
 ·exact pd_two trivial
 ·exact pd_one
 ·exact pd_three trivial trivial trivial fun h=>absurd h (by decide)
 ·exact pd_not nofun trivial
 ·exact pd_nil
 ·exact pd_not nofun ⟨_,h2,trivial⟩
 ·exact pd_three trivial (fun d hd=>by rw[List.mem_cons,List.mem_singleton,or_self] at hd;rw[hd];trivial) trivial fun _ k ps e1 e2=>by
   cases e1;cases e2;exact⟨⟨by decide,by decide,Nat.le_of_ble_eq_true rfl⟩,lf⟩
 ·exact pd_three trivial (fun d hd=>by rw[List.mem_singleton] at hd;rw[hd];trivial) trivial fun _ k ps e1 e2=>by
   cases e1;cases e2;exact⟨⟨by decide,by decide,Nat.le_of_ble_eq_true rfl⟩,fun p hp=>lf p (List.mem_cons_of_mem _ hp)⟩
 ·exact pd_two trivial
 ·exact pd_not nofun trivial
 ·exact pd_not nofun trivial
 ·exact pd_three trivial nofun trivial fun _ k ps e1 e2=>by
   cases e1;cases e2;exact⟨⟨by decide,by decide,Nat.zero_le _⟩,nofun⟩
 ·exact pd_two trivial
def Pw:Nat->D->Prop
 |0,d=>d=.non∨∃i:Int,d=.tup [.str "leaf",.int i]
 |n+1,d=>(d=.non∨∃i:Int,d=.tup [.str "leaf",.int i])∨∃ps:List D,d=.tup [.str "split",.int ((ps.length:Nat):Int),.tup ps]/\(2≤ps.length/\ps.length≤5)/\∀p∈ps,Pw n p
theorem Pw.base{n:Nat}{d:D}(h:d=.non∨∃i:Int,d=.tup [.str "leaf",.int i]):Pw n d:=by
 cases n with
 |zero=>exact h
 |succ n=>exact .inl h
theorem Pw.cases{n:Nat}{d:D}(h:Pw n d):d=.non∨(∃i:Int,d=.tup [.str "leaf",.int i])∨∃ps:List D,d=.tup [.str "split",.int ((ps.length:Nat):Int),.tup ps]/\(2≤ps.length/\ps.length≤5)/\1≤n/\∀p∈ps,Pw (n-1) p:=by
 cases n with
 |zero=>
  rcases (show d=.non∨∃i:Int,d=.tup [.str "leaf",.int i] from h) with h|h
  ·exact .inl h
  ·exact .inr (.inl h)
 |succ n=>
  rcases (show (d=.non∨∃i:Int,d=.tup [.str "leaf",.int i])∨∃ps:List D,d=.tup [.str "split",.int ((ps.length:Nat):Int),.tup ps]/\(2≤ps.length/\ps.length≤5)/\∀p∈ps,Pw n p from h) with (h|h)|⟨ps,h1,h2,h3⟩
  ·exact .inl h
  ·exact .inr (.inl h)
  ·exact .inr (.inr ⟨ps,h1,h2,by omega,h3⟩)
theorem dats_of{N:Nat}:∀{ps:List D},(∀p∈ps,∃u,toDat0 p=some u/\u.dep≤N)->∃us,toDats0 ps=some us/\Dat.deps us≤N
 |[],_=>⟨[],rfl,Nat.zero_le _⟩
 |p::ps,h=>by
  obtain⟨us,e1,e2⟩:=dats_of (ps:=ps) fun x hx=>h x (List.mem_cons_of_mem _ hx);obtain⟨u,e3,e4⟩:=h p List.mem_cons_self;refine⟨u::us,?_,?_⟩
  ·unfold toDats0;rw[e3,e1]
  ·show max u.dep (Dat.deps us)≤N;omega
theorem Pw.dat:∀{n:Nat} {d:D},Pw n d->∃u,toDat0 d=some u/\u.dep≤2*n+1:=by
 intro n
 induction n with
 |zero=>
  intro d h;rcases h.cases with rfl|⟨i,rfl⟩|⟨ps,rfl,_,h1,_⟩
  ·exact⟨_,rfl,by decide⟩
  ·exact⟨_,rfl,by show (1:Nat)≤1;decide⟩
  ·omega
 |succ n ih=>
  intro d h;rcases h.cases with rfl|⟨i,rfl⟩|⟨ps,rfl,_,h1,h2⟩
  ·exact⟨_,rfl,Nat.zero_le _⟩
  ·refine⟨_,rfl,?_⟩;show (1:Nat)≤_;omega
  ·obtain⟨us,e1,e2⟩:=dats_of (N:=2*n+1) (ps:=ps) fun p hp=>ih (h2 p hp);refine⟨.tup [.str "split",.int ((ps.length:Nat):Int),.tup us],?_,?_⟩
   ·have e3:toDat0 (.tup ps)=some (.tup us):=by
     unfold toDat0;rw[e1]
    show (match toDats0 [D.str "split",.int ((ps.length:Nat):Int),.tup ps] with
     |some us=>some (Dat.D.tup us)
     | none=>none)=_
    unfold toDats0;unfold toDats0;unfold toDats0;rw[e3];rfl
   ·show max 0 (max 0 (max (Dat.deps us+1) 0))+1≤2*(n+1)+1;omega
theorem Pw.pd{G:Gp}:∀{n:Nat} {d:D},Pw n d->Pd G (n+1) d:=by
 intro n
 induction n with
 |zero=>
  intro d h;rcases h.cases with rfl|⟨i,rfl⟩|⟨ps,rfl,_,h1,_⟩
  ·exact pd_not nofun trivial
  ·exact pd_two trivial
  ·omega
 |succ n ih=>
  intro d h;rcases h.cases with rfl|⟨i,rfl⟩|⟨ps,rfl,h0,h1,h2⟩
  ·exact pd_not nofun trivial
  ·exact pd_two trivial
  ·refine pd_three trivial (fun p hp=>(show Known G p from ?_)) trivial fun _ k qs e1 e2=>?_
   ·rcases (h2 p hp).cases with rfl|⟨i,rfl⟩|⟨ps,rfl,_⟩<;>trivial
   ·cases e1;cases e2;exact⟨⟨by omega,by omega,by omega⟩,fun p hp=>ih (h2 p hp)⟩
end My
namespace My
open PySem L2 L3
structure Cv(cs:List Clk):Prop where
 v:∀z∈cs,Valid z/\z.1≤24
 l:cs.length≤12
def sp_z4(n:Nat):Sp3:=fun ds G Q=>∃(pp:Addr) (cs:List Clk) (c:Clk) (dp:Nat),ds=[.obj pp,csD cs,cD c,.int ((dp:Nat):Int)]/\G pp=some .pen/\Cv cs/\(0<c.1/\c.1*5^dp≤10^6)/\dp<n/\∀d G',Pw dp d->Sub G G'->Q d G'
theorem no_z4:∀ds G Q,¬sp_z4 0 ds G Q:=by
 rintro ds G Q ⟨_,_,_,_,_,_,_,_,h,_⟩;omega
def tb_z4_2(n:Nat):TS3:=sIf (eTest (eCall sp_z9 (aCons (eVar 2) (aCons (eOp rIx3 (eVar 1) (eVar 4)) (aNil))))) (sRet (eTup (aCons (eC (.str "leaf")) (aCons (eVar 4) (aNil))))) (sNext)
def tb_z4_13(n:Nat):TS3:=sIf (eTest (eOp (rIn3 true) (eC .non) (eVar 8))) (sDrop (eM r_mappend (eVar 8) (aCons (eCall (sp_z4 n) (aCons (eVar 0) (aCons (eVar 1) (aCons (eVar 9) (aCons (eOp rSub3 (eVar 3) (eC (.int 1))) (aNil)))))) (aNil)))) (sNext)
def tb_z4_17(n:Nat):TS3:=sRet (eTup (aCons (eC (.str "split")) (aCons (eVar 7) (aCons (eCB r_tuple (aCons (eVar 8) (aNil))) (aNil)))))
def tb_z4_15(n:Nat):TS3:=sSeq (sIf (eTest (eOp (rIn3 false) (eC .non) (eVar 8))) (sRet (eC .non)) (sNext)) (tb_z4_17 n)
def tb_z4_12(n:Nat):TS3:=sSeq (sFor (iSeq (eCall sp_z5 (aCons (eVar 2) (aCons (eVar 7) (aNil))))) (hName 9) ((tb_z4_13 n))) (tb_z4_15 n)
def tb_z4_11(n:Nat):TS3:=sSeq (sAsg (eLst (aNil)) (hName 8)) (tb_z4_12 n)
def tb_z4_10(n:Nat):TS3:=sSeq (sAsg (eOp rIx3 (eVar 6) (eCall sp_z21 (aCons (eVar 0) (aCons (eCB r_len (aCons (eVar 6) (aNil))) (aNil))))) (hName 7)) (tb_z4_11 n)
def tb_z4_8(n:Nat):TS3:=sSeq (sIf (eTest (eOp (rEq3 false) (eVar 6) (eLst (aNil)))) (sRet (eC .non)) (sNext)) (tb_z4_10 n)
def tb_z4_7(n:Nat):TS3:=sSeq (sAsg (eComp ["k"] [5] (iSeq (eLst (aCons (eC (.int 2)) (aCons (eC (.int 3)) (aCons (eC (.int 5)) (aNil)))))) (hName 0) (eTest (eCB r_any (aCons (eComp ["step"] [0] (iSeq (eVar 1)) (hName 0) (tNoTest3) (eOp (rEq3 false) (eOp rMod3 (eVar 0) (eVar 1)) (eC (.int 0)))) (aNil)))) (eVar 0)) (hName 6)) (tb_z4_8 n)
def tb_z4_6(n:Nat):TS3:=sSeq (sAsg (eComp ["other"] [2] (iSeq (eVar 1)) (hName 0) (tNoTest3) (eOp rDiv3 (eOp rIx3 (eVar 0) (eC (.int 0))) (eCall sp_z22 (aCons (eOp rIx3 (eVar 0) (eC (.int 0))) (aCons (eOp rIx3 (eVar 1) (eC (.int 0))) (aNil)))))) (hName 5)) (tb_z4_7 n)
def tb_z4_4(n:Nat):TS3:=sSeq (sIf (eTest (eOp (rEq3 false) (eVar 3) (eC (.int 0)))) (sRet (eC .non)) (sNext)) (tb_z4_6 n)
def tb_z4(n:Nat):TS3:=sSeq (sFor (iRng1 (aCons (eCB r_len (aCons (eVar 1) (aNil))) (aNil))) (hName 4) ((tb_z4_2 n))) (tb_z4_4 n)
theorem dats_int:∀ns:List Int,toDats0 (ns.map D.int)=some (ns.map Dat.D.int)
 |[]=>rfl
 |n::ns=>by
  show (match toDats0 (ns.map D.int) with
   |some us=>some (Dat.D.int n::us)
   | none=>none)=_
  rw[dats_int ns];rfl
theorem deps_int0:∀ns:List Int,Dat.deps (ns.map Dat.D.int)=0
 |[]=>rfl
 |n::ns=>by
  show max 0 (Dat.deps (ns.map Dat.D.int))=0;rw[deps_int0 ns];rfl
theorem hdp50{dp:Nat}{c:Clk}(hc:0<c.1/\c.1*5^(dp+1)≤10^6):2*dp+1≤50:=by
 have:dp≤8:=by
  refine Nat.le_of_not_lt fun w=>?_;have h0:(5:Nat)^10≤5^(dp+1):=Nat.pow_le_pow_right (by decide) (by omega);have h1:((5^10:Nat):Int)≤((5^(dp+1):Nat):Int):=Int.ofNat_le.mpr h0;rw[Int.natCast_pow,Int.natCast_pow] at h1;have h2:=Int.mul_le_mul_of_nonneg_left h1 (show 0≤c.1 by omega);have h3:((5:Nat):Int)^10=9765625:=by decide
  rw[h3] at h2;have h4:=hc.2;have h5:c.1*9765625≤10^6:=Int.le_trans h2 h4;have h6:=hc.1;omega
 omega
theorem non_of:∀{ps:List D} {us:List Dat.D},toDats0 ps=some us->(∀p∈ps,p=.non∨(∃i:Int,p=.tup [.str "leaf",.int i])∨∃qs:List D,p=.tup [.str "split",.int ((qs.length:Nat):Int),.tup qs]/\(2≤qs.length/\qs.length≤5)/\1≤n/\∀r∈qs,Pw (n-1) r)->us.any (fun v=>v.eqb .non)=true->∃p∈ps,p=.non
 |[],us,e,_,h=>by
  cases e;cases h
 |p::ps,us,e,hp,h=>by
  unfold toDats0 at e;cases h1:toDat0 p with
  |none=>rw[h1] at e;cases e
  |some u=>
   cases h2:toDats0 ps with
   |none=>rw[h1,h2] at e;cases e
   |some vs=>
    rw[h1,h2] at e;cases e;rw[List.any_cons,Bool.or_eq_true] at h;rcases h with h|h
    ·refine⟨p,List.mem_cons_self,?_⟩;rcases hp p List.mem_cons_self with rfl|⟨i,rfl⟩|⟨qs,rfl,_⟩
     ·rfl
     ·cases h1;cases h
     ·unfold toDat0 at h1;split at h1
      ·cases h1;cases h
      ·cases h1
    ·obtain⟨y,hy,rfl⟩:=non_of h2 (fun r hr=>hp r (List.mem_cons_of_mem _ hr)) h;exact⟨_,List.mem_cons_of_mem _ hy,rfl⟩
theorem any_non:∀{ps:List D} {us:List Dat.D},toDats0 ps=some us->D.non∈ps->us.any (fun v=>v.eqb .non)=true
 |[],us,e,h=>by cases h
 |p::ps,us,e,h=>by
  unfold toDats0 at e;cases h1:toDat0 p with
  |none=>rw[h1] at e;cases e
  |some u=>
   cases h2:toDats0 ps with
   |none=>rw[h1,h2] at e;cases e
   |some vs=>
    rw[h1,h2] at e;cases e;rw[List.any_cons,Bool.or_eq_true];rcases List.mem_cons.mp h with rfl|h
    ·cases h1;exact .inl rfl
    ·exact .inr (any_non h2 h)
theorem paper_12{n dp:Nat}{G G4:Gp}{Q:V3}{pp pq:Addr}{cs:List Clk}{c:Clk}{k:Nat}(hp:G pp=some .pen)(hv:Cv cs)(hc:0<c.1/\c.1*5^(dp+1)≤10^6)(hd:dp+1<n+1)(k2:2≤k/\k≤5)(n4:New G pq (.lst []) G4)(q:∀d G',Pw (dp+1) d->Sub G G'->Q d G')(x4 x5 x6 x9:Option D):
  tb_z4_12 n (endsOf Q) [some (.obj pp),some (csD cs),some (cD c),some (.int ((dp+1:Nat):Int)),x4,x5,x6,some (.int ((k:Nat):Int)),some (.obj pq),x9] G4:=by
 have hc1:c.1≤10^6:=by
  have h5:(0:Int)<5^(dp+1):=Int.pow_pos (by decide);have:=Int.mul_le_mul_of_nonneg_left (show (1:Int)≤5^(dp+1) from h5) (show 0≤c.1 by omega);rw[Int.mul_one] at this;exact Int.le_trans this hc.2
 refine⟨c,k,rfl,by omega,big_of (by omega) (by omega),fun p5 G5 n5=>⟨_,n5.at_,?_⟩⟩;have hne:p5≠pq:=fun z=>by
  have:=n5.non;rw[z,n4.at_] at this;cases this
 refine forGo_go (fun ds τ G'=>G' p5=some (.lst ((parts c k).map cD))/\∃(zs:List Clk) (ps:List D) (y9:Option D),ds=zs.map cD/\(∀z∈zs,z∈parts c k)/\New G pq (.lst ps) G'/\(∀p∈ps,Pw dp p)/\ps.length+zs.length≤k/\((∃p∈ps,p=.non)∨ps.length+zs.length=k)/\τ=[some (.obj pp),some (csD cs),some (cD c),some (.int ((dp+1:Nat):Int)),x4,x5,x6,some (.int ((k:Nat):Int)),some (.obj pq),y9]) (fun _ _ _ h=>h.1) ?_ ?_ _ _ _ ⟨n5.at_,parts c k,[],x9,rfl,fun _ h=>h,⟨n4.non,n4.sub.trans n5.sub,n5.sub _ _ n4.at_⟩,nofun,?_,.inr ?_,rfl⟩
 ·rintro d ds τ G6 N ⟨g5,zs,ps,y9,e,hz,n6,hw,hle,hor,rfl⟩ hN;cases zs with
  |nil=>cases e
  |cons z zs=>
   cases e;obtain⟨us,e1,e2⟩:=dats_of (N:=2*dp+1) (ps:=ps) fun p hp=>(hw p hp).dat;have hdp:=hdp50 hc;rw[List.length_cons] at hle;refine⟨_,us,rfl,.inl (toDat_lst n6.at_ e1),by omega,fun h=>?_,fun h=>?_⟩
   ·refine⟨⟨pq,_,rfl,n6.at_⟩,pp,cs,z,dp,?_,n6.sub _ _ hp,hv,?_,by omega,fun d G7 hd s7=>?_⟩
    ·show [D.obj pp,csD cs,cD z,.int (((dp+1:Nat):Int)-1)]=_;rw[show (((dp+1:Nat):Int)-1)=((dp:Nat):Int) by omega]
    ·obtain⟨t,_,et⟩:=List.mem_map.mp (hz z List.mem_cons_self);have es:z.1=c.1*(k:Int):=by rw[←et]
     rw[es];have hk0:(0:Int)<k:=by omega
     refine⟨Int.mul_pos hc.1 hk0,Int.le_trans ?_ hc.2⟩;rw[Int.pow_succ,Int.mul_comm (5^dp) 5,←Int.mul_assoc];exact Int.mul_le_mul_of_nonneg_right (Int.mul_le_mul_of_nonneg_left (by omega) (by omega)) (Int.pow_nonneg (by decide))
    ·have e7:=s7 _ _ n6.at_;have n7:New G pq (.lst ps) G7:=⟨n6.non,n6.sub.trans s7,e7⟩;refine⟨_,e7,Nat.lt_of_le_of_lt (show ps.length≤10 by omega) (by decide),hN _ _ ⟨?_,zs,ps++[d],_,rfl,fun y hy=>hz y (List.mem_cons_of_mem _ hy),wrote n7,fun p hp=>?_,?_,?_,rfl⟩⟩
     ·rw[upd3_ne hne];exact s7 _ _ g5
     ·rcases List.mem_append.mp hp with hp|hp
      ·exact hw p hp
      ·rw[List.mem_singleton.mp hp];exact hd
     ·rw[List.length_append,List.length_singleton];omega
     ·rcases hor with⟨p,h1,h2⟩|hor
      ·exact .inl ⟨p,List.mem_append_left _ h1,h2⟩
      ·rw[List.length_cons] at hor;refine .inr ?_;rw[List.length_append,List.length_singleton];omega
   ·refine hN _ _ ⟨g5,zs,ps,_,rfl,fun y hy=>hz y (List.mem_cons_of_mem _ hy),n6,hw,by omega,.inl ?_,rfl⟩;have h':(!(us.any fun v=>v.eqb .non))=false:=h;have h2:us.any (fun v=>v.eqb .non)=true:=by simpa using h'
    exact non_of e1 (fun p hp=>(hw p hp).cases) h2
 ·rintro τ G6 ⟨g5,zs,ps,y9,e,hz,n6,hw,hle,hor,rfl⟩;have:zs=[]:=by
   cases zs with
   |nil=>rfl
   |cons z zs=>cases e
  subst this;obtain⟨us,e1,e2⟩:=dats_of (N:=50) (ps:=ps) fun p hp=>by
   obtain⟨u,h1,h2⟩:=(hw p hp).dat;exact⟨u,h1,Nat.le_trans h2 (hdp50 hc)⟩
  refine⟨_,us,rfl,.inl (toDat_lst n6.at_ e1),e2,fun _=>ret_ok (q _ _ (.base (.inl rfl)) n6.sub),fun h=>?_⟩;have h':us.any (fun v=>v.eqb .non)=false:=h;have hk:ps.length=k:=by
   rcases hor with⟨p,h1,rfl⟩|hor
   ·rw[any_non e1 h1] at h';cases h'
   ·simpa using hor
  refine⟨_,n6.at_,ret_ok (q _ _ (.inr ⟨ps,?_,by omega,hw⟩) n6.sub)⟩;rw[hk]
 ·show 0+(parts c k).length≤k;unfold parts;rw[List.length_map,List.length_range];omega
 ·show 0+(parts c k).length=k;unfold parts;rw[List.length_map,List.length_range];omega
end My
namespace My
open PySem L2 L3
def gcS(c z:Clk):Int:=z.1 / ((Nat.gcd z.1.toNat c.1.toNat:Nat):Int)
theorem paper_7{n dp:Nat}{G G1:Gp}{Q:V3}{pp ps:Addr}{cs:List Clk}{c:Clk}{is:List Int}(hp:G pp=some .pen)(hv:Cv cs)(hc:0<c.1/\c.1*5^(dp+1)≤10^6)(hd:dp+1<n+1)(s1:Sub G G1)(h5:G1 ps=some (.lst (is.map D.int)))(hl:is.length≤12)(q:∀d G',Pw (dp+1) d->Sub G G'->Q d G')(x4:Option D):
  tb_z4_7 n (endsOf Q) [some (.obj pp),some (csD cs),some (cD c),some (.int ((dp+1:Nat):Int)),x4,some (.obj ps),none,none,none,none] G1:=by
 intro a2 G2 n2;refine⟨_,n2.at_,line1000 (Nat.le_of_ble_eq_true rfl),?_⟩;refine compGo_go (fun ds acc τ G'=>Sub G2 G'/\(∃zs:List Int,ds=zs.map D.int/\∀z∈zs,z=2∨z=3∨z=5)/\(∃us:List Int,acc=us.map D.int/\(∀z∈us,z=2∨z=3∨z=5)/\us.length+ds.length≤3)/\∃x,τ=[x,some (.obj ps)]) (fun _ _ _ _ h=>h.1 _ _ n2.at_) ?_ ?_ _ _ _ _ ⟨Sub.refl _,⟨[2,3,5],rfl,fun z hz=>by simpa using hz⟩,⟨[],rfl,nofun,Nat.le_of_ble_eq_true rfl⟩,none,rfl⟩
 ·rintro d ds acc τ G3 K1 K2 ⟨s3,⟨zs,e,hz⟩,⟨us,rfl,hu,hlu⟩,x,rfl⟩ g1 g2;cases zs with
  |nil=>cases e
  |cons z zs=>
   cases e;have hz1:=hz z List.mem_cons_self;have h53:=s3 _ _ (n2.sub _ _ h5);rw[List.length_cons] at hlu;refine⟨_,h53,by show (is.map D.int).length≤sizeLine;rw[List.length_map];exact line1000 (by omega),?_⟩;refine compGo_of (fun τ=>∃x,τ=[x,some (.int z)]) D.int (fun _=>true) (fun i=>.bl (i%z==0)) (G:=G3) h53 is [] _ ⟨none,rfl⟩ ?_ ?_
   ·rintro i hi τ K3 K4 ⟨x,rfl⟩ k1 k2;exact⟨fun _=>⟨by omega,_,_,rfl,rfl,Nat.zero_le _,k1 rfl _ ⟨_,rfl⟩⟩,nofun⟩
   ·intro p4 G4 n4;rw[filter_all,List.nil_append] at n4;refine⟨_,_,n4.at_,bls_map _ _,fun _=>?_,fun _=>?_⟩
    ·exact g1 _ _ _ ⟨s3.trans n4.sub,⟨zs,rfl,fun y hy=>hz y (List.mem_cons_of_mem _ hy)⟩,⟨us++[z],by rw[List.map_append];rfl,fun y hy=>by
      rcases List.mem_append.mp hy with hy|hy
      ·exact hu y hy
      ·rw[List.mem_singleton.mp hy];exact hz1,by rw[List.length_append,List.length_singleton];omega⟩,_,rfl⟩
    ·exact g2 _ _ ⟨s3.trans n4.sub,⟨zs,rfl,fun y hy=>hz y (List.mem_cons_of_mem _ hy)⟩,⟨us,rfl,hu,by omega⟩,_,rfl⟩
 ·rintro acc τ G3 ⟨s3,_,⟨us,rfl,hu,hlu⟩,x,rfl⟩ p4 G4 n4;have s4:Sub G G4:=s1.trans (n2.sub.trans (s3.trans n4.sub));have hl3:us.length≤3:=by simpa using hlu
  intro p5 G5 n5;refine⟨_,_,toDat_lst (n5.sub _ _ n4.at_) (dats_int us),toDat_lst n5.at_ rfl,?_,fun _=>ret_ok (q _ _ (.base (.inl rfl)) (s4.trans n5.sub)),fun h=>?_⟩
  ·show Dat.deps (us.map Dat.D.int)+1≤50;rw[deps_int0];decide
  have h':((Dat.D.lst (us.map Dat.D.int)).eqb (.lst []))=false:=h;rw[eqb_nil] at h';have hpos:1≤us.length:=by
   cases us with
   |nil=>cases h'
   |cons a as=>simp
  have s5:=s4.trans n5.sub;refine⟨_,n5.sub _ _ n4.at_,pp,_,rfl,s5 _ _ hp,⟨by rw[List.length_map];omega,big_of (by rw[List.length_map];omega) (by rw[List.length_map];omega)⟩,fun r r0 r1=>?_⟩;rw[List.length_map] at r1;obtain⟨k,hk,ek⟩:=at_ints (ns:=us) r0 r1;refine⟨_,_,n5.sub _ _ n4.at_,ek,?_⟩;intro pq G6 n6;have hk3:=hu k hk;obtain⟨j,rfl⟩:∃j:Nat,k=(j:Int):=⟨k.toNat,by omega⟩;exact paper_12 hp hv hc hd (by omega) ⟨s5.of_none n6.non,s5.trans n6.sub,n6.at_⟩ q _ _ _ _
theorem rd_z4(n:Nat):∀ds G Q,sp_z4 (n+1) ds G Q->tb_z4 n (endsOf Q) (start3 ["pen","clocks","clock","deep","place","steps","good","k","papers","part"] ds) G:=by
 rintro ds G Q ⟨pp,cs,c,dp,rfl,hp,hv,hc,hd,q⟩;have hl:=hv.l;refine⟨⟨by rw[List.length_map];omega,by rw[List.length_map];omega⟩,?_⟩;show forGo _ _ _ _ (rngL 0 (((cs.map cD).length:Nat):Int).toNat) _ _;rw[List.length_map,Int.toNat_natCast,rng0];refine forGo_go (fun ds τ G'=>G'=G/\(∃xs:List Nat,ds=xs.map nD/\∀x∈xs,x<cs.length)/\∃x4,τ=[some (.obj pp),some (csD cs),some (cD c),some (.int ((dp:Nat):Int)),x4,none,none,none,none,none]) (fun _ _ _ _=>trivial) ?_ ?_ _ _ _ ⟨rfl,⟨_,rfl,fun x hx=>List.mem_range.mp hx⟩,none,rfl⟩
 ·rintro d ds τ G1 N ⟨rfl,⟨xs,e,hx⟩,x4,rfl⟩ hN;cases xs with
  |nil=>cases e
  |cons x xs=>
   cases e;have hxl:=hx x List.mem_cons_self;have ez:cs[x]?=some cs[x]:=List.getElem?_eq_getElem hxl;refine⟨cD cs[x],atI_nat (by rw[List.getElem?_map,ez];rfl),c,cs[x],rfl,(hv.v _ (List.getElem_mem hxl)).1,fun _=>ret_ok (q _ _ (.base (.inr ⟨(x:Int),rfl⟩)) (Sub.refl _)),fun _=>hN _ _ ⟨rfl,⟨xs,rfl,fun y hy=>hx y (List.mem_cons_of_mem _ hy)⟩,_,rfl⟩⟩
 ·rintro τ G1 ⟨rfl,_,x4,rfl⟩;refine⟨_,_,rfl,rfl,Nat.zero_le _,fun _=>ret_ok (q _ _ (.base (.inl rfl)) (Sub.refl _)),fun h=>?_⟩;have h':(((dp:Nat):Int)==0)=false:=h;cases dp with
  |zero=>cases h'
  |succ dp=>
  refine⟨by show (cs.map cD).length≤sizeLine;rw[List.length_map];exact line1000 (by omega),?_⟩;refine compGo_of (fun τ=>∃x,τ=[x,some (cD c)]) cD (fun _=>true) (fun z=>.int (gcS c z)) (G:=G1) trivial cs [] _ ⟨none,rfl⟩ ?_ ?_
  ·rintro⟨s,r⟩ hm τ K1 K2 ⟨x,rfl⟩ g1 g2;obtain⟨⟨v1,_,_⟩,v4⟩:=hv.v _ hm;have v1:0<s:=v1;have v4:s≤24:=v4;obtain⟨a,rfl⟩:∃a:Nat,s=(a:Int):=⟨s.toNat,by omega⟩;obtain⟨b,hb⟩:∃b:Nat,c.1=(b:Int):=⟨c.1.toNat,by have:=hc.1;omega⟩;have k:=g1 rfl [some (cD ((a:Int),r)),some (cD c)] ⟨_,rfl⟩;unfold gcS at k;have hg:0<Nat.gcd a b:=Nat.gcd_pos_of_pos_left _ (by omega);have hga:Nat.gcd a b≤a:=Nat.le_of_dvd (by omega) (Nat.gcd_dvd_left _ _);refine⟨fun _=>⟨_,rfl,_,rfl,_,rfl,a,b,?_,⟨by omega,big_of (by omega) (by omega)⟩,?_⟩,nofun⟩
   ·show [D.int (a:Int),.int c.1]=_;rw[hb]
   ·have e1:(((a:Int),r):Clk).1.toNat=a:=Int.toNat_natCast a;rw[e1,hb,Int.toNat_natCast] at k;exact k
  ·intro p2 G2 n2;rw[filter_all,List.nil_append] at n2;have e2:G2 p2=some (.lst ((cs.map (gcS c)).map D.int)):=by rw[n2.at_,List.map_map];rfl
   exact paper_7 (is:=cs.map (gcS c)) hp hv hc hd n2.sub e2 (by rw[List.length_map];omega) q _
def sp_z18(n:Nat):Sp3:=fun ds G Q=>∃(pp:Addr) (cs:List Clk) (d:D) (m:Nat),ds=[.obj pp,csD cs,d]/\G pp=some .pen/\cs.length≤12/\Pw m d/\m<n/\∀d' G',Sub G G'->Pd G' (m+3) d'->Q d' G'
theorem no_z18:∀ds G Q,¬sp_z18 0 ds G Q:=by
 rintro ds G Q ⟨_,_,_,_,_,_,_,_,h,_⟩;omega
def tb_z18_15(n:Nat):TS3:=sRet (eTup (aCons (eC (.str "split")) (aCons (eOp rIx3 (eVar 2) (eC (.int 1))) (aCons (eOp rAdd3 (eOp rAdd3 (eSl (eOp rIx3 (eVar 2) (eC (.int 2))) (oNone) (oSome (eVar 4))) (eTup (aCons (eCall (sp_z18 n) (aCons (eVar 0) (aCons (eVar 1) (aCons (eOp rIx3 (eOp rIx3 (eVar 2) (eC (.int 2))) (eVar 4)) (aNil))))) (aNil)))) (eSl (eOp rIx3 (eVar 2) (eC (.int 2))) (oSome (eOp rAdd3 (eVar 4) (eC (.int 1)))) (oNone))) (aNil)))))
def tb_z18_14(n:Nat):TS3:=sSeq (sAsg (eCall sp_z21 (aCons (eVar 0) (aCons (eOp rIx3 (eVar 2) (eC (.int 1))) (aNil)))) (hName 4)) (tb_z18_15 n)
def tb_z18_12(n:Nat):TS3:=sSeq (sIf (eTest (eOp (rEq3 false) (eVar 3) (eC (.int 4)))) (sRet (eTup (aCons (eC (.str "split")) (aCons (eOp rIx3 (eVar 2) (eC (.int 1))) (aCons (eOp rAdd3 (eOp rIx3 (eVar 2) (eC (.int 2))) (eSl (eOp rIx3 (eVar 2) (eC (.int 2))) (oNone) (oSome (eC (.int 1))))) (aNil)))))) (sNext)) (tb_z18_14 n)
def tb_z18_10(n:Nat):TS3:=sSeq (sIf (eTest (eOp (rEq3 false) (eVar 3) (eC (.int 3)))) (sRet (eSl (eVar 2) (oNone) (oSome (eC (.int 2))))) (sNext)) (tb_z18_12 n)
def tb_z18_8(n:Nat):TS3:=sSeq (sIf (eTest (eOp (rEq3 false) (eVar 3) (eC (.int 2)))) (sRet (eTup (aCons (eC (.str "split")) (aCons (eOp rIx3 (eVar 2) (eC (.int 1))) (aCons (eCB r_list (aCons (eOp rIx3 (eVar 2) (eC (.int 2))) (aNil))) (aNil)))))) (sNext)) (tb_z18_10 n)
def tb_z18_6(n:Nat):TS3:=sSeq (sIf (eTest (eOp (rEq3 false) (eVar 3) (eC (.int 1)))) (sRet (eTup (aCons (eC (.str "split")) (aCons (eOp rAdd3 (eOp rIx3 (eVar 2) (eC (.int 1))) (eC (.int 1))) (aCons (eOp rIx3 (eVar 2) (eC (.int 2))) (aNil)))))) (sNext)) (tb_z18_8 n)
def tb_z18_4(n:Nat):TS3:=sSeq (sIf (eTest (eOp (rEq3 false) (eVar 3) (eC (.int 0)))) (sRet (eTup (aCons (eC (.str "split")) (aCons (eOp rIx3 (eVar 2) (eC (.int 1))) (aCons (eRev (eOp rIx3 (eVar 2) (eC (.int 2)))) (aNil)))))) (sNext)) (tb_z18_6 n)
def tb_z18_3(n:Nat):TS3:=sSeq (sAsg (eCall sp_z21 (aCons (eVar 0) (aCons (eC (.int 9)) (aNil)))) (hName 3)) (tb_z18_4 n)
def tb_z18(n:Nat):TS3:=sSeq (sIf (eOr (eNot (eTest (eInst "tuple" (eVar 2)))) (eOr (eTest (eOp (rEq3 true) (eOp rIx3 (eVar 2) (eC (.int 0))) (eC (.str "split")))) (eTest (eOp (rEq3 false) (eCall sp_z21 (aCons (eVar 0) (aCons (eC (.int 6)) (aNil)))) (eC (.int 0)))))) (sRet (eCall sp_z17 (aCons (eVar 0) (aCons (eVar 1) (aNil))))) (sNext)) (tb_z18_3 n)
theorem pw_known{G:Gp}{n:Nat}{p:D}(h:Pw n p):Known G p:=by
 rcases h.cases with rfl|⟨i,rfl⟩|⟨ps,rfl,_⟩<;>trivial
theorem rd_z18(n:Nat):∀ds G Q,sp_z18 (n+1) ds G Q->tb_z18 n (endsOf Q) (start3 ["pen","clocks","paper","way","spot"] ds) G:=by
 rintro ds G Q ⟨pp,cs,d,m,rfl,hp,hl,hw,hm,q⟩;have leaf:∀d G',Sub G G'->Pd G' 2 d->(endsOf Q).rt d G':=fun d G' s h=>ret_ok (q d G' s (pd_up h (by omega)));rcases hw.cases with rfl|⟨i,rfl⟩|⟨ps,rfl,h0,h1,h2⟩
 ·exact⟨fun _=>⟨fun _=>⟨pp,cs,rfl,hp,hl,leaf⟩,nofun⟩,nofun⟩
 ·exact⟨nofun,fun _=>⟨_,rfl,_,_,rfl,rfl,Nat.zero_le _,fun _=>⟨fun _=>⟨pp,cs,rfl,hp,hl,leaf⟩,nofun⟩,fun h=>absurd h (by decide)⟩⟩
 have sp3:∀{G':Gp} {b:Int} {qs:List D},(0≤b/\b≤20/\qs.length≤20)->(∀p∈qs,Known G' p/\Pd G' (m+2) p)->Pd G' (m+3) (.tup [.str "split",.int b,.tup qs]):=fun hb hq=>pd_three trivial (fun p hp=>(hq p hp).1) trivial fun _ k rs e1 e2=>by
  cases e1;cases e2;exact⟨hb,fun p hp=>(hq p hp).2⟩
 have old:∀{G':Gp} {p:D},p∈ps->Known G' p/\Pd G' (m+2) p:=fun hp=>⟨pw_known (h2 _ hp),pd_up (h2 _ hp).pd (by omega)⟩;refine⟨nofun,fun _=>⟨_,rfl,_,_,rfl,rfl,Nat.zero_le _,fun h=>absurd h (by decide),fun _=>⟨pp,6,rfl,hp,⟨by decide,big_of (by decide) (by decide)⟩,fun r r0 r6=>⟨_,_,rfl,rfl,Nat.zero_le _,fun _=>⟨pp,cs,rfl,hp,hl,leaf⟩,fun _=>?_⟩⟩⟩⟩;refine⟨pp,9,rfl,hp,⟨by decide,big_of (by decide) (by decide)⟩,fun w w0 w9=>?_⟩;refine⟨_,_,rfl,rfl,Nat.zero_le _,fun _=>?_,fun _=>?_⟩
 ·refine⟨_,rfl,_,rfl,ret_ok (q _ _ (Sub.refl _) (sp3 ⟨by omega,by omega,by rw[List.length_reverse];omega⟩ fun p hp=>old (List.mem_reverse.mp hp)))⟩
 refine⟨_,_,rfl,rfl,Nat.zero_le _,fun _=>?_,fun _=>?_⟩
 ·exact⟨_,rfl,_,rfl,ret_ok (q _ _ (Sub.refl _) (sp3 ⟨by omega,by omega,by omega⟩ fun p hp=>old hp))⟩
 refine⟨_,_,rfl,rfl,Nat.zero_le _,fun _=>?_,fun _=>?_⟩
 ·refine⟨_,rfl,_,rfl,fun a2 G2 n2=>ret_ok (q _ _ n2.sub (pd_three trivial ⟨_,n2.at_,trivial⟩ ⟨_,n2.at_,trivial⟩ fun _ k rs e1 e2=>(by cases e2)))⟩
 refine⟨_,_,rfl,rfl,Nat.zero_le _,fun _=>?_,fun _=>?_⟩
 ·exact ret_ok (q _ _ (Sub.refl _) (pd_two trivial))
 refine⟨_,_,rfl,rfl,Nat.zero_le _,fun _=>?_,fun _=>?_⟩
 ·refine⟨_,rfl,_,rfl,_,rfl,?_,ret_ok (q _ _ (Sub.refl _) (sp3 ⟨by omega,by omega,?_⟩ fun p hp=>?_))⟩
  ·refine line1000 ?_;unfold cut3;rw[List.length_take,List.length_drop];omega
  ·unfold cut3;rw[List.length_append,List.length_take,List.length_drop];omega
  ·rcases List.mem_append.mp hp with hp|hp
   ·exact old hp
   ·exact old (List.mem_of_mem_drop (List.mem_of_mem_take hp))
 refine⟨_,rfl,pp,_,rfl,hp,⟨by omega,big_of (by omega) (by omega)⟩,fun s s0 s1=>?_⟩;obtain⟨x,_,hx,ex⟩:=at_map (fun d:D=>d) (xs:=ps) s0 s1;rw[List.map_id'] at ex;refine⟨_,rfl,_,rfl,_,rfl,x,ex,pp,cs,x,m-1,rfl,hp,hl,h2 x hx,by omega,fun d' G2 s2 hd2=>?_⟩;refine⟨?_,_,rfl,?_,ret_ok (q _ _ s2 (sp3 ⟨by omega,by omega,?_⟩ fun p hp=>?_))⟩
 ·refine line1000 ?_;unfold cut3;rw[List.length_take,List.length_drop];show min _ _+1≤1000;omega
 ·refine line1000 ?_;unfold cut3;rw[List.length_append,List.length_take,List.length_drop,List.length_take,List.length_drop];show min _ _+1+min _ _≤1000;omega
 ·unfold cut3;rw[List.length_append,List.length_append,List.length_take,List.length_drop,List.length_take,List.length_drop];show min _ _+1+min _ _≤20;omega
 ·rcases List.mem_append.mp hp with hp|hp
  ·rcases List.mem_append.mp hp with hp|hp
   ·exact old (List.mem_of_mem_drop (List.mem_of_mem_take hp))
   ·rw[List.mem_singleton.mp hp];refine⟨?_,pd_up hd2 (by omega)⟩;cases hm1:m-1+3 with
    |zero=>omega
    |succ k=>
     rw[hm1] at hd2;have hk2:=hd2.1;cases d' with
     |obj a=>exact hk2
     |_=>trivial
  ·exact old (List.mem_of_mem_drop (List.mem_of_mem_take hp))
def sp_z15:Sp3:=fun ds G Q=>∃(cs:List Clk) (d:D),ds=[csD cs,d]/\(∀z∈cs,Valid z)/\Pd G 10 d/\∀G',Sub G G'->Q (.bl true) G'
def tb_z15_3:TS3:=sRet (eAndV (eInst "bool" (eVar 3)) (eAndV (eOp (rEq3 false) (eVar 3) (eVar 2)) (eOp (rEq3 false) (eCall sp_z0 (aCons (eVar 0) (aCons (eVar 1) (aNil)))) (eVar 2))))
def tb_z15_2:TS3:=sSeq (sAsg (eCall sp_z0 (aCons (eVar 0) (aCons (eVar 1) (aNil)))) (hName 3)) tb_z15_3
def tb_z15:TS3:=sSeq (sAsg (eCall (sp_z2 40) (aCons (eVar 0) (aCons (eTup (aCons (eC (.int 1)) (aCons (eC (.int 0)) (aNil)))) (aCons (eVar 1) (aNil))))) (hName 2)) tb_z15_2
theorem eqb_blB(b:Bool):(Dat.D.bl b).eqb (.bl b)=true:=by cases b<;>rfl
theorem rd_z15:∀ds G Q,sp_z15 ds G Q->tb_z15 (endsOf Q) (start3 ["clocks","thing","due","found"] ds) G:=by
 rintro ds G Q ⟨cs,d,rfl,hv,hd,q⟩;have hp:PapD G 40 d 1:=hd.pap (by decide) (by decide) (by decide);have hz:∀z∈cs,0<z.1:=fun z h=>(hv z h).1;refine⟨cs,(1,0),d,40,rfl,Nat.le_refl _,hp,hv,fun G1 s1=>?_⟩;refine⟨cs,d,rfl,hp.sub s1,hz,fun _=>⟨_,_,rfl,rfl,Nat.zero_le _,fun _=>⟨cs,d,rfl,hp.sub s1,hz,_,_,rfl,rfl,Nat.zero_le _,?_⟩,fun h=>?_⟩,nofun⟩
 ·show (endsOf Q).rt (.bl ((Dat.D.bl (pB 40 cs d (1,0))).eqb (.bl (pB 40 cs d (1,0))))) G1;rw[eqb_blB];exact ret_ok (q _ s1)
 ·have h':((Dat.D.bl (pB 40 cs d (1,0))).eqb (.bl (pB 40 cs d (1,0))))=false:=h;rw[eqb_blB] at h';cases h'
end My
namespace L3
open PySem PySem.Spec PyProof.Rows L2
theorem len1{us:List Value}(h:us.length=1):∃a,us=[a]:=List.length_eq_one_iff.mp h
theorem len2{us:List Value}(h:us.length=2):∃a b,us=[a,b]:=by
 rcases us with _|⟨a,us⟩
 ·cases h
 ·obtain⟨b,rfl⟩:=len1 (us:=us) (Nat.succ.inj h);exact⟨a,b,rfl⟩
theorem len3{us:List Value}(h:us.length=3):∃a b c,us=[a,b,c]:=by
 rcases us with _|⟨a,us⟩
 ·cases h
 ·obtain⟨b,c,rfl⟩:=len2 (us:=us) (Nat.succ.inj h);exact⟨a,b,c,rfl⟩
theorem len4{us:List Value}(h:us.length=4):∃a b c d,us=[a,b,c,d]:=by
 rcases us with _|⟨a,us⟩
 ·cases h
 ·obtain⟨b,c,d,rfl⟩:=len3 (us:=us) (Nat.succ.inj h);exact⟨a,b,c,d,rfl⟩
end L3
namespace My
open PySem L2 L3
def sp_law:Sp3:=fun ds G Q=>∃ns:List Int,ds=[.scr (ns.map .int)]/\ns.length≤63/\Q (.bl true) G
def tb_law_9:TS3:=sIf (eNot (eTest (eCall sp_z15 (aCons (eVar 3) (aCons (eVar 6) (aNil)))))) (sRet (eC (.bl false))) (sNext)
def tb_law_8:TS3:=sFor (iSeq (eOp rAdd3 (eVar 5) (eLst (aCons (eCall (sp_z18 40) (aCons (eVar 2) (aCons (eVar 3) (aCons (eVar 4) (aNil))))) (aNil))))) (hName 6) (tb_law_9)
def tb_law_7:TS3:=sSeq (sAsg (eLst (aCons (eVar 4) (aCons (eCall (sp_z18 40) (aCons (eVar 2) (aCons (eVar 3) (aCons (eVar 4) (aNil))))) (aCons (eCall (sp_z18 40) (aCons (eVar 2) (aCons (eVar 3) (aCons (eVar 4) (aNil))))) (aCons (eCall sp_z17 (aCons (eVar 2) (aCons (eVar 3) (aNil)))) (aNil)))))) (hName 5)) tb_law_8
def tb_law_6:TS3:=sSeq (sAsg (eCall (sp_z4 40) (aCons (eVar 2) (aCons (eVar 3) (aCons (eTup (aCons (eC (.int 1)) (aCons (eC (.int 0)) (aNil)))) (aCons (eC (.int 4)) (aNil)))))) (hName 4)) tb_law_7
def tb_law_5:TS3:=sSeq (sAsg (eCall sp_z3 (aCons (eVar 2) (aNil))) (hName 3)) tb_law_6
def tb_law_4:TS3:=sSeq (sAsg (eCall sp_z8 (aCons (eVar 1) (aNil))) (hName 2)) tb_law_5
def tb_law_11:TS3:=sRet (eC (.bl true))
def tb_law_3:TS3:=sSeq (sFor (iSeq (eOp rAdd3 (eLst (aCons (eCall sp_z7 (aCons (eVar 0) (aCons (eC (.int 0)) (aNil)))) (aNil))) (eSl (eVar 0) (oSome (eC (.int 1))) (oSome (eC (.int 8)))))) (hName 1) (tb_law_4)) tb_law_11
def tb_law:TS3:=sSeq (sIf (eTest (eOp rIsnB3 (eCall sp_z0 (aCons (eTup (aCons (eTup (aCons (eC (.int 2)) (aCons (eC (.int 0)) (aNil)))) (aCons (eTup (aCons (eC (.int 2)) (aCons (eC (.int 1)) (aNil)))) (aNil)))) (aCons (eTup (aCons (eC (.str "split")) (aCons (eC (.int 2)) (aCons (eTup (aCons (eTup (aCons (eC (.str "leaf")) (aCons (eC (.int 0)) (aNil)))) (aCons (eTup (aCons (eC (.str "leaf")) (aCons (eC (.int 1)) (aNil)))) (aNil)))) (aNil))))) (aNil)))) (eC (.bl true)))) (sRet (eC (.bl false))) (sNext)) tb_law_3
theorem first_pd{G:Gp}:Pd G 2 (.tup [.str "split",.int 2,.tup [.tup [.str "leaf",.int 0],.tup [.str "leaf",.int 1]]]):=pd_three trivial (fun d hd=>by
 simp only[List.mem_cons,List.not_mem_nil,or_false] at hd;rcases hd with rfl|rfl<;>trivial) trivial fun _ k ps e1 e2=>by
  cases e1;cases e2;refine⟨⟨by decide,by decide,Nat.le_of_ble_eq_true rfl⟩,fun p hp=>?_⟩;simp only[List.mem_cons,List.not_mem_nil,or_false] at hp;rcases hp with rfl|rfl
  ·exact pd_two trivial
  ·exact pd_two trivial
theorem rd_law:∀ds G Q,sp_law ds G Q->tb_law (endsOf Q) (start3 ["script","cell","pen","clocks","paper","things","thing"] ds) G:=by
 rintro ds G Q ⟨ns,rfl,hl,q⟩;refine⟨[(2,0),(2,1)],_,rfl,first_pd.pap (by decide) (by decide) (by decide),fun z hz=>?_,?_⟩
 ·simp only[List.mem_cons,List.not_mem_nil,or_false] at hz;rcases hz with rfl|rfl<;>decide
 rw[show pB 40 [(2,0),(2,1)] (.tup [.str "split",.int 2,.tup [.tup [.str "leaf",.int 0],.tup [.str "leaf",.int 1]]]) (1,0)=true by decide +kernel];refine⟨nofun,fun _=>?_⟩;refine⟨ns,0,rfl,fun i=>?_⟩;intro c0 K0 o0 c1 K1 o1;rw[cut3_map] at o1;have hcl:=cutG_le ns (some 1) (some 8);refine⟨_,_,o1.sub _ _ o0.at_,o1.at_,?_,fun c2 K2 o2=>?_⟩
 ·rw[List.length_map];exact line1000 (by simp;omega)
 refine⟨_,o2.at_,?_⟩;have sK:Sub G K2:=o0.sub.trans (o1.sub.trans o2.sub);refine forGo_go (fun ds τ G'=>(∃is:List Int,ds=is.map D.int)/\Sub K2 G'/\∃x1 x2 x3 x4 x5 x6,τ=[some (.scr (ns.map .int)),x1,x2,x3,x4,x5,x6]) (fun _ _ _ h=>h.2.1 _ _ o2.at_) ?_ ?_ _ _ _ ⟨⟨i::cutG ns (some 1) (some 8),rfl⟩,Sub.refl _,_,_,_,_,_,_,rfl⟩
 ·rintro d ds τ G8 N ⟨⟨js,e⟩,s8,x1,x2,x3,x4,x5,x6,rfl⟩ hN;cases js with
  |nil=>cases e
  |cons cc js=>
   cases e;refine⟨cc,rfl,fun pp G9 n9=>⟨pp,rfl,n9.at_,fun cs ok hlc hr=>?_⟩⟩;have hv:∀z∈cs,Valid z:=fun z hz=>(ok z hz).1;refine⟨pp,cs,(1,0),4,rfl,n9.at_,⟨fun z hz=>ok z hz,hlc⟩,⟨by decide,by decide⟩,by decide,fun d G10 hw s10=>?_⟩;have hp10:=s10 _ _ n9.at_;refine⟨pp,cs,d,4,rfl,hp10,hlc,hw,by decide,fun d1 G11 s11 h1=>?_⟩;have hp11:=s11 _ _ hp10;refine⟨pp,cs,d,4,rfl,hp11,hlc,hw,by decide,fun d2 G12 s12 h2=>?_⟩;have hp12:=s12 _ _ hp11;refine⟨pp,cs,rfl,hp12,hlc,fun d3 G13 s13 h3=>?_⟩;have hp13:=s13 _ _ hp12;intro a4 G14 n14;have hp14:=n14.sub _ _ hp13;refine⟨pp,cs,d,4,rfl,hp14,hlc,hw,by decide,fun d5 G15 s15 h5=>?_⟩;intro a6 G16 n16;refine⟨_,_,n16.sub _ _ (s15 _ _ n14.at_),n16.at_,line1000 (Nat.le_of_ble_eq_true rfl),fun a7 G17 n17=>⟨_,n17.at_,?_⟩⟩;have s17:Sub G14 G17:=s15.trans (n16.sub.trans n17.sub);have hall:∀t∈[d,d1,d2,d3]++[d5],Pd G17 10 t:=fun t ht=>by
    simp only[List.cons_append,List.nil_append,List.mem_cons,List.not_mem_nil,or_false] at ht;rcases ht with rfl|rfl|rfl|rfl|rfl
    ·exact pd_up hw.pd (by decide)
    ·exact pd_up (h1.sub (s12.trans (s13.trans (n14.sub.trans s17)))) (by decide)
    ·exact pd_up (h2.sub (s13.trans (n14.sub.trans s17))) (by decide)
    ·exact pd_up (h3.sub (n14.sub.trans s17)) (by decide)
    ·exact pd_up (h5.sub (n16.sub.trans n17.sub)) (by decide)
   have s17':Sub G8 G17:=n9.sub.trans (s10.trans (s11.trans (s12.trans (s13.trans (n14.sub.trans s17)))));refine forGo_go (fun ds τ G'=>(∀t∈ds,Pd G17 10 t)/\Sub G17 G'/\∃y6,τ=[some (.scr (ns.map .int)),some (.int cc),some (.obj pp),some (csD cs),some d,some (.obj a4),y6]) (fun _ _ _ h=>h.2.1 _ _ n17.at_) ?_ ?_ _ _ _ ⟨hall,Sub.refl _,_,rfl⟩
   ·rintro t ds τ G18 N2 ⟨hds,s18,y6,rfl⟩ hN2;exact⟨cs,t,rfl,hv,(hds t List.mem_cons_self).sub s18,fun G19 s19=>⟨nofun,fun _=>hN2 _ _ ⟨fun u hu=>hds u (List.mem_cons_of_mem _ hu),s18.trans s19,_,rfl⟩⟩⟩
   ·rintro τ G18 ⟨_,s18,y6,rfl⟩;exact hN _ _ ⟨⟨js,rfl⟩,s8.trans (s17'.trans s18),_,_,_,_,_,_,rfl⟩
 ·rintro τ G8 ⟨_,s8,x1,x2,x3,x4,x5,x6,rfl⟩;exact ret_sub (sK.trans s8) q
end My
namespace My
open PySem L2 L3
def top(i:Nat):Stmt:=PySem.Challenge.pw_coverclocks_k11_cover_papers_by_anybody.main.body.getD i (.Pass ⟨0,0,0,0⟩)
abbrev st_z11:Stmt:=top 1
abbrev nm_z11:List Str:=["thing"]
theorem sc_z11:FnScope nm_z11 ["thing"] (defScope st_z11):=⟨rfl,rfl,rfl,by decide +kernel,rfl,by decide +kernel,by decide +kernel⟩
abbrev st_z10:Stmt:=top 2
abbrev nm_z10:List Str:=["things","thing"]
theorem sc_z10:FnScope nm_z10 ["things","thing"] (defScope st_z10):=⟨rfl,rfl,rfl,by decide +kernel,rfl,by decide +kernel,by decide +kernel⟩
abbrev st_z1:Stmt:=top 3
abbrev nm_z1:List Str:=["k","papers"]
theorem sc_z1:FnScope nm_z1 ["k","papers"] (defScope st_z1):=⟨rfl,rfl,rfl,by decide +kernel,rfl,by decide +kernel,by decide +kernel⟩
abbrev st_z23:Stmt:=top 5
abbrev nm_z23:List Str:=["clock","number"]
theorem sc_z23:FnScope nm_z23 ["clock","number"] (defScope st_z23):=⟨rfl,rfl,rfl,by decide +kernel,rfl,by decide +kernel,by decide +kernel⟩
abbrev st_z14:Stmt:=top 6
abbrev nm_z14:List Str:=["one","other"]
theorem sc_z14:FnScope nm_z14 ["one","other"] (defScope st_z14):=⟨rfl,rfl,rfl,by decide +kernel,rfl,by decide +kernel,by decide +kernel⟩
abbrev st_z19:Stmt:=top 7
abbrev nm_z19:List Str:=["clock","k"]
theorem sc_z19:FnScope nm_z19 ["clock","k"] (defScope st_z19):=⟨rfl,rfl,rfl,by decide +kernel,rfl,by decide +kernel,by decide +kernel⟩
abbrev st_z0:Stmt:=top 9
abbrev nm_z0:List Str:=["clocks","thing"]
theorem sc_z0:FnScope nm_z0 ["clocks","thing"] (defScope st_z0):=⟨rfl,rfl,rfl,by decide +kernel,rfl,by decide +kernel,by decide +kernel⟩
abbrev st_z12:Stmt:=top 10
abbrev nm_z12:List Str:=["clocks","thing","clock"]
theorem sc_z12:FnScope nm_z12 ["clocks","thing","clock"] (defScope st_z12):=⟨rfl,rfl,rfl,by decide +kernel,rfl,by decide +kernel,by decide +kernel⟩
abbrev st_z6:Stmt:=top 11
abbrev nm_z6:List Str:=["clocks","k","papers","clock","paper","part"]
theorem sc_z6:FnScope nm_z6 ["clocks","k","papers","clock"] (defScope st_z6):=⟨rfl,rfl,rfl,by decide +kernel,rfl,by decide +kernel,by decide +kernel⟩
abbrev st_z7:Stmt:=top 13
abbrev nm_z7:List Str:=["script","k"]
theorem sc_z7:FnScope nm_z7 ["script","k"] (defScope st_z7):=⟨rfl,rfl,rfl,by decide +kernel,rfl,by decide +kernel,by decide +kernel⟩
abbrev st_z20:Stmt:=top 14
abbrev nm_z20:List Str:=["seed"]
theorem sc_z20:FnScope nm_z20 ["seed"] (defScope st_z20):=⟨rfl,rfl,rfl,by decide +kernel,rfl,by decide +kernel,by decide +kernel⟩
abbrev st_z8:Stmt:=top 15
abbrev nm_z8:List Str:=["cell","left"]
theorem sc_z8:FnScope nm_z8 ["cell"] (defScope st_z8):=⟨rfl,rfl,rfl,by decide +kernel,rfl,by decide +kernel,by decide +kernel⟩
abbrev st_z21:Stmt:=top 16
abbrev nm_z21:List Str:=["pen","many","found"]
theorem sc_z21:FnScope nm_z21 ["pen","many"] (defScope st_z21):=⟨rfl,rfl,rfl,by decide +kernel,rfl,by decide +kernel,by decide +kernel⟩
abbrev st_z13:Stmt:=top 17
abbrev nm_z13:List Str:=["found"]
theorem sc_z13:FnScope nm_z13 ["found"] (defScope st_z13):=⟨rfl,rfl,rfl,by decide +kernel,rfl,by decide +kernel,by decide +kernel⟩
abbrev st_z22:Stmt:=top 18
abbrev nm_z22:List Str:=["one","other"]
theorem sc_z22:FnScope nm_z22 ["one","other"] (defScope st_z22):=⟨rfl,rfl,rfl,by decide +kernel,rfl,by decide +kernel,by decide +kernel⟩
abbrev st_z16:Stmt:=top 19
abbrev nm_z16:List Str:=["pen","times","found","turn","spot","k","step","rest"]
theorem sc_z16:FnScope nm_z16 ["pen","times"] (defScope st_z16):=⟨rfl,rfl,rfl,by decide +kernel,rfl,by decide +kernel,by decide +kernel⟩
abbrev st_z3:Stmt:=top 20
abbrev nm_z3:List Str:=["pen","way","found","steps","turn","step"]
theorem sc_z3:FnScope nm_z3 ["pen"] (defScope st_z3):=⟨rfl,rfl,rfl,by decide +kernel,rfl,by decide +kernel,by decide +kernel⟩
abbrev st_z5:Stmt:=top 21
abbrev nm_z5:List Str:=["clock","k"]
theorem sc_z5:FnScope nm_z5 ["clock","k"] (defScope st_z5):=⟨rfl,rfl,rfl,by decide +kernel,rfl,by decide +kernel,by decide +kernel⟩
abbrev st_z9:Stmt:=top 22
abbrev nm_z9:List Str:=["clock","other"]
theorem sc_z9:FnScope nm_z9 ["clock","other"] (defScope st_z9):=⟨rfl,rfl,rfl,by decide +kernel,rfl,by decide +kernel,by decide +kernel⟩
abbrev st_z4:Stmt:=top 23
abbrev nm_z4:List Str:=["pen","clocks","clock","deep","place","steps","good","k","papers","part"]
theorem sc_z4:FnScope nm_z4 ["pen","clocks","clock","deep"] (defScope st_z4):=⟨rfl,rfl,rfl,by decide +kernel,rfl,by decide +kernel,by decide +kernel⟩
abbrev st_z2:Stmt:=top 24
abbrev nm_z2:List Str:=["clocks","clock","thing","parts"]
theorem sc_z2:FnScope nm_z2 ["clocks","clock","thing"] (defScope st_z2):=⟨rfl,rfl,rfl,by decide +kernel,rfl,by decide +kernel,by decide +kernel⟩
abbrev st_z17:Stmt:=top 25
abbrev nm_z17:List Str:=["pen","clocks","place","odd"]
theorem sc_z17:FnScope nm_z17 ["pen","clocks"] (defScope st_z17):=⟨rfl,rfl,rfl,by decide +kernel,rfl,by decide +kernel,by decide +kernel⟩
abbrev st_z18:Stmt:=top 26
abbrev nm_z18:List Str:=["pen","clocks","paper","way","spot"]
theorem sc_z18:FnScope nm_z18 ["pen","clocks","paper"] (defScope st_z18):=⟨rfl,rfl,rfl,by decide +kernel,rfl,by decide +kernel,by decide +kernel⟩
abbrev st_z15:Stmt:=top 27
abbrev nm_z15:List Str:=["clocks","thing","due","found"]
theorem sc_z15:FnScope nm_z15 ["clocks","thing"] (defScope st_z15):=⟨rfl,rfl,rfl,by decide +kernel,rfl,by decide +kernel,by decide +kernel⟩
abbrev st_law:Stmt:=top 28
abbrev nm_law:List Str:=["script","cell","pen","clocks","paper","things","thing"]
theorem sc_law:FnScope nm_law ["script"] (defScope st_law):=⟨rfl,rfl,rfl,by decide +kernel,rfl,by decide +kernel,by decide +kernel⟩
set_option genInjectivity false in
structure Adr where
 f_z11:Addr
 d_z11:FuncData
 f_z10:Addr
 d_z10:FuncData
 f_z1:Addr
 d_z1:FuncData
 f_z23:Addr
 d_z23:FuncData
 f_z14:Addr
 d_z14:FuncData
 f_z19:Addr
 d_z19:FuncData
 f_z0:Addr
 d_z0:FuncData
 f_z12:Addr
 d_z12:FuncData
 f_z6:Addr
 d_z6:FuncData
 f_z7:Addr
 d_z7:FuncData
 f_z20:Addr
 d_z20:FuncData
 f_z8:Addr
 d_z8:FuncData
 f_z21:Addr
 d_z21:FuncData
 f_z13:Addr
 d_z13:FuncData
 f_z22:Addr
 d_z22:FuncData
 f_z16:Addr
 d_z16:FuncData
 f_z3:Addr
 d_z3:FuncData
 f_z5:Addr
 d_z5:FuncData
 f_z9:Addr
 d_z9:FuncData
 f_z4:Addr
 d_z4:FuncData
 f_z2:Addr
 d_z2:FuncData
 f_z17:Addr
 d_z17:FuncData
 f_z18:Addr
 d_z18:FuncData
 f_z15:Addr
 d_z15:FuncData
 f_law:Addr
 d_law:FuncData
structure Txt(K:PySem.W.Frag)(mg:Str->Option Value)(t:Adr):Prop where
 F_z11:Fun K "whole_good" "whole_good" st_z11 t.f_z11 t.d_z11
 m_z11:mg "whole_good" = some (.ref t.f_z11)
 b_z11:Binds K t.d_z11 ["thing"] []
 F_z10:Fun K "place_good" "place_good" st_z10 t.f_z10 t.d_z10
 m_z10:mg "place_good" = some (.ref t.f_z10)
 b_z10:Binds K t.d_z10 ["things","thing"] []
 F_z1:Fun K "split_form_good" "split_form_good" st_z1 t.f_z1 t.d_z1
 m_z1:mg "split_form_good" = some (.ref t.f_z1)
 b_z1:Binds K t.d_z1 ["k","papers"] []
 F_z23:Fun K "rings" "rings" st_z23 t.f_z23 t.d_z23
 m_z23:mg "rings" = some (.ref t.f_z23)
 b_z23:Binds K t.d_z23 ["clock","number"] []
 F_z14:Fun K "inside_of" "inside_of" st_z14 t.f_z14 t.d_z14
 m_z14:mg "inside_of" = some (.ref t.f_z14)
 b_z14:Binds K t.d_z14 ["one","other"] []
 F_z19:Fun K "parts_of" "parts_of" st_z19 t.f_z19 t.d_z19
 m_z19:mg "parts_of" = some (.ref t.f_z19)
 b_z19:Binds K t.d_z19 ["clock","k"] []
 F_z0:Fun K "cover_paper_good" "cover_paper_good" st_z0 t.f_z0 t.d_z0
 m_z0:mg "cover_paper_good" = some (.ref t.f_z0)
 b_z0:Binds K t.d_z0 ["clocks","thing"] []
 F_z12:Fun K "paper_good" "paper_good" st_z12 t.f_z12 t.d_z12
 m_z12:mg "paper_good" = some (.ref t.f_z12)
 b_z12:Binds K t.d_z12 ["clocks","thing","clock"] []
 F_z6:Fun K "papers_good" "papers_good" st_z6 t.f_z6 t.d_z6
 m_z6:mg "papers_good" = some (.ref t.f_z6)
 b_z6:Binds K t.d_z6 ["clocks","k","papers","clock"] []
 F_z7:Fun K "_law_cell_at" "_law_cell_at" st_z7 t.f_z7 t.d_z7
 m_z7:mg "_law_cell_at" = some (.ref t.f_z7)
 b_z7:Binds K t.d_z7 ["script","k"] []
 F_z20:Fun K "_law_next" "_law_next" st_z20 t.f_z20 t.d_z20
 m_z20:mg "_law_next" = some (.ref t.f_z20)
 b_z20:Binds K t.d_z20 ["seed"] []
 F_z8:Fun K "_law_pen_of" "_law_pen_of" st_z8 t.f_z8 t.d_z8
 m_z8:mg "_law_pen_of" = some (.ref t.f_z8)
 b_z8:Binds K t.d_z8 ["cell"] []
 F_z21:Fun K "_law_draw" "_law_draw" st_z21 t.f_z21 t.d_z21
 m_z21:mg "_law_draw" = some (.ref t.f_z21)
 b_z21:Binds K t.d_z21 ["pen","many"] []
 F_z13:Fun K "_law_whole" "_law_whole" st_z13 t.f_z13 t.d_z13
 m_z13:mg "_law_whole" = some (.ref t.f_z13)
 b_z13:Binds K t.d_z13 ["found"] []
 F_z22:Fun K "_law_gcd" "_law_gcd" st_z22 t.f_z22 t.d_z22
 m_z22:mg "_law_gcd" = some (.ref t.f_z22)
 b_z22:Binds K t.d_z22 ["one","other"] []
 F_z16:Fun K "_law_split" "_law_split" st_z16 t.f_z16 t.d_z16
 m_z16:mg "_law_split" = some (.ref t.f_z16)
 b_z16:Binds K t.d_z16 ["pen","times"] []
 F_z3:Fun K "_law_clocks_of" "_law_clocks_of" st_z3 t.f_z3 t.d_z3
 m_z3:mg "_law_clocks_of" = some (.ref t.f_z3)
 b_z3:Binds K t.d_z3 ["pen"] []
 F_z5:Fun K "_law_parts_of" "_law_parts_of" st_z5 t.f_z5 t.d_z5
 m_z5:mg "_law_parts_of" = some (.ref t.f_z5)
 b_z5:Binds K t.d_z5 ["clock","k"] []
 F_z9:Fun K "_law_within" "_law_within" st_z9 t.f_z9 t.d_z9
 m_z9:mg "_law_within" = some (.ref t.f_z9)
 b_z9:Binds K t.d_z9 ["clock","other"] []
 F_z4:Fun K "_law_paper_of" "_law_paper_of" st_z4 t.f_z4 t.d_z4
 m_z4:mg "_law_paper_of" = some (.ref t.f_z4)
 b_z4:Binds K t.d_z4 ["pen","clocks","clock","deep"] []
 F_z2:Fun K "_law_paper_due" "_law_paper_due" st_z2 t.f_z2 t.d_z2
 m_z2:mg "_law_paper_due" = some (.ref t.f_z2)
 b_z2:Binds K t.d_z2 ["clocks","clock","thing"] []
 F_z17:Fun K "_law_leaf" "_law_leaf" st_z17 t.f_z17 t.d_z17
 m_z17:mg "_law_leaf" = some (.ref t.f_z17)
 b_z17:Binds K t.d_z17 ["pen","clocks"] []
 F_z18:Fun K "_law_bent" "_law_bent" st_z18 t.f_z18 t.d_z18
 m_z18:mg "_law_bent" = some (.ref t.f_z18)
 b_z18:Binds K t.d_z18 ["pen","clocks","paper"] []
 F_z15:Fun K "_law_right" "_law_right" st_z15 t.f_z15 t.d_z15
 m_z15:mg "_law_right" = some (.ref t.f_z15)
 b_z15:Binds K t.d_z15 ["clocks","thing"] []
 F_law:Fun K "law" "law" st_law t.f_law t.d_law
 m_law:mg "law" = some (.ref t.f_law)
 b_law:Binds K t.d_law ["script"] []
 m_all:mg "all" = none
 m_any:mg "any" = none
 m_bool:mg "bool" = none
 m_int:mg "int" = none
 m_isinstance:mg "isinstance" = none
 m_len:mg "len" = none
 m_list:mg "list" = none
 m_max:mg "max" = none
 m_range:mg "range" = none
 m_set:mg "set" = none
 m_sorted:mg "sorted" = none
 m_str:mg "str" = none
 m_tuple:mg "tuple" = none
 m_zip:mg "zip" = none
section
variable {P:Program} {w:World} {K:PySem.W.Frag} {mg:Str->Option Value} {base:Heap} {t:Adr}
theorem len_z11:∀ds G Q,sp_z11 ds G Q->ds.length=1:=by
 intro ds G Q h
 first
  | (rcases ds with _|⟨_,_|⟨_,_|⟨_,_|⟨_,_⟩⟩⟩⟩<;>first|rfl|exact h.elim)
  | (obtain⟨rfl,_⟩:=h;rfl)
  | (obtain⟨_,rfl,_⟩:=h;rfl)
  | (obtain⟨_,_,rfl,_⟩:=h;rfl)
  | (obtain⟨_,_,_,rfl,_⟩:=h;rfl)
  | (obtain⟨_,_,_,_,rfl,_⟩:=h;rfl)
  | (obtain⟨_,_,_,_,_,rfl,_⟩:=h;rfl)
  | (obtain⟨_,_,_,_,_,_,rfl,_⟩:=h;rfl)
  | (obtain⟨_,_,_,_,_,_,_,rfl,_⟩:=h;rfl)
  | (obtain⟨_,_,_,_,_,_,_,_,rfl,_⟩:=h;rfl)
theorem ok_z11(T:Txt K mg t):FnOk3 P w K mg base 1 t.f_z11 t.d_z11 ["thing"] sp_z11:=by
 refine qfn3 (k:=0) (sp:=sp_z11) T.F_z11 sc_z11 (by decide) len_z11 tb_z11 (fun cdv A outer s H E hr=>?_) rd_z11;refine qs_one (qs_ret ?_);refine qe_and (qe_inst kit_int rfl (qe_var (pv 0)) T.m_isinstance T.m_int rfl (by decide) (by decide)) ?_;refine qe_one (qe_not (qe_inst kit_bool rfl (qe_var (pv 0)) T.m_isinstance T.m_bool rfl (by decide) (by decide)))
theorem len_z10:∀ds G Q,sp_z10 ds G Q->ds.length=2:=by
 intro ds G Q h;obtain⟨_,_,rfl,_⟩:=h;rfl
theorem ok_z10(T:Txt K mg t):FnOk3 P w K mg base 2 t.f_z10 t.d_z10 ["things","thing"] sp_z10:=by
 refine qfn3 (k:=1) (sp:=sp_z10) T.F_z10 sc_z10 (by decide) len_z10 tb_z10 (fun cdv A outer s H E hr=>?_) rd_z10;refine qs_one (qs_ret ?_);refine qe_and (qe_call ((ok_z11 T).mono (by decide)) hr T.m_z11 T.F_z11.kp T.b_z11 (qa_cons (qe_var (pv 1)) qa_nil)) ?_;refine qe_one (qe_chain l_le l_ltT op_le (op_ltA hr.units0) qe_int (qe_var (pv 1)) (qeb_len hr.units T.m_len (qa_cons (qe_var (pv 0)) qa_nil)))
theorem len_z1:∀ds G Q,sp_z1 ds G Q->ds.length=2:=by
 intro ds G Q h;obtain⟨_,_,rfl,_⟩:=h;rfl
theorem ok_z1(T:Txt K mg t):FnOk3 P w K mg base 2 t.f_z1 t.d_z1 ["k","papers"] sp_z1:=by
 refine qfn3 (k:=1) (sp:=sp_z1) T.F_z1 sc_z1 (by decide) len_z1 tb_z1 (fun cdv A outer s H E hr=>?_) rd_z1;refine qs_one (qs_ret ?_);refine qe_and (qe_call ((ok_z11 T).mono (by decide)) hr T.m_z11 T.F_z11.kp T.b_z11 (qa_cons (qe_var (pv 0)) qa_nil)) ?_;refine qe_and (qe_cmp l_ge op_ge (qe_var (pv 0)) qe_int (nomark _)) ?_;refine qe_and (qe_inst kit_tuple rfl (qe_var (pv 1)) T.m_isinstance T.m_tuple rfl (by decide) (by decide)) ?_;refine qe_one (qe_cmp l_eq (op_eqA hr.units) (qeb_len hr.units T.m_len (qa_cons (qe_var (pv 1)) qa_nil)) (qe_var (pv 0)) (nomark _))
theorem len_z23:∀ds G Q,sp_z23 ds G Q->ds.length=2:=by
 intro ds G Q h;obtain⟨_,_,rfl,_⟩:=h;rfl
theorem ok_z23(T:Txt K mg t):FnOk3 P w K mg base 1 t.f_z23 t.d_z23 ["clock","number"] sp_z23:=by
 refine qfn3 (k:=0) (sp:=sp_z23) T.F_z23 sc_z23 (by decide) len_z23 tb_z23 (fun cdv A outer s H E hr=>?_) rd_z23;refine qs_one (qs_ret (qe_cmp l_eq (op_eqA hr.units) (qe_op l_mod op_mod (qe_var (pv 1)) (qe_ix (qe_var (pv 0)) qe_int)) (qe_ix (qe_var (pv 0)) qe_int) (nomark _)))
theorem len_z14:∀ds G Q,sp_z14 ds G Q->ds.length=2:=by
 intro ds G Q h;obtain⟨_,_,rfl,_⟩:=h;rfl
theorem ok_z14(T:Txt K mg t):FnOk3 P w K mg base 2 t.f_z14 t.d_z14 ["one","other"] sp_z14:=by
 refine qfn3 (k:=1) (sp:=sp_z14) T.F_z14 sc_z14 (by decide) len_z14 tb_z14 (fun cdv A outer s H E hr=>?_) rd_z14;refine qs_one (qs_ret ?_);refine qe_and (qe_cmp l_eq (op_eqA hr.units) (qe_op l_mod op_mod (qe_ix (qe_var (pv 0)) qe_int) (qe_ix (qe_var (pv 1)) qe_int)) qe_int (nomark _)) ?_;refine qe_one (qe_call ((ok_z23 T).mono (by decide)) hr T.m_z23 T.F_z23.kp T.b_z23 (qa_cons (qe_var (pv 1)) (qa_cons (qe_ix (qe_var (pv 0)) qe_int) qa_nil)))
theorem len_z19:∀ds G Q,sp_z19 ds G Q->ds.length=2:=by
 intro ds G Q h;obtain⟨_,_,rfl,_⟩:=h;rfl
theorem ok_z19(T:Txt K mg t):FnOk3 P w K mg base 1 t.f_z19 t.d_z19 ["clock","k"] sp_z19:=by
 refine qfn3 (k:=0) (sp:=sp_z19) T.F_z19 sc_z19 (by decide) len_z19 tb_z19 (fun cdv A outer s H E hr=>?_) rd_z19;refine qs_one (qs_ret ?_);refine qe_comp rfl (show CmpOk nm_z19 (defScope st_z19) _ ["turn"] [0,1] from⟨rfl,by decide +kernel,by decide +kernel,by decide +kernel,by decide +kernel,by decide +kernel⟩) ?_ ?_;refine qi_rng1 T.m_range (qa_cons (qe_var (pv 1)) qa_nil);intro s0 H0 fp0;refine⟨(qh_name (i:=0) (show (["turn","clock","k"]:List Str).Nodup by decide +kernel)),qct_nil,?_⟩;refine qe_tup (qa_cons (qe_op l_mul op_mulA (qe_ix (qe_var (pv 1)) qe_int) (qe_var (pv 2))) ?_);refine qa_cons (qe_op l_add op_addA (qe_ix (qe_var (pv 1)) qe_int) (qe_op l_mul op_mulA (qe_ix (qe_var (pv 1)) qe_int) (qe_var (pv 0)))) qa_nil
theorem len_z12(n:Nat):∀ds G Q,sp_z12 n ds G Q->ds.length=3:=by
 intro ds G Q h
 first
  | (rcases ds with _|⟨_,_|⟨_,_|⟨_,_|⟨_,_⟩⟩⟩⟩<;>first|rfl|exact h.elim)
  | (obtain⟨rfl,_⟩:=h;rfl)
  | (obtain⟨_,rfl,_⟩:=h;rfl)
  | (obtain⟨_,_,rfl,_⟩:=h;rfl)
  | (obtain⟨_,_,_,rfl,_⟩:=h;rfl)
  | (obtain⟨_,_,_,_,rfl,_⟩:=h;rfl)
  | (obtain⟨_,_,_,_,_,rfl,_⟩:=h;rfl)
  | (obtain⟨_,_,_,_,_,_,rfl,_⟩:=h;rfl)
  | (obtain⟨_,_,_,_,_,_,_,rfl,_⟩:=h;rfl)
  | (obtain⟨_,_,_,_,_,_,_,_,rfl,_⟩:=h;rfl)
theorem len_z6(n:Nat):∀ds G Q,sp_z6 n ds G Q->ds.length=4:=by
 intro ds G Q h
 first
  | (rcases ds with _|⟨_,_|⟨_,_|⟨_,_|⟨_,_⟩⟩⟩⟩<;>first|rfl|exact h.elim)
  | (obtain⟨rfl,_⟩:=h;rfl)
  | (obtain⟨_,rfl,_⟩:=h;rfl)
  | (obtain⟨_,_,rfl,_⟩:=h;rfl)
  | (obtain⟨_,_,_,rfl,_⟩:=h;rfl)
  | (obtain⟨_,_,_,_,rfl,_⟩:=h;rfl)
  | (obtain⟨_,_,_,_,_,rfl,_⟩:=h;rfl)
  | (obtain⟨_,_,_,_,_,_,rfl,_⟩:=h;rfl)
  | (obtain⟨_,_,_,_,_,_,_,rfl,_⟩:=h;rfl)
  | (obtain⟨_,_,_,_,_,_,_,_,rfl,_⟩:=h;rfl)
theorem okg_z12(T:Txt K mg t):∀n:Nat,FnOk3 P w K mg base (2+n) t.f_z12 t.d_z12 ["clocks","thing","clock"] (sp_z12 n)/\FnOk3 P w K mg base (2+n) t.f_z6 t.d_z6 ["clocks","k","papers","clock"] (sp_z6 n)
 |0=>⟨fn3_none no_z12,fn3_none no_z6⟩
 |n+1=>by
  have ih:=okg_z12 T n;refine⟨?_,?_⟩
  ·refine qfn3 (k:=2+n) (sp:=sp_z12 (n+1)) T.F_z12 sc_z12 (by decide) (len_z12 (n+1)) (tb_z12 n) (fun cdv A outer s H E hr=>?_) (rd_z12 n);refine qs_cons (qs_if (qtt_not (qtt_val (qe_inst kit_tuple rfl (qe_var (pv 1)) T.m_isinstance T.m_tuple rfl (by decide) (by decide)))) (qs_one (qs_ret qe_bl)) qs_nil) ?_;refine qs_cons ?_ (qs_cons ?_ (qs_one (qs_ret qe_bl)));refine qs_if (qtt_w ?_) (qs_one (qs_ret ?_)) qs_nil;refine qtw_and (qtt_cmp l_eq (op_eqA hr.units) (qeb_len hr.units T.m_len (qa_cons (qe_var (pv 1)) qa_nil)) qe_int (nomark _)) ?_;refine qtw_and1 (qtt_cmp l_eq (op_eqA hr.units) (qe_ix (qe_var (pv 1)) qe_int) qe_str (nomark _));refine qe_and ?_ (qe_one ?_);refine qe_call ((ok_z10 T).mono (Nat.le_trans (by decide:_≤2) (Nat.le_add_right _ _))) hr T.m_z10 T.F_z10.kp T.b_z10 ?_;refine qa_cons (qe_var (pv 0)) (qa_cons (qe_ix (qe_var (pv 1)) qe_int) qa_nil);refine qe_call ((ok_z14 T).mono (Nat.le_trans (by decide:_≤2) (Nat.le_add_right _ _))) hr T.m_z14 T.F_z14.kp T.b_z14 ?_;refine qa_cons (qe_var (pv 2)) (qa_cons (qe_ix (qe_var (pv 0)) (qe_ix (qe_var (pv 1)) qe_int)) qa_nil);refine qs_if (qtt_w ?_) (qs_one (qs_ret ?_)) qs_nil;refine qtw_and (qtt_cmp l_eq (op_eqA hr.units) (qeb_len hr.units T.m_len (qa_cons (qe_var (pv 1)) qa_nil)) qe_int (nomark _)) ?_;refine qtw_and1 (qtt_cmp l_eq (op_eqA hr.units) (qe_ix (qe_var (pv 1)) qe_int) qe_str (nomark _));refine qe_call (ih.2.mono (Nat.le_refl _)) hr T.m_z6 T.F_z6.kp T.b_z6 ?_;refine qa_cons (qe_var (pv 0)) (qa_cons (qe_ix (qe_var (pv 1)) qe_int) (qa_cons (qe_ix (qe_var (pv 1)) qe_int) (qa_cons (qe_var (pv 2)) qa_nil)))
  ·refine qfn3 (k:=2+n) (sp:=sp_z6 (n+1)) T.F_z6 sc_z6 (by decide) (len_z6 (n+1)) (tb_z6 n) (fun cdv A outer s H E hr=>?_) (rd_z6 n);refine qs_cons (qs_if (qtt_not (qtt_val ?_)) (qs_one (qs_ret qe_bl)) qs_nil) (qs_cons ?_ (qs_one (qs_ret qe_bl)));refine qe_call ((ok_z1 T).mono (Nat.le_trans (by decide:_≤2) (Nat.le_add_right _ _))) hr T.m_z1 T.F_z1.kp T.b_z1 ?_;refine qa_cons (qe_var (pv 1)) (qa_cons (qe_var (pv 2)) qa_nil);refine qs_for PassesOwn.never rfl (qi_zip T.m_zip (qa_cons (qe_var (pv 2)) (qa_cons ?_ qa_nil))) ?_ ?_;refine qe_call ((ok_z19 T).mono (Nat.le_trans (by decide:_≤2) (Nat.le_add_right _ _))) hr T.m_z19 T.F_z19.kp T.b_z19 ?_;refine qa_cons (qe_var (pv 3)) (qa_cons (qe_var (pv 1)) qa_nil);refine qh_tup rfl (qhs_cons (qh_name (i:=4) sc_z6.nd) (qhs_cons (qh_name (i:=5) sc_z6.nd) qhs_nil));refine qs_one (qs_if (qtt_not (qtt_val ?_)) (qs_one (qs_ret qe_bl)) qs_nil);refine qe_call (ih.1.mono (Nat.le_refl _)) hr T.m_z12 T.F_z12.kp T.b_z12 ?_;refine qa_cons (qe_var (pv 0)) (qa_cons (qe_var (pv 4)) (qa_cons (qe_var (pv 5)) qa_nil))
theorem ok_z12(T:Txt K mg t):FnOk3 P w K mg base 42 t.f_z12 t.d_z12 ["clocks","thing","clock"] (sp_z12 40):=(okg_z12 T 40).1
theorem len_z0:∀ds G Q,sp_z0 ds G Q->ds.length=2:=by
 intro ds G Q h;obtain⟨_,_,rfl,_⟩:=h;rfl
theorem ok_z0(T:Txt K mg t):FnOk3 P w K mg base 43 t.f_z0 t.d_z0 ["clocks","thing"] sp_z0:=by
 refine qfn3 (k:=42) (sp:=sp_z0) T.F_z0 sc_z0 (by decide) len_z0 tb_z0 (fun cdv A outer s H E hr=>?_) rd_z0;refine qs_one (qs_ret ?_);refine qe_call ((ok_z12 T).mono (by decide)) hr T.m_z12 T.F_z12.kp T.b_z12 ?_;refine qa_cons (qe_var (pv 0)) (qa_cons (qe_var (pv 1)) (qa_cons (qe_tup (qa_cons qe_int (qa_cons qe_int qa_nil))) qa_nil))
theorem len_z7:∀ds G Q,sp_z7 ds G Q->ds.length=2:=by
 intro ds G Q h;obtain⟨_,_,rfl,_⟩:=h;rfl
theorem ok_z7(T:Txt K mg t):FnOk3 P w K mg base 1 t.f_z7 t.d_z7 ["script","k"] sp_z7:=by
 refine qfn3 (k:=0) (sp:=sp_z7) T.F_z7 sc_z7 (by decide) len_z7 tb_z7 (fun cdv A outer s H E hr=>?_) rd_z7;refine qs_cons ?_ (qs_one (qs_ret qe_int));refine qs_if (qtt_cmp l_ltT (op_ltA hr.units0) (qe_var (pv 1)) (qeb_len hr.units T.m_len (qa_cons (qe_var (pv 0)) qa_nil)) (nomark _)) ?_ qs_nil;refine qs_one (qs_ret (qe_ix (qe_var (pv 0)) (qe_var (pv 1))))
theorem len_z20:∀ds G Q,sp_z20 ds G Q->ds.length=1:=by
 intro ds G Q h;obtain⟨_,rfl,_⟩:=h;rfl
theorem ok_z20(T:Txt K mg t):FnOk3 P w K mg base 1 t.f_z20 t.d_z20 ["seed"] sp_z20:=by
 refine qfn3 (k:=0) (sp:=sp_z20) T.F_z20 sc_z20 (by decide) len_z20 tb_z20 (fun cdv A outer s H E hr=>?_) rd_z20;refine qs_cons (qs_set (i:=0) sc_z20.nd (qe_op l_mod op_mod (qe_op l_add op_addA (qe_var (pv 0)) qe_int) qe_int)) ?_;refine qs_one (qs_ret (qe_op l_mod op_mod ?_ qe_int));refine qe_op l_add op_addA (qe_op l_add op_addA (qe_op l_mul op_mulA (qe_var (pv 0)) (qe_var (pv 0))) (qe_op l_mul op_mulA qe_int (qe_var (pv 0)))) qe_int
theorem len_z8:∀ds G Q,sp_law_pen_of0 ds G Q->ds.length=1:=by
 intro ds G Q h;obtain⟨_,rfl,_⟩:=h;rfl
theorem ok_z8(T:Txt K mg t):FnOk3 P w K mg base 1 t.f_z8 t.d_z8 ["cell"] sp_z8:=by
 refine FnOk.imp ?_ pen_imp;refine qfn3 (k:=0) (sp:=sp_law_pen_of0) T.F_z8 sc_z8 (by decide) len_z8 tb_z8 (fun cdv A outer s H E hr=>?_) rd_law_pen_of0;refine qs_cons (qs_set (i:=1) sc_z8.nd (qeb_max hr.units T.m_max (qa_cons (qe_var (pv 0)) (qa_cons (qe_op l_sub op_sub qe_int (qe_var (pv 0))) qa_nil)))) ?_;refine qs_one (qs_ret (qe_lst (qa_cons (qe_var (pv 1)) ?_)));refine qa_cons (qeb_int hr.units T.m_int (qa_cons (qe_cmp l_ge op_ge (qe_var (pv 1)) (qe_op l_pow op_pow qe_int qe_int) (nomark _)) qa_nil)) ?_;refine qa_cons (qe_op l_mod op_mod (qe_var (pv 1)) qe_int) qa_nil
theorem len_z21:∀ds G Q,sp_law_draw0 ds G Q->ds.length=2:=by
 intro ds G Q h;obtain⟨_,_,_,_,_,rfl,_⟩:=h;rfl
theorem ok_z21(T:Txt K mg t):FnOk3 P w K mg base 2 t.f_z21 t.d_z21 ["pen","many"] sp_z21:=by
 refine FnOk.imp ?_ draw_imp;refine qfn3 (k:=1) (sp:=sp_law_draw0) T.F_z21 sc_z21 (by decide) len_z21 tb_z21 (fun cdv A outer s H E hr=>?_) rd_law_draw0;refine qs_cons ?_ ?_;refine qs_if (qtt_cmp l_eq (op_eqA hr.units) (qe_ix (qe_var (pv 0)) qe_int) qe_int (nomark _)) ?_ qs_nil;refine qs_cons (qs_set (i:=2) sc_z21.nd (qe_op l_mod op_mod (qe_ix (qe_var (pv 0)) qe_int) (qe_var (pv 1)))) ?_;refine qs_cons (qs_asg (qe_op l_div op_fdivB (qe_ix (qe_var (pv 0)) qe_int) (qe_var (pv 1))) (qh_sub (qe_var (pv 0)) qe_int)) (qs_one (qs_ret (qe_var (pv 2))));refine qs_cons (qs_asg ?_ (qh_sub (qe_var (pv 0)) qe_int)) ?_;refine qe_call ((ok_z20 T).mono (by decide)) hr T.m_z20 T.F_z20.kp T.b_z20 (qa_cons ?_ qa_nil);refine qe_op l_add op_addA (qe_call ((ok_z20 T).mono (by decide)) hr T.m_z20 T.F_z20.kp T.b_z20 (qa_cons (qe_ix (qe_var (pv 0)) qe_int) qa_nil)) (qe_int);refine qs_one (qs_ret (qe_op l_mod op_mod (qe_op l_div op_fdivB (qe_ix (qe_var (pv 0)) qe_int) qe_int) (qe_var (pv 1))))
theorem len_z13:∀ds G Q,sp_z13 ds G Q->ds.length=1:=by
 intro ds G Q h
 first
  | (rcases ds with _|⟨_,_|⟨_,_|⟨_,_|⟨_,_⟩⟩⟩⟩<;>first|rfl|exact h.elim)
  | (obtain⟨rfl,_⟩:=h;rfl)
  | (obtain⟨_,rfl,_⟩:=h;rfl)
  | (obtain⟨_,_,rfl,_⟩:=h;rfl)
  | (obtain⟨_,_,_,rfl,_⟩:=h;rfl)
  | (obtain⟨_,_,_,_,rfl,_⟩:=h;rfl)
  | (obtain⟨_,_,_,_,_,rfl,_⟩:=h;rfl)
  | (obtain⟨_,_,_,_,_,_,rfl,_⟩:=h;rfl)
  | (obtain⟨_,_,_,_,_,_,_,rfl,_⟩:=h;rfl)
  | (obtain⟨_,_,_,_,_,_,_,_,rfl,_⟩:=h;rfl)
theorem ok_z13(T:Txt K mg t):FnOk3 P w K mg base 1 t.f_z13 t.d_z13 ["found"] sp_z13:=by
 refine qfn3 (k:=0) (sp:=sp_z13) T.F_z13 sc_z13 (by decide) len_z13 tb_z13 (fun cdv A outer s H E hr=>?_) rd_z13;refine qs_one (qs_ret ?_);refine qe_and (qe_inst kit_int rfl (qe_var (pv 0)) T.m_isinstance T.m_int rfl (by decide) (by decide)) ?_;refine qe_one (qe_not (qe_inst kit_bool rfl (qe_var (pv 0)) T.m_isinstance T.m_bool rfl (by decide) (by decide)))
theorem len_z22:∀ds G Q,sp_z22 ds G Q->ds.length=2:=by
 intro ds G Q h
 first
  | (rcases ds with _|⟨_,_|⟨_,_|⟨_,_|⟨_,_⟩⟩⟩⟩<;>first|rfl|exact h.elim)
  | (obtain⟨rfl,_⟩:=h;rfl)
  | (obtain⟨_,rfl,_⟩:=h;rfl)
  | (obtain⟨_,_,rfl,_⟩:=h;rfl)
  | (obtain⟨_,_,_,rfl,_⟩:=h;rfl)
  | (obtain⟨_,_,_,_,rfl,_⟩:=h;rfl)
  | (obtain⟨_,_,_,_,_,rfl,_⟩:=h;rfl)
  | (obtain⟨_,_,_,_,_,_,rfl,_⟩:=h;rfl)
  | (obtain⟨_,_,_,_,_,_,_,rfl,_⟩:=h;rfl)
  | (obtain⟨_,_,_,_,_,_,_,_,rfl,_⟩:=h;rfl)
theorem ok_z22(T:Txt K mg t):FnOk3 P w K mg base 1 t.f_z22 t.d_z22 ["one","other"] sp_z22:=by
 refine qfn3 (k:=0) (sp:=sp_z22) T.F_z22 sc_z22 (by decide) len_z22 tb_z22 (fun cdv A outer s H E hr=>?_) rd_z22;refine qs_cons ?_ (qs_one (qs_ret (qe_var (pv 0))));refine qs_while PassesOwn.never (qtt_cmp l_gt op_gt (qe_var (pv 1)) qe_int (nomark _)) ?_;refine qs_one (qs_par (i:=0) (j:=1) rfl sc_z22.nd rfl rfl (by decide) rfl rfl ?_ rfl);refine qa_cons (qe_var (pv 1)) (qa_cons (qe_op l_mod op_mod (qe_var (pv 0)) (qe_var (pv 1))) qa_nil)
theorem len_z16:∀ds G Q,sp_z16 ds G Q->ds.length=2:=by
 intro ds G Q h;obtain⟨_,_,rfl,_⟩:=h;rfl
theorem ok_z16(T:Txt K mg t):FnOk3 P w K mg base 3 t.f_z16 t.d_z16 ["pen","times"] sp_z16:=by
 refine qfn3 (k:=2) (sp:=sp_z16) T.F_z16 sc_z16 (by decide) len_z16 tb_z16 (fun cdv A outer s H E hr=>?_) rd_z16;refine qs_cons (qs_set (i:=2) sc_z16.nd (qe_lst (qa_cons (qe_tup (qa_cons qe_int (qa_cons qe_int qa_nil))) qa_nil))) ?_;refine qs_cons ?_ (qs_one (qs_ret (qe_var (pv 2))));refine qs_for PassesOwn.never rfl (qi_rng1 T.m_range (qa_cons (qe_var (pv 1)) qa_nil)) (qh_name (i:=3) sc_z16.nd) ?_;refine qs_cons (qs_set (i:=4) sc_z16.nd ?_) ?_;refine qe_call ((ok_z21 T).mono (by decide)) hr T.m_z21 T.F_z21.kp T.b_z21 ?_;refine qa_cons (qe_var (pv 0)) (qa_cons (qeb_len hr.units T.m_len (qa_cons (qe_var (pv 2)) qa_nil)) qa_nil);refine qs_cons ?_ ?_;refine qs_set (i:=5) sc_z16.nd (qe_lstIx (qa_cons qe_int (qa_cons qe_int (qa_cons qe_int qa_nil))) ?_);refine qe_call ((ok_z21 T).mono (by decide)) hr T.m_z21 T.F_z21.kp T.b_z21 (qa_cons (qe_var (pv 0)) (qa_cons qe_int qa_nil));refine qs_cons ?_ (qs_one ?_);refine qs_asg (qe_ix (qe_var (pv 2)) (qe_var (pv 4))) (qh_tup rfl (qhs_cons (qh_name (i:=6) sc_z16.nd) (qhs_cons (qh_name (i:=7) sc_z16.nd) qhs_nil)));refine qs_if (qtt_w ?_) (qs_one (qs_set (i:=2) sc_z16.nd ?_)) qs_nil;refine qtw_and (qtt_cmp l_ltT (op_ltA hr.units0) (qe_op l_add op_addA (qeb_len hr.units T.m_len (qa_cons (qe_var (pv 2)) qa_nil)) (qe_var (pv 5))) qe_int (nomark _)) ?_;refine qtw_and1 (qtt_cmp l_ltT (op_ltA hr.units0) (qe_op l_mul op_mulA (qe_var (pv 6)) (qe_var (pv 5))) qe_int (nomark _));refine qe_op l_add op_addA ?_ (qe_sl (qe_var (pv 2)) (qo_some (qe_op l_add op_addA (qe_var (pv 4)) qe_int)) qo_none);refine qe_op l_add op_addA (qe_sl (qe_var (pv 2)) qo_none (qo_some (qe_var (pv 4)))) ?_;refine qe_comp rfl (show CmpOk nm_z16 (defScope st_z16) _ ["part"] [6,5,7] from⟨rfl,by decide +kernel,by decide +kernel,by decide +kernel,by decide +kernel,by decide +kernel⟩) ?_ ?_;refine qi_rng1 T.m_range (qa_cons (qe_var (pv 5)) qa_nil);intro s0 H0 fp0;refine⟨(qh_name (i:=0) (show (["part","step","k","rest"]:List Str).Nodup by decide +kernel)),qct_nil,?_⟩;refine qe_tup (qa_cons (qe_op l_mul op_mulA (qe_var (pv 1)) (qe_var (pv 2))) ?_);refine qa_cons (qe_op l_add op_addA (qe_var (pv 3)) (qe_op l_mul op_mulA (qe_var (pv 1)) (qe_var (pv 0)))) qa_nil
theorem len_z3:∀ds G Q,sp_z3 ds G Q->ds.length=1:=by
 intro ds G Q h;obtain⟨_,rfl,_⟩:=h;rfl
theorem ok_z3(T:Txt K mg t):FnOk3 P w K mg base 4 t.f_z3 t.d_z3 ["pen"] sp_z3:=by
 refine qfn3 (k:=3) (sp:=sp_z3) T.F_z3 sc_z3 (by decide) len_z3 tb_z3 (fun cdv A outer s H E hr=>?_) rd_z3;refine qs_cons (qs_set (i:=1) sc_z3.nd ?_) (qs_cons (qs_set (i:=2) sc_z3.nd (qe_lst qa_nil)) ?_);refine qe_call ((ok_z21 T).mono (by decide)) hr T.m_z21 T.F_z21.kp T.b_z21 (qa_cons (qe_var (pv 0)) (qa_cons qe_int qa_nil));refine qs_cons ?_ ?_;refine qs_if (qtt_cmp l_ltT (op_ltA hr.units0) (qe_var (pv 1)) qe_int (nomark _)) ?_ qs_nil;refine qs_cons (qs_set (i:=2) sc_z3.nd ?_) (qs_one ?_);refine qe_call ((ok_z16 T).mono (by decide)) hr T.m_z16 T.F_z16.kp T.b_z16 (qa_cons (qe_var (pv 0)) ?_);refine qa_cons (qe_call ((ok_z21 T).mono (by decide)) hr T.m_z21 T.F_z21.kp T.b_z21 (qa_cons (qe_var (pv 0)) (qa_cons qe_int qa_nil))) qa_nil;refine qs_if (qtt_w ?_) (qs_one (qs_expr ?_)) qs_nil;refine qtw_and (qtt_cmp l_eq (op_eqA hr.units) (qe_var (pv 1)) qe_int (nomark _)) (qtw_and1 (qtt_cmp l_ne (op_neA hr.units) (qe_var (pv 2)) (qe_lst qa_nil) (nomark _)));refine qe_mth l_mpop PySem.F.slot_list_pop PySem.F.type_list_pop mt_popAt (qe_var (pv 2)) (qa_cons ?_ qa_nil);refine qe_call ((ok_z21 T).mono (by decide)) hr T.m_z21 T.F_z21.kp T.b_z21 ?_;refine qa_cons (qe_var (pv 0)) (qa_cons (qeb_len hr.units T.m_len (qa_cons (qe_var (pv 2)) qa_nil)) qa_nil);refine qs_cons (qs_set (i:=3) sc_z3.nd (qe_lst (qa_cons qe_int ?_))) ?_;refine qa_cons qe_int (qa_cons qe_int (qa_cons qe_int (qa_cons qe_int (qa_cons qe_int (qa_cons qe_int (qa_cons qe_int (qa_cons qe_int (qa_cons qe_int qa_nil))))))));refine qs_cons ?_ ?_;refine qs_for PassesOwn.never rfl (qi_rng1 T.m_range ?_) (qh_name (i:=4) sc_z3.nd) ?_;refine qa_cons (qe_lstIx (qa_cons qe_int (qa_cons qe_int (qa_cons qe_int (qa_cons qe_int (qa_cons qe_int (qa_cons qe_int qa_nil)))))) (qe_var (pv 1))) qa_nil;refine qs_cons (qs_set (i:=5) sc_z3.nd ?_) (qs_one (qs_expr ?_));refine qe_ix (qe_var (pv 3)) (qe_call ((ok_z21 T).mono (by decide)) hr T.m_z21 T.F_z21.kp T.b_z21 (qa_cons (qe_var (pv 0)) (qa_cons qe_int qa_nil)));refine qe_mth l_mappend PySem.F.slot_list_append PySem.F.type_list_append mt_append (qe_var (pv 2)) (qa_cons (qe_tup (qa_cons (qe_var (pv 5)) ?_)) qa_nil);refine qa_cons (qe_call ((ok_z21 T).mono (by decide)) hr T.m_z21 T.F_z21.kp T.b_z21 (qa_cons (qe_var (pv 0)) (qa_cons (qe_var (pv 5)) qa_nil))) (qa_nil);refine qs_one (qs_ret (qeb_tuple hr.units T.m_tuple (qa_cons (qe_sl (qe_sortSet hr.units (qe_var (pv 2)) T.m_sorted T.m_set) qo_none (qo_some qe_int)) qa_nil)))
theorem len_z5:∀ds G Q,sp_z5 ds G Q->ds.length=2:=by
 intro ds G Q h
 first
  | (rcases ds with _|⟨_,_|⟨_,_|⟨_,_|⟨_,_⟩⟩⟩⟩<;>first|rfl|exact h.elim)
  | (obtain⟨rfl,_⟩:=h;rfl)
  | (obtain⟨_,rfl,_⟩:=h;rfl)
  | (obtain⟨_,_,rfl,_⟩:=h;rfl)
  | (obtain⟨_,_,_,rfl,_⟩:=h;rfl)
  | (obtain⟨_,_,_,_,rfl,_⟩:=h;rfl)
  | (obtain⟨_,_,_,_,_,rfl,_⟩:=h;rfl)
  | (obtain⟨_,_,_,_,_,_,rfl,_⟩:=h;rfl)
  | (obtain⟨_,_,_,_,_,_,_,rfl,_⟩:=h;rfl)
  | (obtain⟨_,_,_,_,_,_,_,_,rfl,_⟩:=h;rfl)
theorem ok_z5(T:Txt K mg t):FnOk3 P w K mg base 1 t.f_z5 t.d_z5 ["clock","k"] sp_z5:=by
 refine qfn3 (k:=0) (sp:=sp_z5) T.F_z5 sc_z5 (by decide) len_z5 tb_z5 (fun cdv A outer s H E hr=>?_) rd_z5;refine qs_one (qs_ret ?_);refine qe_comp rfl (show CmpOk nm_z5 (defScope st_z5) _ ["part"] [0,1] from⟨rfl,by decide +kernel,by decide +kernel,by decide +kernel,by decide +kernel,by decide +kernel⟩) ?_ ?_;refine qi_rng1 T.m_range (qa_cons (qe_var (pv 1)) qa_nil);intro s0 H0 fp0;refine⟨(qh_name (i:=0) (show (["part","clock","k"]:List Str).Nodup by decide +kernel)),qct_nil,?_⟩;refine qe_tup (qa_cons (qe_op l_mul op_mulA (qe_ix (qe_var (pv 1)) qe_int) (qe_var (pv 2))) ?_);refine qa_cons (qe_op l_add op_addA (qe_ix (qe_var (pv 1)) qe_int) (qe_op l_mul op_mulA (qe_ix (qe_var (pv 1)) qe_int) (qe_var (pv 0)))) qa_nil
theorem len_z9:∀ds G Q,sp_z9 ds G Q->ds.length=2:=by
 intro ds G Q h;obtain⟨_,_,rfl,_⟩:=h;rfl
theorem ok_z9(T:Txt K mg t):FnOk3 P w K mg base 1 t.f_z9 t.d_z9 ["clock","other"] sp_z9:=by
 refine qfn3 (k:=0) (sp:=sp_z9) T.F_z9 sc_z9 (by decide) len_z9 tb_z9 (fun cdv A outer s H E hr=>?_) rd_z9;refine qs_one (qs_ret ?_);refine qe_and (qe_cmp l_eq (op_eqA hr.units) (qe_op l_mod op_mod (qe_ix (qe_var (pv 0)) qe_int) (qe_ix (qe_var (pv 1)) qe_int)) qe_int (nomark _)) ?_;refine qe_one (qe_cmp l_eq (op_eqA hr.units) ?_ qe_int (nomark _));refine qe_op l_mod op_mod (qe_op l_sub op_sub (qe_ix (qe_var (pv 0)) qe_int) (qe_ix (qe_var (pv 1)) qe_int)) (qe_ix (qe_var (pv 1)) qe_int)
theorem len_z4(n:Nat):∀ds G Q,sp_z4 n ds G Q->ds.length=4:=by
 intro ds G Q h;obtain⟨_,_,_,_,rfl,_⟩:=h;rfl
theorem okg_z4(T:Txt K mg t):∀n:Nat,FnOk3 P w K mg base (2+n) t.f_z4 t.d_z4 ["pen","clocks","clock","deep"] (sp_z4 n)
 |0=>fn3_none no_z4
 |n+1=>by
  have ih:=okg_z4 T n
  ·refine qfn3 (k:=2+n) (sp:=sp_z4 (n+1)) T.F_z4 sc_z4 (by decide) (len_z4 (n+1)) (tb_z4 n) (fun cdv A outer s H E hr=>?_) (rd_z4 n);refine qs_cons ?_ ?_;refine qs_for PassesOwn.never rfl (qi_rng1 T.m_range (qa_cons (qeb_len hr.units T.m_len (qa_cons (qe_var (pv 1)) qa_nil)) qa_nil)) (qh_name (i:=4) sc_z4.nd) ?_;refine qs_one ?_;refine qs_if (qtt_val ?_) (qs_one (qs_ret (qe_tup (qa_cons qe_str (qa_cons (qe_var (pv 4)) qa_nil))))) qs_nil;refine qe_call ((ok_z9 T).mono (Nat.le_trans (by decide:_≤2) (Nat.le_add_right _ _))) hr T.m_z9 T.F_z9.kp T.b_z9 ?_;refine qa_cons (qe_var (pv 2)) (qa_cons (qe_ix (qe_var (pv 1)) (qe_var (pv 4))) qa_nil);refine qs_cons (qs_if (qtt_cmp l_eq (op_eqA hr.units) (qe_var (pv 3)) qe_int (nomark _)) (qs_one (qs_ret qe_non)) qs_nil) ?_;refine qs_cons (qs_set (i:=5) sc_z4.nd ?_) ?_;refine qe_comp rfl (show CmpOk nm_z4 (defScope st_z4) _ ["other"] [2] from⟨rfl,by decide +kernel,by decide +kernel,by decide +kernel,by decide +kernel,by decide +kernel⟩) ?_ ?_;refine qi_seq (qe_var (pv 1));intro s0 H0 fp0;refine⟨(qh_name (i:=0) (show (["other","clock"]:List Str).Nodup by decide +kernel)),qct_nil,(qe_op l_div op_fdivB (qe_ix (qe_var (pv 0)) qe_int) ?_)⟩;refine qe_call ((ok_z22 T).mono (Nat.le_trans (by decide:_≤2) (Nat.le_add_right _ _))) hr T.m_z22 T.F_z22.kp T.b_z22 ?_;refine qa_cons (qe_ix (qe_var (pv 0)) qe_int) (qa_cons (qe_ix (qe_var (pv 1)) qe_int) qa_nil);refine qs_cons ?_ ?_;refine qs_setCompZ (i:=6) rfl sc_z4.nd (show CmpOkC nm_z4 (defScope st_z4) _ ["k"] [5] "k" from⟨rfl,by decide +kernel,by decide +kernel,fun _ _=>rfl,fun _=>rfl,by decide +kernel,by decide +kernel,by decide +kernel,by decide +kernel⟩) ?_ ?_;refine qi_seq (qe_lst (qa_cons qe_int (qa_cons qe_int (qa_cons qe_int qa_nil))));intro s0 H0 fp0;refine⟨(qh_name (i:=0) (show (["k","steps"]:List Str).Nodup by decide +kernel)),(qct_one (qtt_val (qeb_any hr.units T.m_any (qa_cons ?_ qa_nil)))),?_⟩;refine qe_comp rfl (cmpOk_in (fsc:=defScope st_z4) (N2:=["k","steps"]) rfl rfl ⟨rfl,by decide +kernel,by decide +kernel,by decide +kernel,by decide +kernel,by decide +kernel⟩) ?_ ?_;refine qi_seq (qe_var (pv 1));intro s0 H0 fp0;refine⟨(qh_name (i:=0) (show (["step","k"]:List Str).Nodup by decide +kernel)),qct_nil,?_⟩;refine qe_cmp l_eq (op_eqA hr.units) (qe_op l_mod op_mod (qe_var (pv 0)) (qe_var (pv 1))) qe_int (nomark _);refine qe_var (pv 0);refine qs_cons (qs_if (qtt_cmp l_eq (op_eqA hr.units) (qe_var (pv 6)) (qe_lst qa_nil) (nomark _)) (qs_one (qs_ret qe_non)) qs_nil) ?_;refine qs_cons (qs_set (i:=7) sc_z4.nd (qe_ix (qe_var (pv 6)) ?_)) (qs_cons (qs_set (i:=8) sc_z4.nd (qe_lst qa_nil)) ?_);refine qe_call ((ok_z21 T).mono (Nat.le_trans (by decide:_≤2) (Nat.le_add_right _ _))) hr T.m_z21 T.F_z21.kp T.b_z21 ?_;refine qa_cons (qe_var (pv 0)) (qa_cons (qeb_len hr.units T.m_len (qa_cons (qe_var (pv 6)) qa_nil)) qa_nil);refine qs_cons ?_ ?_;refine qs_for PassesOwn.never rfl (qi_seq ?_) (qh_name (i:=9) sc_z4.nd) (qs_one ?_);refine qe_call ((ok_z5 T).mono (Nat.le_trans (by decide:_≤2) (Nat.le_add_right _ _))) hr T.m_z5 T.F_z5.kp T.b_z5 ?_
   refine qa_cons (qe_var (pv 2)) (qa_cons (qe_var (pv 7)) qa_nil);refine qs_if (qtt_cmp l_nin (op_ninA hr.units) qe_non (qe_var (pv 8)) (by with_unfolding_all rfl)) (qs_one (qs_expr ?_)) qs_nil;refine qe_mth l_mappend PySem.F.slot_list_append PySem.F.type_list_append mt_append (qe_var (pv 8)) (qa_cons ?_ qa_nil);refine qe_call (ih.mono (Nat.le_refl _)) hr T.m_z4 T.F_z4.kp T.b_z4 ?_;refine qa_cons (qe_var (pv 0)) (qa_cons (qe_var (pv 1)) (qa_cons (qe_var (pv 9)) (qa_cons (qe_op l_sub op_sub (qe_var (pv 3)) qe_int) qa_nil)));refine qs_cons (qs_if (qtt_cmp l_in (op_inA hr.units) qe_non (qe_var (pv 8)) (by with_unfolding_all rfl)) (qs_one (qs_ret qe_non)) qs_nil) ?_;refine qs_one (qs_ret (qe_tup (qa_cons qe_str (qa_cons (qe_var (pv 7)) (qa_cons (qeb_tuple hr.units T.m_tuple (qa_cons (qe_var (pv 8)) qa_nil)) qa_nil)))))
theorem ok_z4(T:Txt K mg t):FnOk3 P w K mg base 42 t.f_z4 t.d_z4 ["pen","clocks","clock","deep"] (sp_z4 40):=(okg_z4 T 40)
theorem len_z2(n:Nat):∀ds G Q,sp_z2 n ds G Q->ds.length=3:=by
 intro ds G Q h
 first
  | (rcases ds with _|⟨_,_|⟨_,_|⟨_,_|⟨_,_⟩⟩⟩⟩<;>first|rfl|exact h.elim)
  | (obtain⟨rfl,_⟩:=h;rfl)
  | (obtain⟨_,rfl,_⟩:=h;rfl)
  | (obtain⟨_,_,rfl,_⟩:=h;rfl)
  | (obtain⟨_,_,_,rfl,_⟩:=h;rfl)
  | (obtain⟨_,_,_,_,rfl,_⟩:=h;rfl)
  | (obtain⟨_,_,_,_,_,rfl,_⟩:=h;rfl)
  | (obtain⟨_,_,_,_,_,_,rfl,_⟩:=h;rfl)
  | (obtain⟨_,_,_,_,_,_,_,rfl,_⟩:=h;rfl)
  | (obtain⟨_,_,_,_,_,_,_,_,rfl,_⟩:=h;rfl)
theorem okg_z2(T:Txt K mg t):∀n:Nat,FnOk3 P w K mg base (1+n) t.f_z2 t.d_z2 ["clocks","clock","thing"] (sp_z2 n)
 |0=>fn3_none no_z2
 |n+1=>by
  have ih:=okg_z2 T n
  ·refine qfn3 (k:=1+n) (sp:=sp_z2 (n+1)) T.F_z2 sc_z2 (by decide) (len_z2 (n+1)) (tb_z2 n) (fun cdv A outer s H E hr=>?_) (rd_z2 n);refine qs_cons (qs_if (qtt_w ?_) (qs_one (qs_ret qe_bl)) qs_nil) ?_;refine qtw_or (qtt_not (qtt_val (qe_inst kit_tuple rfl (qe_var (pv 2)) T.m_isinstance T.m_tuple rfl (by decide) (by decide)))) ?_;refine qtw_or (qtt_cmp l_ltT (op_ltA hr.units0) (qeb_len hr.units T.m_len (qa_cons (qe_var (pv 2)) qa_nil)) qe_int (nomark _)) ?_;refine qtw_or1 (qtt_not (qtt_val (qe_inst kit_str rfl (qe_ix (qe_var (pv 2)) qe_int) T.m_isinstance T.m_str rfl (by decide) (by decide))));refine qs_cons ?_ ?_;refine qs_if (qtt_cmp l_eq (op_eqA hr.units) (qe_ix (qe_var (pv 2)) qe_int) qe_str (nomark _)) ?_ qs_nil;refine qs_cons (qs_if (qtt_w ?_) (qs_one (qs_ret qe_bl)) qs_nil) (qs_one (qs_ret ?_));refine qtw_or (qtt_cmp l_ne (op_neA hr.units) (qeb_len hr.units T.m_len (qa_cons (qe_var (pv 2)) qa_nil)) qe_int (nomark _)) ?_;refine qtw_or (qtt_not (qtt_val ?_)) ?_;refine qe_call ((ok_z13 T).mono (Nat.le_trans (by decide:_≤1) (Nat.le_add_right _ _))) hr T.m_z13 T.F_z13.kp T.b_z13 ?_;refine qa_cons (qe_ix (qe_var (pv 2)) qe_int) qa_nil;refine qtw_or1 (qtt_inRng1N (qe_ix (qe_var (pv 2)) qe_int) T.m_range (qa_cons (qeb_len hr.units T.m_len (qa_cons (qe_var (pv 0)) qa_nil)) qa_nil));refine qe_call ((ok_z9 T).mono (Nat.le_trans (by decide:_≤1) (Nat.le_add_right _ _))) hr T.m_z9 T.F_z9.kp T.b_z9 ?_;refine qa_cons (qe_var (pv 1)) (qa_cons (qe_ix (qe_var (pv 0)) (qe_ix (qe_var (pv 2)) qe_int)) qa_nil);refine qs_cons (qs_if (qtt_w ?_) (qs_one (qs_ret qe_bl)) qs_nil) ?_;refine qtw_or (qtt_cmp l_ne (op_neA hr.units) (qe_ix (qe_var (pv 2)) qe_int) qe_str (nomark _)) ?_;refine qtw_or (qtt_cmp l_ne (op_neA hr.units) (qeb_len hr.units T.m_len (qa_cons (qe_var (pv 2)) qa_nil)) qe_int (nomark _)) ?_;refine qtw_or (qtt_not (qtt_val ?_)) (qtw_or1 (qtt_cmp l_ltT (op_ltA hr.units0) (qe_ix (qe_var (pv 2)) qe_int) qe_int (nomark _)));refine qe_call ((ok_z13 T).mono (Nat.le_trans (by decide:_≤1) (Nat.le_add_right _ _))) hr T.m_z13 T.F_z13.kp T.b_z13 ?_;refine qa_cons (qe_ix (qe_var (pv 2)) qe_int) qa_nil;refine qs_cons (qs_if (qtt_w ?_) (qs_one (qs_ret qe_bl)) qs_nil) ?_;refine qtw_or (qtt_not (qtt_val (qe_inst kit_tuple rfl (qe_ix (qe_var (pv 2)) qe_int) T.m_isinstance T.m_tuple rfl (by decide) (by decide)))) ?_;refine qtw_or1 (qtt_cmp l_ne (op_neA hr.units) (qeb_len hr.units T.m_len (qa_cons (qe_ix (qe_var (pv 2)) qe_int) qa_nil)) (qe_ix (qe_var (pv 2)) qe_int) (nomark _));refine qs_cons (qs_set (i:=3) sc_z2.nd ?_) (qs_one (qs_ret (qeb_all hr.units T.m_all (qa_cons ?_ qa_nil))));refine qe_call ((ok_z5 T).mono (Nat.le_trans (by decide:_≤1) (Nat.le_add_right _ _))) hr T.m_z5 T.F_z5.kp T.b_z5 ?_;refine qa_cons (qe_var (pv 1)) (qa_cons (qe_ix (qe_var (pv 2)) qe_int) qa_nil);refine qe_comp rfl (show CmpOk nm_z2 (defScope st_z2) _ ["k"] [0,3,2] from⟨rfl,by decide +kernel,by decide +kernel,by decide +kernel,by decide +kernel,by decide +kernel⟩) ?_ ?_;refine qi_rng1 T.m_range (qa_cons (qeb_len hr.units T.m_len (qa_cons (qe_var (pv 3)) qa_nil)) qa_nil)
   intro s0 H0 fp0;refine⟨(qh_name (i:=0) (show (["k","clocks","parts","thing"]:List Str).Nodup by decide +kernel)),qct_nil,?_⟩;refine qe_call (ih.mono (Nat.le_refl _)) hr T.m_z2 T.F_z2.kp T.b_z2 ?_;refine qa_cons (qe_var (pv 1)) (qa_cons (qe_ix (qe_var (pv 2)) (qe_var (pv 0))) (qa_cons (qe_ix (qe_ix (qe_var (pv 3)) qe_int) (qe_var (pv 0))) qa_nil))
theorem ok_z2(T:Txt K mg t):FnOk3 P w K mg base 41 t.f_z2 t.d_z2 ["clocks","clock","thing"] (sp_z2 40):=(okg_z2 T 40)
theorem len_z17:∀ds G Q,sp_z17 ds G Q->ds.length=2:=by
 intro ds G Q h;obtain⟨_,_,rfl,_⟩:=h;rfl
theorem ok_z17(T:Txt K mg t):FnOk3 P w K mg base 3 t.f_z17 t.d_z17 ["pen","clocks"] sp_z17:=by
 refine qfn3 (k:=2) (sp:=sp_z17) T.F_z17 sc_z17 (by decide) len_z17 tb_z17 (fun cdv A outer s H E hr=>?_) rd_z17;refine qs_cons (qs_set (i:=2) sc_z17.nd ?_) ?_;refine qe_call ((ok_z21 T).mono (by decide)) hr T.m_z21 T.F_z21.kp T.b_z21 ?_;refine qa_cons (qe_var (pv 0)) (qa_cons (qe_op l_add op_addA (qeb_len hr.units T.m_len (qa_cons (qe_var (pv 1)) qa_nil)) qe_int) qa_nil);refine qs_cons ?_ ?_;refine qs_set (i:=3) sc_z17.nd (qe_lst (qa_cons (qe_tup (qa_cons qe_str (qa_cons (qe_var (pv 2)) qa_nil))) ?_));refine qa_cons (qe_tup (qa_cons qe_str (qa_cons (qe_var (pv 2)) qa_nil))) (qa_cons (qe_tup (qa_cons qe_str (qa_cons (qe_neg qe_int) qa_nil))) ?_);refine qa_cons (qe_tup (qa_cons qe_str (qa_cons qe_bl qa_nil))) (qa_cons (qe_tup (qa_cons qe_str qa_nil)) ?_);refine qa_cons (qe_tup (qa_cons qe_str (qa_cons (qe_var (pv 2)) (qa_cons qe_int qa_nil)))) (qa_cons qe_non (qa_cons (qe_tup qa_nil) qa_nil));refine qs_cons (qs_set (i:=3) sc_z17.nd ?_) ?_;refine qe_op l_add op_addA (qe_var (pv 3)) (qe_lst (qa_cons (qe_lst (qa_cons qe_str (qa_cons (qe_var (pv 2)) qa_nil))) ?_));refine qa_cons (qe_tup (qa_cons qe_str ?_)) ?_;refine qa_cons qe_int (qa_cons (qe_op l_mulT op_twice (qe_tup (qa_cons (qe_tup (qa_cons qe_str (qa_cons (qe_var (pv 2)) qa_nil))) qa_nil)) qe_int) qa_nil);refine qa_cons (qe_tup (qa_cons qe_str (qa_cons qe_int (qa_cons (qe_tup (qa_cons (qe_tup (qa_cons qe_str (qa_cons (qe_var (pv 2)) qa_nil))) qa_nil)) qa_nil)))) qa_nil;refine qs_cons ?_ (qs_one (qs_ret ?_));refine qs_set (i:=3) sc_z17.nd (qe_op l_add op_addA (qe_var (pv 3)) (qe_lst ?_));refine qa_cons (qe_tup (qa_cons qe_str (qa_cons (qe_var (pv 2)) qa_nil))) (qa_cons qe_str (qa_cons (qe_var (pv 2)) ?_));refine qa_cons (qe_tup (qa_cons qe_str (qa_cons qe_int (qa_cons (qe_tup qa_nil) qa_nil)))) (qa_cons (qe_tup (qa_cons qe_str (qa_cons qe_non qa_nil))) qa_nil);refine qe_ix (qe_var (pv 3)) (qe_call ((ok_z21 T).mono (by decide)) hr T.m_z21 T.F_z21.kp T.b_z21 (qa_cons (qe_var (pv 0)) (qa_cons qe_int qa_nil)))
theorem len_z18(n:Nat):∀ds G Q,sp_z18 n ds G Q->ds.length=3:=by
 intro ds G Q h
 first
  | (rcases ds with _|⟨_,_|⟨_,_|⟨_,_|⟨_,_⟩⟩⟩⟩<;>first|rfl|exact h.elim)
  | (obtain⟨rfl,_⟩:=h;rfl)
  | (obtain⟨_,rfl,_⟩:=h;rfl)
  | (obtain⟨_,_,rfl,_⟩:=h;rfl)
  | (obtain⟨_,_,_,rfl,_⟩:=h;rfl)
  | (obtain⟨_,_,_,_,rfl,_⟩:=h;rfl)
  | (obtain⟨_,_,_,_,_,rfl,_⟩:=h;rfl)
  | (obtain⟨_,_,_,_,_,_,rfl,_⟩:=h;rfl)
  | (obtain⟨_,_,_,_,_,_,_,rfl,_⟩:=h;rfl)
  | (obtain⟨_,_,_,_,_,_,_,_,rfl,_⟩:=h;rfl)
theorem okg_z18(T:Txt K mg t):∀n:Nat,FnOk3 P w K mg base (3+n) t.f_z18 t.d_z18 ["pen","clocks","paper"] (sp_z18 n)
 |0=>fn3_none no_z18
 |n+1=>by
  have ih:=okg_z18 T n
  ·refine qfn3 (k:=3+n) (sp:=sp_z18 (n+1)) T.F_z18 sc_z18 (by decide) (len_z18 (n+1)) (tb_z18 n) (fun cdv A outer s H E hr=>?_) (rd_z18 n);refine qs_cons ?_ ?_;refine qs_if (qtt_w ?_) (qs_one (qs_ret ?_)) qs_nil;refine qtw_or (qtt_not (qtt_val (qe_inst kit_tuple rfl (qe_var (pv 2)) T.m_isinstance T.m_tuple rfl (by decide) (by decide)))) ?_;refine qtw_or (qtt_cmp l_ne (op_neA hr.units) (qe_ix (qe_var (pv 2)) qe_int) qe_str (nomark _)) (qtw_or1 (qtt_cmp l_eq (op_eqA hr.units) ?_ qe_int (nomark _)));refine qe_call ((ok_z21 T).mono (Nat.le_trans (by decide:_≤3) (Nat.le_add_right _ _))) hr T.m_z21 T.F_z21.kp T.b_z21 ?_;refine qa_cons (qe_var (pv 0)) (qa_cons qe_int qa_nil);refine qe_call ((ok_z17 T).mono (Nat.le_trans (by decide:_≤3) (Nat.le_add_right _ _))) hr T.m_z17 T.F_z17.kp T.b_z17 ?_;refine qa_cons (qe_var (pv 0)) (qa_cons (qe_var (pv 1)) qa_nil);refine qs_cons (qs_set (i:=3) sc_z18.nd ?_) ?_;refine qe_call ((ok_z21 T).mono (Nat.le_trans (by decide:_≤3) (Nat.le_add_right _ _))) hr T.m_z21 T.F_z21.kp T.b_z21 ?_;refine qa_cons (qe_var (pv 0)) (qa_cons qe_int qa_nil);refine qs_cons ?_ ?_;refine qs_if (qtt_cmp l_eq (op_eqA hr.units) (qe_var (pv 3)) qe_int (nomark _)) ?_ qs_nil;refine qs_one (qs_ret (qe_tup (qa_cons qe_str (qa_cons (qe_ix (qe_var (pv 2)) qe_int) (qa_cons (qe_rev (qe_ix (qe_var (pv 2)) qe_int)) qa_nil)))));refine qs_cons ?_ ?_;refine qs_if (qtt_cmp l_eq (op_eqA hr.units) (qe_var (pv 3)) qe_int (nomark _)) ?_ qs_nil;refine qs_one (qs_ret (qe_tup (qa_cons qe_str (qa_cons (qe_op l_add op_addA (qe_ix (qe_var (pv 2)) qe_int) qe_int) (qa_cons (qe_ix (qe_var (pv 2)) qe_int) qa_nil)))));refine qs_cons ?_ ?_;refine qs_if (qtt_cmp l_eq (op_eqA hr.units) (qe_var (pv 3)) qe_int (nomark _)) (qs_one (qs_ret ?_)) qs_nil;refine qe_tup (qa_cons qe_str (qa_cons (qe_ix (qe_var (pv 2)) qe_int) (qa_cons (qeb_list hr.units T.m_list (qa_cons (qe_ix (qe_var (pv 2)) qe_int) qa_nil)) qa_nil)));refine qs_cons (qs_if (qtt_cmp l_eq (op_eqA hr.units) (qe_var (pv 3)) qe_int (nomark _)) (qs_one (qs_ret (qe_sl (qe_var (pv 2)) qo_none (qo_some qe_int)))) qs_nil) ?_;refine qs_cons ?_ ?_;refine qs_if (qtt_cmp l_eq (op_eqA hr.units) (qe_var (pv 3)) qe_int (nomark _)) ?_ qs_nil;refine qs_one (qs_ret (qe_tup (qa_cons qe_str (qa_cons (qe_ix (qe_var (pv 2)) qe_int) ?_))));refine qa_cons (qe_op l_add op_addA (qe_ix (qe_var (pv 2)) qe_int) (qe_sl (qe_ix (qe_var (pv 2)) qe_int) qo_none (qo_some qe_int))) qa_nil;refine qs_cons (qs_set (i:=4) sc_z18.nd ?_) (qs_one (qs_ret ?_));refine qe_call ((ok_z21 T).mono (Nat.le_trans (by decide:_≤3) (Nat.le_add_right _ _))) hr T.m_z21 T.F_z21.kp T.b_z21 ?_;refine qa_cons (qe_var (pv 0)) (qa_cons (qe_ix (qe_var (pv 2)) qe_int) qa_nil);refine qe_tup (qa_cons qe_str (qa_cons (qe_ix (qe_var (pv 2)) qe_int) (qa_cons ?_ qa_nil)));refine qe_op l_add op_addA ?_ (qe_sl (qe_ix (qe_var (pv 2)) qe_int) (qo_some (qe_op l_add op_addA (qe_var (pv 4)) qe_int)) qo_none);refine qe_op l_add op_addA (qe_sl (qe_ix (qe_var (pv 2)) qe_int) qo_none (qo_some (qe_var (pv 4)))) (qe_tup (qa_cons ?_ qa_nil))
   refine qe_call (ih.mono (Nat.le_refl _)) hr T.m_z18 T.F_z18.kp T.b_z18 ?_;refine qa_cons (qe_var (pv 0)) (qa_cons (qe_var (pv 1)) (qa_cons (qe_ix (qe_ix (qe_var (pv 2)) qe_int) (qe_var (pv 4))) qa_nil))
theorem ok_z18(T:Txt K mg t):FnOk3 P w K mg base 43 t.f_z18 t.d_z18 ["pen","clocks","paper"] (sp_z18 40):=(okg_z18 T 40)
theorem len_z15:∀ds G Q,sp_z15 ds G Q->ds.length=2:=by
 intro ds G Q h
 first
  | (rcases ds with _|⟨_,_|⟨_,_|⟨_,_|⟨_,_⟩⟩⟩⟩<;>first|rfl|exact h.elim)
  | (obtain⟨rfl,_⟩:=h;rfl)
  | (obtain⟨_,rfl,_⟩:=h;rfl)
  | (obtain⟨_,_,rfl,_⟩:=h;rfl)
  | (obtain⟨_,_,_,rfl,_⟩:=h;rfl)
  | (obtain⟨_,_,_,_,rfl,_⟩:=h;rfl)
  | (obtain⟨_,_,_,_,_,rfl,_⟩:=h;rfl)
  | (obtain⟨_,_,_,_,_,_,rfl,_⟩:=h;rfl)
  | (obtain⟨_,_,_,_,_,_,_,rfl,_⟩:=h;rfl)
  | (obtain⟨_,_,_,_,_,_,_,_,rfl,_⟩:=h;rfl)
theorem ok_z15(T:Txt K mg t):FnOk3 P w K mg base 44 t.f_z15 t.d_z15 ["clocks","thing"] sp_z15:=by
 refine qfn3 (k:=43) (sp:=sp_z15) T.F_z15 sc_z15 (by decide) len_z15 tb_z15 (fun cdv A outer s H E hr=>?_) rd_z15;refine qs_cons (qs_set (i:=2) sc_z15.nd ?_) ?_;refine qe_call ((ok_z2 T).mono (by decide)) hr T.m_z2 T.F_z2.kp T.b_z2 ?_;refine qa_cons (qe_var (pv 0)) (qa_cons (qe_tup (qa_cons qe_int (qa_cons qe_int qa_nil))) (qa_cons (qe_var (pv 1)) qa_nil));refine qs_cons (qs_set (i:=3) sc_z15.nd ?_) (qs_one (qs_ret ?_));refine qe_call ((ok_z0 T).mono (by decide)) hr T.m_z0 T.F_z0.kp T.b_z0 ?_;refine qa_cons (qe_var (pv 0)) (qa_cons (qe_var (pv 1)) qa_nil);refine qe_and (qe_inst kit_bool rfl (qe_var (pv 3)) T.m_isinstance T.m_bool rfl (by decide) (by decide)) ?_;refine qe_and (qe_cmp l_eq (op_eqA hr.units) (qe_var (pv 3)) (qe_var (pv 2)) (nomark _)) (qe_one (qe_cmp l_eq (op_eqA hr.units) ?_ (qe_var (pv 2)) (nomark _)));refine qe_call ((ok_z0 T).mono (by decide)) hr T.m_z0 T.F_z0.kp T.b_z0 ?_;refine qa_cons (qe_var (pv 0)) (qa_cons (qe_var (pv 1)) qa_nil)
theorem len_law:∀ds G Q,sp_law ds G Q->ds.length=1:=by
 intro ds G Q h;obtain⟨_,rfl,_⟩:=h;rfl
theorem ok_law(T:Txt K mg t):FnOk3 P w K mg base 45 t.f_law t.d_law ["script"] sp_law:=by
 refine qfn3 (k:=44) (sp:=sp_law) T.F_law sc_law (by decide) len_law tb_law (fun cdv A outer s H E hr=>?_) rd_law;refine qs_cons ?_ (qs_cons ?_ (qs_one (qs_ret qe_bl)));refine qs_if (qtt_cmp l_isnB op_isnB ?_ qe_bl (nomark _)) (qs_one (qs_ret qe_bl)) qs_nil;refine qe_call ((ok_z0 T).mono (by decide)) hr T.m_z0 T.F_z0.kp T.b_z0 ?_;refine qa_cons (qe_tup (qa_cons (qe_tup (qa_cons qe_int (qa_cons qe_int qa_nil))) (qa_cons (qe_tup (qa_cons qe_int (qa_cons qe_int qa_nil))) qa_nil))) ?_;refine qa_cons (qe_tup (qa_cons qe_str (qa_cons qe_int ?_))) qa_nil;refine qa_cons (qe_tup (qa_cons (qe_tup (qa_cons qe_str (qa_cons qe_int qa_nil))) (qa_cons (qe_tup (qa_cons qe_str (qa_cons qe_int qa_nil))) qa_nil))) qa_nil;refine qs_for PassesOwn.never rfl (qi_seq ?_) (qh_name (i:=1) sc_law.nd) ?_;refine qe_op l_add op_addA (qe_lst ?_) (qe_sl (qe_var (pv 0)) (qo_some qe_int) (qo_some qe_int));refine qa_cons (qe_call ((ok_z7 T).mono (by decide)) hr T.m_z7 T.F_z7.kp T.b_z7 (qa_cons (qe_var (pv 0)) (qa_cons qe_int qa_nil))) (qa_nil);refine qs_cons ?_ ?_;refine qs_set (i:=2) sc_law.nd (qe_call ((ok_z8 T).mono (by decide)) hr T.m_z8 T.F_z8.kp T.b_z8 (qa_cons (qe_var (pv 1)) qa_nil));refine qs_cons (qs_set (i:=3) sc_law.nd ?_) ?_;refine qe_call ((ok_z3 T).mono (by decide)) hr T.m_z3 T.F_z3.kp T.b_z3 (qa_cons (qe_var (pv 2)) qa_nil);refine qs_cons (qs_set (i:=4) sc_law.nd ?_) ?_;refine qe_call ((ok_z4 T).mono (by decide)) hr T.m_z4 T.F_z4.kp T.b_z4 ?_;refine qa_cons (qe_var (pv 2)) (qa_cons (qe_var (pv 3)) (qa_cons (qe_tup (qa_cons qe_int (qa_cons qe_int qa_nil))) (qa_cons qe_int qa_nil)));refine qs_cons (qs_set (i:=5) sc_law.nd (qe_lst (qa_cons (qe_var (pv 4)) ?_))) (qs_one ?_);refine qa_cons ?_ ?_;refine qe_call ((ok_z18 T).mono (by decide)) hr T.m_z18 T.F_z18.kp T.b_z18 ?_;refine qa_cons (qe_var (pv 2)) (qa_cons (qe_var (pv 3)) (qa_cons (qe_var (pv 4)) qa_nil));refine qa_cons ?_ ?_;refine qe_call ((ok_z18 T).mono (by decide)) hr T.m_z18 T.F_z18.kp T.b_z18 ?_;refine qa_cons (qe_var (pv 2)) (qa_cons (qe_var (pv 3)) (qa_cons (qe_var (pv 4)) qa_nil));refine qa_cons (qe_call ((ok_z17 T).mono (by decide)) hr T.m_z17 T.F_z17.kp T.b_z17 (qa_cons (qe_var (pv 2)) (qa_cons (qe_var (pv 3)) qa_nil))) (qa_nil);refine qs_for PassesOwn.never rfl (qi_seq (qe_op l_add op_addA (qe_var (pv 5)) (qe_lst (qa_cons ?_ qa_nil)))) (qh_name (i:=6) sc_law.nd) ?_;refine qe_call ((ok_z18 T).mono (by decide)) hr T.m_z18 T.F_z18.kp T.b_z18 ?_;refine qa_cons (qe_var (pv 2)) (qa_cons (qe_var (pv 3)) (qa_cons (qe_var (pv 4)) qa_nil));refine qs_one (qs_if (qtt_not ?_) (qs_one (qs_ret qe_bl)) qs_nil);refine qtt_val (qe_call ((ok_z15 T).mono (by decide)) hr T.m_z15 T.F_z15.kp T.b_z15 (qa_cons (qe_var (pv 3)) (qa_cons (qe_var (pv 6)) qa_nil)))
end
def Has(K:PySem.W.Frag)(nm:Str)(st:Stmt):Prop:=∃f d,Fun K nm nm st f d/\PySem.W.nsIn K mainGlobals nm=some (some (.ref f))
theorem has_mk{K:PySem.W.Frag}{nm:Str}{st:Stmt}{f:Addr}{od an:Option Addr}{sl:Array (Option Value)}{oc kV dc pm cd ct:Value}(a:PySem.W.nsIn K mainGlobals nm=some (some (.ref f)))(l:K.lookup f=some ⟨oc,od,.func (PySem.W.fnOf nm nm (defArgs st) (defBody st) (defScope st) .none kV dc pm an cd ct),sl⟩)(c:PySem.W.codeIn K cd nm=true)(k:PySem.W.keepIn K (.ref f)=true):Has K nm st:=⟨f,_,fun_mk l c k,a⟩
theorem txt_mk{K:PySem.W.Frag}{h:Heap}{mg:Str->Option Value}(X:K.In h)(G:h.Ns mainGlobals mg)
  (h0:Has K "whole_good" st_z11)
  (h1:Has K "place_good" st_z10)
  (h2:Has K "split_form_good" st_z1)
  (h3:Has K "rings" st_z23)
  (h4:Has K "inside_of" st_z14)
  (h5:Has K "parts_of" st_z19)
  (h6:Has K "cover_paper_good" st_z0)
  (h7:Has K "paper_good" st_z12)
  (h8:Has K "papers_good" st_z6)
  (h9:Has K "_law_cell_at" st_z7)
  (h10:Has K "_law_next" st_z20)
  (h11:Has K "_law_pen_of" st_z8)
  (h12:Has K "_law_draw" st_z21)
  (h13:Has K "_law_whole" st_z13)
  (h14:Has K "_law_gcd" st_z22)
  (h15:Has K "_law_split" st_z16)
  (h16:Has K "_law_clocks_of" st_z3)
  (h17:Has K "_law_parts_of" st_z5)
  (h18:Has K "_law_within" st_z9)
  (h19:Has K "_law_paper_of" st_z4)
  (h20:Has K "_law_paper_due" st_z2)
  (h21:Has K "_law_leaf" st_z17)
  (h22:Has K "_law_bent" st_z18)
  (h23:Has K "_law_right" st_z15)
  (h24:Has K "law" st_law)
  (z0:PySem.W.nsIn K mainGlobals "all" = some none)
  (z1:PySem.W.nsIn K mainGlobals "any" = some none)
  (z2:PySem.W.nsIn K mainGlobals "bool" = some none)
  (z3:PySem.W.nsIn K mainGlobals "int" = some none)
  (z4:PySem.W.nsIn K mainGlobals "isinstance" = some none)
  (z5:PySem.W.nsIn K mainGlobals "len" = some none)
  (z6:PySem.W.nsIn K mainGlobals "list" = some none)
  (z7:PySem.W.nsIn K mainGlobals "max" = some none)
  (z8:PySem.W.nsIn K mainGlobals "range" = some none)
  (z9:PySem.W.nsIn K mainGlobals "set" = some none)
  (z10:PySem.W.nsIn K mainGlobals "sorted" = some none)
  (z11:PySem.W.nsIn K mainGlobals "str" = some none)
  (z12:PySem.W.nsIn K mainGlobals "tuple" = some none)
  (z13:PySem.W.nsIn K mainGlobals "zip" = some none)
  : ∃t:Adr,Txt K mg t/\∀(s:Shared) (v:Value),BindsTo s t.d_law ⟨[v],[]⟩ [("script",v)]:=by
 obtain⟨f0,d0,F0,a0⟩:=h0;obtain⟨f1,d1,F1,a1⟩:=h1;obtain⟨f2,d2,F2,a2⟩:=h2;obtain⟨f3,d3,F3,a3⟩:=h3;obtain⟨f4,d4,F4,a4⟩:=h4;obtain⟨f5,d5,F5,a5⟩:=h5;obtain⟨f6,d6,F6,a6⟩:=h6;obtain⟨f7,d7,F7,a7⟩:=h7;obtain⟨f8,d8,F8,a8⟩:=h8;obtain⟨f9,d9,F9,a9⟩:=h9;obtain⟨f10,d10,F10,a10⟩:=h10;obtain⟨f11,d11,F11,a11⟩:=h11;obtain⟨f12,d12,F12,a12⟩:=h12;obtain⟨f13,d13,F13,a13⟩:=h13;obtain⟨f14,d14,F14,a14⟩:=h14;obtain⟨f15,d15,F15,a15⟩:=h15;obtain⟨f16,d16,F16,a16⟩:=h16;obtain⟨f17,d17,F17,a17⟩:=h17;obtain⟨f18,d18,F18,a18⟩:=h18;obtain⟨f19,d19,F19,a19⟩:=h19;obtain⟨f20,d20,F20,a20⟩:=h20;obtain⟨f21,d21,F21,a21⟩:=h21;obtain⟨f22,d22,F22,a22⟩:=h22;obtain⟨f23,d23,F23,a23⟩:=h23;obtain⟨f24,d24,F24,a24⟩:=h24;exact⟨⟨f0,d0,f1,d1,f2,d2,f3,d3,f4,d4,f5,d5,f6,d6,f7,d7,f8,d8,f9,d9,f10,d10,f11,d11,f12,d12,f13,d13,f14,d14,f15,d15,f16,d16,f17,d17,f18,d18,f19,d19,f20,d20,f21,d21,f22,d22,f23,d23,f24,d24⟩,⟨F0,
  PySem.W.mg_of X G a0,
  F0.binds (ps:=["thing"]) fun _ _ _ _ _ _ us hl=>by obtain⟨_,rfl⟩:=len1 hl;rfl,
  F1,
  PySem.W.mg_of X G a1,
  F1.binds (ps:=["things","thing"]) fun _ _ _ _ _ _ us hl=>by obtain⟨_,_,rfl⟩:=len2 hl;rfl,
  F2,
  PySem.W.mg_of X G a2,
  F2.binds (ps:=["k","papers"]) fun _ _ _ _ _ _ us hl=>by obtain⟨_,_,rfl⟩:=len2 hl;rfl,
  F3,
  PySem.W.mg_of X G a3,
  F3.binds (ps:=["clock","number"]) fun _ _ _ _ _ _ us hl=>by obtain⟨_,_,rfl⟩:=len2 hl;rfl,
  F4,
  PySem.W.mg_of X G a4,
  F4.binds (ps:=["one","other"]) fun _ _ _ _ _ _ us hl=>by obtain⟨_,_,rfl⟩:=len2 hl;rfl,
  F5,
  PySem.W.mg_of X G a5,
  F5.binds (ps:=["clock","k"]) fun _ _ _ _ _ _ us hl=>by obtain⟨_,_,rfl⟩:=len2 hl;rfl,
  F6,
  PySem.W.mg_of X G a6,
  F6.binds (ps:=["clocks","thing"]) fun _ _ _ _ _ _ us hl=>by obtain⟨_,_,rfl⟩:=len2 hl;rfl,
  F7,
  PySem.W.mg_of X G a7,
  F7.binds (ps:=["clocks","thing","clock"]) fun _ _ _ _ _ _ us hl=>by obtain⟨_,_,_,rfl⟩:=len3 hl;rfl,
  F8,
  PySem.W.mg_of X G a8,
  F8.binds (ps:=["clocks","k","papers","clock"]) fun _ _ _ _ _ _ us hl=>by obtain⟨_,_,_,_,rfl⟩:=len4 hl;rfl,
  F9,
  PySem.W.mg_of X G a9,
  F9.binds (ps:=["script","k"]) fun _ _ _ _ _ _ us hl=>by obtain⟨_,_,rfl⟩:=len2 hl;rfl,
  F10,
  PySem.W.mg_of X G a10,
  F10.binds (ps:=["seed"]) fun _ _ _ _ _ _ us hl=>by obtain⟨_,rfl⟩:=len1 hl;rfl,
  F11,
  PySem.W.mg_of X G a11,
  F11.binds (ps:=["cell"]) fun _ _ _ _ _ _ us hl=>by obtain⟨_,rfl⟩:=len1 hl;rfl,
  F12,
  PySem.W.mg_of X G a12,
  F12.binds (ps:=["pen","many"]) fun _ _ _ _ _ _ us hl=>by obtain⟨_,_,rfl⟩:=len2 hl;rfl,
  F13,
  PySem.W.mg_of X G a13,
  F13.binds (ps:=["found"]) fun _ _ _ _ _ _ us hl=>by obtain⟨_,rfl⟩:=len1 hl;rfl,
  F14,
  PySem.W.mg_of X G a14,
  F14.binds (ps:=["one","other"]) fun _ _ _ _ _ _ us hl=>by obtain⟨_,_,rfl⟩:=len2 hl;rfl,
  F15,
  PySem.W.mg_of X G a15,
  F15.binds (ps:=["pen","times"]) fun _ _ _ _ _ _ us hl=>by obtain⟨_,_,rfl⟩:=len2 hl;rfl,
  F16,
  PySem.W.mg_of X G a16,
  F16.binds (ps:=["pen"]) fun _ _ _ _ _ _ us hl=>by obtain⟨_,rfl⟩:=len1 hl;rfl,
  F17,
  PySem.W.mg_of X G a17,
  F17.binds (ps:=["clock","k"]) fun _ _ _ _ _ _ us hl=>by obtain⟨_,_,rfl⟩:=len2 hl;rfl,
  F18,
  PySem.W.mg_of X G a18,
  F18.binds (ps:=["clock","other"]) fun _ _ _ _ _ _ us hl=>by obtain⟨_,_,rfl⟩:=len2 hl;rfl,
  F19,
  PySem.W.mg_of X G a19,
  F19.binds (ps:=["pen","clocks","clock","deep"]) fun _ _ _ _ _ _ us hl=>by obtain⟨_,_,_,_,rfl⟩:=len4 hl;rfl,
  F20,
  PySem.W.mg_of X G a20,
  F20.binds (ps:=["clocks","clock","thing"]) fun _ _ _ _ _ _ us hl=>by obtain⟨_,_,_,rfl⟩:=len3 hl;rfl,
  F21,
  PySem.W.mg_of X G a21,
  F21.binds (ps:=["pen","clocks"]) fun _ _ _ _ _ _ us hl=>by obtain⟨_,_,rfl⟩:=len2 hl;rfl,
  F22,
  PySem.W.mg_of X G a22,
  F22.binds (ps:=["pen","clocks","paper"]) fun _ _ _ _ _ _ us hl=>by obtain⟨_,_,_,rfl⟩:=len3 hl;rfl,
  F23,
  PySem.W.mg_of X G a23,
  F23.binds (ps:=["clocks","thing"]) fun _ _ _ _ _ _ us hl=>by obtain⟨_,_,rfl⟩:=len2 hl;rfl,
  F24,
  PySem.W.mg_of X G a24,
  F24.binds (ps:=["script"]) fun _ _ _ _ _ _ us hl=>by obtain⟨_,rfl⟩:=len1 hl;rfl,
  PySem.W.mg_none_of X G z0,
  PySem.W.mg_none_of X G z1,
  PySem.W.mg_none_of X G z2,
  PySem.W.mg_none_of X G z3,
  PySem.W.mg_none_of X G z4,
  PySem.W.mg_none_of X G z5,
  PySem.W.mg_none_of X G z6,
  PySem.W.mg_none_of X G z7,
  PySem.W.mg_none_of X G z8,
  PySem.W.mg_none_of X G z9,
  PySem.W.mg_none_of X G z10,
  PySem.W.mg_none_of X G z11,
  PySem.W.mg_none_of X G z12,
  PySem.W.mg_none_of X G z13⟩,fun s v=>by
  obtain⟨_,_,_,_,_,_,_,_,_,rfl,_⟩:=F24.ex;exact .of_eq rfl⟩
theorem sp_top(K:PySem.W.Frag)(H:Hp)(a:Addr)(ns:List Int)(hl:ns.length≤63)(ho:Only H)(hS:SqL K H a (ns.map V.int)):lowSp K sp_law [.ref a] H (fun v _=>v=.bl true) fun _ _ _=>False:=by
 refine⟨[.scr (ns.map .int)],fun _=>none,fun d _=>d=.bl true,.cons ?_ .nil,(fun _ _ e=>nomatch e),⟨ns,rfl,hl,rfl⟩,fun v H' d G' hv _ _ q=>?_⟩
 ·unfold Hv;refine⟨a,ns.map V.int,rfl,?_,Hvs.ints ns⟩;rcases hS with (h|h)|h
  ·rcases ho a with z|⟨o,xs,z⟩
   ·rw[z] at h;cases h
   ·rw[z] at h;cases h
  ·exact .inl h
  ·exact .inr h
 ·subst q;exact hv_bl hv
theorem walk{l:PySem.W.OpenLaw}{q:Program}{loose:List Str}{XP:(Str->Option Value)->Heap->Prop}{YP:World->Heap->Prop}{d:DefRec}{K:Params->PySem.W.Frag}(hn:l.most=some 63)(hdf:d.params.defaults=[])
  (hY:∀(w:World) (h:Heap),YP w h->(K w.params).In h)
  (F:∀(w:World) (mg:Str->Option Value) (fa:Addr) (h:Heap),(K w.params).In h->h.Ns mainGlobals mg->mg d.name=some (.ref fa) ->
   ∃fd:FuncData,(∀(s:Shared) (u:Value),BindsTo s fd ⟨[u],[]⟩ [("script",u)])/\∀base:Heap,(K w.params).In base->base.Ns mainGlobals mg->FnOk l.prog w (K w.params) mg base CX0 45 fa fd ["script"] (lowSp (K w.params) sp_law)):
  PySem.W.WalkO q loose XP YP l.row.toRowW d [] (fun f vs=>PySem.call f vs):=
 L2.walk_of (n:=63) (k:=45) (x:="script") (CX:=fun _=>CX0) (sp:=fun w=>lowSp (K w.params) sp_law) hn (by decide) hdf ⟨rfl,by decide,by decide⟩ hY F (fun w H a ns hl ho hS=>sp_top (K w.params) H a ns hl ho hS) fun _ _ _ _ _ z=>z
end My
open PySem PySem.W PyProof.Rows
set_option maxRecDepth 100000 in
set_option maxHeartbeats 0 in
theorem PySem.Challenge.cw_coverclocks_k11_cover_papers_by_anybody_holds : PySem.Challenge.rw_coverclocks_k11_cover_papers_by_anybody.Holds := by
 w_on;o_law;k_head;(case hw=>w_witness2)
 k_fill
 refine My.walk (l:=PySem.Challenge.rw_coverclocks_k11_cover_papers_by_anybody) rfl rfl (fun w h Y=>PySem.W.kIn_of Y) ?F
 case F=>
  intro w mg fa h KX G hmg
  refine' Exists.elim (My.txt_mk KX G (My.has_mk ?a0 ?l0 ?c0 ?k0) (My.has_mk ?a1 ?l1 ?c1 ?k1) (My.has_mk ?a2 ?l2 ?c2 ?k2) (My.has_mk ?a3 ?l3 ?c3 ?k3) (My.has_mk ?a4 ?l4 ?c4 ?k4) (My.has_mk ?a5 ?l5 ?c5 ?k5) (My.has_mk ?a6 ?l6 ?c6 ?k6) (My.has_mk ?a7 ?l7 ?c7 ?k7) (My.has_mk ?a8 ?l8 ?c8 ?k8) (My.has_mk ?a9 ?l9 ?c9 ?k9) (My.has_mk ?a10 ?l10 ?c10 ?k10) (My.has_mk ?a11 ?l11 ?c11 ?k11) (My.has_mk ?a12 ?l12 ?c12 ?k12) (My.has_mk ?a13 ?l13 ?c13 ?k13) (My.has_mk ?a14 ?l14 ?c14 ?k14) (My.has_mk ?a15 ?l15 ?c15 ?k15) (My.has_mk ?a16 ?l16 ?c16 ?k16) (My.has_mk ?a17 ?l17 ?c17 ?k17) (My.has_mk ?a18 ?l18 ?c18 ?k18) (My.has_mk ?a19 ?l19 ?c19 ?k19) (My.has_mk ?a20 ?l20 ?c20 ?k20) (My.has_mk ?a21 ?l21 ?c21 ?k21) (My.has_mk ?a22 ?l22 ?c22 ?k22) (My.has_mk ?a23 ?l23 ?c23 ?k23) (My.has_mk ?a24 ?l24 ?c24 ?k24) ?z0 ?z1 ?z2 ?z3 ?z4 ?z5 ?z6 ?z7 ?z8 ?z9 ?z10 ?z11 ?z12 ?z13) ?fin
  case a0|l0|c0|k0|a1|l1|c1|k1|a2|l2|c2|k2|a3|l3|c3|k3|a4|l4|c4|k4|a5|l5|c5|k5|a6|l6|c6|k6|a7|l7|c7|k7|a8|l8|c8|k8|a9|l9|c9|k9=>k_is
  case a10|l10|c10|k10|a11|l11|c11|k11|a12|l12|c12|k12|a13|l13|c13|k13|a14|l14|c14|k14|a15|l15|c15|k15|a16|l16|c16|k16|a17|l17|c17|k17|a18|l18|c18|k18|a19|l19|c19|k19=>k_is
  case a20|l20|c20|k20|a21|l21|c21|k21|a22|l22|c22|k22|a23|l23|c23|k23|a24|l24|c24|k24|z0|z1|z2|z3|z4|z5|z6|z7|z8|z9|z10|z11|z12|z13=>k_is
  case fin=>
   rintro t ⟨T,b⟩
   have e2:=hmg.symm.trans T.m_law
   cases e2
   exact⟨t.d_law,b,fun base _ _=>My.ok_law T⟩
