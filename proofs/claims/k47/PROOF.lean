import PyProof.Rows.All
import Wide.All
import OpenK.AllK
import Wide.FinOn
import Lean
import PyProof.EqAt
import PyProof.EqKinds
import PyProof.TupleCall
import PySem.Challenge.RW_pastdesk_k47_rising_and_falling
set_option Elab.async false
set_option linter.all false
/- The head would lay equations by these names, for constants of its own; nothing needs them, and they take much room: with the names taken the head goes on without. -/
def PySem.W.Fast.tw1235599735554543465:Unit:=()
def PySem.W.Fast.tw4473724217765883442:Unit:=()
def PySem.W.Fast.tw13292707285336349082:Unit:=()
def PySem.W.Fast.tw14784084784423125059:Unit:=()
def PySem.W.Fast.tw14301690885871900730:Unit:=()
def PySem.W.Fast.tw6196988077341274527:Unit:=()
def PySem.W.Fast.tw14863986161764948468:Unit:=()
def PySem.W.Fast.tw14522738003682830942:Unit:=()
def PySem.W.Fast.tw1998106676801689022:Unit:=()
def PySem.W.Fast.tw13909641373829476360:Unit:=()
def PySem.W.Fast.tw13418747145863075258:Unit:=()
def PySem.W.Fast.tw5567685135280467681:Unit:=()
def PySem.W.Fast.tw10432407406107774401:Unit:=()
def PySem.W.Fast.tw12394096367135121094:Unit:=()
def PySem.W.Fast.tw9341900579809560636:Unit:=()
def PySem.W.Fast.tw2091582278043548001:Unit:=()
def PySem.W.Fast.tw14347147843902407714:Unit:=()
def PySem.W.Fast.tw7784032788571139535:Unit:=()
def PySem.W.Fast.tw6090535198809043631:Unit:=()
def PySem.W.Fast.tw2805114854641438232:Unit:=()
def PySem.W.Fast.tw1665068110852297434:Unit:=()
def PySem.W.Fast.tw9024969610098643506:Unit:=()
def PySem.W.Fast.tw15982768286177355291:Unit:=()
def PySem.W.Fast.tw4859661361253440381:Unit:=()
def PySem.W.Fast.tw9922569190140898478:Unit:=()
def PySem.W.Fast.tw12874004671128565446:Unit:=()
def PySem.W.Fast.tw15967553700615799112:Unit:=()
def PySem.W.Fast.tw14777883270626916:Unit:=()
def PySem.W.Fast.tw2137227717998327279:Unit:=()
def PySem.W.Fast.tw2998589082991799243:Unit:=()
def PySem.W.Fast.tw2603413398586050810:Unit:=()
def PySem.W.Fast.tw2846568519409354913:Unit:=()
def PySem.W.Fast.tw16838985020560886450:Unit:=()
def PySem.W.Fast.tw3531242327449652207:Unit:=()
def PySem.W.Fast.tw10304846347306799947:Unit:=()
def PySem.W.Fast.tw3500395866252876823:Unit:=()
def PySem.W.Fast.tw9710016053834457107:Unit:=()
def PySem.W.Fast.tw806596024527828577:Unit:=()
def PySem.W.Fast.tw916767855873089700:Unit:=()
def PySem.W.Fast.tw6279748573792939942:Unit:=()
def PySem.W.Fast.tw6035302617006537886:Unit:=()
def PySem.W.Fast.tw16912803041564320323:Unit:=()
def PySem.W.Fast.tw4573019433413102040:Unit:=()
def PySem.W.Fast.tw11133063446115288027:Unit:=()
def PySem.W.Fast.tw12309576555598041056:Unit:=()
def PySem.W.Fast.tw15419721627419940090:Unit:=()
def PySem.W.Fast.tw2217624854750575969:Unit:=()
def PySem.W.Fast.tw15926413287934505366:Unit:=()
def PySem.W.Fast.tw6101063411032444719:Unit:=()
def PySem.W.Fast.tw8892646625187551576:Unit:=()
def PySem.W.Fast.tw14436450183680697236:Unit:=()
def PySem.W.Fast.tw6353133979142752203:Unit:=()
def PySem.W.Fast.tw16497073913139092344:Unit:=()
def PySem.W.Fast.tw13407106961602583057:Unit:=()
def PySem.W.Fast.tw9298216401931076993:Unit:=()
def PySem.W.Fast.tw3227945589237810898:Unit:=()
def PySem.W.Fast.tw13524292954948513379:Unit:=()
def PySem.W.Fast.tw16781557195729545301:Unit:=()
def PySem.W.Fast.tw5066962117489615329:Unit:=()
def PySem.W.Fast.tw9371414708103838228:Unit:=()
def PySem.W.Fast.tw2000905363423838587:Unit:=()
def PySem.W.Fast.tw4518081420378819466:Unit:=()
def PySem.W.Fast.tw15702183031090451208:Unit:=()
def PySem.W.Fast.tw14900345652129447430:Unit:=()
def PySem.W.Fast.tw8336736081718452753:Unit:=()
def PySem.W.Fast.tw9977766151353163206:Unit:=()
def PySem.W.Fast.tw6596147440025652410:Unit:=()
def PySem.W.Fast.tw15317411592197252617:Unit:=()
def PySem.W.Fast.tw7162246060122817139:Unit:=()
def PySem.W.Fast.tw16095377525271125971:Unit:=()
def PySem.W.Fast.tw7017333987769937468:Unit:=()
def PySem.W.Fast.tw9703802758328178699:Unit:=()
def PySem.W.Fast.tw9020179212949723967:Unit:=()
def PySem.W.Fast.tw16875458826576772320:Unit:=()
def PySem.W.Fast.tw1246164404519431869:Unit:=()
def PySem.W.Fast.tw1268690006019068801:Unit:=()
def PySem.W.Fast.tw16341703180785636139:Unit:=()
def PySem.W.Fast.tw3238681314159740018:Unit:=()
def PySem.W.Fast.tw6210964948369104716:Unit:=()
def PySem.W.Fast.tw9551062652279289523:Unit:=()
def PySem.W.Fast.tw15291207266793591962:Unit:=()
def PySem.W.Fast.tw16534749530288840739:Unit:=()
def PySem.W.Fast.tw6892236663102912033:Unit:=()
def PySem.W.Fast.tw10706189841651868854:Unit:=()
def PySem.W.Fast.tw17333342774008734276:Unit:=()
def PySem.W.Fast.tw5727124957256952053:Unit:=()
def PySem.W.Fast.tw13632481903205701215:Unit:=()
def PySem.W.Fast.tw420552177797620870:Unit:=()
def PySem.W.Fast.tw11326797139609040261:Unit:=()
def PySem.W.Fast.tw4551925233022046012:Unit:=()
def PySem.W.Fast.tw33754999188107126:Unit:=()
def PySem.W.Fast.tw13634759091991040814:Unit:=()
def PySem.W.Fast.tw12512689807099482303:Unit:=()
def PySem.W.Fast.tw1127051113970888455:Unit:=()
def PySem.W.Fast.tw12909576379078652851:Unit:=()
def PySem.W.Fast.tw14058130825617283950:Unit:=()
def PySem.W.Fast.tw82891083836195054:Unit:=()
def PySem.W.Fast.tw11597292262036582486:Unit:=()
def PySem.W.Fast.tw693813403271928771:Unit:=()
def PySem.W.Fast.tw8805457550839727778:Unit:=()
def PySem.W.Fast.tw5231627054399960993:Unit:=()
def PySem.W.Fast.tw15251634276785885100:Unit:=()
def PySem.W.Fast.tw4432189281478378758:Unit:=()
def PySem.W.Fast.tw4496272149248119757:Unit:=()
def PySem.W.Fast.tw12805678669945043999:Unit:=()
def PySem.W.Fast.tw2663193067312623897:Unit:=()
def PySem.W.Fast.tw13186613282209150211:Unit:=()
def PySem.W.Fast.tw13520610300294067488:Unit:=()
def PySem.W.Fast.tw7521381083712540156:Unit:=()
set_option maxRecDepth 100000
namespace L2
open PySem PySem.Spec PyProof.Rows
abbrev Key:=Sum Int Str
def QpT:Key->Value->Bool
 | .inl k,v=>Value.isInt k v
 | .inr x,v=>Value.isStrOf x v
def keyH (w:World):Key->Int
 | .inl k=>hashInt k
 | .inr x=>hashStr w x
theorem QaQ:∀ {k:Key} {v:Value},QpT k v=true->(∃ i t,k=Sum.inl i/\v=Value.int i t)\/(∃ x t,k=Sum.inr x/\v=Value.str x t)
 | .inl i,v,h=>by
  obtain ⟨t,e⟩:=Value.isInt_shape (k:=i) (v:=v) h
  exact .inl ⟨i,t,rfl,e⟩
 | .inr x,v,h=>by
  obtain ⟨t,e⟩:=Value.isStrOf_shape (x:=x) (v:=v) h
  exact .inr ⟨x,t,rfl,e⟩
theorem QqE (a b:Int):decide ((Sum.inl a:Key)=Sum.inl b)=(a == b):=by
 by_cases e:a=b
 ·subst e;simp
 ·have h:¬ (Sum.inl a:Key)=Sum.inl b:=fun q=>e (Sum.inl.inj q)
  rw [decide_eq_false h]
  exact (beq_eq_false_iff_ne.mpr e).symm
theorem QqK (a b:Str):decide ((Sum.inr a:Key)=Sum.inr b)=decide (a=b):=by
 by_cases e:a=b
 ·subst e;simp
 ·have h:¬ (Sum.inr a:Key)=Sum.inr b:=fun q=>e (Sum.inr.inj q)
  rw [decide_eq_false h,decide_eq_false e]
theorem Qq0 (a:Int) (b:Str):decide ((Sum.inl a:Key)=Sum.inr b)=false:=decide_eq_false (fun q=>nomatch q)
theorem Qqh (a:Str) (b:Int):decide ((Sum.inr a:Key)=Sum.inl b)=false:=decide_eq_false (fun q=>nomatch q)
def Qhl (prog:Program) (w:World):PySem.KeyKind prog w Key where
 is:=QpT
 hash:=keyH w
 inj:=fun v a b ha hb=>by
  rcases QaQ ha with ⟨i,t,rfl,rfl⟩ | ⟨x,t,rfl,rfl⟩
  ·rcases QaQ hb with ⟨j,u,rfl,e⟩ | ⟨y,u,rfl,e⟩
   ·injection e with e1 _;rw [e1]
   ·exact nomatch e
  ·rcases QaQ hb with ⟨j,u,rfl,e⟩ | ⟨y,u,rfl,e⟩
   ·exact nomatch e
   ·injection e with e1 _;rw [e1]
 byValue:=fun k v h=>by
  rcases QaQ h with ⟨i,t,rfl,rfl⟩ | ⟨x,t,rfl,rfl⟩ <;> rfl
 pyHash:=fun hv h=>by
  rcases QaQ hv with ⟨i,t,rfl,rfl⟩ | ⟨x,t,rfl,rfl⟩
  ·exact wpAny_pyHash_int h
  ·exact wpAny_pyHash_str h
 eqBool:=fun hu hv h=>by
  rcases QaQ hu with ⟨i,t,rfl,rfl⟩ | ⟨x,t,rfl,rfl⟩
  ·rcases QaQ hv with ⟨j,u,rfl,rfl⟩ | ⟨y,u,rfl,rfl⟩
   ·rw [QqE] at h;exact wpAny_eqBool_int h
   ·rw [Qq0] at h;exact SeqAt.EqAt.int_str i t y u _ _ _ _ h
  ·rcases QaQ hv with ⟨j,u,rfl,rfl⟩ | ⟨y,u,rfl,rfl⟩
   ·rw [Qqh] at h;exact SeqAt.EqAt.str_int x t j u _ _ _ _ h
   ·rw [QqK] at h;exact wpAny_eqBool_str h
 «strs»:=fun k x t v h=>by
  rcases QaQ h with ⟨i,u,rfl,e⟩ | ⟨y,u,rfl,e⟩
  ·exact nomatch e
  ·injection e with e1 _
   subst e1
   cases v <;> rfl
end L2
namespace L2
open PySem PySem.Spec PyProof.Rows
inductive V where
 | non | bl (b:Bool) | int (i:Int) | str (x:Str) | byt (b:Array UInt8) | flt (b:UInt64) | ref (a:Addr) | ty (n:String)
 deriving DecidableEq
def RelV:V->Value->Prop
 | .non,u=>u=Value.none
 | .bl b,u=>u=Value.bool b
 | .int i,u=>∃ t,u=Value.int i t
 | .str x,u=>∃ t,u=Value.str x t
 | .byt b,u=>∃ t,u=Value.bytes b t
 | .flt b,u=>∃ t,u=Value.float b t
 | .ref a,u=>u=Value.ref a
 | .ty n,u=>u=Value.type n
abbrev Vals:List V->List Value->Prop:=Paired RelV
theorem Vals.length {xs:List V} {us:List Value} (r:Vals xs us):xs.length=us.length:=Paired.length r
theorem Vals.get:∀ {xs:List V} {us:List Value} {i:Nat} {x:V},Vals xs us->xs[i]? = some x->∃ u,us[i]? = some u/\RelV x u
 | _,_,_,_,.nil,e=>by simp at e
 | _,_,0,_,.cons r _,e=>by simp at e;subst e;exact ⟨_,rfl,r⟩
 | _,_,i + 1,x,.cons _ t,e=>by
  obtain ⟨u,h1,h2⟩:=Vals.get (i:=i) (x:=x) t (by simpa using e)
  exact ⟨u,by simpa using h1,h2⟩
theorem Vals.append:∀ {xs ys:List V} {us ws:List Value},Vals xs us->Vals ys ws->Vals (xs++ys) (us++ws)
 | _,_,_,_,.nil,s=>s
 | _,_,_,_,.cons r t,s=>.cons r (Vals.append t s)
theorem Vals.take:∀ {xs:List V} {us:List Value} (n:Nat),Vals xs us->Vals (xs.take n) (us.take n)
 | _,_,0,_=>.nil
 | _,_,_ + 1,.nil=>.nil
 | _,_,n + 1,.cons r t=>.cons r (Vals.take n t)
theorem Vals.drop:∀ {xs:List V} {us:List Value} (n:Nat),Vals xs us->Vals (xs.drop n) (us.drop n)
 | _,_,0,r=>r
 | _,_,_ + 1,.nil=>.nil
 | _,_,n + 1,.cons _ t=>Vals.drop n t
def RelO:Option V->Option Value->Prop
 | some v,some u=>RelV v u
 | none,none=>True
 | _,_=>False
def KV {κ:Type}:List (κ×V)->List (κ×Value)->Prop:=Paired fun (p:κ×V) (q:κ×Value)=>p.1=q.1/\RelV p.2 q.2
def kV:Key->V
 | .inl i=>.int i
 | .inr x=>.str x
inductive HO where
 | lst (xs:List V)
 | tup (xs:List V)
 | dK (kvs:List (Key×V)) | dT (kvs:List (List Key×V))
 | set (S:Int->Bool) (n:Nat)
 | ins (C dx:Addr) (fs:List (Str×V))
 | own (x:Addr)
 | xd (fs:List (Str×V))
 | met (f x:Addr)
 | rng (lo hi:Int)
 | frz (o:Obj) (u:HO)
 | tbl (ps:Array Value)
 | ext (φ:Heap->Prop)
abbrev Hp:=Addr->Option HO
def upd (H:Hp) (a:Addr) (o:HO):Hp:=fun b=>if b=a then some o else H b
theorem QH {H:Hp} {a:Addr} {o:HO}:upd H a o a=some o:=by unfold upd;rw [if_pos rfl]
theorem Qt {H:Hp} {a b:Addr} {o:HO} (h:b≠a):upd H a o b=H b:=by unfold upd;rw [if_neg h]
theorem Qf6 {H:Hp} {a b:Addr} {o u:HO} (h:H a=some o) (h':H b=some u) (d:o≠u):a≠b:=by
 intro e;subst e;rw [h] at h';exact d (Option.some.inj h')
theorem QaD {H:Hp} {a b:Addr} {o:HO} (h:H a=some o) (h':H b=none):a≠b:=by
 intro e;subst e;rw [h] at h';cases h'
section
variable (P:Program) (w:World)
def ObjOk (H:Hp) (h:Heap) (a:Addr):HO->Prop
 | .lst xs=>xs.length<=sizeLine/\∃ (its:List Value) (n:Nat),Vals xs its/\h.get? a=some { cls:=.type "list",data:=.seq its.toArray n }
 | .tup xs=>xs.length<=sizeLine/\∃ its:List Value,Vals xs its/\IsTup h a its.toArray
 | .dK kvs=>kvs.length<=sizeLine/\(a == sysModules)=false/\∃ vs,KV kvs vs/\h.DictOf (Qhl P w) a vs
 | .dT kvs=>kvs.length<=sizeLine/\(a == sysModules)=false/\∃ xs:List (List Key×Addr×Value),
   Paired (fun (p:List Key×V) (q:List Key×Addr×Value)=>p.1=q.1/\H q.2.1=some (.tup (p.1.map kV))/\RelV p.2 q.2.2) kvs xs /\
   ∃ o es ep,h.get? a=some o/\o.ExactDict/\o.data=.dict es ep/\es.toList=xs.map (entryOfKey (tupleKind (Qhl P w)))/\(xs.map (·.1)).Nodup
 | .set S n=>h.SetOf (intKind P w) a S n
 | .ins C dx fs=>H dx=some (.own a)/\fs.length<=1000/\dx≠a/\h.get? a=some (PySem.W.instObj C dx) /\
   ∃ mA,h.Ns1 dx mA/\(∀ f,RelO (fs.lookup f) (mA f))/\PySem.Within mA (fs.map (·.1))
 | .own _=>∃ o,h.get? a=some o
 | .xd fs=>∃ mA,h.Ns1 a mA/\∀ f,RelO (fs.lookup f) (mA f)
 | .rng lo hi=>∃ t u v,h.get? a=some { cls:=.type "range",data:=.fields #[.int lo t,.int hi u,.int 1 v] }
 | .frz o u=>h.get? a=some o/\ObjOk H h a u
 | .tbl ps=>h.get? a=some { cls:=.none,data:=.fields ps }
 | .met f x=>h.get? a=some (PySem.W.methodObj (.ref f) (.ref x))
 | .ext φ=>φ h/\(∃ o,h.get? a=some o)/\∀ h1 h2:Heap,φ h1->(∀ o,h1.get? a=some o->h2.get? a=some o)->φ h2
def HOk (H:Hp) (h:Heap):Prop:=∀ a o,H a=some o->ObjOk P w H h a o
end
section
variable {P:Program} {w:World} {H H':Hp} {h h':Heap} {a:Addr} {o:HO}
theorem ObjOk.lt (x:ObjOk P w H h a o):a < h.objs.size:=by
 cases o with
 | lst xs=>obtain ⟨_,_,_,_,e⟩:=x;exact Heap.lt_size e
 | tup xs=>obtain ⟨_,_,_,p⟩:=x;exact p.lt
 | dK kvs=>obtain ⟨_,_,_,_,o,_,_,e,_⟩:=x;exact Heap.lt_size e
 | dT kvs=>obtain ⟨_,_,_,_,o,_,_,e,_⟩:=x;exact Heap.lt_size e
 | set S n=>obtain ⟨o,_,_,_,e,_⟩:=x;exact Heap.lt_size e
 | ins C dx fs=>obtain ⟨_,_,_,e,_⟩:=x;exact Heap.lt_size e
 | own y=>obtain ⟨_,e⟩:=x;exact Heap.lt_size e
 | xd fs=>obtain ⟨_,⟨_,_,_,e,_⟩,_⟩:=x;exact Heap.lt_size e
 | rng lo hi=>obtain ⟨_,_,_,e⟩:=x;exact Heap.lt_size e
 | frz ob u=>obtain ⟨e,_⟩:=x;exact Heap.lt_size e
 | tbl ps=>exact Heap.lt_size (show h.get? a=some _ from x)
 | met f y=>exact Heap.lt_size (show h.get? a=some _ from x)
 | ext φ=>obtain ⟨_,⟨_,e⟩,_⟩:=x;exact Heap.lt_size e
theorem Paired.mapP {α β:Type} {F G:α->β->Prop}:∀ {l₁:List α} {l₂:List β},Paired F l₁ l₂->(∀ a b,F a b->G a b)->Paired G l₁ l₂
 | _,_,.nil,_=>.nil
 | _,_,.cons r t,f=>.cons (f _ _ r) (Paired.mapP t f)
theorem ObjOk.stay (x:ObjOk P w H h a o) (k:∀ b u,(b=a\/H b=some (.own a))->h.get? b=some u->h'.get? b=some u)
  (ho:∀ b,H b=some (.own a)->H' b=some (.own a)) (ht:∀ b xs,H b=some (.tup xs)->H' b=some (.tup xs)):ObjOk P w H' h' a o:=by
 induction o with
 | lst xs=>obtain ⟨z,its,n,r,e⟩:=x;exact ⟨z,its,n,r,k _ _ (.inl rfl) e⟩
 | tup xs=>obtain ⟨z,its,r,ob,e,c⟩:=x;exact ⟨z,its,r,ob,k _ _ (.inl rfl) e,c⟩
 | dK kvs=>obtain ⟨z,y,vs,r,ob,es,ep,e,c⟩:=x;exact ⟨z,y,vs,r,ob,es,ep,k _ _ (.inl rfl) e,c⟩
 | dT kvs =>
  obtain ⟨z,y,xs,r,ob,es,ep,e,c⟩:=x
  exact ⟨z,y,xs,Paired.mapP r fun p q z=>⟨z.1,ht _ _ z.2.1,z.2.2⟩,ob,es,ep,k _ _ (.inl rfl) e,c⟩
 | set S n=>obtain ⟨ob,es,ep,t,e,c⟩:=x;exact ⟨ob,es,ep,t,k _ _ (.inl rfl) e,c⟩
 | ins C dx fs =>
  obtain ⟨d,z,ne,e,mA,⟨od,es,ep,e2,c⟩,r⟩:=x
  exact ⟨ho _ d,z,ne,k _ _ (.inl rfl) e,mA,⟨od,es,ep,k _ _ (.inr d) e2,c⟩,r⟩
 | own y=>obtain ⟨ob,e⟩:=x;exact ⟨ob,k _ _ (.inl rfl) e⟩
 | xd fs=>obtain ⟨mA,⟨od,es,ep,e,c⟩,r⟩:=x;exact ⟨mA,⟨od,es,ep,k _ _ (.inl rfl) e,c⟩,r⟩
 | rng lo hi=>obtain ⟨t,u,v,e⟩:=x;exact ⟨t,u,v,k _ _ (.inl rfl) e⟩
 | frz ob u ih=>obtain ⟨e,q⟩:=x;exact ⟨k _ _ (.inl rfl) e,ih q⟩
 | tbl ps =>
  have e:h.get? a=some { cls:=.none,data:=.fields ps }:=x
  show h'.get? a=some { cls:=.none,data:=.fields ps }
  exact k a _ (.inl rfl) e
 | met f y =>
  have e:h.get? a=some (PySem.W.methodObj (.ref f) (.ref y)):=x
  show h'.get? a=some (PySem.W.methodObj (.ref f) (.ref y))
  exact k a _ (.inl rfl) e
 | ext φ=>obtain ⟨p,⟨o,e⟩,st⟩:=x;exact ⟨st _ _ p fun o q=>k _ _ (.inl rfl) q,⟨o,k _ _ (.inl rfl) e⟩,st⟩
theorem HOk.lt (x:HOk P w H h) (e:H a=some o):a < h.objs.size:=(x a o e).lt
theorem HOk.fresh (x:HOk P w H h) (e:h.objs.size<=a):H a=none:=by
 cases q:H a with
 | none=>rfl
 | some u=>exact absurd (Nat.lt_of_lt_of_le (x.lt q) e) (Nat.lt_irrefl _)
theorem HOk.kept (x:HOk P w H h) (k:∀ b u,h.get? b=some u->h'.get? b=some u):HOk P w H h':=fun a o e =>
 (x a o e).stay (fun b u _ q=>k b u q) (fun _ q=>q) fun _ _ q=>q
theorem HOk.laid (x:HOk P w H h) (k:∀ b u,h.get? b=some u->h'.get? b=some u) (hp:h.objs.size<=a) (new:ObjOk P w (upd H a o) h' a o):HOk P w (upd H a o) h':=fun b u e=>by
 have hn:=x.fresh hp
 by_cases hb:b=a
 ·subst hb;rw [QH] at e;cases e;exact new
 ·rw [Qt hb] at e
  exact (x b u e).stay (fun c v _ q=>k c v q) (fun c q=>by rw [Qt (QaD q hn)];exact q) fun c xs q=>by rw [Qt (QaD q hn)];exact q
end
def Rd (H:Hp) (a:Addr) (u:HO):Prop:=H a=some u\/∃ o,H a=some (.frz o u)
theorem Rd.ok {P:Program} {w:World} {H:Hp} {h:Heap} {a:Addr} {u:HO} (r:Rd H a u) (x:HOk P w H h):ObjOk P w H h a u:=by
 rcases r with r | ⟨o,r⟩
 ·exact x a u r
 ·obtain ⟨_,q⟩:=x a _ r
  exact q
def Mut:Option HO->Prop
 | some (.lst _)=>True
 | some (.dK _)=>True
 | some (.dT _)=>True
 | some (.set _ _)=>True
 | some (.ins _ _ _)=>True
 | some (.ext _)=>True
 | _=>False
section
variable {P:Program} {w:World} {H:Hp} {h h':Heap} {x e:Addr} {o':HO}
theorem HOk.write (ok:HOk P w H h) (mu:Mut (H x)) (he:e=x\/H e=some (.own x)) (k:∀ b u,b≠e->h.get? b=some u->h'.get? b=some u) (heo:∃ u,h'.get? e=some u)
  (new:ObjOk P w (upd H x o') h' x o'):HOk P w (upd H x o') h':=fun b u q=>by
 have nown:∀ c y,H c=some (.own y)->c≠x:=fun c y r z=>by subst z;rw [r] at mu;exact mu
 have ntup:∀ c xs,H c=some (.tup xs)->c≠x:=fun c xs r z=>by subst z;rw [r] at mu;exact mu
 by_cases hb:b=x
 ·subst hb;rw [QH] at q;cases q;exact new
 ·rw [Qt hb] at q
  by_cases hbe:b=e
  ·have q':H b=some (.own x):=by
    rcases he with z | z
    ·exact absurd (hbe.trans z) hb
    ·rw [hbe];exact z
   rw [q] at q';cases q'
   obtain ⟨v,hv⟩:=heo
   exact ⟨v,by rw [hbe];exact hv⟩
  ·refine (ok b u q).stay (fun c v hc r=>k c v ?_ r) (fun c r=>by rw [Qt (nown c b r)];exact r) fun c xs r=>by rw [Qt (ntup c xs r)];exact r
   rcases hc with rfl | hc
   ·exact hbe
   ·rintro rfl
    rcases he with z | z
    ·exact nown c b hc z
    ·rw [hc] at z;cases z;exact hb rfl
end
structure Un (fs ex:List Addr) (H H':Hp) (h h':Heap):Prop where
 keep:∀ b o,h.get? b=some o->H b=none->b ∉ fs->b ∉ ex->h'.get? b=some o
 slot:∀ b o,h.get? b=some o->H b=none->b∈fs->b ∉ ex->∃ sl,h'.get? b=some { o with slots:=sl }
 free:∀ b o,h.get? b=some o->H b=none->b ∉ ex->H' b=none
 there:∀ b o,h.get? b=some o->b ∉ ex->∃ o',h'.get? b=some o'
 tups:∀ b xs,H b=some (.tup xs)->H' b=some (.tup xs)
 frzs:∀ b o u,H b=some (.frz o u)->H' b=some (.frz o u)
 tbls:∀ b ps,H b=some (.tbl ps)->∃ more,H' b=some (.tbl (ps++more))
section
variable {fs fs' ex ex':List Addr} {H H1 H2:Hp} {h h1 h2 h':Heap} {a x e:Addr} {o:HO}
theorem Un.any (u:Un fs ex H H1 h h1) {b:Addr} {ob:Obj} (q:h.get? b=some ob) (n:H b=none) (hx:b ∉ ex):∃ sl,h1.get? b=some { ob with slots:=sl }:=by
 by_cases hb:b∈fs
 ·exact u.slot b ob q n hb hx
 ·exact ⟨ob.slots,u.keep b ob q n hb hx⟩
theorem Un.trans (a:Un fs ex H H1 h h1) (b:Un fs ex H1 H2 h1 h2):Un fs ex H H2 h h2 where
 keep:=fun c ob q n hc hx=>b.keep c ob (a.keep c ob q n hc hx) (a.free c ob q n hx) hc hx
 slot:=fun c ob q n hc hx=>by
  obtain ⟨sl,e1⟩:=a.slot c ob q n hc hx
  obtain ⟨sl',e2⟩:=b.slot c _ e1 (a.free c ob q n hx) hc hx
  exact ⟨sl',e2⟩
 free:=fun c ob q n hx=>by
  obtain ⟨o',e1⟩:=a.there c ob q hx
  exact b.free c o' e1 (a.free c ob q n hx) hx
 there:=fun c ob q hx=>by
  obtain ⟨o',e1⟩:=a.there c ob q hx
  exact b.there c o' e1 hx
 tups:=fun c xs q=>b.tups c xs (a.tups c xs q)
 frzs:=fun c ob xs q=>b.frzs c ob xs (a.frzs c ob xs q)
 tbls:=fun c ps q=>by
  obtain ⟨m1,e1⟩:=a.tbls c ps q
  obtain ⟨m2,e2⟩:=b.tbls c _ e1
  exact ⟨m1++m2,by rw [e2,Array.append_assoc]⟩
theorem Un.kept (k:∀ b u,h.get? b=some u->h'.get? b=some u):Un fs ex H H h h' :=
 ⟨fun b ob q _ _ _=>k b ob q,fun b ob q _ _ _=>⟨ob.slots,k b ob q⟩,fun _ _ _ n _=>n,fun b ob q _=>⟨ob,k b ob q⟩,fun _ _ q=>q,fun _ _ _ q=>q,fun _ ps q=>⟨#[],by rw [q];simp⟩⟩
theorem Un.refl:Un fs ex H H h h:=Un.kept fun _ _ q=>q
theorem Un.laid (k:∀ b u,h.get? b=some u->h'.get? b=some u) (hp:h.objs.size<=a) (hn:H a=none):Un fs ex H (upd H a o) h h' where
 keep:=fun b u q _ _ _=>k b u q
 slot:=fun b u q _ _ _=>⟨u.slots,k b u q⟩
 free:=fun b u q n _=>by rw [Qt (Nat.ne_of_lt (Nat.lt_of_lt_of_le (Heap.lt_size q) hp))];exact n
 there:=fun b u q _=>⟨u,k b u q⟩
 tups:=fun b xs q=>by rw [Qt (QaD q hn)];exact q
 frzs:=fun b u xs q=>by rw [Qt (QaD q hn)];exact q
 tbls:=fun b ps q=>⟨#[],by rw [Qt (QaD q hn),q];simp⟩
theorem Un.write (mu:Mut (H x)) (he:e=x\/H e=some (.own x)) (k:∀ b u,b≠e->h.get? b=some u->h'.get? b=some u) (heo:∃ u,h'.get? e=some u):Un fs ex H (upd H x o) h h':=by
 have hx:∀ b,H b=none->b≠x:=fun b n z=>by subst z;rw [n] at mu;exact mu
 have hb:∀ b,H b=none->b≠e:=fun b n z=>by
  subst z
  rcases he with r | r
  ·exact hx b n r
  ·rw [n] at r;cases r
 have hm:∀ b u,H b=some u->¬ Mut (some u)->b≠x:=fun b u q nm z=>by subst z;rw [q] at mu;exact nm mu
 refine ⟨fun b u q n _ _=>k b u (hb b n) q,fun b u q n _ _=>⟨u.slots,k b u (hb b n) q⟩,fun b u q n _=>by rw [Qt (hx b n)];exact n,fun b u q _=>?_,
  fun b xs q=>by rw [Qt (hm b _ q fun z=>z)];exact q,fun b u xs q=>by rw [Qt (hm b _ q fun z=>z)];exact q,fun b ps q=>⟨#[],by rw [Qt (hm b _ q fun z=>z),q];simp⟩⟩
 by_cases hbe:b=e
 ·subst hbe;exact heo
 ·exact ⟨u,k b u hbe q⟩
theorem Un.mono (u:Un fs ex H H1 h h1) (hs:∀ b∈fs,b∈fs') (hx:∀ b∈ex,b∈ex'):Un fs' ex' H H1 h h1 :=
 ⟨fun b ob q n hb he=>u.keep b ob q n (fun z=>hb (hs b z)) fun z=>he (hx b z),fun _ _ q n _ he=>u.any q n fun z=>he (hx _ z),fun b ob q n he=>u.free b ob q n fun z=>he (hx b z),fun b ob q he=>u.there b ob q fun z=>he (hx b z),u.tups,u.frzs,u.tbls⟩
end
def trk (h:Heap) (H:Hp):List Addr:=(List.range h.objs.size).filter fun a=>(H a).isSome
def hidT (h:Heap) (H:Hp):Heap:=PySem.W.hideAll h (trk h H)
theorem Qjq (h:Heap) (H:Hp):(hidT h H).objs.size=h.objs.size:=PySem.W.hideAll_size _ _
theorem Qls {h:Heap} {H:Hp} {b:Addr} {o:Obj} (e:h.get? b=some o) (n:H b=none):(hidT h H).get? b=some o :=
 PySem.W.hideAll_get _ e fun hm=>by
  have q:(H b).isSome=true:=(List.mem_filter.mp hm).2
  rw [n] at q;simp at q
theorem QmJ {h:Heap} {H:Hp} {b:Addr} {o:Obj} (e:(hidT h H).get? b=some o):h.get? b=some o/\H b=none:=by
 have e':h.get? b=some o:=PySem.W.of_hideAll (trk h H) e
 refine ⟨e',?_⟩
 cases q:H b with
 | none=>rfl
 | some x =>
  have hm:b∈trk h H:=List.mem_filter.mpr ⟨List.mem_range.mpr (Heap.lt_size e'),by simp [q]⟩
  have z:(hidT h H).get? b=none:=PySem.W.hideAll_none (trk h H) hm
  rw [z] at e;cases e
def Qo5 (g h:Heap) (L:Addr):List (Addr×Obj):=(List.range h.objs.size).filterMap fun a=>if a=L\/(g.get? a).isSome=true then none else (h.get? a).map fun o=>(a,o)
def rest (g h:Heap) (L d:Addr):List (Addr×Obj):=(Qo5 g h L).filter fun p=>decide (p.1≠d)
end L2
namespace L2
open PySem PySem.Spec PyProof.Rows
structure Mod (K:PySem.W.Frag) (mg:Str->Option Value) (base:Heap):Prop where
 kin:K.In base
 glob:base.Ns mainGlobals mg
 blt:∃ mb,base.Ns builtinsNs mb/\∀ x:Str,x≠"__name__"->mb x=bootBuiltins x
 nolimit:base.NoLimit
structure Cx where
 prog:Program
 w:World
 K:PySem.W.Frag
 mg:Str->Option Value
 base:Heap
 A:Around
 N:List Str
 s₀:Shared
 H₀:Hp
 env:Env
 outer:List Env
 stack:List Env
 ex:List Addr
 fn:Str->Bool
 calm:Bool
 pn:List (Addr×Obj)
 xe:Value->Shared->Prop
def frs (l:List Env):List Addr:=l.filterMap (·.frame)
abbrev Cx.fs (X:Cx):List Addr:=frs X.outer
def Vis (sc:Scope) (x:Str):Prop:=sc.names.lookup x=some .local\/sc.names.lookup x=some .cell\/sc.names.lookup x=some .free
def Loc (sc:Scope) (x:Str):Prop:=sc.names.lookup x=some .local\/sc.names.lookup x=some .cell
def Look (env:Env) (h:Heap) (m:Str->Option Value) (x:Str) (u:Value):Prop :=
 (env.kindOf x=some .local/\m x=some u)\/((env.kindOf x=some .cell\/env.kindOf x=some .free)/\∃ c,env.cells.lookup x=some c/\h.IsCell c (some u))
structure Cx.Ok (X:Cx):Prop where
 mod:Mod X.K X.mg X.base
 kind:X.env.scope.kind=.function
 glob:X.env.globals=mainGlobals
 blt:X.env.builtins=builtinsNs
 above:X.s₀.heap.objs.size<=X.env.locals
 inj:∀ x y c,X.env.cells.lookup x=some c->X.env.cells.lookup y=some c->x=y
 has:∀ x,(X.env.kindOf x=some .cell\/X.env.kindOf x=some .free)->∃ c,X.env.cells.lookup x=some c
 cab:∀ x c,X.fn x=true->X.env.cells.lookup x=some c->X.s₀.heap.objs.size<=c
 hd:X.calm=true->X.A.handled=none
 frames:X.A.frames=some X.stack
 stk:X.stack=X.outer\/(X.stack=X.env::X.outer/\X.env.frame=some X.env.locals)
 exf:∀ b∈X.ex,b≠X.env.locals/\∀ x c,X.env.cells.lookup x=some c->c≠b
 bs:∀ b o,X.base.get? b=some o->X.s₀.heap.get? b=some o/\X.H₀ b=none
 bsz:X.base.objs.size<=X.s₀.heap.objs.size
 noex:∀ b o,X.base.get? b=some o->b ∉ X.ex
 exfs:∀ b∈X.ex,b ∉ X.fs
 funs:X.s₀.heap.FunFrames X.base X.outer
 frf:∀ b∈X.fs,X.H₀ b=none
structure Inv (X:Cx) (pins:List (Addr×Obj)) (σ:List (Option V)) (H:Hp) (s:Shared):Prop where
 ok:X.Ok
 os:s.os=X.s₀.os
 bare:AllBare s.gens
 base:Un X.fs X.ex X.H₀ H X.s₀.heap s.heap
 loc:∃ m,s.heap.Ns X.env.locals m/\∀ (i:Nat) (x:Str) (v:V),X.N[i]? = some x->σ[i]? = some (some v)->Vis X.env.scope x->∃ u,RelV v u/\Look X.env s.heap m x u
 cell:∀ x c,X.env.cells.lookup x=some c->∃ v,s.heap.IsCell c v
 free:H X.env.locals=none
 freeC:∀ x c,X.env.cells.lookup x=some c->H c=none
 pin:∀ p∈X.pn++pins,s.heap.get? p.1=some p.2/\H p.1=none/\p.1≠X.env.locals/\p.1 ∉ X.fs/\∀ v,p.2.data≠.cell v
 hok:HOk X.prog X.w H s.heap
 len:σ.length=X.N.length
section
variable {X:Cx} {pins:List (Addr×Obj)} {σ:List (Option V)} {H H':Hp} {s:Shared} {h':Heap}
theorem Cx.Ok.nofr (ok:X.Ok) {b:Addr} {o:Obj} (e:X.base.get? b=some o):b ∉ X.fs:=fun hb=>by
 have:=(ok.funs.mem hb).1
 rw [e] at this;cases this
theorem Inv.bs (I:Inv X pins σ H s):∀ b o,X.base.get? b=some o->s.heap.get? b=some o/\H b=none:=fun b o e =>
 ⟨I.base.keep b o (I.ok.bs b o e).1 (I.ok.bs b o e).2 (I.ok.nofr e) (I.ok.noex b o e),I.base.free b o (I.ok.bs b o e).1 (I.ok.bs b o e).2 (I.ok.noex b o e)⟩
theorem Inv.bk (I:Inv X pins σ H s):∀ b o,X.base.get? b=some o->s.heap.get? b=some o:=fun b o e=>(I.bs b o e).1
theorem Inv.mod (I:Inv X pins σ H s):Mod X.K X.mg X.base:=I.ok.mod
theorem Inv.kIn (I:Inv X pins σ H s):X.K.In s.heap:=I.ok.mod.kin.keeps I.bk
theorem Inv.nolimit (I:Inv X pins σ H s):s.heap.NoLimit:=I.ok.mod.nolimit.keeps I.bk
theorem Inv.lt (I:Inv X pins σ H s):X.env.locals < s.heap.objs.size:=let ⟨_,hn,_⟩:=I.loc;hn.lt
theorem Inv.sz (I:Inv X pins σ H s):X.s₀.heap.objs.size<=s.heap.objs.size:=Nat.le_trans I.ok.above (Nat.le_of_lt I.lt)
theorem Inv.nofs (I:Inv X pins σ H s) {a:Addr} (h:s.heap.objs.size<=a):a ∉ X.fs:=fun hb=>by
 obtain ⟨_,o,ho,_⟩:=I.ok.funs.mem hb
 exact absurd (Nat.lt_of_lt_of_le (Heap.lt_size ho) (Nat.le_trans I.sz h)) (Nat.lt_irrefl _)
theorem Inv.cne (I:Inv X pins σ H s):∀ x c,X.env.cells.lookup x=some c->c≠X.env.locals:=fun x c e z=>by
 obtain ⟨v,o,ho,hd⟩:=I.cell x c e
 obtain ⟨m,⟨o',es,ep,ho',hd',_⟩,_⟩:=I.loc
 rw [z,ho'] at ho;cases ho;rw [hd'] at hd;cases hd
theorem Inv.funs (I:Inv X pins σ H s):s.heap.FunFrames X.base X.outer:=by
 have all:∀ (l:List Env),(∀ b∈frs l,b∈X.fs)->X.s₀.heap.FunFrames X.base l->s.heap.FunFrames X.base l:=by
  intro l
  induction l with
  | nil=>intro _ _;trivial
  | cons env r ih =>
   intro hs hl
   obtain ⟨hk,⟨L,o,hf,hn,ho,hd⟩,hr⟩:=hl
   have hL:L∈X.fs:=hs L (by unfold frs;rw [List.filterMap_cons,hf];exact List.mem_cons_self)
   obtain ⟨sl,e⟩:=I.base.slot L o ho (I.ok.frf L hL) hL fun z=>I.ok.exfs L z hL
   exact ⟨hk,⟨L,_,hf,hn,e,hd⟩,ih (fun b hb=>hs b (by unfold frs;rw [List.filterMap_cons,hf];exact List.mem_cons_of_mem _ hb)) hr⟩
 exact all X.outer (fun _ hb=>hb) I.ok.funs
theorem Inv.stack (I:Inv X pins σ H s):s.heap.FunFrames X.base X.stack:=by
 rcases I.ok.stk with e | ⟨e,hf⟩
 ·rw [e];exact I.funs
 ·rw [e]
  obtain ⟨m,hn,_⟩:=I.loc
  refine .cons (by rw [I.ok.kind];decide) hf hn ?_ I.funs
  exact Heap.get?_none_of_le (Nat.le_trans I.ok.bsz I.ok.above)
theorem Inv.stkSub (I:Inv X pins σ H s):∀ b∈frs X.stack,b∈X.env.locals::X.fs:=fun b hb=>by
 rcases I.ok.stk with e | ⟨e,hf⟩
 ·rw [e] at hb;exact List.mem_cons_of_mem _ hb
 ·rw [e] at hb
  unfold frs at hb
  rw [List.filterMap_cons,hf] at hb
  exact hb
theorem Inv.stkFree (I:Inv X pins σ H s):∀ b∈frs X.stack,H b=none:=fun b hb=>by
 rcases List.mem_cons.mp (I.stkSub b hb) with e | hb
 ·rw [e];exact I.free
 ·obtain ⟨_,o,ho,_⟩:=I.ok.funs.mem hb
  exact I.base.free b o ho (I.ok.frf b hb) fun z=>I.ok.exfs b z hb
theorem Inv.step {g':Array GenState} {t':Nat} {d':Drawn} {ch:List Addr} (I:Inv X pins σ H s)
  (hch:∀ b∈ch,(b∈X.ex\/X.s₀.heap.objs.size<=b)/\b≠X.env.locals/\(∀ x c,X.env.cells.lookup x=some c->c≠b)/\∀ p∈X.pn++pins,p.1≠b)
  (keep:∀ b o,b≠X.env.locals->b ∉ X.fs->b ∉ ch->s.heap.get? b=some o->H b=none->h'.get? b=some o)
  (slot:∀ b o,b≠X.env.locals->b∈X.fs->b ∉ ch->s.heap.get? b=some o->H b=none->∃ sl,h'.get? b=some { o with slots:=sl }) (free:∀ b o,b ∉ ch->s.heap.get? b=some o->H b=none->H' b=none)
  (there:∀ b o,b ∉ ch->s.heap.get? b=some o->∃ o',h'.get? b=some o')
  (tups:∀ b xs,H b=some (.tup xs)->H' b=some (.tup xs)) (frzs:∀ b o u,H b=some (.frz o u)->H' b=some (.frz o u)) (tbls:∀ b ps,H b=some (.tbl ps)->∃ more,H' b=some (.tbl (ps++more)))
  (ns:∀ m,s.heap.Ns X.env.locals m->h'.Ns X.env.locals m) (hok:HOk X.prog X.w H' h') (hg:AllBare g') :
  Inv X pins σ H' { s with heap:=h',gens:=g',drawn:=d',toks:=t' }:=by
 have neL:∀ b o,X.s₀.heap.get? b=some o->b≠X.env.locals:=fun b o e=>Nat.ne_of_lt (Nat.lt_of_lt_of_le (Heap.lt_size e) I.ok.above)
 have neC:∀ b o,X.s₀.heap.get? b=some o->b ∉ X.ex->b ∉ ch:=fun b o e hx hb=>by
  rcases (hch b hb).1 with z | z
  ·exact hx z
  ·exact absurd (Nat.lt_of_lt_of_le (Heap.lt_size e) z) (Nat.lt_irrefl _)
 have cellK:∀ x c,X.env.cells.lookup x=some c->∀ v,s.heap.IsCell c v->h'.IsCell c v:=fun x c e v ⟨o,ho,hd⟩=>by
  have nch:c ∉ ch:=fun z=>(hch c z).2.2.1 x c e rfl
  by_cases hc:c∈X.fs
  ·obtain ⟨sl,q⟩:=slot c o (I.cne x c e) hc nch ho (I.freeC x c e)
   exact ⟨_,q,hd⟩
  ·exact ⟨o,keep c o (I.cne x c e) hc nch ho (I.freeC x c e),hd⟩
 refine ⟨I.ok,I.os,hg,⟨fun b o e n hb hx=>?_,fun b o e n hb hx=>?_,fun b o e n hx=>?_,fun b o e hx=>?_,fun b xs e=>tups b xs (I.base.tups b xs e),fun b o xs e=>frzs b o xs (I.base.frzs b o xs e),fun b ps e=>?_⟩,?_,fun x c e=>?_,?_,fun x c e=>?_,fun p hp=>?_,hok,I.len⟩
 ·exact keep b o (neL b o e) hb (neC b o e hx) (I.base.keep b o e n hb hx) (I.base.free b o e n hx)
 ·obtain ⟨sl,e1⟩:=I.base.slot b o e n hb hx
  obtain ⟨sl',e2⟩:=slot b _ (neL b o e) hb (neC b o e hx) e1 (I.base.free b o e n hx)
  exact ⟨sl',e2⟩
 ·obtain ⟨o',e1⟩:=I.base.there b o e hx
  exact free b o' (neC b o e hx) e1 (I.base.free b o e n hx)
 ·obtain ⟨o',e1⟩:=I.base.there b o e hx
  exact there b o' (neC b o e hx) e1
 ·obtain ⟨m1,e1⟩:=I.base.tbls b ps e
  obtain ⟨m2,e2⟩:=tbls b _ e1
  exact ⟨m1++m2,by rw [e2,Array.append_assoc]⟩
 ·obtain ⟨m,hn,hl⟩:=I.loc
  refine ⟨m,ns m hn,fun i x v e1 e2 e3=>?_⟩
  obtain ⟨u,r,l⟩:=hl i x v e1 e2 e3
  refine ⟨u,r,?_⟩
  rcases l with l | ⟨k,c,e,z⟩
  ·exact .inl l
  ·exact .inr ⟨k,c,e,cellK x c e _ z⟩
 ·obtain ⟨v,z⟩:=I.cell x c e
  exact ⟨v,cellK x c e v z⟩
 ·obtain ⟨m,⟨o,_,_,ho,_⟩,_⟩:=I.loc
  exact free _ o (fun z=>(hch _ z).2.1 rfl) ho I.free
 ·obtain ⟨v,o,ho,hd⟩:=I.cell x c e
  exact free c o (fun z=>(hch c z).2.2.1 x c e rfl) ho (I.freeC x c e)
 ·obtain ⟨e,n,ne,nf,d⟩:=I.pin p hp
  have nch:p.1 ∉ ch:=fun z=>(hch p.1 z).2.2.2 p hp rfl
  exact ⟨keep p.1 p.2 ne nf nch e n,free p.1 p.2 nch e n,ne,nf,d⟩
theorem Inv.un {t':Nat} (I:Inv X pins σ H s) (u:Un X.fs [] H H' s.heap h') (hok:HOk X.prog X.w H' h'):Inv X pins σ H' { s with heap:=h',toks:=t' }:=by
 obtain ⟨m,⟨o,es,ep,ho,r⟩,_⟩:=id I.loc
 obtain ⟨sl,hL⟩:=u.any ho I.free (by simp)
 exact I.step (g':=s.gens) (d':=s.drawn) (ch:=[]) (fun _ z=>nomatch z) (fun b o _ hb _ e n=>u.keep b o e n hb (by simp)) (fun b o _ hb _ e n=>u.slot b o e n hb (by simp)) (fun b o _ e n=>u.free b o e n (by simp)) (fun b o _ e=>u.there b o e (by simp)) u.tups u.frzs u.tbls (fun m' hm=>by
  obtain ⟨o',es',ep',ho',r'⟩:=hm
  rw [ho] at ho';cases ho'
  exact ⟨_,es',ep',hL,r'⟩) hok I.bare
theorem Inv.call {g':Array GenState} {t':Nat} {d':Drawn} {ch:List Addr} (I:Inv X pins σ H s) (u:Un (frs X.stack) ch H H' s.heap h') (hok:HOk X.prog X.w H' h') (hg:AllBare g')
  (hch:∀ b∈ch,(b∈X.ex\/X.s₀.heap.objs.size<=b)/\b≠X.env.locals/\(∀ x c,X.env.cells.lookup x=some c->c≠b)/\∀ p∈X.pn++pins,p.1≠b) :
  Inv X pins σ H' { s with heap:=h',gens:=g',drawn:=d',toks:=t' }:=by
 obtain ⟨m,⟨o,es,ep,ho,r⟩,_⟩:=id I.loc
 obtain ⟨sl,hL⟩:=u.any ho I.free fun z=>(hch _ z).2.1 rfl
 exact I.step (ch:=ch) hch (fun b o hL hb hc e n=>u.keep b o e n (fun z=>(List.mem_cons.mp (I.stkSub b z)).elim hL hb) hc) (fun b o _ _ hc e n=>u.any e n hc) (fun b o hc e n=>u.free b o e n hc) (fun b o hc e=>u.there b o e hc) u.tups u.frzs u.tbls (fun m' hm=>by
  obtain ⟨o',es',ep',ho',r'⟩:=hm
  rw [ho] at ho';cases ho'
  exact ⟨_,es',ep',hL,r'⟩) hok hg
theorem Inv.turned {t':Nat} {it:Addr} (I:Inv X pins σ H s) (k:∀ b o,b≠it->s.heap.get? b=some o->h'.get? b=some o) (hn:H it=none) (hL:it≠X.env.locals)
  (h1:it∈X.ex\/X.s₀.heap.objs.size<=it) (h2:∀ x c,X.env.cells.lookup x=some c->c≠it) (h3:∀ p∈X.pn++pins,p.1≠it):Inv X pins σ H { s with heap:=h',toks:=t' }:=by
 have nit:∀ b u,H b=some u->b≠it:=fun b u e z=>by rw [z,hn] at e;cases e
 refine I.step (g':=s.gens) (d':=s.drawn) (ch:=[it]) (fun b hb=>?_) (fun b o _ _ hc e _=>k b o (fun z=>hc (by simp [z])) e) (fun b o _ _ hc e _=>⟨o.slots,k b o (fun z=>hc (by simp [z])) e⟩) (fun _ _ _ _ n=>n)
  (fun b o hc e=>⟨o,k b o (fun z=>hc (by simp [z])) e⟩) (fun _ _ e=>e) (fun _ _ _ e=>e) (fun b ps e=>⟨#[],by rw [e];simp⟩) (fun m hm=>?_) (fun b u e=>?_) I.bare
 ·have e:b=it:=by simpa using hb
  subst e
  exact ⟨h1,hL,h2,h3⟩
 ·obtain ⟨o,es,ep,ho,r⟩:=hm
  exact ⟨o,es,ep,k _ o (Ne.symm hL) ho,r⟩
 ·refine (I.hok b u e).stay (fun c v hc q=>k c v ?_ q) (fun _ q=>q) fun _ _ q=>q
  rcases hc with z | z
  ·rw [z];exact nit b u e
  ·exact nit c _ z
theorem Inv.tok (I:Inv X pins σ H s) (t:Nat):Inv X pins σ H { s with toks:=t }:=I.un (h':=s.heap) (t':=t) Un.refl I.hok
theorem Inv.kept {t':Nat} (I:Inv X pins σ H s) (k:∀ b u,s.heap.get? b=some u->h'.get? b=some u):Inv X pins σ H { s with heap:=h',toks:=t' }:=I.un (Un.kept k) (I.hok.kept k)
theorem Inv.laid {a:Addr} {o:HO} {t':Nat} (I:Inv X pins σ H s) (k:∀ b u,s.heap.get? b=some u->h'.get? b=some u) (hp:s.heap.objs.size<=a) (new:ObjOk X.prog X.w (upd H a o) h' a o) :
  Inv X pins σ (upd H a o) { s with heap:=h',toks:=t' }:=I.un (Un.laid k hp (I.hok.fresh hp)) (I.hok.laid k hp new)
theorem Inv.write {x e:Addr} {o:HO} {t':Nat} (I:Inv X pins σ H s) (mu:Mut (H x)) (he:e=x\/H e=some (.own x)) (k:∀ b u,b≠e->s.heap.get? b=some u->h'.get? b=some u) (heo:∃ u,h'.get? e=some u)
  (new:ObjOk X.prog X.w (upd H x o) h' x o):Inv X pins σ (upd H x o) { s with heap:=h',toks:=t' }:=I.un (Un.write mu he k heo) (I.hok.write mu he k heo new)
theorem Inv.pins_of {pins':List (Addr×Obj)} (I:Inv X pins σ H s) (h:∀ p∈pins',s.heap.get? p.1=some p.2/\H p.1=none/\p.1≠X.env.locals/\p.1 ∉ X.fs/\∀ v,p.2.data≠.cell v):Inv X pins' σ H s :=
 ⟨I.ok,I.os,I.bare,I.base,I.loc,I.cell,I.free,I.freeC,fun p hp=>(List.mem_append.mp hp).elim (fun z=>I.pin p (List.mem_append_left _ z)) (h p),I.hok,I.len⟩
theorem Qk0 {N:List Str} (hN:N.Nodup) {i j:Nat} {x:Str} (a:N[i]? = some x) (b:N[j]? = some x):i=j:=by
 obtain ⟨h1,e1⟩:=List.getElem?_eq_some_iff.mp a
 obtain ⟨h2,e2⟩:=List.getElem?_eq_some_iff.mp b
 exact (List.getElem_inj hN).mp (e1.trans e2.symm)
theorem Qm0 {M:Model} {A:Around} {E:Value->Shared->Prop} {i:Nat} {x:Str} {v:V} {u:Value} {Q:Unit->Shared->Prop} (I:Inv X pins σ H s) (hN:X.N.Nodup) (hi:X.N[i]? = some x) (hx:Loc X.env.scope x) (r:RelV v u)
  (h:∀ s',Inv X pins (σ.set i (some v)) H s'->(∃ a,Heap.SameBut a s.heap s'.heap/\(a=X.env.locals\/X.env.cells.lookup x=some a))->Q () s') (hf:X.fn x=true\/X.env.scope.names.lookup x=some .local:=by first | exact .inl rfl | exact .inr rfl | assumption):wpAny M A (storeName X.env x u) Q E s:=by
 obtain ⟨m,hn,hl⟩:=id I.loc
 have hcls:(X.env.scope.kind == .class || (X.env.scope.kind == .module && X.env.locals != X.env.globals))=false:=by rw [I.ok.kind];rfl
 have hiσ:i < σ.length:=by rw [I.len];exact (List.getElem?_eq_some_iff.mp hi).1
 have cne:=I.cne
 have tracked:∀ {a:Addr} {h':Heap},(∃ o,s.heap.get? a=some o/\H a=none)->Heap.SameBut a s.heap h'->HOk X.prog X.w H h':=fun {a h'} ha hs b ob e=>by
  obtain ⟨_,_,hfree⟩:=ha
  refine (I.hok b ob e).stay (fun c w' hc q=>(hs.2 c ?_).trans q) (fun _ q=>q) fun _ _ q=>q
  rintro rfl
  rcases hc with rfl | hc
  ·rw [hfree] at e;cases e
  ·rw [hfree] at hc;cases hc
 rcases hx with hk | hk
 ·refine wpAny_storeName_local hk hn (fun h' hn' hs=>?_) hcls
  obtain ⟨oL,_,_,hoL,_⟩:=id hn
  refine h _ ⟨I.ok,I.os,I.bare,⟨fun b o e n hb hx=>?_,fun b o e n hb hx=>?_,I.base.free,fun b o e hx=>?_,I.base.tups,I.base.frzs,I.base.tbls⟩,⟨_,hn',fun j y v' e1 e2 e3=>?_⟩,fun y c e=>?_,I.free,I.freeC,fun p hp=>?_,tracked ⟨oL,hoL,I.free⟩ hs,by simpa using I.len⟩ ⟨_,hs,.inl rfl⟩
  ·exact (hs.2 b (Nat.ne_of_lt (Nat.lt_of_lt_of_le (Heap.lt_size e) I.ok.above))).trans (I.base.keep b o e n hb hx)
  ·obtain ⟨sl,e1⟩:=I.base.slot b o e n hb hx
   exact ⟨sl,(hs.2 b (Nat.ne_of_lt (Nat.lt_of_lt_of_le (Heap.lt_size e) I.ok.above))).trans e1⟩
  ·obtain ⟨o',e1⟩:=I.base.there b o e hx
   exact ⟨o',(hs.2 b (Nat.ne_of_lt (Nat.lt_of_lt_of_le (Heap.lt_size e) I.ok.above))).trans e1⟩
  ·by_cases hj:j=i
   ·subst hj
    rw [hi] at e1;cases e1
    rw [List.getElem?_set_self hiσ] at e2
    cases e2
    exact ⟨u,r,.inl ⟨hk,by simp⟩⟩
   ·rw [List.getElem?_set_ne (Ne.symm hj)] at e2
    obtain ⟨u',r',q⟩:=hl j y v' e1 e2 e3
    refine ⟨u',r',?_⟩
    rcases q with ⟨k,e⟩ | ⟨k,c,e,z⟩
    ·refine .inl ⟨k,?_⟩
     have:y≠x:=fun e=>hj (Qk0 hN e1 (e ▸ hi))
     simp [this,e]
    ·exact .inr ⟨k,c,e,z.sameBut hs (cne y c e)⟩
  ·obtain ⟨w',z⟩:=I.cell y c e
   exact ⟨w',z.sameBut hs (cne y c e)⟩
  ·obtain ⟨e,n,ne,nf,d⟩:=I.pin p hp
   exact ⟨(hs.2 p.1 ne).trans e,n,ne,nf,d⟩
 ·have hfn:X.fn x=true:=by
   rcases hf with z | z
   ·exact z
   ·rw [z] at hk;cases hk
  obtain ⟨c,hc⟩:=I.ok.has x (.inl hk)
  obtain ⟨w',z⟩:=I.cell x c hc
  refine wpAny_storeName_cell I.ok.kind hk hc z (fun h' hc' hs=>?_)
  obtain ⟨oc,hoc,hocd⟩:=id z
  refine h { s with heap:=h' } ⟨I.ok,I.os,I.bare,⟨fun b o e n hb hx=>?_,fun b o e n hb hx=>?_,I.base.free,fun b o e hx=>?_,I.base.tups,I.base.frzs,I.base.tbls⟩,⟨m,hn.sameBut hs (Ne.symm (cne x c hc)),fun j y v' e1 e2 e3=>?_⟩,fun y c' e=>?_,I.free,I.freeC,fun p hp=>?_,tracked ⟨oc,hoc,I.freeC x c hc⟩ hs,by simpa using I.len⟩ ⟨c,hs,.inr hc⟩
  ·exact (hs.2 b (Nat.ne_of_lt (Nat.lt_of_lt_of_le (Heap.lt_size e) (I.ok.cab x c hfn hc)))).trans (I.base.keep b o e n hb hx)
  ·obtain ⟨sl,e1⟩:=I.base.slot b o e n hb hx
   exact ⟨sl,(hs.2 b (Nat.ne_of_lt (Nat.lt_of_lt_of_le (Heap.lt_size e) (I.ok.cab x c hfn hc)))).trans e1⟩
  ·obtain ⟨o',e1⟩:=I.base.there b o e hx
   exact ⟨o',(hs.2 b (Nat.ne_of_lt (Nat.lt_of_lt_of_le (Heap.lt_size e) (I.ok.cab x c hfn hc)))).trans e1⟩
  ·by_cases hj:j=i
   ·subst hj
    rw [hi] at e1;cases e1
    rw [List.getElem?_set_self hiσ] at e2
    cases e2
    exact ⟨u,r,.inr ⟨.inl hk,c,hc,hc'⟩⟩
   ·rw [List.getElem?_set_ne (Ne.symm hj)] at e2
    obtain ⟨u',r',q⟩:=hl j y v' e1 e2 e3
    refine ⟨u',r',?_⟩
    rcases q with q | ⟨k,c',e,z'⟩
    ·exact .inl q
    ·refine .inr ⟨k,c',e,z'.sameBut hs ?_⟩
     rintro rfl
     exact hj (Qk0 hN e1 (I.ok.inj _ _ _ e hc ▸ hi))
  ·by_cases hcc:c'=c
   ·subst hcc;exact ⟨_,hc'⟩
   ·obtain ⟨w2,z2⟩:=I.cell y c' e
    exact ⟨w2,z2.sameBut hs hcc⟩
  ·obtain ⟨e,n,ne,nf,d⟩:=I.pin p hp
   refine ⟨(hs.2 p.1 ?_).trans e,n,ne,nf,d⟩
   intro q
   rw [q,hoc] at e
   have q':oc=p.2:=Option.some.inj e
   exact d w' (by rw [← q'];exact hocd)
theorem QiA {M:Model} {A:Around} {E:Value->Shared->Prop} {i:Nat} {x:Str} {v:V} {u:Value} {Q:Unit->Shared->Prop} (I:Inv X pins σ H s) (hN:X.N.Nodup) (hi:X.N[i]? = some x) (hx:Loc X.env.scope x) (r:RelV v u)
  (h:∀ s',Inv X pins (σ.set i (some v)) H s'->Q () s') (hf:X.fn x=true\/X.env.scope.names.lookup x=some .local:=by first | exact .inl rfl | exact .inr rfl | assumption):wpAny M A (storeName X.env x u) Q E s :=
 Qm0 I hN hi hx r (fun s' I' _=>h s' I') hf
theorem Inv.call' {s':Shared} {ch:List Addr} (I:Inv X pins σ H s) (ho:s'.os=s.os) (u:Un (frs X.stack) ch H H' s.heap s'.heap) (hok:HOk X.prog X.w H' s'.heap) (hg:AllBare s'.gens)
  (hch:∀ b∈ch,(b∈X.ex\/X.s₀.heap.objs.size<=b)/\b≠X.env.locals/\(∀ x c,X.env.cells.lookup x=some c->c≠b)/\∀ p∈X.pn++pins,p.1≠b):Inv X pins σ H' s':=by
 obtain ⟨h',g',d',t',o'⟩:=s'
 have e:o'=s.os:=ho
 subst e
 exact I.call (g':=g') (t':=t') (d':=d') u hok hg hch
end
abbrev XK:=Value->Option Addr->Hp->Prop
abbrev St:=List (Option V)
abbrev VK:=V->Hp->Prop
abbrev TE:=St->Hp->VK->Prop
abbrev TT:=St->Hp->(Bool->Hp->Prop)->Prop
abbrev TA:=St->Hp->(List V->Hp->Prop)->Prop
structure Ends where
 nx:St->Hp->Prop
 rt:VK
 bk:St->Hp->Prop:=fun _ _=>False
 ct:St->Hp->Prop:=fun _ _=>False
abbrev TS:=Ends->St->Hp->Prop
def EP (X:Cx) (pins:List (Addr×Obj)) (σ:St) (Q:VK) (u:Value) (s':Shared):Prop:=∃ v H',Inv X pins σ H' s'/\RelV v u/\Q v H'
def TP (X:Cx) (pins:List (Addr×Obj)) (σ:St) (Q:Bool->Hp->Prop) (b:Bool) (s':Shared):Prop:=∃ H',Inv X pins σ H' s'/\Q b H'
def AP (X:Cx) (pins:List (Addr×Obj)) (σ:St) (Q:List V->Hp->Prop) (us:List Value) (s':Shared):Prop:=∃ vs H',Inv X pins σ H' s'/\Vals vs us/\Q vs H'
def SP (X:Cx) (pins:List (Addr×Obj)) (D:Ends) (f:Flow) (s':Shared):Prop :=
 match f with
 | .next=>∃ σ' H',Inv X pins σ' H' s'/\D.nx σ' H'
 | .brk=>∃ σ' H',Inv X pins σ' H' s'/\D.bk σ' H'
 | .cont=>∃ σ' H',Inv X pins σ' H' s'/\D.ct σ' H'
 | .ret u=>∃ v σ' H',Inv X pins σ' H' s'/\RelV v u/\D.rt v H'
def PE (X:Cx) (e:Expr) (t:TE):Prop :=
 ∀ (pins:List (Addr×Obj)) (s:Shared) (σ:St) (H:Hp) (Q:VK),Inv X pins σ H s->t σ H Q->wpAny (model X.prog X.w) X.A (eval e X.env) (EP X pins σ Q) X.xe s
def PT (X:Cx) (e:Expr) (t:TT):Prop :=
 ∀ (pins:List (Addr×Obj)) (s:Shared) (σ:St) (H:Hp) (Q:Bool->Hp->Prop),Inv X pins σ H s->t σ H Q->wpAny (model X.prog X.w) X.A (isTrue e X.env (eval e X.env)) (TP X pins σ Q) X.xe s
def PW (X:Cx) (e:Expr) (t:TT):Prop :=
 ∀ (whole:Sem Value) (pins:List (Addr×Obj)) (s:Shared) (σ:St) (H:Hp) (Q:Bool->Hp->Prop),Inv X pins σ H s->t σ H Q->wpAny (model X.prog X.w) X.A (isTrue e X.env whole) (TP X pins σ Q) X.xe s
theorem PW.pt {X:Cx} {e:Expr} {t:TT} (h:PW X e t):PT X e t:=h _
def PA (X:Cx) (es:List Expr) (t:TA):Prop :=
 ∀ (pos:Pos) (pins:List (Addr×Obj)) (s:Shared) (σ:St) (H:Hp) (Q:List V->Hp->Prop),Inv X pins σ H s->t σ H Q->wpAny (model X.prog X.w) X.A (spliced (backTo pos (starEach es X.env))) (AP X pins σ Q) X.xe s
def PS (X:Cx) (st:Stmt) (t:TS):Prop :=
 ∀ (pins:List (Addr×Obj)) (s:Shared) (σ:St) (H:Hp) (D:Ends),Inv X pins σ H s->t D σ H->wpAny (model X.prog X.w) X.A (exec st X.env) (SP X pins D) X.xe s
def PSs (X:Cx) (st:List Stmt) (t:TS):Prop :=
 ∀ (pins:List (Addr×Obj)) (s:Shared) (σ:St) (H:Hp) (D:Ends),Inv X pins σ H s->t D σ H->wpAny (model X.prog X.w) X.A (execs st X.env) (SP X pins D) X.xe s
theorem thn {α:Type} {t:Sem α} {Q Q':α->Shared->Prop} {M:Model} {A:Around} {E:Value->Shared->Prop} {s:Shared} (h:wpAny M A t Q E s) (hQ:∀ a s,Q a s->Q' a s):wpAny M A t Q' E s:=wpAny_mono h hQ fun _ _ x=>x
end L2
namespace L2
open PySem PySem.Spec PyProof.Rows
section
variable {X:Cx}
def tVar (i:Nat):TE:=fun σ H Q=>∃ v,σ[i]? = some (some v)/\Q v H
def tC (v:V):TE:=fun _ H Q=>Q v H
theorem QqG {i:Nat} {x:Str} {pos:Pos} (hN:X.N[i]? = some x) (hv:Vis X.env.scope x) (hd:(x == ("__debug__":Str))=false:=by decide) (hcd:(x == ("__classdict__":Str))=false:=by decide):PE X (.Name x pos) (tVar i):=by
 intro pins s σ H Q I h
 obtain ⟨v,e,h⟩:=h
 obtain ⟨m,hn,hl⟩:=I.loc
 obtain ⟨u,r,l⟩:=hl i x v hN e hv
 have fin:EP X pins σ Q u s:=⟨v,H,I,r,h⟩
 rcases l with ⟨hk,hm⟩ | ⟨hk,c,hc,hcell⟩
 ·exact wpAny_Name (wpAny_loadName_local I.ok.kind hk hn hm fin) hd
 ·rcases hk with hk | hk
  ·exact wpAny_Name (wpAny_loadName_cell I.ok.kind hk hc hcell fin) hd
  ·exact wpAny_Name (wpAny_loadName_free I.ok.kind hk hc hcell fin hcd) hd
theorem QqS {i j pos}:PE X (.Constant (.int i) j pos) (tC (.int i)):=fun _ _ _ H _ I h=>wpAny_Constant_int ⟨.int i,H,I.tok _,⟨_,rfl⟩,h⟩
theorem pe_bl {b j pos}:PE X (.Constant (.bool b) j pos) (tC (.bl b)):=fun _ _ _ H _ I h=>Constant_bool ⟨.bl b,H,I,rfl,h⟩
theorem QqO {j pos}:PE X (.Constant .none j pos) (tC .non):=fun _ _ _ H _ I h=>Constant_none ⟨.non,H,I,rfl,h⟩
theorem Qqf {x j pos}:PE X (.Constant (.str x) j pos) (tC (.str x)):=fun _ _ _ H _ I h=>Calls.Constant_str ⟨.str x,H,I.tok _,⟨_,rfl⟩,h⟩
def Gl (X:Cx) (x:Str):Prop:=X.env.kindOf x=some .globalImplicit
theorem Qkp {E:Value->Shared->Prop} {pins:List (Addr×Obj)} {s:Shared} {σ:St} {H:Hp} {x:Str} {u:Value} {pos:Pos} {Q:Value->Shared->Prop} (I:Inv X pins σ H s) (hg:Gl X x) (hm:X.mg x=some u) (h:Q u s)
  (hd:(x == ("__debug__":Str))=false:=by decide):wpAny (model X.prog X.w) X.A (eval (.Name x pos) X.env) Q E s :=
 Calls.Name_function_global I.ok.kind hg (Calls.loadGlobal_global (by rw [I.ok.glob];exact I.mod.glob.keeps I.bk) hm h) hd
theorem Qe0 {E:Value->Shared->Prop} {pins:List (Addr×Obj)} {s:Shared} {σ:St} {H:Hp} {x:Str} {u:Value} {pos:Pos} {Q:Value->Shared->Prop} (I:Inv X pins σ H s) (hg:Gl X x) (hm:X.mg x=none) (hv:bootBuiltins x=some u) (h:Q u s)
  (hn:x≠"__name__":=by decide) (hd:(x == ("__debug__":Str))=false:=by decide):wpAny (model X.prog X.w) X.A (eval (.Name x pos) X.env) Q E s:=by
 obtain ⟨mb,h1,h2⟩:=I.mod.blt
 exact Calls.Name_function_global I.ok.kind hg (Calls.loadGlobal_builtin (by rw [I.ok.glob];exact I.mod.glob.keeps I.bk) hm (by rw [I.ok.blt];exact h1.keeps I.bk) ((h2 x hn).trans hv) h) hd
theorem Qpl {x:Str} {v:V} {u:Value} {pos:Pos} (hg:Gl X x) (hm:X.mg x=some u) (r:RelV v u) (hd:(x == ("__debug__":Str))=false:=by decide):PE X (.Name x pos) (tC v) :=
 fun _ _ _ H _ I h=>Qkp I hg hm ⟨v,H,I,r,h⟩ hd
theorem Qpe {x:Str} {v:V} {u:Value} {pos:Pos} (hg:Gl X x) (hm:X.mg x=none) (hv:bootBuiltins x=some u) (r:RelV v u) (hn:x≠"__name__":=by decide) (hd:(x == ("__debug__":Str))=false:=by decide):PE X (.Name x pos) (tC v) :=
 fun _ _ _ H _ I h=>Qe0 I hg hm hv ⟨v,H,I,r,h⟩ hn hd
variable {a b:Expr} {ta tb:TE} {pos:Pos}
def PC (X:Cx) (op:CmpOp) (a b:Expr) (t:TE):Prop :=
 ∀ (pins:List (Addr×Obj)) (s:Shared) (σ:St) (H:Hp) (Q:VK),Inv X pins σ H s->t σ H Q ->
  wpAny (model X.prog X.w) X.A (eval a X.env) (fun v s₁=>wpAny (model X.prog X.w) X.A (eval b X.env) (fun u s₂=>wpAny (model X.prog X.w) X.A (compareOp op v u) (EP X pins σ Q) X.xe s₂) X.xe s₁) X.xe s
theorem Qlw (b:Expr) {op:CmpOp} (h:op≠.In) (h2:op≠.NotIn):behindInMarks op b=false:=by
 have e1:(op == CmpOp.In)=false:=by cases op <;> first | rfl | exact absurd rfl h
 have e2:(op == CmpOp.NotIn)=false:=by cases op <;> first | rfl | exact absurd rfl h2
 cases b <;> simp [behindInMarks,e1,e2]
def tIsN (ta:TE):TE:=fun σ H Q=>ta σ H fun x H1=>Q (.bl (decide (x=.non))) H1
def tNotN (ta:TE):TE:=fun σ H Q=>ta σ H fun x H1=>Q (.bl (!decide (x=.non))) H1
theorem RelV.none_iff {x:V} {v:Value} (r:RelV x v):(v == Value.none)=decide (x=.non):=by
 cases x with
 | non=>cases r;rfl
 | bl _=>cases r;rfl
 | int _=>obtain ⟨t,rfl⟩:=r;rfl
 | str _=>obtain ⟨t,rfl⟩:=r;rfl
 | byt _=>obtain ⟨t,rfl⟩:=r;rfl
 | flt _=>obtain ⟨t,rfl⟩:=r;rfl
 | ref _=>cases r;rfl
 | ty _=>cases r;rfl
theorem Qn5 {j pos'} (ha:PE X a ta):PC X .Is a (.Constant .none j pos') (tIsN ta):=by
 intro pins s σ H Q I h
 refine thn (ha pins s σ H _ I h) fun v s1 ⟨x,H1,I1,r1,q1⟩=>?_
 exact Constant_none (is_none_gen ⟨.bl _,H1,I1,by rw [r1.none_iff];rfl,q1⟩)
theorem Qo3 {j pos'} (ha:PE X a ta):PC X .IsNot a (.Constant .none j pos') (tNotN ta):=by
 intro pins s σ H Q I h
 refine thn (ha pins s σ H _ I h) fun v s1 ⟨x,H1,I1,r1,q1⟩=>?_
 exact Constant_none (isnot_none_gen ⟨.bl _,H1,I1,by rw [r1.none_iff];rfl,q1⟩)
def tB (t:TE):TT:=fun σ H Q=>t σ H fun x H1=>∃ c,x=.bl c/\Q c H1
theorem QqJ {op:CmpOp} {t:TE} (h:PC X op a b t) (h1:behindInMarks op b=false:=by first | exact Qlw _ (by decide) (by decide) | rfl):PE X (.Compare a [op] [b] pos) t:=fun pins s σ H Q I hw=>wpAny_Compare1 (h pins s σ H Q I hw) h1
theorem Qor {op:CmpOp} {t:TE} (h:PC X op a b t) (h1:behindInMarks op b=false:=by first | exact Qlw _ (by decide) (by decide) | rfl):PT X (.Compare a [op] [b] pos) (tB t):=by
 intro pins s σ H Q I hw
 refine wpAny_isTrue_Compare1 (thn (h pins s σ H _ I hw) fun v s1 h1=>thn h1 fun u s2 h2=>thn h2 fun c s3 ⟨x,H1,I1,r1,q1⟩=>?_) h1
 obtain ⟨d,rfl,q⟩:=q1
 cases r1
 exact wpAny_truthy_bool ⟨H1,I1,q⟩
variable {tA tB':TT} {rest:List Expr}
def tAnd (t u:TT):TT:=fun σ H Q=>t σ H fun c H1=>if c=true then u σ H1 Q else Q false H1
def tOr (t u:TT):TT:=fun σ H Q=>t σ H fun c H1=>if c=true then Q true H1 else u σ H1 Q
def tNot (t:TT):TT:=fun σ H Q=>t σ H fun c H1=>Q (!c) H1
theorem QpL (ha:PT X a tA):PW X (.BoolOp .And [a] pos) tA:=by
 intro wh pins s σ H Q I h
 refine isTrue_and (thn (ha pins s σ H Q I h) fun c s1 e=>?_)
 cases c with
 | true=>exact isTrue_and_nil e
 | false=>exact e
theorem QqW (ha:PT X a tA):PW X (.BoolOp .Or [a] pos) tA:=by
 intro wh pins s σ H Q I h
 refine isTrue_or (thn (ha pins s σ H Q I h) fun c s1 e=>?_)
 cases c with
 | false=>exact isTrue_or_nil e
 | true=>exact e
theorem Qqb (ha:PT X a tA) (hb:PW X (.BoolOp .And (b::rest) pos) tB'):PW X (.BoolOp .And (a::b::rest) pos) (tAnd tA tB'):=by
 intro wh pins s σ H Q I h
 refine isTrue_and (thn (ha pins s σ H _ I h) fun c s1 ⟨H1,I1,q1⟩=>?_)
 cases c with
 | true=>exact hb wh pins s1 σ H1 Q I1 q1
 | false=>exact ⟨H1,I1,q1⟩
theorem pw_or (ha:PT X a tA) (hb:PW X (.BoolOp .Or (b::rest) pos) tB'):PW X (.BoolOp .Or (a::b::rest) pos) (tOr tA tB'):=by
 intro wh pins s σ H Q I h
 refine isTrue_or (thn (ha pins s σ H _ I h) fun c s1 ⟨H1,I1,q1⟩=>?_)
 cases c with
 | true=>exact ⟨H1,I1,q1⟩
 | false=>exact hb wh pins s1 σ H1 Q I1 q1
theorem Qre (ha:PT X a tA):PT X (.UnaryOp .Not a pos) (tNot tA):=by
 intro pins s σ H Q I h
 exact isTrue_not (ha pins s σ H (fun c H1=>Q (!c) H1) I h)
def tAndV (ta tb:TE):TE:=fun σ H Q=>ta σ H fun x H1=>∃ c,x=.bl c/\if c=true then tb σ H1 Q else Q (.bl false) H1
def tOrV (ta tb:TE):TE:=fun σ H Q=>ta σ H fun x H1=>∃ c,x=.bl c/\if c=true then Q (.bl true) H1 else tb σ H1 Q
def tNotV (ta:TE):TE:=fun σ H Q=>ta σ H fun x H1=>∃ c,x=.bl c/\Q (.bl (!c)) H1
theorem QqM {op} {t:TE} (h:PE X a t):PE X (.BoolOp op [a] pos) t:=fun pins s σ H Q I hw=>BoolOp_one (h pins s σ H Q I hw)
theorem Qrh (ha:PE X a ta) (hb:PE X (.BoolOp .And (b::rest) pos) tb):PE X (.BoolOp .And (a::b::rest) pos) (tAndV ta tb):=by
 intro pins s σ H Q I h
 refine BoolOp_and (thn (ha pins s σ H _ I h) fun v s1 ⟨x,H1,I1,r1,q1⟩=>?_)
 obtain ⟨c,rfl,q1⟩:=q1
 cases r1
 refine wpAny_truthy_bool ?_
 cases c with
 | true=>exact hb pins s1 σ H1 Q I1 q1
 | false=>exact ⟨.bl false,H1,I1,rfl,q1⟩
theorem pe_or (ha:PE X a ta) (hb:PE X (.BoolOp .Or (b::rest) pos) tb):PE X (.BoolOp .Or (a::b::rest) pos) (tOrV ta tb):=by
 intro pins s σ H Q I h
 refine BoolOp_or (thn (ha pins s σ H _ I h) fun v s1 ⟨x,H1,I1,r1,q1⟩=>?_)
 obtain ⟨c,rfl,q1⟩:=q1
 cases r1
 refine wpAny_truthy_bool ?_
 cases c with
 | false=>exact hb pins s1 σ H1 Q I1 q1
 | true=>exact ⟨.bl true,H1,I1,rfl,q1⟩
theorem Qp5 (ha:PE X a ta):PE X (.UnaryOp .Not a pos) (tNotV ta):=by
 intro pins s σ H Q I h
 refine UnaryOp_ (thn (ha pins s σ H _ I h) fun v s1 ⟨x,H1,I1,r1,q1⟩=>?_)
 obtain ⟨c,rfl,q1⟩:=q1
 cases r1
 exact not_of (wpAny_truthy_bool ⟨.bl (!c),H1,I1,rfl,q1⟩)
def tIf (t:TT) (ta tb:TE):TE:=fun σ H Q=>t σ H fun c H1=>if c=true then ta σ H1 Q else tb σ H1 Q
theorem Qn6 {c:Expr} (hc:PT X c tA) (ha:PE X a ta) (hb:PE X b tb):PE X (.IfExp c a b pos) (tIf tA ta tb):=by
 intro pins s σ H Q I h
 refine wpAny_IfExp (thn (hc pins s σ H _ I h) fun d s1 ⟨H1,I1,q1⟩=>?_)
 cases d with
 | true=>exact ha pins s1 σ H1 Q I1 q1
 | false=>exact hb pins s1 σ H1 Q I1 q1
end
end L2
namespace L2
open PySem PySem.Spec PyProof.Rows
def SqL (K:PySem.W.Frag) (H:Hp) (a:Addr) (xs:List V):Prop :=
 Rd H a (.lst xs) \/
  ∃ (o:Obj) (its:Array Value) (n:Nat),K.lookup a=some o/\o.cls=.type "list"/\o.dict=none/\o.data=.seq its n/\its.size<=sizeLine/\Vals xs its.toList
def SqT (K:PySem.W.Frag) (H:Hp) (a:Addr) (xs:List V):Prop :=
 Rd H a (.tup xs) \/
  ∃ (o:Obj) (its:Array Value) (n:Nat),K.lookup a=some o/\o.cls=.type "tuple"/\o.data=.seq its n/\its.size<=sizeLine/\Vals xs its.toList
def absV:Value->Option V
 | .none=>some .non
 | .bool b=>some (.bl b)
 | .int i _=>some (.int i)
 | .str x _=>some (.str x)
 | .bytes b _=>some (.byt b)
 | .float b _=>some (.flt b)
 | .ref a=>some (.ref a)
 | .type n=>some (.ty n)
 | _=>none
theorem RelV.abs {x:V} {u:Value} (r:RelV x u):absV u=some x:=by
 cases x with
 | non=>cases r;rfl
 | bl _=>cases r;rfl
 | int _=>obtain ⟨t,rfl⟩:=r;rfl
 | str _=>obtain ⟨t,rfl⟩:=r;rfl
 | byt _=>obtain ⟨t,rfl⟩:=r;rfl
 | flt _=>obtain ⟨t,rfl⟩:=r;rfl
 | ref _=>cases r;rfl
 | ty _=>cases r;rfl
theorem RelV.inj {x y:V} {u:Value} (r:RelV x u) (q:RelV y u):x=y:=Option.some.inj (r.abs.symm.trans q.abs)
theorem Vals.inj:∀ {xs ys:List V} {us:List Value},Vals xs us->Vals ys us->xs=ys
 | _,_,_,.nil,.nil=>rfl
 | _,_,_,.cons r t,.cons r' t'=>by rw [r.inj r',Vals.inj t t']
section
variable {X:Cx} {pins:List (Addr×Obj)} {σ:St} {H:Hp} {s:Shared} {a:Addr} {xs ys:List V}
theorem SqL.of {K:PySem.W.Frag} (h:H a=some (.lst xs)):SqL K H a xs:=.inl (.inl h)
theorem Inv.list (I:Inv X pins σ H s) (h:SqL X.K H a xs):∃ its:List Value,Vals xs its/\PlainL s.heap a its.toArray/\xs.length<=sizeLine:=by
 rcases h with h | ⟨o,its,n,hk,hc,hd,hs,hz,r⟩
 ·obtain ⟨z,its,n,r,e⟩:=h.ok I.hok
  exact ⟨its,r,⟨_,n,e,rfl,rfl,rfl⟩,z⟩
 ·refine ⟨its.toList,r,⟨o,n,I.kIn a o hk,hc,hd,by simpa using hs⟩,?_⟩
  have e:=r.length
  simp only [Array.length_toList] at e
  omega
theorem Inv.tuple (I:Inv X pins σ H s) (h:SqT X.K H a xs):∃ its:List Value,Vals xs its/\IsTup s.heap a its.toArray/\xs.length<=sizeLine:=by
 rcases h with h | ⟨o,its,n,hk,hc,hs,hz,r⟩
 ·obtain ⟨z,its,r,p⟩:=h.ok I.hok
  exact ⟨its,r,p,z⟩
 ·refine ⟨its.toList,r,⟨o,I.kIn a o hk,hc,n,by simpa using hs⟩,?_⟩
  have e:=r.length
  simp only [Array.length_toList] at e
  omega
theorem Inv.list_inj (I:Inv X pins σ H s) (h:SqL X.K H a xs) (h':SqL X.K H a ys):xs=ys:=by
 obtain ⟨its,r,⟨o,n,e,_,_,d⟩,_⟩:=I.list h
 obtain ⟨its',r',⟨o',n',e',_,_,d'⟩,_⟩:=I.list h'
 rw [e] at e';cases e'
 rw [d] at d'
 injection d' with d1 _
 have:its=its':=by simpa using congrArg Array.toList d1
 subst this
 exact r.inj r'
theorem Inv.tuple_inj (I:Inv X pins σ H s) (h:SqT X.K H a xs) (h':SqT X.K H a ys):xs=ys:=by
 obtain ⟨its,r,⟨o,e,_,n,d⟩,_⟩:=I.tuple h
 obtain ⟨its',r',⟨o',e',_,n',d'⟩,_⟩:=I.tuple h'
 rw [e] at e';cases e'
 rw [d] at d'
 injection d' with d1 _
 have:its=its':=by simpa using congrArg Array.toList d1
 subst this
 exact r.inj r'
end
abbrev Cx.wish (X:Cx) (E:Value->Shared->Prop):Cx:={ X with xe:=E }
abbrev Cx.nox (X:Cx):Cx:=X.wish fun _ _=>False
theorem Cx.Ok.wish {X:Cx} (ok:X.Ok) (E:Value->Shared->Prop):(X.wish E).Ok :=
 ⟨ok.mod,ok.kind,ok.glob,ok.blt,ok.above,ok.inj,ok.has,ok.cab,ok.hd,ok.frames,ok.stk,ok.exf,ok.bs,ok.bsz,ok.noex,ok.exfs,ok.funs,ok.frf⟩
theorem Cx.Ok.unwish {X:Cx} {E:Value->Shared->Prop} (ok:(X.wish E).Ok):X.Ok :=
 ⟨ok.mod,ok.kind,ok.glob,ok.blt,ok.above,ok.inj,ok.has,ok.cab,ok.hd,ok.frames,ok.stk,ok.exf,ok.bs,ok.bsz,ok.noex,ok.exfs,ok.funs,ok.frf⟩
section
variable {X:Cx} {pins:List (Addr×Obj)} {σ:St} {H:Hp} {s:Shared} {E:Value->Shared->Prop}
theorem Inv.wish (I:Inv X pins σ H s) (E:Value->Shared->Prop):Inv (X.wish E) pins σ H s:=⟨I.ok.wish E,I.os,I.bare,I.base,I.loc,I.cell,I.free,I.freeC,I.pin,I.hok,I.len⟩
theorem Inv.unwish (I:Inv (X.wish E) pins σ H s):Inv X pins σ H s:=⟨I.ok.unwish,I.os,I.bare,I.base,I.loc,I.cell,I.free,I.freeC,I.pin,I.hok,I.len⟩
theorem SP.unwish {D:Ends} {f:Flow} {s':Shared} (h:SP (X.wish E) pins D f s'):SP X pins D f s':=by
 cases f with
 | next=>obtain ⟨σ',H',I,q⟩:=h;exact ⟨σ',H',I.unwish,q⟩
 | brk=>obtain ⟨σ',H',I,q⟩:=h;exact ⟨σ',H',I.unwish,q⟩
 | cont=>obtain ⟨σ',H',I,q⟩:=h;exact ⟨σ',H',I.unwish,q⟩
 | ret u=>obtain ⟨v,σ',H',I,r,q⟩:=h;exact ⟨v,σ',H',I.unwish,r,q⟩
theorem PSs.nox {st:List Stmt} {t:TS} (h:PSs X.nox st t):PSs X st t:=fun pins s σ H D I hw =>
 wpAny_mono (h pins s σ H D (I.wish _) hw) (fun _ _ q=>q.unwish) fun _ _ z=>False.elim z
end
section
variable {X:Cx} {st:Stmt} {rest:List Stmt} {t u:TS} {e:Expr} {te:TE} {pos:Pos}
def tNext:TS:=fun D σ H=>D.nx σ H
def tSeq (t u:TS):TS:=fun D σ H=>t { D with nx:=u D } σ H
theorem pss_nil:PSs X [] tNext:=fun _ _ σ H _ I h=>wpAny_execs_nil ⟨σ,H,I,h⟩
theorem QhP (h1:PS X st t) (h2:PSs X rest u):PSs X (st::rest) (tSeq t u):=by
 intro pins s σ H D I h
 refine wpAny_execs_cons (thn (h1 pins s σ H { D with nx:=u D } I h) fun f s1 q=>?_)
 cases f with
 | next =>
  obtain ⟨σ',H',I',q⟩:=q
  exact h2 pins s1 σ' H' D I' q
 | ret v=>exact q
 | brk=>exact q
 | cont=>exact q
theorem Inv.quiet {pins:List (Addr×Obj)} {σ:St} {H:Hp} {s:Shared} (I:Inv X pins σ H s):interactive X.env=false:=by simp [interactive,I.ok.kind]
def tDrop (te:TE):TS:=fun D σ H=>te σ H fun _ H1=>D.nx σ H1
theorem QpK (he:PE X e te) (hs:swapsWith e none pos.line X.env=pure false:=by rfl):PS X (.Expr e pos) (tDrop te):=by
 intro pins s σ H D I h
 exact wpAny_Expr_any (thn (he pins s σ H _ I h) fun v s1 ⟨x,H1,I1,r1,q1⟩=>⟨σ,H1,I1,q1⟩) I.quiet hs
def tRet (te:TE):TS:=fun D σ H=>te σ H D.rt
theorem Qka (he:PE X e te):PS X (.Return (some e) pos) (tRet te):=by
 intro pins s σ H D I h
 exact wpAny_Return_some (thn (he pins s σ H _ I h) fun v s1 ⟨x,H1,I1,r1,q1⟩=>⟨x,σ,H1,I1,r1,q1⟩)
def tIfS (c:TT) (t u:TS):TS:=fun D σ H=>c σ H fun b H1=>if b=true then t D σ H1 else u D σ H1
theorem ps_if {c:Expr} {a b:List Stmt} {tc:TT} (hc:PT X c tc) (ha:PSs X a t) (hb:PSs X b u):PS X (.If c a b pos) (tIfS tc t u):=by
 intro pins s σ H D I h
 refine wpAny_If (thn (hc pins s σ H _ I h) fun d s1 ⟨H1,I1,q1⟩=>?_)
 cases d with
 | true=>exact ha pins s1 σ H1 D I1 q1
 | false=>exact hb pins s1 σ H1 D I1 q1
end
abbrev TG:=V->St->Hp->(St->Hp->Prop)->Prop
abbrev TGs:=List V->St->Hp->(St->Hp->Prop)->Prop
def PG (X:Cx) (target:Expr) (t:TG):Prop :=
 ∀ (pins:List (Addr×Obj)) (s:Shared) (σ:St) (H:Hp) (v:V) (u:Value) (Q:St->Hp->Prop),Inv X pins σ H s->RelV v u->t v σ H Q ->
  wpAny (model X.prog X.w) X.A (assign target X.env u) (fun _ s'=>∃ σ' H',Inv X pins σ' H' s'/\Q σ' H') X.xe s
def PGs (X:Cx) (ts:List Expr) (t:TGs):Prop :=
 ∀ (pins:List (Addr×Obj)) (s:Shared) (σ:St) (H:Hp) (vs:List V) (us:List Value) (Q:St->Hp->Prop),Inv X pins σ H s->Vals vs us->t vs σ H Q ->
  wpAny (model X.prog X.w) X.A (assignInOrder ((assignEach ts X.env).map (·.2)) us) (fun _ s'=>∃ σ' H',Inv X pins σ' H' s'/\Q σ' H') X.xe s
abbrev TSet:=V->V->V->Hp->(Hp->Prop)->Prop
section
variable {X:Cx} {pos:Pos}
def Qmi (i:Nat):TG:=fun v σ H Q=>Q (σ.set i (some v)) H
theorem QjP {i:Nat} {x:Str} (hN:X.N.Nodup) (hi:X.N[i]? = some x) (hx:Loc X.env.scope x) (hf:X.fn x=true\/X.env.scope.names.lookup x=some .local:=by first | exact .inl rfl | exact .inr rfl | assumption):PG X (.Name x pos) (Qmi i):=by
 intro pins s σ H v u Q I r h
 exact wpAny_assign_Name (QiA I hN hi hx r (fun s' I'=>⟨_,H,I',h⟩) hf)
def gNil:TGs:=fun vs σ H Q=>vs=[]/\Q σ H
def gCons (t:TG) (u:TGs):TGs:=fun vs σ H Q=>∃ v r,vs=v::r/\t v σ H fun σ' H'=>u r σ' H' Q
theorem Qpw:PGs X [] gNil:=by
 intro pins s σ H vs us Q I r h
 obtain ⟨e,h⟩:=h
 subst e
 cases r
 exact assignInOrder_nil ⟨σ,H,I,h⟩
theorem QkJ {e:Expr} {es:List Expr} {t:TG} {u:TGs} (h1:PG X e t) (h2:PGs X es u)
  (hs:(assignEach (e::es) X.env).map (·.2)=assign e X.env::(assignEach es X.env).map (·.2):=by rfl):PGs X (e::es) (gCons t u):=by
 intro pins s σ H vs us Q I r h
 obtain ⟨v,vr,e1,h⟩:=h
 subst e1
 cases r with
 | cons r rr =>
  rw [hs]
  refine assignInOrder_cons (thn (h1 pins s σ H _ _ _ I r h) fun _ s1 ⟨σ1,H1,I1,q1⟩=>?_)
  exact h2 pins s1 σ1 H1 _ _ Q I1 rr q1
def gTup (K:PySem.W.Frag) (n:Nat) (t:TGs):TG:=fun v σ H Q=>∃ a xs,v=.ref a/\SqT K H a xs/\xs.length=n/\t xs σ H Q
theorem Qqa {es:List Expr} {k:Nat} {t:TGs} {n:Nat} (hc:X.calm=true) (h:PGs X es t)
  (hn:(assignEach es X.env).length=n:=by rfl) (hst:(assignEach es X.env).findIdx? (·.1)=none:=by rfl):PG X (.Tuple es k pos) (gTup X.K n t):=by
 intro pins s σ H v u Q I r hw
 obtain ⟨a,xs,e1,hq,hl,hw⟩:=hw
 subst e1
 cases r
 obtain ⟨its,rv,ht,hz⟩:=I.tuple hq
 refine assign_Tuple_tuple (I.ok.hd hc) ht (by simp [hn,← hl,rv.length]) hst fun h' hx=>?_
 have I1:Inv X pins σ H { s with heap:=h' }:=I.kept (t':=s.toks) fun b o e=>hx b o (Nat.ne_of_lt (Heap.lt_size e)) e
 exact h pins _ σ H xs _ Q I1 (by simpa using rv) hw
def gSub (to ti:TE) (t:TSet):TG:=fun v σ H Q=>to σ H fun o H1=>ti σ H1 fun i H2=>t o i v H2 fun H3=>Q σ H3
def tAsg (te:TE) (g:TG):TS:=fun D σ H=>te σ H fun x H1=>g x σ H1 D.nx
theorem QlQ {i:Nat} {x:Str} {e:Expr} {te:TE} {pos':Pos} (hN:X.N.Nodup) (hi:X.N[i]? = some x) (hx:Loc X.env.scope x) (he:PE X e te) (hs:swapsWith e (some (.Name x pos')) pos.line X.env=pure false:=by rfl) (hf:X.fn x=true\/X.env.scope.names.lookup x=some .local:=by first | exact .inl rfl | exact .inr rfl | assumption) :
  PS X (.Assign [.Name x pos'] e pos) (tAsg te (Qmi i)):=by
 intro pins s σ H D I h
 refine wpAny_Assign_Name (thn (he pins s σ H _ I h) fun v s1 ⟨y,H1,I1,r1,q1⟩=>?_) hs
 exact QiA I1 hN hi hx r1 (fun s2 I2=>⟨_,H1,I2,q1⟩) hf
end
section
variable {X:Cx} {pos:Pos}
def QqY (c:TT) (tb:TS):TS:=fun D σ H=>∃ W:Nat->St->Hp->Prop,(∃ m,W m σ H)/\∀ m σ H,W m σ H ->
 c σ H fun b H1=>if b=true then ∃ N:St->Hp->Prop,(∀ σ' H',N σ' H'->∃ m',m' < m/\W m' σ' H')/\tb { D with nx:=N,ct:=N,bk:=D.nx } σ H1 else D.nx σ H1
theorem Qn3 {c:Expr} {body:List Stmt} {tc:TT} {tb:TS} (hp:PassesOwn (model X.prog X.w) X.A X.env X.xe) (hc:PT X c tc) (hb:PSs X body tb):PS X (.While c body [] pos) (QqY tc tb):=by
 intro pins s σ H D I h
 obtain ⟨W,⟨m0,w0⟩,turn⟩:=h
 refine wpAny_While (codeAny_whileLoop (fun n s'=>∃ σ' H',Inv X pins σ' H' s'/\W n σ' H') ?_ m0 ⟨σ,H,I,w0⟩)
 rintro n s1 ⟨σ1,H1,I1,w1⟩
 refine wpAny_passesOwn hp (thn (hc pins s1 σ1 H1 _ I1 (turn n σ1 H1 w1)) fun b s2 ⟨H2,I2,q2⟩=>?_)
 cases b with
 | true =>
  obtain ⟨N,hN,q2⟩:=q2
  rw [if_pos rfl]
  refine wpAny_passesOwn hp (thn (hb pins s2 σ1 H2 _ I2 q2) fun f s3 q3=>?_)
  cases f with
  | next =>
   obtain ⟨σ3,H3,I3,n3⟩:=q3
   obtain ⟨m',hm,w3⟩:=hN σ3 H3 n3
   exact ⟨m',hm,σ3,H3,I3,w3⟩
  | cont =>
   obtain ⟨σ3,H3,I3,n3⟩:=q3
   obtain ⟨m',hm,w3⟩:=hN σ3 H3 n3
   exact ⟨m',hm,σ3,H3,I3,w3⟩
  | brk=>exact q3
  | ret v=>exact q3
 | false =>
  rw [if_neg Bool.false_ne_true]
  exact wpAny_execs_nil ⟨σ1,H2,I2,q2⟩
end
structure It where
 go:Nat->Hp->Prop
 yld:Nat->Hp->V->Hp->Prop
 stop:Nat->Hp->Prop
def FpOk (X:Cx) (pins:List (Addr×Obj)) (H:Hp) (b:Addr):Prop :=
 H b=none/\b≠X.env.locals/\b ∉ X.fs/\(b∈X.ex\/X.s₀.heap.objs.size<=b)/\(∀ x c,X.env.cells.lookup x=some c->c≠b)/\∀ p∈X.pn++pins,p.1≠b
theorem Inv.fpOk {X:Cx} {pins:List (Addr×Obj)} {σ:St} {H H':Hp} {s:Shared} {b:Addr} (I:Inv X pins σ H s) (hb:s.heap.objs.size<=b) (hn:H' b=none):FpOk X pins H' b:=by
 refine ⟨hn,Nat.ne_of_gt (Nat.lt_of_lt_of_le I.lt hb),I.nofs hb,.inr (Nat.le_trans I.sz hb),fun x c e z=>?_,fun p hp z=>?_⟩
 ·obtain ⟨v,q⟩:=I.cell x c e
  exact absurd (Nat.lt_of_lt_of_le q.lt (by rw [z];exact hb)) (Nat.lt_irrefl _)
 ·exact absurd (Nat.lt_of_lt_of_le (Heap.lt_size (I.pin p hp).1) (by rw [z];exact hb)) (Nat.lt_irrefl _)
structure Turn (P:Program) (w:World) (K:PySem.W.Frag) (tg:Expr) (J:It) (fp:List Addr) (it:Addr) (tn:Nat->Heap->Prop):Prop where
 mem:it∈fp
 obj:∀ i h,tn i h->∀ b∈fp,∃ o,h.get? b=some o/\∀ v,o.data≠.cell v
 keep:∀ i h h',tn i h->(∀ b∈fp,∀ o,h.get? b=some o->h'.get? b=some o)->tn i h'
 item:∀ (X:Cx),X.prog=P->X.w=w->X.K=K->X.calm=true->∀ (i:Nat) (pins:List (Addr×Obj)) (s:Shared) (σ:St) (H:Hp) (E:Value->Shared->Prop),Inv X pins σ H s->(∀ b∈fp,FpOk X pins H b)->tn i s.heap->J.go i H ->
  wpAny (model P w) X.A (pyNext (.ref it)) (fun r s1=>∃ u,r=some u /\
   wpAny (model P w) X.A (letOwnedTupleGo tg (.ref it) u) (fun _ s2=>∃ x H',Inv X pins σ H' s2/\RelV x u/\J.yld i H x H'/\tn (i + 1) s2.heap/\∀ b∈fp,H' b=none) E s1) E s
 done:∀ (X:Cx),X.prog=P->X.w=w->X.K=K->X.calm=true->∀ (i:Nat) (pins:List (Addr×Obj)) (s:Shared) (σ:St) (H:Hp) (E:Value->Shared->Prop),Inv X pins σ H s->(∀ b∈fp,FpOk X pins H b)->tn i s.heap->J.stop i H ->
  wpAny (model P w) X.A (pyNext (.ref it)) (fun r s1=>r=none/\Inv X pins σ H s1) E s
 self:∀ (A:Around) (i:Nat) (s:Shared) (Q:Value->Shared->Prop) (E:Value->Shared->Prop),tn i s.heap->Q (.ref it) s->wpAny (model P w) A (pyIter (.ref it)) Q E s
abbrev TI:=St->Hp->(It->Hp->Prop)->Prop
def PIE (X:Cx) (pins:List (Addr×Obj)) (σ:St) (tg:Expr) (R:It->Hp->Prop) (itv:Value) (s2:Shared):Prop :=
 ∃ (it:Addr) (fp:List Addr) (tn:Nat->Heap->Prop) (J:It) (H':Hp),itv=.ref it/\Inv X pins σ H' s2/\Turn X.prog X.w X.K tg J fp it tn/\tn 0 s2.heap/\(∀ b∈fp,FpOk X pins H' b)/\R J H'
def PI (X:Cx) (tg iter:Expr) (wi:TI):Prop :=
 ∀ (pins:List (Addr×Obj)) (s:Shared) (σ:St) (H:Hp) (R:It->Hp->Prop),Inv X pins σ H s->wi σ H R ->
  wpAny (model X.prog X.w) X.A (eval iter X.env) (fun v s1=>wpAny (model X.prog X.w) X.A (pyIter v) (PIE X pins σ tg R) X.xe s1) X.xe s
theorem Qlp {M : Model} {A : Around} {E : Value → Shared → Prop} {s : Shared} {tg : Expr} {it : Addr} {u : Value} {o : Obj} {n : String} {vs : Array Value} {Q : Unit → Shared → Prop} (ho : s.heap.get? it = some o) (hc : o.cls = .type n) (hd : o.data = .fields vs)
    (hn : ["enumerate", "zip", "dict_itemiterator", "dict_reverseitemiterator", "odict_iterator", "itertools.zip_longest", "itertools.pairwise"].contains n = false) (hQ : Q () s) : wpAny M A (letOwnedTupleGo tg (.ref it) u) Q E s := by
  unfold letOwnedTupleGo
  cases tg <;> first
    | exact wpAny_pure hQ
    | (cases u <;> first
        | exact wpAny_pure hQ
        | (refine wpAny_bind (wpAny_load ho ?_)
           rw [hc, hd]
           show wpAny M A (if (["enumerate", "zip", "dict_itemiterator", "dict_reverseitemiterator", "odict_iterator", "itertools.zip_longest", "itertools.pairwise"].contains n && vs[0]? == some (rawInt _)) = true then _ else _) Q E s
           rw [if_neg (by intro h; rw [hn, Bool.false_and] at h; cases h)]
           exact wpAny_pure hQ))
def Itl (K:PySem.W.Frag) (a:Addr):It :=
 ⟨fun i H=>∃ xs x,SqL K H a xs/\xs[i]? = some x,fun i H x H'=>H'=H/\∀ xs,SqL K H a xs->xs[i]? = some x,fun i H=>∃ xs,SqL K H a xs/\xs.length<=i⟩
def Itt (K:PySem.W.Frag) (a:Addr):It :=
 ⟨fun i H=>∃ xs x,SqT K H a xs/\xs[i]? = some x,fun i H x H'=>H'=H/\∀ xs,SqT K H a xs->xs[i]? = some x,fun i H=>∃ xs,SqT K H a xs/\xs.length<=i⟩
def Itr (lo:Int) (n:Nat):It:=⟨fun i _=>i < n,fun i H x H'=>H'=H/\x=.int (lo + i),fun i _=>n<=i⟩
theorem Qnr {P:Program} {w:World} {K:PySem.W.Frag} {tg:Expr} (a it:Addr):Turn P w K tg (Itl K a) [it] it (fun i h=>h.IsListIter it a i) where
 mem:=by simp
 obj:=fun i h st b hb=>by
  have e:b=it:=by simpa using hb
  subst e
  obtain ⟨o,e,c,d⟩:=st
  exact ⟨o,e,fun v z=>by rw [d] at z;cases z⟩
 keep:=fun i h h' st k=>st.at fun o e=>k it (by simp) o e
 item:=by
  intro X hP hw hK hc i pins s σ H E I hf st hg
  subst hP hw hK
  obtain ⟨xs,x,hq,hx⟩:=hg
  obtain ⟨its,rv,p,hz⟩:=I.list hq
  obtain ⟨u,hu,ru⟩:=rv.get hx
  obtain ⟨f0,f1,f2,f3,f4,f5⟩:=hf it (by simp)
  refine wpAny_pyNext_list_item st p.isList (x:=u) (by simpa using hu) fun h' st' sb=>?_
  have I1:Inv X pins σ H { s with heap:=h' }:=I.turned (t':=s.toks) (fun b o hb e=>(sb.2 b hb).trans e) f0 f1 f3 f4 f5
  obtain ⟨o,e,c,d⟩:=id st'
  exact ⟨u,rfl,Qlp (s:={ s with heap:=h' }) e c d (by decide) ⟨x,H,I1,ru,⟨rfl,fun ys hy=>by rw [I.list_inj hy hq];exact hx⟩,st',fun b hb=>(hf b hb).1⟩⟩
 done:=by
  intro X hP hw hK hc i pins s σ H E I hf st hg
  subst hP hw hK
  obtain ⟨xs,hq,hx⟩:=hg
  obtain ⟨its,rv,p,hz⟩:=I.list hq
  obtain ⟨f0,f1,f2,f3,f4,f5⟩:=hf it (by simp)
  have hl:=rv.length
  exact wpAny_pyNext_list_end (I.ok.hd hc) st p.isList (by simp;omega) fun h' eb=>⟨rfl,I.turned (t':=s.toks) (fun b o hb e=>eb b o hb e) f0 f1 f3 f4 f5⟩
 self:=fun _ _ _ _ _ st h=>wpAny_pyIter_listiter st h
theorem Ql7 {P:Program} {w:World} {K:PySem.W.Frag} {tg:Expr} (a it:Addr):Turn P w K tg (Itt K a) [it] it (fun i h=>h.IsTupleIter it a i) where
 mem:=by simp
 obj:=fun i h st b hb=>by
  have e:b=it:=by simpa using hb
  subst e
  obtain ⟨o,e,c,d⟩:=st
  exact ⟨o,e,fun v z=>by rw [d] at z;cases z⟩
 keep:=fun i h h' st k=>st.at fun o e=>k it (by simp) o e
 item:=by
  intro X hP hw hK hc i pins s σ H E I hf st hg
  subst hP hw hK
  obtain ⟨xs,x,hq,hx⟩:=hg
  obtain ⟨its,rv,p,hz⟩:=I.tuple hq
  obtain ⟨u,hu,ru⟩:=rv.get hx
  obtain ⟨f0,f1,f2,f3,f4,f5⟩:=hf it (by simp)
  refine wpAny_pyNext_tuple_item st (show s.heap.IsTuple a its.toArray from p) (x:=u) (by simpa using hu) fun h' st' sb=>?_
  have I1:Inv X pins σ H { s with heap:=h' }:=I.turned (t':=s.toks) (fun b o hb e=>(sb.2 b hb).trans e) f0 f1 f3 f4 f5
  obtain ⟨o,e,c,d⟩:=id st'
  exact ⟨u,rfl,Qlp (s:={ s with heap:=h' }) e c d (by decide) ⟨x,H,I1,ru,⟨rfl,fun ys hy=>by rw [I.tuple_inj hy hq];exact hx⟩,st',fun b hb=>(hf b hb).1⟩⟩
 done:=by
  intro X hP hw hK hc i pins s σ H E I hf st hg
  subst hP hw hK
  obtain ⟨xs,hq,hx⟩:=hg
  obtain ⟨its,rv,p,hz⟩:=I.tuple hq
  obtain ⟨f0,f1,f2,f3,f4,f5⟩:=hf it (by simp)
  have hl:=rv.length
  exact wpAny_pyNext_tuple_end (I.ok.hd hc) st (show s.heap.IsTuple a its.toArray from p) (by simp;omega) fun h' eb=>⟨rfl,I.turned (t':=s.toks) (fun b o hb e=>eb b o hb e) f0 f1 f3 f4 f5⟩
 self:=fun _ _ _ _ _ st h=>wpAny_pyIter_tupleiter st h
theorem Qmg {P:Program} {w:World} {K:PySem.W.Frag} {tg:Expr} (it:Addr) (lo:Int) (n:Nat):Turn P w K tg (Itr lo n) [it] it (fun i h=>IsRangeIter h it (lo + (i:Nat) * 1) ((n:Int) - (i:Nat)) 1) where
 mem:=by simp
 obj:=fun i h st b hb=>by
  have e:b=it:=by simpa using hb
  subst e
  exact ⟨_,st,fun v z=>by
   have z':Data.fields _=Data.cell v:=z
   cases z'⟩
 keep:=fun i h h' st k=>k it (by simp) _ st
 item:=by
  intro X hP hw hK hc i pins s σ H E I hf st hg
  subst hP hw hK
  obtain ⟨f0,f1,f2,f3,f4,f5⟩:=hf it (by simp)
  have W:=Walks.range (prog:=X.prog) (w:=X.w) (I.ok.hd hc) it lo 1 n
  refine W.item i s _ _ hg st fun v h' tk hv st' kk=>?_
  obtain ⟨t,rfl⟩:=hv
  have I1:Inv X pins σ H { s with heap:=h',toks:=tk }:=I.turned (fun b o hb e=>kk b o (by simpa using hb) e) f0 f1 f3 f4 f5
  refine ⟨_,rfl,Qlp (s:={ s with heap:=h',toks:=tk }) (n:="range_iterator") st' rfl rfl (by decide) ⟨.int (lo + i),H,I1,⟨t,?_⟩,⟨rfl,rfl⟩,st',fun b hb=>(hf b hb).1⟩⟩
  rw [Int.mul_one]
 done:=by
  intro X hP hw hK hc i pins s σ H E I hf st hg
  subst hP hw hK
  obtain ⟨f0,f1,f2,f3,f4,f5⟩:=hf it (by simp)
  exact wpAny_pyNext_range_end (I.ok.hd hc) st (by have:n<=i:=hg;omega) fun h' eb=>⟨rfl,I.turned (t':=s.toks) (fun b o hb e=>eb b o hb e) f0 f1 f3 f4 f5⟩
 self:=fun _ _ _ _ _ st h=>wpAny_pyIter_rangeiter st h
end L2
namespace L2
open PySem PySem.Spec PyProof.Rows
section
variable {X:Cx} {tg:Expr}
def iList (K:PySem.W.Frag) (tl:TE):TI:=fun σ H R=>tl σ H fun x H1=>∃ a,x=.ref a/\(∃ xs,SqL K H1 a xs)/\R (Itl K a) H1
def iTup (K:PySem.W.Frag) (tl:TE):TI:=fun σ H R=>tl σ H fun x H1=>∃ a,x=.ref a/\(∃ xs,SqT K H1 a xs)/\R (Itt K a) H1
theorem QjL {l:Expr} {tl:TE} (hl:PE X l tl):PI X tg l (iList X.K tl):=by
 intro pins s σ H R I h
 refine thn (hl pins s σ H _ I h) fun v s1 ⟨x,H1,I1,r1,q1⟩=>?_
 obtain ⟨a,e,⟨xs,hq⟩,q⟩:=q1
 subst e
 cases r1
 obtain ⟨its,rv,p,hz⟩:=I1.list hq
 refine wpAny_pyIter_list p.isList ?_
 refine ⟨s1.heap.objs.size,[s1.heap.objs.size],_,_,H1,rfl,I1.kept (t':=s1.toks) fun b o e=>Heap.get?_push_of_some _ e,Qnr a _,⟨_,Heap.get?_push_size _ rfl,rfl,rfl⟩,fun b hb=>?_,q⟩
 have e:b=s1.heap.objs.size:=by simpa using hb
 subst e
 exact I1.fpOk (Nat.le_refl _) (I1.hok.fresh (Nat.le_refl _))
theorem Qqy {l:Expr} {tl:TE} (hl:PE X l tl):PI X tg l (iTup X.K tl):=by
 intro pins s σ H R I h
 refine thn (hl pins s σ H _ I h) fun v s1 ⟨x,H1,I1,r1,q1⟩=>?_
 obtain ⟨a,e,⟨xs,hq⟩,q⟩:=q1
 subst e
 cases r1
 obtain ⟨its,rv,p,hz⟩:=I1.tuple hq
 refine wpAny_pyIter_tuple (show s1.heap.IsTuple a its.toArray from p) ?_
 refine ⟨s1.heap.objs.size,[s1.heap.objs.size],_,_,H1,rfl,I1.kept (t':=s1.toks) fun b o e=>Heap.get?_push_of_some _ e,Ql7 a _,⟨_,Heap.get?_push_size _ rfl,rfl,rfl⟩,fun b hb=>?_,q⟩
 have e:b=s1.heap.objs.size:=by simpa using hb
 subst e
 exact I1.fpOk (Nat.le_refl _) (I1.hok.fresh (Nat.le_refl _))
theorem Qk3 {pins:List (Addr×Obj)} {σ:St} {H:Hp} {s:Shared} {R:It->Hp->Prop} {E:Value->Shared->Prop} {lo hi:Int} {t u v:Tok} {tk:Nat} (I:Inv X pins σ H s) (h1:-(2 ^ 62)<=lo) (h2:lo < 2 ^ 62) (h3:-(2 ^ 62)<=hi) (h4:hi < 2 ^ 62)
  (q:R (Itr lo (hi - lo).toNat) H):wpAny (model X.prog X.w) X.A (pyIter (.ref s.heap.objs.size)) (PIE X pins σ tg R) E { s with heap:=s.heap.push { cls:=.type "range",data:=.fields #[.int lo t,.int hi u,.int 1 v] },toks:=tk }:=by
 refine wpAny_pyIter_range (IsRange.new ..) (small_one h1 h2 h3 h4) ?_
 have I1:Inv X pins σ H { s with heap:=s.heap.push { cls:=.type "range",data:=.fields #[.int lo t,.int hi u,.int 1 v] },toks:=tk }:=I.kept fun b o e=>Heap.get?_push_of_some _ e
 refine ⟨(s.heap.push { cls:=.type "range",data:=.fields #[.int lo t,.int hi u,.int 1 v] }).objs.size,[(s.heap.push { cls:=.type "range",data:=.fields #[.int lo t,.int hi u,.int 1 v] }).objs.size],_,_,H,rfl,
  I1.kept (t':=tk) fun b o e=>Heap.get?_push_of_some _ e,Qmg _ lo (hi - lo).toNat,?_,fun b hb=>?_,q⟩
 ·have e1:lo + ((0:Nat):Int) * 1=lo:=by simp
  have e2:(((hi - lo).toNat:Nat):Int) - ((0:Nat):Int)=Builtin.Range.rangeSize lo hi 1:=by rw [rangeSize_one];split <;> omega
  show IsRangeIter _ _ (lo + ((0:Nat):Int) * 1) ((((hi - lo).toNat:Nat):Int) - ((0:Nat):Int)) 1
  rw [e1,e2]
  exact Heap.get?_push_size _ rfl
 ·have e:b=(s.heap.push { cls:=.type "range",data:=.fields #[.int lo t,.int hi u,.int 1 v] }).objs.size:=by simpa using hb
  subst e
  exact I1.fpOk (Nat.le_refl _) (I1.hok.fresh (Nat.le_refl _))
def iRng1 (ta:TA):TI:=fun σ H R=>ta σ H fun vs H1=>∃ j:Int,vs=[.int j]/\-(2 ^ 62)<=j/\j < 2 ^ 62/\R (Itr 0 j.toNat) H1
def iRng2 (ta:TA):TI:=fun σ H R=>ta σ H fun vs H1=>∃ i j:Int,vs=[.int i,.int j]/\(-(2 ^ 62)<=i/\i < 2 ^ 62/\-(2 ^ 62)<=j/\j < 2 ^ 62)/\R (Itr i (j - i).toNat) H1
theorem Qjt {a:Expr} {ta:TA} {p pos:Pos} (hg:Gl X "range") (hm:X.mg "range" = none) (ha:PA X [a] ta) (hs:starEach [a] X.env=[(false,eval a X.env)]:=by rfl):PI X tg (.Call (.Name "range" p) [a] [] pos) (iRng1 ta):=by
 intro pins s σ H R I h
 refine Call_ (Qe0 I hg hm boot_range (PyProof.Rows.callWith_type1 (thn (ha pos pins s σ H _ I h) fun us s1 ⟨vs,H1,I1,r1,q1⟩=>?_) hs rfl))
 obtain ⟨j,e,q1,q2,q⟩:=q1
 subst e
 cases r1 with
 | cons r rr =>
  cases rr
  obtain ⟨t,rfl⟩:=r
  exact call_range_1 (Qk3 I1 (by omega) (by omega) q1 q2 (by simpa using q))
theorem Qng {a b:Expr} {ta:TA} {p pos:Pos} (hg:Gl X "range") (hm:X.mg "range" = none) (ha:PA X [a,b] ta) (hs:starEach [a,b] X.env=[(false,eval a X.env),(false,eval b X.env)]:=by rfl) (hs2:starEach [b] X.env=[(false,eval b X.env)]:=by rfl) :
  PI X tg (.Call (.Name "range" p) [a,b] [] pos) (iRng2 ta):=by
 intro pins s σ H R I h
 refine Call_ (Qe0 I hg hm boot_range (PyProof.Rows.callWith_type1 (thn (ha pos pins s σ H _ I h) fun us s1 ⟨vs,H1,I1,r1,q1⟩=>?_) (by rw [hs,hs2]) (by rw [hs2];rfl)))
 obtain ⟨i,j,e,⟨q1,q2,q3,q4⟩,q⟩:=q1
 subst e
 cases r1 with
 | cons r rr =>
  cases rr with
  | cons r' rr =>
   cases rr
   obtain ⟨t,rfl⟩:=r
   obtain ⟨t',rfl⟩:=r'
   exact call_range_2 (Qk3 I1 q1 q2 q3 q4 q)
def tFor (wi:TI) (g:TG) (tb:TS):TS:=fun D σ H=>wi σ H fun J H1=>∃ W:Nat->Nat->St->Hp->Prop,(∃ m,W 0 m σ H1)/\∀ i m σ H,W i m σ H ->
 (J.stop i H/\D.nx σ H)\/(J.go i H/\∃ N:St->Hp->Prop,(∀ σ' H',N σ' H'->∃ m',m' < m/\W (i + 1) m' σ' H')/\∀ x H',J.yld i H x H'->g x σ H' fun σ2 H2=>tb { D with nx:=N,ct:=N,bk:=D.nx } σ2 H2)
def Qgo (fp:List Addr) (h:Heap):List (Addr×Obj):=fp.filterMap fun b=>(h.get? b).map fun o=>(b,o)
theorem Qda {fp:List Addr} {h:Heap} {b:Addr} {o:Obj} (hb:b∈fp) (e:h.get? b=some o):(b,o)∈Qgo fp h:=List.mem_filterMap.mpr ⟨b,hb,by rw [e];rfl⟩
theorem Qnd {fp:List Addr} {h:Heap} {p:Addr×Obj} (hp:p∈Qgo fp h):p.1∈fp/\h.get? p.1=some p.2:=by
 obtain ⟨b,hb,e⟩:=List.mem_filterMap.mp hp
 cases q:h.get? b with
 | none=>rw [q] at e;cases e
 | some o =>
  rw [q] at e
  have e':(b,o)=p:=Option.some.inj e
  subst e'
  exact ⟨hb,q⟩
theorem Inv.pinned {pins:List (Addr×Obj)} {σ:St} {H:Hp} {s:Shared} {fp:List Addr} (I:Inv X pins σ H s) (hf:∀ b∈fp,FpOk X pins H b) (ho:∀ b∈fp,∃ o,s.heap.get? b=some o/\∀ v,o.data≠.cell v):Inv X (pins++Qgo fp s.heap) σ H s :=
 I.pins_of fun p hp=>(List.mem_append.mp hp).elim (fun z=>I.pin p (List.mem_append_right _ z)) fun z=>by
  obtain ⟨hb,e⟩:=Qnd z
  obtain ⟨f0,f1,f2,_⟩:=hf p.1 hb
  obtain ⟨o,e',d⟩:=ho p.1 hb
  rw [e] at e';cases e'
  exact ⟨e,f0,f1,f2,d⟩
theorem Inv.unpinned {pins pl:List (Addr×Obj)} {σ:St} {H:Hp} {s:Shared} (I:Inv X (pins++pl) σ H s):Inv X pins σ H s:=I.pins_of fun p hp=>I.pin p (List.mem_append_right _ (List.mem_append_left _ hp))
theorem Qkb {iter:Expr} {body:List Stmt} {wi:TI} {g:TG} {tb:TS} {pos:Pos} (hp:PassesOwn (model X.prog X.w) X.A X.env X.xe) (hc:X.calm=true) (hi:PI X tg iter wi) (hg:PG X tg g) (hb:PSs X body tb)
  (hs:∀ x,foldedSetIterable iter X.env x=pure x:=by intro _;rfl):PS X (.For tg iter body [] pos) (tFor wi g tb):=by
 intro pins s σ H D I h
 refine wpAny_For (thn (hi pins s σ H _ I h) fun v s1 h1=>thn h1 fun itv s2 h2=>?_) hs
 obtain ⟨it,fp,tn,J,H2,e,I2,T,st2,f2,W,⟨m0,w0⟩,turn⟩:=h2
 subst e
 have stat:∀ {H':Hp},(∀ b∈fp,H' b=none)->∀ b∈fp,FpOk X pins H' b:=fun hn b hb=>⟨hn b hb,(f2 b hb).2⟩
 refine codeAny_forLoop_any (fun n s'=>∃ i σ' H',Inv X pins σ' H' s'/\tn i s'.heap/\(∀ b∈fp,H' b=none)/\W i n σ' H') ?_ m0 ⟨0,σ,H2,I2,st2,fun b hb=>(f2 b hb).1,w0⟩
 rintro n s3 ⟨i,σ3,H3,I3,st3,fr3,w3⟩
 rcases turn i n σ3 H3 w3 with ⟨stop,qn⟩ | ⟨go,N,hN,step⟩
 ·refine wpAny_passesOwn hp (thn (T.done X rfl rfl rfl hc i pins s3 σ3 H3 X.xe I3 (stat fr3) st3 stop) fun r s4 ⟨hr,I4⟩=>?_)
  subst hr
  exact wpAny_execs_nil ⟨σ3,H3,I4,qn⟩
 ·refine wpAny_passesOwn hp (thn (T.item X rfl rfl rfl hc i pins s3 σ3 H3 X.xe I3 (stat fr3) st3 go) fun r s4 ⟨u,hr,h4⟩=>?_)
  subst hr
  refine wpAny_passesOwn hp (thn h4 fun _ s5 ⟨x,H5,I5,r5,y5,st5,fr5⟩=>?_)
  have I5':=I5.pinned (stat fr5) (T.obj _ _ st5)
  refine wpAny_passesOwn hp (thn (hg _ s5 σ3 H5 x u _ I5' r5 (step x H5 y5)) fun _ s6 ⟨σ6,H6,I6,q6⟩=>?_)
  refine wpAny_passesOwn hp (thn (hb _ s6 σ6 H6 _ I6 q6) fun f s7 q7=>?_)
  have again:∀ {σ7:St} {H7:Hp},Inv X (pins++Qgo fp s5.heap) σ7 H7 s7->N σ7 H7->∃ m,m < n/\∃ i σ' H',Inv X pins σ' H' s7/\tn i s7.heap/\(∀ b∈fp,H' b=none)/\W i m σ' H':=fun {σ7 H7} I7 n7=>by
   obtain ⟨m',hm,w7⟩:=hN σ7 H7 n7
   refine ⟨m',hm,i + 1,σ7,H7,I7.unpinned,T.keep _ _ _ st5 fun b hb o e=>(I7.pin (b,o) (List.mem_append_right _ (List.mem_append_right _ (Qda hb e)))).1,fun b hb=>?_,w7⟩
   obtain ⟨o,e,d⟩:=T.obj _ _ st5 b hb
   exact (I7.pin (b,o) (List.mem_append_right _ (List.mem_append_right _ (Qda hb e)))).2.1
  cases f with
  | next=>obtain ⟨σ7,H7,I7,n7⟩:=q7;exact again I7 n7
  | cont=>obtain ⟨σ7,H7,I7,n7⟩:=q7;exact again I7 n7
  | brk=>obtain ⟨σ7,H7,I7,q7⟩:=q7;exact ⟨σ7,H7,I7.unpinned,q7⟩
  | ret v=>obtain ⟨x7,σ7,H7,I7,r7,q7⟩:=q7;exact ⟨x7,σ7,H7,I7.unpinned,r7,q7⟩
end
end L2
namespace L2
open PySem PySem.Spec PyProof.Rows
abbrev R2:=V->V->Hp->VK->Prop
def OpR (X:Cx) (f:Value->Value->Sem Value) (r:R2):Prop :=
 ∀ (pins:List (Addr×Obj)) (s:Shared) (σ:St) (H:Hp) (x y:V) (v u:Value) (Q:VK),Inv X pins σ H s->RelV x v->RelV y u->r x y H Q ->
  wpAny (model X.prog X.w) X.A (f v u) (EP X pins σ Q) X.xe s
def UnR (X:Cx) (f:Value->Sem Value) (r:V->Hp->VK->Prop):Prop :=
 ∀ (pins:List (Addr×Obj)) (s:Shared) (σ:St) (H:Hp) (x:V) (v:Value) (Q:VK),Inv X pins σ H s->RelV x v->r x H Q ->
  wpAny (model X.prog X.w) X.A (f v) (EP X pins σ Q) X.xe s
def CallR (X:Cx) (f:Value) (r:List V->Hp->VK->Prop):Prop :=
 ∀ (pins:List (Addr×Obj)) (s:Shared) (σ:St) (H:Hp) (xs:List V) (us:List Value) (Q:VK),Inv X pins σ H s->Vals xs us->r xs H Q ->
  wpAny (model X.prog X.w) X.A (call f us) (EP X pins σ Q) X.xe s
def TruR (X:Cx) (r:V->Hp->(Bool->Hp->Prop)->Prop):Prop :=
 ∀ (pins:List (Addr×Obj)) (s:Shared) (σ:St) (H:Hp) (x:V) (v:Value) (Q:Bool->Hp->Prop),Inv X pins σ H s->RelV x v->r x H Q ->
  wpAny (model X.prog X.w) X.A (truthy v) (TP X pins σ Q) X.xe s
def tOp (r:R2) (ta tb:TE):TE:=fun σ H Q=>ta σ H fun x H1=>tb σ H1 fun y H2=>r x y H2 Q
def tUn (r:V->Hp->VK->Prop) (ta:TE):TE:=fun σ H Q=>ta σ H fun x H1=>r x H1 Q
def rI (C:Int->Int->Prop) (g:Int->Int->V):R2:=fun x y H Q=>∃ i j,x=.int i/\y=.int j/\C i j/\Q (g i j) H
def rI0 (g:Int->Int->V):R2:=fun x y H Q=>∃ i j,x=.int i/\y=.int j/\Q (g i j) H
def rU (g:Int->V):V->Hp->VK->Prop:=fun x H Q=>∃ i,x=.int i/\Q (g i) H
section
variable {X:Cx} {a b c:Expr} {ta tb tc:TE} {pos:Pos}
theorem binT (ha:PE X a ta) (hb:PE X b tb) {pins:List (Addr×Obj)} {s:Shared} {σ:St} {H:Hp} {R:V->V->Hp->Prop} (I:Inv X pins σ H s)
  (h:ta σ H fun x H1=>tb σ H1 fun y H2=>R x y H2) {Q:Value->Shared->Prop} {f:Value->Value->Sem Value}
  (hf:∀ v u s2 x y H2,Inv X pins σ H2 s2->RelV x v->RelV y u->R x y H2->wpAny (model X.prog X.w) X.A (f v u) Q X.xe s2) :
  wpAny (model X.prog X.w) X.A (eval a X.env) (fun v s₁=>wpAny (model X.prog X.w) X.A (eval b X.env) (fun u s₂=>wpAny (model X.prog X.w) X.A (f v u) Q X.xe s₂) X.xe s₁) X.xe s:=by
 refine thn (ha pins s σ H _ I h) fun v s1 ⟨x,H1,I1,r1,q1⟩=>?_
 refine thn (hb pins s1 σ H1 _ I1 q1) fun u s2 ⟨y,H2,I2,r2,q2⟩=>?_
 exact hf v u s2 x y H2 I2 r1 r2 q2
theorem Qny {op:Operator} {r:R2} (ho:OpR X (binaryOp op) r) (ha:PE X a ta) (hb:PE X b tb):PE X (.BinOp a op b pos) (tOp r ta tb):=by
 intro pins s σ H Q I h
 exact wpAny_BinOp (binT ha hb I h fun v u s2 x y H2 I2 rx ry q=>ho pins s2 σ H2 x y v u Q I2 rx ry q)
theorem pe_un {op:UnaryOp} {r:V->Hp->VK->Prop} (ho:UnR X (unaryOp op) r) (ha:PE X a ta):PE X (.UnaryOp op a pos) (tUn r ta):=by
 intro pins s σ H Q I h
 exact UnaryOp_ (thn (ha pins s σ H _ I h) fun v s1 ⟨x,H1,I1,r1,q1⟩=>ho pins s1 σ H1 x v Q I1 r1 q1)
theorem opI {f:Value->Value->Sem Value} {C:Int->Int->Prop} {g:Int->Int->Int}
  (rule:∀ (i j:Int) (t u:Tok) (s:Shared) (Q:Value->Shared->Prop) (E:Value->Shared->Prop),C i j->Q (.int (g i j) s.toks) { s with toks:=s.toks + 1 }->wpAny (model X.prog X.w) X.A (f (.int i t) (.int j u)) Q E s) :
  OpR X f (rI C fun i j=>.int (g i j)):=by
 intro pins s σ H x y v u Q I rx ry h
 obtain ⟨i,j,rfl,rfl,hc,q⟩:=h
 obtain ⟨t,rfl⟩:=rx
 obtain ⟨t',rfl⟩:=ry
 exact rule i j t t' s _ _ hc ⟨.int (g i j),H,I.tok _,⟨_,rfl⟩,q⟩
theorem opI0 {f:Value->Value->Sem Value} {g:Int->Int->Int}
  (rule:∀ (i j:Int) (t u:Tok) (s:Shared) (Q:Value->Shared->Prop) (E:Value->Shared->Prop),Q (.int (g i j) s.toks) { s with toks:=s.toks + 1 }->wpAny (model X.prog X.w) X.A (f (.int i t) (.int j u)) Q E s) :
  OpR X f (rI0 fun i j=>.int (g i j)):=by
 intro pins s σ H x y v u Q I rx ry h
 obtain ⟨i,j,rfl,rfl,q⟩:=h
 obtain ⟨t,rfl⟩:=rx
 obtain ⟨t',rfl⟩:=ry
 exact rule i j t t' s _ _ ⟨.int (g i j),H,I.tok _,⟨_,rfl⟩,q⟩
theorem opB0 {f:Value->Value->Sem Value} {g:Int->Int->Bool}
  (rule:∀ (i j:Int) (t u:Tok) (s:Shared) (Q:Value->Shared->Prop) (E:Value->Shared->Prop),Q (.bool (g i j)) s->wpAny (model X.prog X.w) X.A (f (.int i t) (.int j u)) Q E s) :
  OpR X f (rI0 fun i j=>.bl (g i j)):=by
 intro pins s σ H x y v u Q I rx ry h
 obtain ⟨i,j,rfl,rfl,q⟩:=h
 obtain ⟨t,rfl⟩:=rx
 obtain ⟨t',rfl⟩:=ry
 exact rule i j t t' s _ _ ⟨.bl (g i j),H,I,rfl,q⟩
def CPow (i j:Int):Prop:=0<=j/\j<=1000000/\i.natAbs < 2 ^ 64
def CMul (i j:Int):Prop:=(-(2 ^ 64) < i/\i < 2 ^ 64)\/(-(2 ^ 64) < j/\j < 2 ^ 64)
theorem CMul.ok {i j:Int} (h:CMul i j):IntMulOk i j:=by
 rcases h with ⟨h1,h2⟩ | ⟨h1,h2⟩
 ·exact .of_left (intBits_le_64 h1 h2)
 ·exact .of_right (intBits_le_64 h1 h2)
theorem QqU:OpR X (binaryOp .Add) (rI0 fun i j=>.int (i + j)):=opI0 fun _ _ _ _ _ _ _ q=>add_int q
theorem QqN:OpR X (binaryOp .Sub) (rI0 fun i j=>.int (i - j)):=opI0 fun _ _ _ _ _ _ _ q=>sub_int q
theorem Qq7:OpR X (binaryOp .Mult) (rI CMul fun i j=>.int (i * j)):=opI fun _ _ _ _ _ _ _ hc q=>mul_int q hc.ok
theorem QqD:OpR X (binaryOp .Mod) (rI (fun _ j=>0 < j) fun i j=>.int (i % j)):=opI fun i j _ _ _ _ _ hc q=>by
 have h1:(0:Int) < j:=hc
 exact mod_int' (by omega) (by rw [Int.fmod_eq_emod_of_nonneg i (by omega)];exact q)
theorem Qq5:OpR X (binaryOp .Pow) (rI CPow fun i j=>.int (i ^ j.toNat)):=opI fun _ _ _ _ _ _ _ hc q=>pow_int_small hc.1 hc.2.1 hc.2.2 q
theorem QqR:OpR X (binaryOp .LShift) (rI CPow fun i j=>.int (i * 2 ^ j.toNat)):=opI fun _ _ _ _ _ _ _ hc q=>lshift_int_small hc.1 hc.2.1 hc.2.2 q
theorem Qp8:OpR X (binaryOp .BitXor) (rI0 fun i j=>.int (Builtin.bitXor i j)):=opI0 fun _ _ _ _ _ _ _ q=>xor_int q
theorem unI {f:Value->Sem Value} {g:Int->Int}
  (rule:∀ (i:Int) (t:Tok) (s:Shared) (Q:Value->Shared->Prop) (E:Value->Shared->Prop),Q (.int (g i) s.toks) { s with toks:=s.toks + 1 }->wpAny (model X.prog X.w) X.A (f (.int i t)) Q E s) :
  UnR X f (rU fun i=>.int (g i)):=by
 intro pins s σ H x v Q I rx h
 obtain ⟨i,rfl,q⟩:=h
 obtain ⟨t,rfl⟩:=rx
 exact rule i t s _ _ ⟨.int (g i),H,I.tok _,⟨_,rfl⟩,q⟩
theorem Qqn:UnR X (unaryOp .USub) (rU fun i=>.int (-i)):=unI fun _ _ _ _ _ q=>neg_int q
end
section
variable {X:Cx} {a b c:Expr} {ta tb tc:TE} {pos:Pos}
theorem op_lt:OpR X (compareOp .Lt) (rI0 fun i j=>.bl (decide (i < j))):=opB0 fun _ _ _ _ _ _ _ q=>lt_int q
theorem op_le:OpR X (compareOp .LtE) (rI0 fun i j=>.bl (decide (i<=j))):=opB0 fun _ _ _ _ _ _ _ q=>le_int q
theorem op_gt:OpR X (compareOp .Gt) (rI0 fun i j=>.bl (decide (j < i))):=opB0 fun _ _ _ _ _ _ _ q=>gt_int q
theorem OpR.or {f:Value->Value->Sem Value} {r r':R2} (h:OpR X f r) (h':OpR X f r'):OpR X f (fun x y H Q=>r x y H Q\/r' x y H Q):=by
 intro pins s σ H x y v u Q I rx ry q
 rcases q with q | q
 ·exact h pins s σ H x y v u Q I rx ry q
 ·exact h' pins s σ H x y v u Q I rx ry q
theorem QQ (b:Expr) {op:CmpOp} (h:op≠.In:=by decide) (h2:op≠.NotIn:=by decide):behindInMarks op b=false:=by
 have e1:(op == CmpOp.In)=false:=by cases op <;> first | rfl | exact absurd rfl h
 have e2:(op == CmpOp.NotIn)=false:=by cases op <;> first | rfl | exact absurd rfl h2
 cases b <;> simp [behindInMarks,e1,e2]
theorem Qpu {op:CmpOp} {r:R2} (ho:OpR X (compareOp op) r) (ha:PE X a ta) (hb:PE X b tb) (hm:behindInMarks op b=false):PE X (.Compare a [op] [b] pos) (tOp r ta tb):=by
 intro pins s σ H Q I h
 exact wpAny_Compare1 (binT ha hb I h fun v u s2 x y H2 I2 rx ry q=>ho pins s2 σ H2 x y v u Q I2 rx ry q) hm
def tTest (t:TE):TT:=fun σ H Q=>t σ H fun x H'=>∃ k,x=.bl k/\Q k H'
theorem Qpt {op:CmpOp} {r:R2} (ho:OpR X (compareOp op) r) (ha:PE X a ta) (hb:PE X b tb) (hm:behindInMarks op b=false):PT X (.Compare a [op] [b] pos) (tTest (tOp r ta tb)):=by
 intro pins s σ H Q I h
 refine wpAny_isTrue_Compare1 (thn (ha pins s σ H _ I h) fun v s1 ⟨x,H1,I1,r1,q1⟩=>thn (hb pins s1 σ H1 _ I1 q1) fun u s2 ⟨y,H2,I2,r2,q2⟩ =>
  thn (ho pins s2 σ H2 x y v u _ I2 r1 r2 q2) fun c s3 ⟨z,H3,I3,r3,k,e,q3⟩=>?_) hm
 subst e
 cases r3
 exact wpAny_truthy_bool ⟨H3,I3,q3⟩
def QnH (r r':R2) (ta tb tc:TE):TE:=fun σ H Q=>ta σ H fun x H1=>tb σ H1 fun y H2=>r x y H2 fun z H3=>∃ k,z=.bl k /\
 (if k=true then tc σ H3 fun w' H4=>r' y w' H4 Q else Q (.bl false) H3)
theorem QnC {op op':CmpOp} {r r':R2} (ho:OpR X (compareOp op) r) (ho':OpR X (compareOp op') r') (ha:PE X a ta) (hb:PE X b tb) (hc:PE X c tc)
  (hm:lastMarks [op,op'] [b,c]=false:=by with_unfolding_all rfl):PE X (.Compare a [op,op'] [b,c] pos) (QnH r r' ta tb tc):=by
 intro pins s σ H Q I h
 refine Compare_chain (thn (ha pins s σ H _ I h) fun v s1 ⟨x,H1,I1,r1,q1⟩=>chain_link (thn (hb pins s1 σ H1 _ I1 q1) fun u s2 ⟨y,H2,I2,r2,q2⟩ =>
  thn (ho pins s2 σ H2 x y v u _ I2 r1 r2 q2) fun d s3 ⟨z,H3,I3,r3,k,e,q3⟩=>?_)) hm
 subst e
 cases r3
 refine wpAny_truthy_bool ?_
 cases k with
 | false=>exact ite_ff ⟨.bl false,H3,I3,rfl,q3⟩
 | true=>exact ite_tt (chain_last (thn (hc pins s3 σ H3 _ I3 q3) fun w' s4 ⟨z',H4,I4,r4,q4⟩=>ho' pins s4 σ H4 y z' u w' Q I4 r2 r4 q4))
def TruV (K:PySem.W.Frag) (x:V) (H:Hp) (k:Bool):Prop :=
 match x with
 | .non=>k=false
 | .bl b=>k=b
 | .int i=>k=(i != 0)
 | .str y=>y.length<=sizeLine/\k=((y.length:Int) != 0)
 | .byt y=>y.size<=sizeLine/\k=((y.size:Int) != 0)
 | .ref p=>(∃ xs,SqL K H p xs/\k=!xs.isEmpty)\/(∃ xs,SqT K H p xs/\k=!xs.isEmpty)\/∃ kvs,H p=some (.dK kvs)/\k=!kvs.isEmpty
 | _=>False
theorem QlK {κ:Type} {kvs:List (κ×V)} {vs:List (κ×Value)} (r:KV kvs vs):(!vs.isEmpty)=!kvs.isEmpty:=by
 cases r <;> rfl
theorem Qhz {xs:List V} {its:List Value} (r:Vals xs its):(!its.toArray.isEmpty)=!xs.isEmpty:=by
 cases r <;> simp
theorem Qgu:(sizeLine:Nat) < 2 ^ 63:=by rw [sizeLine_eq];decide
theorem Qrf:TruR X (fun x H Q=>∃ k,TruV X.K x H k/\Q k H):=by
 intro pins s σ H x v Q I rx h
 obtain ⟨k,e,q⟩:=h
 have hl:=Qgu
 have hs:sizeLine=16777216:=sizeLine_eq
 cases x with
 | non =>
  cases rx
  have e':k=false:=e
  subst e'
  exact truthy_none ⟨H,I,q⟩
 | bl b =>
  cases rx
  have e':k=b:=e
  subst e'
  exact wpAny_truthy_bool ⟨H,I,q⟩
 | int i =>
  obtain ⟨t,rfl⟩:=rx
  have e':k=(i != 0):=e
  subst e'
  exact PySem.P.truthy_int ⟨H,I,q⟩
 | str y =>
  obtain ⟨t,rfl⟩:=rx
  obtain ⟨hy,e'⟩:y.length<=sizeLine/\k=((y.length:Int) != 0):=e
  subst e'
  exact PySem.P.truthy_str (by omega) ⟨H,I.tok _,q⟩
 | byt y =>
  obtain ⟨t,rfl⟩:=rx
  obtain ⟨hy,e'⟩:y.size<=sizeLine/\k=((y.size:Int) != 0):=e
  subst e'
  exact PySem.W.truthy_bytes (by omega) ⟨H,I.tok _,q⟩
 | ref p =>
  cases rx
  have e':(∃ xs,SqL X.K H p xs/\k=!xs.isEmpty)\/(∃ xs,SqT X.K H p xs/\k=!xs.isEmpty)\/∃ kvs,H p=some (.dK kvs)/\k=!kvs.isEmpty:=e
  rcases e' with ⟨xs,hx,e'⟩ | ⟨xs,hx,e'⟩ | ⟨kvs,hx,e'⟩
  ·subst e'
   obtain ⟨its,r,pl,hz⟩:=I.list hx
   have hlen:=r.length
   exact wpAny_truthy_list pl.isList (by simp only [List.size_toArray];omega) ⟨H,I.tok _,by rw [Qhz r];exact q⟩
  ·subst e'
   obtain ⟨its,r,pl,hz⟩:=I.tuple hx
   have hlen:=r.length
   exact truthy_tuple pl (by simp only [List.size_toArray];omega) ⟨H,I.tok _,by rw [Qhz r];exact q⟩
  ·subst e'
   obtain ⟨hz,hS,vs,r,m⟩:kvs.length<=sizeLine/\(p == sysModules)=false/\∃ vs,KV kvs vs/\s.heap.DictOf (Qhl X.prog X.w) p vs:=I.hok p _ hx
   have hlen:kvs.length=vs.length:=Paired.length r
   exact wpAny_truthy_dict hS m (by omega) ⟨H,I.tok _,by rw [QlK r];exact q⟩
 | _=>exact (show False from e).elim
theorem QnM (ha:PE X a ta) (he:∀ whole,isTrue a X.env whole=(do let v ← whole;standAt a.pos;holding [v] (truthy v))) :
  PT X a (fun σ H Q=>ta σ H fun x H'=>∃ k,TruV X.K x H' k/\Q k H'):=by
 intro pins s σ H Q I h
 exact isTrue_plain (thn (ha pins s σ H _ I h) fun v s1 ⟨x,H1,I1,r1,q1⟩=>Qrf pins s1 σ H1 x v Q I1 r1 q1) (he _)
theorem QlF:OpR X (binaryOp .Add) (fun x y H Q=>∃ i j,x=.str i/\y=.str j/\i.length + j.length<=sizeLine/\Q (.str (i++j)) H):=by
 intro pins s σ H x y v u Q I rx ry h
 obtain ⟨i,j,rfl,rfl,hz,q⟩:=h
 obtain ⟨t,rfl⟩:=rx
 obtain ⟨t',rfl⟩:=ry
 exact add_str (fun t' tk=>⟨.str (i++j),H,I.tok _,⟨_,rfl⟩,q⟩) hz
theorem QgP {x:V} {us:List Value} (r:Vals [x] us):∃ u,us=[u]/\RelV x u:=by
 cases r with
 | cons r1 r2=>cases r2;exact ⟨_,rfl,r1⟩
theorem Qmo {x y:V} {us:List Value} (r:Vals [x,y] us):∃ u w',us=[u,w']/\RelV x u/\RelV y w':=by
 cases r with
 | cons r1 r2 =>
  cases r2 with
  | cons r3 r4=>cases r4;exact ⟨_,_,rfl,r1,r3⟩
theorem QmZ (hc:X.calm=true):CallR X (.builtin "max") (fun xs H Q=>∃ i j,xs=[.int i,.int j]/\Q (.int (if j > i then j else i)) H):=by
 intro pins s σ H xs us Q I r h
 obtain ⟨i,j,rfl,q⟩:=h
 obtain ⟨u,w',rfl,⟨t,rfl⟩,⟨t',rfl⟩⟩:=Qmo r
 refine max_two_ints (I.ok.hd hc) fun h' tk k=>⟨_,H,I.kept k,?_,q⟩
 by_cases hj:j > i
 ·rw [if_pos hj,if_pos hj];exact ⟨_,rfl⟩
 ·rw [if_neg hj,if_neg hj];exact ⟨_,rfl⟩
theorem Qnb (hc:X.calm=true):CallR X (.builtin "min") (fun xs H Q=>∃ i j,xs=[.int i,.int j]/\Q (.int (if j < i then j else i)) H):=by
 intro pins s σ H xs us Q I r h
 obtain ⟨i,j,rfl,q⟩:=h
 obtain ⟨u,w',rfl,⟨t,rfl⟩,⟨t',rfl⟩⟩:=Qmo r
 refine min_two_ints (I.ok.hd hc) fun h' tk k=>⟨_,H,I.kept k,?_,q⟩
 by_cases hj:j < i
 ·rw [if_pos hj,if_pos hj];exact ⟨_,rfl⟩
 ·rw [if_neg hj,if_neg hj];exact ⟨_,rfl⟩
end
end L2
namespace L2
open PySem PySem.Spec PyProof.Rows
structure ObjM (h:Heap) (x dx C:Addr) (mA:Str->Option Value):Prop where
 obj:h.get? x=some (PySem.W.instObj C dx)
 ns:h.Ns1 dx mA
 ne:dx≠x
theorem QmU {h:Heap} {dx:Addr} {mA:Str->Option Value} (n:h.Ns1 dx mA):∃ od,h.get? dx=some od/\∀ name,PySem.W.lookIn name od=some (mA name):=by
 obtain ⟨o,es,ep,ho,hd,hk,_,hm⟩:=n
 refine ⟨o,ho,fun name=>?_⟩
 have e:=hm name
 unfold nsFind findBy at e
 rw [← Array.find?_toList] at e
 unfold PySem.W.lookIn
 rw [hd]
 dsimp only
 split
 ·rename_i y q
  rw [q] at e
  exact congrArg some e
 ·rename_i q
  rw [q] at e
  have a:es.toList.any (·.refKey)=false:=by
   rw [List.any_eq_false]
   intro y hy
   obtain ⟨z,t,hkey⟩:=hk y (Array.mem_toList_iff.mp hy)
   simp [DictEntry.refKey,hkey]
  have a':¬ es.toList.any (·.refKey)=true:=by rw [a];exact Bool.false_ne_true
  rw [if_neg a']
  exact congrArg some e
theorem ObjM.look {h:Heap} {x dx C:Addr} {mA:Str->Option Value} (I:ObjM h x dx C mA):∃ od,PySem.W.InstAt h x (PySem.W.instObj C dx) C (some od)/\∀ name,PySem.W.lookIn name od=some (mA name) :=
 let ⟨od,ho,hl⟩:=QmU I.ns
 ⟨od,⟨I.obj,rfl,rfl,ho⟩,hl⟩
section
variable {prog:Program} {w:World} {A:Around} {E:Value->Shared->Prop} {s:Shared} {K:PySem.W.Frag} {x dx C f:Addr} {mA:Str->Option Value} {name:Str} {v:Value}
theorem QnB {pl:Sem Bool} {Q:Value×List Value->Shared->Prop} (X:K.In s.heap) (I:ObjM s.heap x dx C mA) (hg:PySem.W.plainGet K C name=true)
  (hf:PySem.W.findIn K (.ref C) name=some (some (.ref f))) (ht:PySem.W.isFn K (.ref f)=true) (hv:mA name=none) (h:Q (.ref f,[.ref x]) s) :
  wpAny (model prog w) A (getMethod (.ref x) name pl) Q E s:=by
 obtain ⟨od,J,hl⟩:=I.look
 exact PySem.W.method_fn X J (PySem.W.plainGet_of hg).1 (PySem.W.plainGet_of hg).2 hf (beq_iff_eq.mp ht) (by show (PySem.W.lookIn name od).map (·.isSome)=some false;rw [hl,hv];rfl) h
theorem Qnk {R:Result->Shared->Prop} (X:K.In s.heap) (hm:PySem.W.makesIn K C=true)
  (hi:PySem.W.findIn K (.ref C) "__init__" = some (some (.builtin "object.__init__")))
  (hb:∀ self,PySem.W.Looks (model prog w) s.heap (bindSpecial (.builtin "object.__init__") self) (.builtin "object.__init__",[self]))
  (h:codeAny (model prog w) (A.under (.builtin "type.__call__" ⟨[.ref C],[]⟩)) (.call (.builtin "object.__init__") ⟨[.ref (s.heap.objs.size + 1)],[]⟩) (PySem.W.InitBack (s.heap.objs.size + 1) R)
   { s with heap:=(s.heap.push PySem.W.emptyDict).push (PySem.W.instObj C s.heap.objs.size) }) :
  codeAny (model prog w) A (.call (.ref C) ⟨[],[]⟩) R s:=by
 obtain ⟨hh,g,d,t,os⟩:=s
 exact PySem.W.make_core (PySem.W.makes_of X hm) (PySem.W.looks_findIn X hi) hb (.inr ⟨rfl,rfl⟩) h
end
theorem RelO.none_of {o:Option Value} (r:RelO none o):o=none:=by
 cases o with
 | none=>rfl
 | some u=>exact (show False from r).elim
section
variable {P:Program} {w:World} {H H':Hp} {h h':Heap} {a C dx:Addr} {fs fs':List (Str×V)}
theorem QpG (hok:HOk P w H h) (e:H a=some (.ins C dx fs)):∃ mA,ObjM h a dx C mA/\(∀ f,RelO (fs.lookup f) (mA f))/\PySem.Within mA (fs.map (·.1))/\fs.length<=1000/\H dx=some (.own a):=by
 obtain ⟨d,z,ne,ob,mA,n,r,q⟩:=(show ObjOk P w H h a (.ins C dx fs) from hok a _ e)
 exact ⟨mA,⟨ob,n,ne⟩,r,q,z,d⟩
end
structure Cls (K:PySem.W.Frag) (C:Addr):Prop where
 pg:PySem.W.plainGet K C Str.empty=true
 hd:PySem.W.hasDictIn K C=true
 po:PySem.W.plainOver K C=true
 sa:PySem.W.findIn K (.ref C) "__setattr__" = some (some (.builtin "object.__setattr__"))
theorem Cls.get {K:PySem.W.Frag} {C:Addr} (c:Cls K C) (f:Str):PySem.W.plainGet K C f=true:=c.pg
structure Con (K:PySem.W.Frag) (C:Addr) (f:Str) (v:V) (u:Value):Prop where
 at_:PySem.W.findIn K (.ref C) f=some (some u)
 rel:RelV v u
 get:PySem.W.specialIn K u "__get__" = some none
 cp:PySem.W.copiedNames.contains f=false
structure Meth (K:PySem.W.Frag) (C:Addr) (m:Str) (f:Addr):Prop where
 at_:PySem.W.findIn K (.ref C) m=some (some (.ref f))
 fn:PySem.W.isFn K (.ref f)=true
 kp:PySem.W.keepIn K (.ref f)=true
section
variable {X:Cx} {pins:List (Addr×Obj)} {σ:St} {H:Hp} {s:Shared} {a C dx:Addr} {fs:List (Str×V)} {f:Str} {v:V} {A:Around} {E:Value->Shared->Prop}
theorem QhT {m:Str} {g:Addr} {pl:Sem Bool} {Q:Value×List Value->Shared->Prop} (I:Inv X pins σ H s) (e:H a=some (.ins C dx fs)) (c:Cls X.K C) (k:Meth X.K C m g) (l:fs.lookup m=none)
  (h:Q (.ref g,[.ref a]) s):wpAny (model X.prog X.w) A (getMethod (.ref a) m pl) Q E s:=by
 obtain ⟨mA,O,r,_,_,_⟩:=QpG I.hok e
 have hn:mA m=none:=RelO.none_of (by rw [← l];exact r m)
 exact QnB I.kIn O (c.get m) k.at_ k.fn hn h
theorem Inv.made (I:Inv X pins σ H s):Inv X pins σ (upd (upd H s.heap.objs.size (.own (s.heap.objs.size + 1))) (s.heap.objs.size + 1) (.ins C s.heap.objs.size []))
  { s with heap:=(s.heap.push PySem.W.emptyDict).push (PySem.W.instObj C s.heap.objs.size) }:=by
 have e1:(s.heap.push PySem.W.emptyDict).get? s.heap.objs.size=some PySem.W.emptyDict:=Heap.get?_push_size s.heap rfl
 have e2:((s.heap.push PySem.W.emptyDict).push (PySem.W.instObj C s.heap.objs.size)).get? (s.heap.objs.size + 1)=some (PySem.W.instObj C s.heap.objs.size):=by
  have:=Heap.get?_push_size (s.heap.push PySem.W.emptyDict) (o:=PySem.W.instObj C s.heap.objs.size) rfl
  rwa [Heap.size_push] at this
 have e3:(s.heap.push PySem.W.emptyDict).Ns s.heap.objs.size (fun _=>none):=⟨PySem.W.emptyDict,#[],_,e1,rfl,(fun e he=>absurd he (by simp)),fun _=>rfl⟩
 have I1:=I.laid (a:=s.heap.objs.size) (o:=.own (s.heap.objs.size + 1)) (h':=s.heap.push PySem.W.emptyDict) (t':=s.toks) (fun b u q=>Heap.get?_push_of_some _ q) (Nat.le_refl _) ⟨_,e1⟩
 refine I1.laid (a:=s.heap.objs.size + 1) (o:=.ins C s.heap.objs.size []) (t':=s.toks) (fun b u q=>Heap.get?_push_of_some _ q) (Nat.le_of_eq (Heap.size_push _ _)) ?_
 have ne:s.heap.objs.size≠s.heap.objs.size + 1:=Nat.ne_of_lt (Nat.lt_succ_self _)
 refine ⟨by rw [Qt ne,QH],Nat.zero_le _,ne,e2,fun _=>none,(Heap.Ns1.of_empty e3).at fun o q=>Heap.get?_push_of_some _ q,fun _=>True.intro,fun y hy=>absurd rfl hy⟩
end
section
variable {X:Cx} {o e value:Expr} {f:Str} {pos pos' tpos:Pos} {ta tv:TE}
end
section
variable {X:Cx} {pins:List (Addr×Obj)} {σ:St} {H:Hp} {s:Shared} {A:Around} {E:Value->Shared->Prop} {Q:Value->Shared->Prop} {c:Value} {b:Bool}
inductive TyOf (K:PySem.W.Frag) (H:Hp):V->Value->Prop where
 | non:TyOf K H .non (.type "NoneType")
 | bl (x:Bool):TyOf K H (.bl x) (.type "bool")
 | int (i:Int):TyOf K H (.int i) (.type "int")
 | str (x:Str):TyOf K H (.str x) (.type "str")
 | flt (x:UInt64):TyOf K H (.flt x) (.type "float")
 | lst {a:Addr} {xs:List V} (e:H a=some (.lst xs)):TyOf K H (.ref a) (.type "list")
 | frz {a:Addr} {o:Obj} {xs:List V} (e:H a=some (.frz o (.lst xs))):TyOf K H (.ref a) (.type "list")
 | tup {a:Addr} {xs:List V} (e:H a=some (.tup xs)):TyOf K H (.ref a) (.type "tuple")
 | dK {a:Addr} {kvs:List (Key×V)} (e:H a=some (.dK kvs)):TyOf K H (.ref a) (.type "dict")
 | dT {a:Addr} {kvs:List (List Key×V)} (e:H a=some (.dT kvs)):TyOf K H (.ref a) (.type "dict")
 | ins {a C dx:Addr} {fs:List (Str×V)} (e:H a=some (.ins C dx fs)) (cl:Cls K C) (ha:PySem.W.findIn K (.ref C) "__class__" = some (some (.builtin "object.__class__")))
   (hn:PySem.W.specialIn K (.builtin "object.__class__") "__get__" = some (some (.builtin "getset_descriptor.__get__"))) (htk:PySem.W.takesIn K (.builtin "object.__class__")=some true)
   (hm:PySem.W.mroIn K C (.type "object")=some true):TyOf K H (.ref a) (.ref C)
end
end L2
namespace L2
open PySem PySem.Spec PyProof.Rows
structure Room (k:Nat) (A:Around):Prop where
 hd:A.handled=none
 dp:A.depth + 3 * k + 5 < recursionLimit
 un:A.units + 16 * k + 200 < cLine
theorem Room.mono {j k:Nat} {A:Around} (r:Room k A) (h:j<=k):Room j A:=⟨r.hd,by have:=r.dp;omega,by have:=r.un;omega⟩
theorem Room.deeper {k:Nat} {A:Around} (r:Room (k + 1) A) (env:Env):Room k (A.deeper env) :=
 ⟨r.hd,by have:=r.dp;show A.depth + 1 + 3 * k + 5 < _;omega,by have:=r.un;show A.units + 3 + 16 * k + 200 < _;omega⟩
theorem Room.in1 {k:Nat} {A:Around} (r:Room (k + 1) A):Room k A.in1 :=
 ⟨r.hd,by have:=r.dp;show A.depth + 3 * k + 5 < _;omega,by have:=r.un;show A.units + 1 + 16 * k + 200 < _;omega⟩
theorem Room.depth {k:Nat} {A:Around} (r:Room k A):A.depth < recursionLimit:=by have:=r.dp;omega
theorem Room.units {k:Nat} {A:Around} (r:Room k A):A.units + 64 < cLine:=by have:=r.un;omega
def tNil:TA:=fun _ H Q=>Q [] H
def tCons (ta:TE) (tr:TA):TA:=fun σ H Q=>ta σ H fun x H1=>tr σ H1 fun xs H2=>Q (x::xs) H2
section
variable {X:Cx} {e:Expr} {es:List Expr} {te:TE} {t:TA} {pos:Pos}
theorem pa_nil:PA X [] tNil:=fun _ _ _ _ H Q I h=>Calls.spliced_nil ⟨[],H,I,.nil,h⟩
theorem Qdq (ha:PE X e te) (hr:PA X es t) (hs:starEach (e::es) X.env=(false,eval e X.env)::starEach es X.env:=by rfl):PA X (e::es) (tCons te t):=by
 intro pos pins s σ H Q I h
 rw [hs]
 show wpAny _ _ (spliced ((false,eval e X.env)::backTo pos (starEach es X.env))) _ _ s
 refine Calls.spliced_cons (thn (ha pins s σ H _ I h) fun u s1 ⟨x,H1,I1,r1,q1⟩=>?_)
 exact thn (hr pos pins s1 σ H1 _ I1 q1) fun us s2 ⟨xs,H2,I2,r2,q2⟩=>⟨x::xs,H2,I2,.cons r1 r2,q2⟩
def tTup (t:TA):TE:=fun σ H Q=>t σ H fun xs H1=>xs.length<=sizeLine/\∀ p,H1 p=none->Q (.ref p) (upd H1 p (.tup xs))
def tLst (t:TA):TE:=fun σ H Q=>t σ H fun xs H1=>xs.length<=sizeLine/\∀ p,H1 p=none->Q (.ref p) (upd H1 p (.lst xs))
theorem Qqe {x1} (h:PA X es t):PE X (.Tuple es x1 pos) (tTup t):=by
 intro pins s σ H Q I hq
 refine wpAny_Tuple_spliced (thn (h pos pins s σ H _ I hq) fun us s1 ⟨xs,H1,I1,r,z,q⟩=>⟨by rw [← r.length];exact z,?_⟩)
 have hf:H1 s1.heap.objs.size=none:=I1.hok.fresh (Nat.le_refl _)
 refine ⟨.ref s1.heap.objs.size,upd H1 s1.heap.objs.size (.tup xs),I1.laid (t':=s1.toks) (fun b u e=>Heap.get?_push_of_some _ e) (Nat.le_refl _) ?_,rfl,q _ hf⟩
 exact ⟨z,us,r,⟨_,Heap.get?_push_size _ rfl,rfl,_,rfl⟩⟩
theorem Qrj (h:PA X es t):PE X (.List es pos) (tLst t):=by
 intro pins s σ H Q I hq
 refine wpAny_List_spliced (thn (h pos pins s σ H _ I hq) fun us s1 ⟨xs,H1,I1,r,z,q⟩=>⟨by rw [← r.length];exact z,?_⟩)
 have hf:H1 s1.heap.objs.size=none:=I1.hok.fresh (Nat.le_refl _)
 refine ⟨.ref s1.heap.objs.size,upd H1 s1.heap.objs.size (.lst xs),I1.laid (t':=s1.toks) (fun b u e=>Heap.get?_push_of_some _ e) (Nat.le_refl _) ?_,rfl,q _ hf⟩
 exact ⟨z,us,0,r,Heap.get?_push_size _ rfl⟩
end
abbrev Sp:=List V->Hp->VK->XK->Prop
abbrev CXT:=List Env->Hp->Shared->XK->Value->Shared->Prop
structure Env0 (P:Program) (w:World) (K:PySem.W.Frag) (mg:Str->Option Value) (base:Heap) (A:Around) (outer:List Env) (s:Shared) (H:Hp):Prop where
 frames:A.frames=some outer
 mod:Mod K mg base
 bs:∀ b o,base.get? b=some o->s.heap.get? b=some o/\H b=none
 bsz:base.objs.size<=s.heap.objs.size
 funs:s.heap.FunFrames base outer
 frf:∀ b∈frs outer,H b=none
 hok:HOk P w H s.heap
 bare:AllBare s.gens
def CE (outer:List Env) (P:Program) (w:World) (H:Hp) (s:Shared) (Q:VK) (u:Value) (s':Shared):Prop :=
 ∃ v H',s'.os=s.os/\AllBare s'.gens/\Un (frs outer) [] H H' s.heap s'.heap/\HOk P w H' s'.heap/\RelV v u/\Q v H'
def CR (CX:CXT) (outer:List Env) (P:Program) (w:World) (H:Hp) (s:Shared) (Q:VK) (E:XK) (r:Result) (s':Shared):Prop :=
 match r with
 | .ok (.ret u)=>CE outer P w H s Q u s'
 | .ok _=>False
 | .error e=>CX outer H s E e s'
structure FnOk (P:Program) (w:World) (K:PySem.W.Frag) (mg:Str->Option Value) (base:Heap) (CX:CXT) (k:Nat) (f:Addr) (fd:FuncData) (ps:List Str) (sp:Sp):Prop where
 len:∀ vs H Q E,sp vs H Q E->vs.length=ps.length
 run:∀ (A:Around) (outer:List Env) (s:Shared) (H:Hp) (args:Args) (us:List Value) (vs:List V) (Q:VK) (E:XK),Room k A->Env0 P w K mg base A outer s H->BindsTo s fd args (ps.zip us)->Vals vs us->sp vs H Q E ->
  codeAny (model P w) A (.call (.ref f) args) (CR CX outer P w H s Q E) s
theorem FnOk.mono {P:Program} {w:World} {K:PySem.W.Frag} {mg:Str->Option Value} {base:Heap} {CX:CXT} {j k:Nat} {f:Addr} {fd:FuncData} {ps:List Str} {sp:Sp} (F:FnOk P w K mg base CX j f fd ps sp) (h:j<=k) :
  FnOk P w K mg base CX k f fd ps sp:=⟨F.len,fun A outer s H args us vs Q E hr=>F.run A outer s H args us vs Q E (hr.mono h)⟩
section
variable {X:Cx} {pins:List (Addr×Obj)} {σ:St} {H:Hp} {s s':Shared}
theorem Inv.env0 (I:Inv X pins σ H s):Env0 X.prog X.w X.K X.mg X.base X.A X.stack s H :=
 ⟨I.ok.frames,I.ok.mod,I.bs,Nat.le_trans I.ok.bsz I.sz,I.stack,I.stkFree,I.hok,I.bare⟩
theorem Inv.after {Q:VK} {u:Value} (I:Inv X pins σ H s) (h:CE X.stack X.prog X.w H s Q u s'):EP X pins σ Q u s':=by
 obtain ⟨v,H',os,bare,un,hok,r,q⟩:=h
 obtain ⟨hh,g,d,t,os'⟩:=s'
 obtain rfl:os'=s.os:=os
 exact ⟨v,H',I.call (h':=hh) (g':=g) (d':=d) (t':=t) (ch:=[]) un hok bare (fun b z=>absurd z (by simp)),r,q⟩
end
def tCall (sp:Sp) (dvs:List V) (E:XK) (t:TA):TE:=fun σ H Q=>t σ H fun vs H1=>sp (vs++dvs) H1 Q E
def Qn8 (C:Addr) (m:Str) (sp:Sp) (dvs:List V) (E:XK) (ta:TE) (t:TA):TE:=fun σ H Q=>ta σ H fun x H1=>∃ a dx fs,x=.ref a/\H1 a=some (.ins C dx fs)/\fs.lookup m=none /\
 t σ H1 fun vs H2=>sp (x::(vs++dvs)) H2 Q E
def Binds (K:PySem.W.Frag) (fd:FuncData) (ps:List Str) (ds:List Value):Prop :=
 ∀ (s:Shared) (us:List Value),K.In s.heap->(us++ds).length=ps.length->BindsTo s fd ⟨us,[]⟩ (ps.zip (us++ds))
theorem Binds.all {K:PySem.W.Frag} {fd:FuncData} {ps:List Str} (h:∀ us:List Value,us.length=ps.length->bindArgs fd ⟨us,[]⟩=pure (ps.zip us)):Binds K fd ps []:=fun s us _ hl=>by
 rw [List.append_nil] at hl ⊢
 exact .of_eq (h us hl)
def Qis (CX:CXT) (X:Cx) (E:XK):Prop:=∀ (pins:List (Addr×Obj)) (σ:St) (H:Hp) (s:Shared) (e:Value) (s':Shared),Inv X pins σ H s->CX X.stack H s E e s'->X.xe e s'
section
variable {X:Cx} {CX:CXT} {k:Nat} {f C:Addr} {fd:FuncData} {ps:List Str} {sp:Sp} {dvs:List V} {ds:List Value} {E:XK} {x m:Str} {p pos apos:Pos} {e o:Expr} {es:List Expr} {ta:TE} {t:TA}
theorem QlJ {pins:List (Addr×Obj)} {σ:St} {H:Hp} {s:Shared} {Q:VK} {us:List Value} {vs:List V} (F:FnOk X.prog X.w X.K X.mg X.base CX k f fd ps sp) (hr:Room k X.A) (hb:Binds X.K fd ps ds) (hd:Vals dvs ds) (hx:Qis CX X E)
  (I:Inv X pins σ H s) (r:Vals vs us) (h:sp (vs++dvs) H Q E):wpAny (model X.prog X.w) X.A (call (.ref f) us) (EP X pins σ Q) X.xe s:=by
 have r2:Vals (vs++dvs) (us++ds):=r.append hd
 have hl:(us++ds).length=ps.length:=by rw [← r2.length];exact F.len _ _ _ _ h
 refine wpAny_call (codeAny_mono (F.run X.A X.stack s H ⟨us,[]⟩ (us++ds) (vs++dvs) Q E hr I.env0 (hb s us I.kIn hl) r2 h) fun r s' hq=>?_)
 cases r with
 | error e=>exact hx pins σ H s e s' I hq
 | ok fl =>
  cases fl with
  | ret u=>exact I.after hq
  | next=>exact False.elim hq
  | brk=>exact False.elim hq
  | cont=>exact False.elim hq
theorem Qhn (F:FnOk X.prog X.w X.K X.mg X.base CX k f fd ps sp) (hr:Room k X.A) (hg:Gl X x) (hm:X.mg x=some (.ref f)) (hk:PySem.W.keepIn X.K (.ref f)=true) (hb:Binds X.K fd ps ds) (hd:Vals dvs ds) (hx:Qis CX X E)
  (ha:PA X (e::es) t) (hdb:(x == ("__debug__":Str))=false:=by decide) (he:starEach (e::es) X.env=(false,eval e X.env)::starEach es X.env:=by rfl) (hpl:(backTo pos (starEach es X.env)).any (·.1)=false:=by rfl) :
  PE X (.Call (.Name x p) (e::es) [] pos) (tCall sp dvs E t):=by
 intro pins s σ H Q I h
 refine wpAny_Call_Name_kw (Qkp I hg hm ?_ hdb)
 refine PySem.W.callWith_K (h₀:=X.base) I.ok.mod.kin hk (thn (ha pos pins s σ H _ I h) fun us s1 ⟨vs,H1,I1,r,q⟩=>⟨I1.kIn,?_⟩) he hpl
 exact QlJ F hr hb hd hx I1 r q
theorem Qmz {pl:Sem Bool} (he:PE X o ta) (c:Cls X.K C) (hm:Meth X.K C m f) (F:FnOk X.prog X.w X.K X.mg X.base CX k f fd ps sp) (hr:Room k X.A) (hb:Binds X.K fd ps ds) (hd:Vals dvs ds) (hx:Qis CX X E) (ha:PA X (e::es) t)
  (hst:starEach (e::es) X.env=(false,eval e X.env)::starEach es X.env:=by rfl) (hpl:(backTo pos (starEach es X.env)).any (·.1)=false:=by rfl)
  (ht:eval (.Call (.Attribute o m apos) (e::es) [] pos) X.env=(do
   let ov ← eval o X.env
   standAt apos.atName
   let (f,first) ← holding [ov] (getMethod ov m pl)
   callWith pos f first (backTo pos (starEach (e::es) X.env)) (backToKw pos (keywordEach [] X.env))):=by rfl) :
  PE X (.Call (.Attribute o m apos) (e::es) [] pos) (Qn8 C m sp dvs E ta t):=by
 intro pins s σ H Q I h
 refine PySem.W.methodCall_KW (pl:=pl) (thn (he pins s σ H _ I h) fun u s1 ⟨x,H1,I1,rx,a,dx,fs,ex,ea,l,q⟩=>?_) ht
 subst ex
 obtain rfl:u=Value.ref a:=rx
 refine QhT I1 ea c hm l ?_
 refine PySem.W.callWith_K (first:=[.ref a]) (h₀:=X.base) I.ok.mod.kin hm.kp (thn (ha pos pins s1 σ H1 _ I1 q) fun us s2 ⟨vs,H2,I2,r,q2⟩=>⟨I2.kIn,?_⟩) hst hpl
 exact QlJ (us:=.ref a::us) (vs:=.ref a::vs) F hr hb hd hx I2 (.cons rfl r) q2
theorem QoG {pl:Sem Bool} (he:PE X o ta) (c:Cls X.K C) (hm:Meth X.K C m f) (F:FnOk X.prog X.w X.K X.mg X.base CX k f fd ps sp) (hr:Room k X.A) (hb:Binds X.K fd ps ds) (hd:Vals dvs ds) (hx:Qis CX X E)
  (ht:eval (.Call (.Attribute o m apos) [] [] pos) X.env=(do
   let ov ← eval o X.env
   standAt apos.atName
   let (f,first) ← holding [ov] (getMethod ov m pl)
   callWith pos f first (backTo pos (starEach [] X.env)) (backToKw pos (keywordEach [] X.env))):=by rfl) :
  PE X (.Call (.Attribute o m apos) [] [] pos) (Qn8 C m sp dvs E ta tNil):=by
 intro pins s σ H Q I h
 refine PySem.W.methodCall_KW (pl:=pl) (thn (he pins s σ H _ I h) fun u s1 ⟨x,H1,I1,rx,a,dx,fs,ex,ea,l,q⟩=>?_) ht
 subst ex
 obtain rfl:u=Value.ref a:=rx
 refine QhT I1 ea c hm l ?_
 exact PySem.W.callWith_K0 (first:=[.ref a]) I1.kIn hm.kp (QlJ (us:=[.ref a]) (vs:=[.ref a]) F hr hb hd hx I1 (.cons rfl .nil) q)
structure Mk (K:PySem.W.Frag) (C f:Addr):Prop where
 makes:PySem.W.makesIn K C=true
 init:PySem.W.findIn K (.ref C) "__init__" = some (some (.ref f))
 fn:PySem.W.isFn K (.ref f)=true
 kp:PySem.W.keepIn K (.ref C)=true
end
section
variable {X:Cx} {CX:CXT} {k:Nat} {f C:Addr} {fd:FuncData} {ps ks:List Str} {sp:Sp} {E:XK} {x m:Str} {p pos apos kpos:Pos} {e o:Expr} {es:List Expr} {kws:List Keyword} {te ta:TE} {t tk:TA} {nm:Option Str}
structure KBinds (K:PySem.W.Frag) (fd:FuncData) (ps ks:List Str) (g:List Value->List Value->List Value) (gV:List V->List V->List V):Prop where
 to:∀ (s:Shared) (us ws:List Value),K.In s.heap->(g us ws).length=ps.length->BindsTo s fd ⟨us,ks.zip ws⟩ (ps.zip (g us ws))
 rel:∀ {vs:List V} {us:List Value} {zs:List V} {ws:List Value},Vals vs us->Vals zs ws->Vals (gV vs zs) (g us ws)
variable {g:List Value->List Value->List Value} {gV:List V->List V->List V}
end
structure FnScope (N P:List Str) (sc:Scope):Prop where
 kind:sc.kind=.function
 co:sc.isCoroutine=false
 gen:sc.isGenerator=false
 nd:N.Nodup
 pre:N.take P.length=P
 par:∀ x∈P,sc.names.lookup x=some .local\/sc.names.lookup x=some .cell
 nofree:∀ y∈sc.names,y.2≠.free
theorem Qjo {kindOf:Str->Option NameKind} {x:Str}:∀ {binds:List (Str×Value)} {m:Str->Option Value},(∀ v,(x,v) ∉ binds)->bindL kindOf binds m x=m x
 | [],_,_=>rfl
 | (n,v)::r,m,h=>by
  unfold bindL
  rw [Qjo fun w hw=>h w (List.mem_cons_of_mem _ hw)]
  split
  ·have:x≠n:=by rintro rfl;exact h v List.mem_cons_self
   simp [this]
  ·rfl
theorem Qjb {kindOf:Str->Option NameKind} {x:Str}:∀ {binds:List (Str×Value)} {m:Str->Option Value},(∀ v,(x,v) ∉ binds)->bindC kindOf binds m x=m x
 | [],_,_=>rfl
 | (n,v)::r,m,h=>by
  unfold bindC
  rw [Qjb fun w hw=>h w (List.mem_cons_of_mem _ hw)]
  split
  ·rfl
  ·have:x≠n:=by rintro rfl;exact h v List.mem_cons_self
   simp [this]
theorem Qji {kindOf:Str->Option NameKind} {x:Str} {v:Value}:∀ {P:List Str} {vs:List Value} {i:Nat} {m:Str->Option Value},P.Nodup->P[i]? = some x->vs[i]? = some v->kindOf x=some .local ->
  bindL kindOf (P.zip vs) m x=some v
 | [],_,_,_,_,h,_,_=>by simp at h
 | _::_,[],_,_,_,_,h,_=>by simp at h
 | p::P,w::vs,0,m,nd,h1,h2,hk=>by
  simp at h1 h2;subst h1;subst h2
  show bindL kindOf ((p,w)::P.zip vs) m p=_
  unfold bindL
  rw [Qjo fun v hv=>(List.nodup_cons.mp nd).1 (List.of_mem_zip hv).1,if_pos hk]
  simp
 | p::P,w::vs,i + 1,m,nd,h1,h2,hk=>by
  show bindL kindOf ((p,w)::P.zip vs) m x=_
  unfold bindL
  exact Qji (i:=i) (List.nodup_cons.mp nd).2 (by simpa using h1) (by simpa using h2) hk
theorem Qjy {kindOf:Str->Option NameKind} {x:Str} {v:Value}:∀ {P:List Str} {vs:List Value} {i:Nat} {m:Str->Option Value},P.Nodup->P[i]? = some x->vs[i]? = some v->kindOf x≠some .local ->
  bindC kindOf (P.zip vs) m x=some v
 | [],_,_,_,_,h,_,_=>by simp at h
 | _::_,[],_,_,_,_,h,_=>by simp at h
 | p::P,w::vs,0,m,nd,h1,h2,hk=>by
  simp at h1 h2;subst h1;subst h2
  show bindC kindOf ((p,w)::P.zip vs) m p=_
  unfold bindC
  rw [Qjb fun v hv=>(List.nodup_cons.mp nd).1 (List.of_mem_zip hv).1,if_neg hk]
  simp
 | p::P,w::vs,i + 1,m,nd,h1,h2,hk=>by
  show bindC kindOf ((p,w)::P.zip vs) m x=_
  unfold bindC
  exact Qjy (i:=i) (List.nodup_cons.mp nd).2 (by simpa using h1) (by simpa using h2) hk
def start (N:List Str) (vs:List V):St:=vs.map some++List.replicate (N.length - vs.length) none
def cxOf (CX:CXT) (P:Program) (w:World) (K:PySem.W.Frag) (mg:Str->Option Value) (base:Heap) (N:List Str) (qual:Str) (scope:Scope) (f:Addr) (cd:Value) (A:Around) (outer:List Env) (s:Shared) (H:Hp) (E:XK):Cx where
 prog:=P
 w:=w
 K:=K
 mg:=mg
 base:=base
 A:=A.deeper (envOfC qual scope s.heap.objs.size f cd)
 N:=N
 s₀:=s
 H₀:=H
 env:=envOfC qual scope s.heap.objs.size f cd
 outer:=outer
 stack:=envOfC qual scope s.heap.objs.size f cd::outer
 ex:=[]
 calm:=true
 fn:=fun _=>true
 pn:=[]
 xe:=fun e s'=>wpAny (model P w) (A.deeper (envOfC qual scope s.heap.objs.size f cd)) (leaving (envOfC qual scope s.heap.objs.size f cd) e) (fun _ s''=>CX outer H s E e s'') (fun e' s''=>CX outer H s E e' s'') s'
theorem Qlx {sc:Scope} {n:Nat} {x:Str} (h:sc.names.lookup x=some .cell):∃ c,(cellsFrom n sc.names []).lookup x=some c:=by
 have q:=PySem.W.cellsFrom_some sc.names n [] (.inl h)
 exact Option.isSome_iff_exists.mp q
theorem Qm3 {CX:CXT} {P:Program} {w:World} {K:PySem.W.Frag} {mg:Str->Option Value} {base:Heap} {N ps:List Str} {qual:Str} {scope:Scope} {f:Addr} {cd:Value} {A:Around} {outer:List Env} {s s1:Shared} {H:Hp} {E:XK} {us:List Value} {vs:List V}
  (S:FnScope N ps scope) (hd:A.handled=none) (e0:Env0 P w K mg base A outer s H) (hl:vs.length=ps.length) (r:Vals vs us)
  (x:InCallC s s.heap.objs.size (bindL (envOfC qual scope s.heap.objs.size f cd).kindOf (ps.zip us) fun _=>none) (cellsFrom (s.heap.objs.size + 1) scope.names []) (bindC (envOfC qual scope s.heap.objs.size f cd).kindOf (ps.zip us) fun _=>none) s1) :
  Inv (cxOf CX P w K mg base N qual scope f cd A outer s H E) [] (start N vs) H s1:=by
 have hpl:ps.length<=N.length:=by have:=congrArg List.length S.pre;rw [List.length_take] at this;omega
 obtain ⟨h1,tk,rfl,hk⟩:=x.done
 have noA:∀ b:Addr,b ∉ (cxOf CX P w K mg base N qual scope f cd A outer s H E).ex:=fun b z=>absurd (show b∈([]:List Addr) from z) (by simp)
 refine ⟨⟨e0.mod,S.kind,rfl,rfl,Nat.le_refl _,fun y z c h1 h2=>?_,fun y hy=>?_,fun y c _ h=>?_,fun _=>hd,Around.frames_deeper e0.frames,.inr ⟨rfl,rfl⟩,fun b z=>absurd z (noA b),e0.bs,e0.bsz,fun b _ _=>noA b,fun b z=>absurd z (noA b),e0.funs,e0.frf⟩,
  rfl,e0.bare,Un.kept hk,⟨_,x.toInCall.ns,fun i y v h1 h2 h3=>?_⟩,fun y c h=>⟨_,x.cell y c h⟩,e0.hok.fresh (Nat.le_refl _),fun y c h=>?_,fun p hp=>absurd (show p∈([]:List (Addr×Obj)) from hp) (by simp),e0.hok.kept hk,?_⟩
 ·exact name_of_addr x.apart (PySem.mem_of_lookup h1) (PySem.mem_of_lookup h2)
 ·have hy:scope.names.lookup y=some .cell\/scope.names.lookup y=some .free:=hy
  rcases hy with hy | hy
  ·exact Qlx hy
  ·exact absurd rfl (S.nofree _ (PySem.mem_of_lookup hy))
 ·exact Nat.le_of_lt (x.above y c (PySem.mem_of_lookup h))
 ·have hi:i < vs.length:=by
   unfold start at h2
   by_cases hi:i < vs.length
   ·exact hi
   ·rw [List.getElem?_append_right (by simpa using hi)] at h2
    rw [List.getElem?_replicate] at h2
    split at h2 <;> cases h2
  have ha:vs[i]? = some v:=by
   unfold start at h2
   rw [List.getElem?_append_left (by simpa using hi),List.getElem?_map] at h2
   cases e:vs[i]? with
   | none=>rw [e] at h2;cases h2
   | some a=>rw [e] at h2;cases h2;rfl
  obtain ⟨u,hu,rv⟩:=r.get ha
  have hp:ps[i]? = some y:=by
   rw [← S.pre,List.getElem?_take_of_lt (by omega)];exact h1
  have ndP:ps.Nodup:=by rw [← S.pre];exact S.nd.sublist (List.take_sublist _ _)
  refine ⟨u,rv,?_⟩
  rcases S.par y (List.mem_of_getElem? hp) with k | k
  ·exact .inl ⟨k,Qji ndP hp hu k⟩
  ·obtain ⟨c,e⟩:=Qlx (n:=s.heap.objs.size + 1) k
   refine .inr ⟨.inl k,c,e,?_⟩
   have q:=x.cell y c e
   rw [Qjy ndP hp hu (by show scope.names.lookup y≠_;rw [k];decide)] at q
   exact q
 ·exact e0.hok.fresh (Nat.le_of_lt (x.above y c (PySem.mem_of_lookup h)))
 ·unfold start
  show _=N.length
  rw [List.length_append,List.length_map,List.length_replicate]
  omega
theorem QpX {CX:CXT} {P:Program} {w:World} {K:PySem.W.Frag} {mg:Str->Option Value} {base:Heap} {k:Nat} {f:Addr} {name qual:Str} {params:Arguments} {body:List Stmt} {scope:Scope} {dV kV doc pm cdv ct oc:Value} {an od:Option Addr}
  {osl:Array (Option Value)} {N ps:List Str} {sp:Sp} (lk:K.lookup f=some ⟨oc,od,.func (PySem.W.fnOf name qual params body scope dV kV doc pm an cdv ct),osl⟩) (hcd:PySem.W.codeIn K cdv qual=true) (S:FnScope N ps scope)
  (len:∀ vs H Q E,sp vs H Q E->vs.length=ps.length)
  (hbody:∀ (A:Around) (outer:List Env) (s:Shared) (H:Hp) (vs:List V) (Q:VK) (E:XK),Room k (A.deeper (envOfC qual scope s.heap.objs.size f cdv))->sp vs H Q E ->
   ∃ t,PSs (cxOf CX P w K mg base N qual scope f cdv A outer s H E) body t/\t { nx:=fun _ H'=>Q .non H',rt:=Q } (start N vs) H) :
  FnOk P w K mg base CX (k + 1) f (PySem.W.fnOf name qual params body scope dV kV doc pm an cdv ct) ps sp:=by
 refine ⟨len,fun A outer s H args us vs Q E hr e0 hb r hsp=>?_⟩
 have hl:=len _ _ _ _ hsp
 have KX:K.In s.heap:=e0.mod.kin.keeps fun b o e=>(e0.bs b o e).1
 have lim:s.heap.NoLimit:=e0.mod.nolimit.keeps fun b o e=>(e0.bs b o e).1
 have hkind:∀ y∈ps.zip us,scope.names.lookup y.1=some .local\/(scope.names.lookup y.1=some .cell/\((cellsFrom (s.heap.objs.size + 1) scope.names []).lookup y.1).isSome=true):=fun ⟨n,v⟩ hy=>by
  rcases S.par n (List.of_mem_zip hy).1 with q | q
  ·exact .inl q
  ·exact .inr ⟨q,PySem.W.cellsFrom_some _ _ _ (.inl q)⟩
 refine codeAny_call_function hr.depth (KX _ _ lk) rfl S.co S.gen rfl (PySem.W.codeRec_of KX hcd) (hb _ _ _ _ ?_)
 refine wpAny_newFunctionEnv_cells S.kind hkind fun env he s1 x=>?_
 subst he
 refine ⟨lim.keeps x.toInCall.keep,codeAny_func ?_⟩
 obtain ⟨t,ht,hq⟩:=hbody A outer s H vs Q E (hr.deeper _) hsp
 have I:Inv (cxOf CX P w K mg base N qual scope f cdv A outer s H E) [] (start N vs) H s1:=Qm3 S hr.hd e0 hl r x
 refine wpAny_mono (ht [] s1 (start N vs) H _ I hq) (fun fl s' hs=>?_) fun e s' hs=>hs
 have fin:∀ {σ':St} {H':Hp} {v:V} {u:Value},Inv (cxOf CX P w K mg base N qual scope f cdv A outer s H E) [] σ' H' s'->RelV v u->Q v H'->CE outer P w H s Q u s' :=
  fun {σ' H' v u} J rv q=>⟨v,H',J.os,J.bare,J.base,J.hok,rv,q⟩
 cases fl with
 | ret u =>
  obtain ⟨v,σ',H',J,rv,q⟩:=hs
  exact fin J rv q
 | next =>
  obtain ⟨σ',H',J,q⟩:=hs
  exact fin (v:=V.non) (u:=Value.none) J rfl q
 | brk =>
  obtain ⟨_,_,_,q⟩:=hs
  exact False.elim q
 | cont =>
  obtain ⟨_,_,_,q⟩:=hs
  exact False.elim q
end L2
namespace L2
open PySem PySem.Spec PyProof.Rows
section
variable {X:Cx} {x:Str} {p pos:Pos} {e:Expr} {es:List Expr} {t:TA} {id T:String} {r:List V->Hp->VK->Prop}
def tCB (r:List V->Hp->VK->Prop) (t:TA):TE:=fun σ H Q=>t σ H fun vs H1=>r vs H1 Q
theorem Qhr (hc:CallR X (.builtin id) r) (hg:Gl X x) (hm:X.mg x=none) (hv:bootBuiltins x=some (.builtin id)) (ha:PA X (e::es) t) (hn:x≠"__name__":=by decide) (hdb:(x == ("__debug__":Str))=false:=by decide)
  (he:starEach (e::es) X.env=(false,eval e X.env)::starEach es X.env:=by rfl) (hpl:(backTo pos (starEach es X.env)).any (·.1)=false:=by rfl):PE X (.Call (.Name x p) (e::es) [] pos) (tCB r t):=by
 intro pins s σ H Q I h
 refine wpAny_Call_Name_kw (Qe0 I hg hm hv ?_ hn hdb)
 exact PyProof.Rows.callWith_builtin1 (thn (ha pos pins s σ H _ I h) fun us s1 ⟨vs,H1,I1,r1,q1⟩=>hc pins s1 σ H1 vs us Q I1 r1 q1) he hpl
theorem Qjf (hc:CallR X (.type T) r) (hg:Gl X x) (hm:X.mg x=none) (hv:bootBuiltins x=some (.type T)) (ha:PA X (e::es) t) (hn:x≠"__name__":=by decide) (hdb:(x == ("__debug__":Str))=false:=by decide)
  (he:starEach (e::es) X.env=(false,eval e X.env)::starEach es X.env:=by rfl) (hpl:(backTo pos (starEach es X.env)).any (·.1)=false:=by rfl):PE X (.Call (.Name x p) (e::es) [] pos) (tCB r t):=by
 intro pins s σ H Q I h
 refine wpAny_Call_Name_kw (Qe0 I hg hm hv ?_ hn hdb)
 exact PyProof.Rows.callWith_type1 (thn (ha pos pins s σ H _ I h) fun us s1 ⟨vs,H1,I1,r1,q1⟩=>hc pins s1 σ H1 vs us Q I1 r1 q1) he hpl
end
end L2
namespace HT
open PySem PyProof.Rows
section
open PySem.SeqAt
open PySem.AutoSeq1 (wpAny_loadPart')
open PySem.MeetsSeq PySem.MeetsSeq2 PySem.MeetsSeq3
end
section
variable {prog:Program} {w:World} {A:Around} {E:Value->Shared->Prop} {s:Shared}
theorem cat_tup {t b:Addr} {vs ws:List Value} {Q:Value->Shared->Prop} (ht:IsTup s.heap t vs.toArray) (hb:IsTup s.heap b ws.toArray) (hv:vs≠[])
  (h1:ws=[]->Q (.ref t) s) (h2:ws≠[]->Q (.ref s.heap.objs.size) { s with heap:=s.heap.push { cls:=.type "tuple",data:=.seq (vs++ws).toArray } })
  (hsz:vs.length + ws.length<=sizeLine):wpAny (model prog w) A (binaryOp .Add (.ref t) (.ref b)) Q E s:=by
 obtain ⟨⟨cls,dd,data,sl⟩,ho,hc,n,hd⟩:=id ht
 obtain ⟨⟨cls2,dd2,data2,sl2⟩,ho2,hc2,n2,hd2⟩:=id hb
 simp only at hc hd hc2 hd2
 subst hc hd hc2 hd2
 have e:vs.toArray++ws.toArray=(vs++ws).toArray:=by simp
 by_cases hw:ws=[]
 ·exact concat_meets ⟨_,ho,rfl⟩ ⟨_,ho2,rfl⟩ noFill_tuple_add seq_tuple_add PySem.F.slot_tuple_add PySem.F.entry_tuple_add (PySem.F.args_tuple_add_2 _ _)
   (tuple_addW1 t b vs.toArray ws.toArray n n2 dd dd2 sl sl2 (by simpa using hv) (by simp [hw])) ⟨ho,ho2,h1 hw⟩
 ·refine concat_meets ⟨_,ho,rfl⟩ ⟨_,ho2,rfl⟩ noFill_tuple_add seq_tuple_add PySem.F.slot_tuple_add PySem.F.entry_tuple_add (PySem.F.args_tuple_add_2 _ _)
   (tuple_addW2 t b vs.toArray ws.toArray n n2 dd dd2 sl sl2 (by simpa using hv) (by simpa using hw) (by rw [List.size_toArray,List.size_toArray];exact hsz)) ⟨ho,ho2,?_⟩
  rw [e]
  exact h2 hw
def sIx (n d:Nat):Option Int->Nat
 | none=>d
 | some v=>if v < 0 then (v + (n:Int)).toNat else min v.toNat n
theorem sIx_none (n d:Nat):sIx n d none=d:=rfl
theorem sIx_nat (n d k:Nat):sIx n d (some (k:Int))=min k n:=by
 show (if (k:Int) < 0 then ((k:Int) + (n:Int)).toNat else min (k:Int).toNat n)=min k n
 rw [if_neg (by omega),Int.toNat_natCast]
end
end HT
namespace L2
open PySem PySem.Spec PyProof.Rows
abbrev TO:=St->Hp->(Option Int->Hp->Prop)->Prop
def PO (X:Cx) (e:Option Expr) (t:TO):Prop :=
 ∀ (pins:List (Addr×Obj)) (s:Shared) (σ:St) (H:Hp) (Q:Option Int->Hp->Prop),Inv X pins σ H s->t σ H Q ->
  wpAny (model X.prog X.w) X.A (evalPart e X.env) (fun u s'=>∃ o H',Inv X pins σ H' s'/\IsPart u o/\Q o H') X.xe s
def Qph:TO:=fun _ H Q=>Q none H
def tPart (t:TE):TO:=fun σ H Q=>t σ H fun x H1=>∃ i,x=.int i/\Q (some i) H1
section
variable {X:Cx} {e:Expr} {te:TE} {lo hi:Option Expr} {tl th:TO} {pos p2:Pos}
theorem QoX:PO X none Qph:=by
 intro pins s σ H Q I h
 rw [evalPart_none]
 exact wpAny_pure ⟨none,H,I,.none,h⟩
theorem Qps (h:PE X e te):PO X (some e) (tPart te):=by
 intro pins s σ H Q I hw
 rw [evalPart_some]
 refine thn (h pins s σ H _ I hw) fun u s1 ⟨x,H1,I1,r1,q1⟩=>?_
 obtain ⟨i,rfl,q⟩:=q1
 obtain ⟨t,rfl⟩:=r1
 exact ⟨some i,H1,I1,.int i t,q⟩
def SlR (X:Cx) (r:V->Option Int->Option Int->Hp->VK->Prop):Prop :=
 ∀ (pins:List (Addr×Obj)) (s:Shared) (σ:St) (H:Hp) (x:V) (v vl vu:Value) (lo hi:Option Int) (sl:Addr) (Q:VK),Inv X pins σ H s->RelV x v->s.heap.IsSliceOf sl vl vu .none->IsPart vl lo->IsPart vu hi->r x lo hi H Q ->
  ∃ T id,typeLookup (.type T) "__getitem__" = pure (some (.builtin id))/\s.TypeIs v T/\wpAny (model X.prog X.w) X.A (getItem v (.ref sl)) (EP X pins σ Q) X.xe s
def tSl (r:V->Option Int->Option Int->Hp->VK->Prop) (te:TE) (tl th:TO):TE:=fun σ H Q=>te σ H fun x H1=>tl σ H1 fun l H2=>th σ H2 fun u H3=>r x l u H3 Q
theorem QoD {r:V->Option Int->Option Int->Hp->VK->Prop} (hr:SlR X r) (he:PE X e te) (hl:PO X lo tl) (hu:PO X hi th):PE X (.Subscript e (.Slice lo hi none p2) pos) (tSl r te tl th):=by
 intro pins s σ H Q I h
 refine Subscript_ (thn (he pins s σ H _ I h) fun v s1 ⟨x,H1,I1,r1,q1⟩=>?_)
 refine wpAny_Slice (thn (hl pins s1 σ H1 _ I1 q1) fun vl s2 ⟨l,H2,I2,pl,q2⟩=>thn (hu pins s2 σ H2 _ I2 q2) fun vu s3 ⟨u,H3,I3,pu,q3⟩=>?_)
 rw [evalPart_none]
 refine wpAny_pure ?_
 have I4:Inv X pins σ H3 { s3 with heap:=s3.heap.push { cls:=.type "slice",data:=.fields #[vl,vu,.none] } }:=I3.kept (t':=s3.toks) fun b ob q=>Heap.get?_push_of_some _ q
 obtain ⟨T,id,hT,ht,hg⟩:=hr pins { s3 with heap:=s3.heap.push { cls:=.type "slice",data:=.fields #[vl,vu,.none] } } σ H3 x v vl vu l u s3.heap.objs.size Q I4 r1 (Heap.IsSliceOf.new ..) pl pu q3
 show wpAny (model X.prog X.w) X.A (subscriptTail e (.Slice lo hi none p2) v (.ref s3.heap.objs.size)) (EP X pins σ Q) X.xe { s3 with heap:=s3.heap.push { cls:=.type "slice",data:=.fields #[vl,vu,.none] } }
 exact tail_any (ops:=[.ref s3.heap.objs.size,v]) ht hT hg (by with_unfolding_all rfl)
def cutV (xs:List V) (lo hi:Option Int):List V:=(xs.drop (HT.sIx xs.length 0 lo)).take (HT.sIx xs.length xs.length hi - HT.sIx xs.length 0 lo)
theorem QkT (xs:List V) (lo hi:Option Int):(cutV xs lo hi).length<=xs.length:=by
 unfold cutV
 rw [List.length_take,List.length_drop]
 omega
def rCatT (K:PySem.W.Frag):R2:=fun x y H Q=>∃ a b xs ys,x=.ref a/\y=.ref b/\SqT K H a xs/\SqT K H b ys/\xs≠[]/\xs.length + ys.length<=sizeLine /\
 (ys=[]->Q (.ref a) H)/\(ys≠[]->∀ p,H p=none->Q (.ref p) (upd H p (.tup (xs++ys))))
theorem Vals.nil_iff {xs:List V} {us:List Value} (r:Vals xs us):us=[] ↔ xs=[]:=by
 cases r with
 | nil=>simp
 | cons _ _=>simp
theorem Qo7:OpR X (binaryOp .Add) (rCatT X.K):=by
 intro pins s σ H x y v u Q I rx ry h
 obtain ⟨a,b,xs,ys,rfl,rfl,ha,hb,hx,hz,q1,q2⟩:=h
 cases rx
 cases ry
 obtain ⟨its,r1,p1,_⟩:=I.tuple ha
 obtain ⟨its2,r2,p2,_⟩:=I.tuple hb
 refine HT.cat_tup p1 p2 (fun z=>hx (r1.nil_iff.mp z)) (fun z=>⟨.ref a,H,I,rfl,q1 (r2.nil_iff.mp z)⟩) (fun z=>?_) (by rw [← r1.length,← r2.length];exact hz)
 refine ⟨.ref s.heap.objs.size,_,I.laid (t':=s.toks) (o:=.tup (xs++ys)) (fun b ob q=>Heap.get?_push_of_some _ q) (Nat.le_refl _) ?_,rfl,q2 (fun w=>z (r2.nil_iff.mpr w)) _ (I.hok.fresh (Nat.le_refl _))⟩
 exact ⟨by rw [List.length_append];exact hz,_,r1.append r2,IsTup.new _ _⟩
end
end L2
namespace L2
open PySem PySem.Spec PyProof.Rows
def ixN (n:Nat) (i:Int):Option Nat:=if 0<=i then (if i < n then some i.toNat else none) else if -(n:Int)<=i then some (i + n).toNat else none
def atI {α:Type} (xs:List α) (i:Int):Option α:=(ixN xs.length i).bind fun j=>xs[j]?
theorem Qo2 {n:Nat} {i:Int} {j:Nat} (h:ixN n i=some j):seqIndex? i n=some j/\j < n/\-(n:Int)<=i/\i < n:=by
 unfold ixN at h
 by_cases h0:0<=i
 ·rw [if_pos h0] at h
  by_cases h1:i < n
  ·rw [if_pos h1] at h
   have e:i.toNat=j:=Option.some.inj h
   exact ⟨by rw [seqIndex_of h0 h1,e],by omega,by omega,h1⟩
  ·rw [if_neg h1] at h;cases h
 ·rw [if_neg h0] at h
  by_cases h1:-(n:Int)<=i
  ·rw [if_pos h1] at h
   have e:(i + n).toNat=j:=Option.some.inj h
   exact ⟨by rw [seqIndex_neg (by omega) h1,e],by omega,h1,by omega⟩
  ·rw [if_neg h1] at h;cases h
theorem Qky {α:Type} {xs:List α} {i:Int} {v:α} (h:atI xs i=some v):∃ j,seqIndex? i xs.length=some j/\xs[j]? = some v/\j < xs.length/\-(xs.length:Int)<=i/\i < xs.length:=by
 unfold atI at h
 cases e:ixN xs.length i with
 | none=>rw [e] at h;cases h
 | some j =>
  rw [e] at h
  obtain ⟨h1,h2,h3,h4⟩:=Qo2 e
  exact ⟨j,h1,h,h2,h3,h4⟩
def Qmq (b:Expr):Prop:=∀ o i,subscripted b false o i=operate [o,i] (getItem o i)
def IxR (X:Cx) (r:R2):Prop :=
 ∀ (value slice:Expr) (pins:List (Addr×Obj)) (s:Shared) (σ:St) (H:Hp) (x y:V) (v u:Value) (Q:VK),Inv X pins σ H s->RelV x v->RelV y u->r x y H Q ->
  subscripted slice false v u=operate [v,u] (getItem v u)->wpAny (model X.prog X.w) X.A (subscriptTail value slice v u) (EP X pins σ Q) X.xe s
def MtR (X:Cx) (id:String) (r:V->List V->Hp->VK->Prop):Prop :=
 ∀ (pins:List (Addr×Obj)) (s:Shared) (σ:St) (H:Hp) (x:V) (xs:List V) (v:Value) (us:List Value) (Q:VK),Inv X pins σ H s->RelV x v->Vals xs us->r x xs H Q ->
  wpAny (model X.prog X.w) X.A (call (.builtin id) (v::us)) (EP X pins σ Q) X.xe s
section
variable {X:Cx} {a b:Expr} {ta tb:TE} {pos:Pos}
theorem IxR.or {r r':R2} (h:IxR X r) (h':IxR X r'):IxR X (fun x y H Q=>r x y H Q\/r' x y H Q):=by
 intro value slice pins s σ H x y v u Q I rx ry q hs
 rcases q with q | q
 ·exact h value slice pins s σ H x y v u Q I rx ry q hs
 ·exact h' value slice pins s σ H x y v u Q I rx ry q hs
theorem pe_ix {r:R2} (hr:IxR X r) (ha:PE X a ta) (hb:PE X b tb) (hs:Qmq b):PE X (.Subscript a b pos) (tOp r ta tb):=by
 intro pins s σ H Q I h
 exact Subscript_ (binT ha hb I h fun v u s2 x y H2 I2 rx ry q=>hr a b pins s2 σ H2 x y v u Q I2 rx ry q (hs _ _))
def rIxL (K:PySem.W.Frag):R2:=fun x y H Q=>∃ p xs i v,x=.ref p/\y=.int i/\SqL K H p xs/\atI xs i=some v/\Q v H
def rIxT (K:PySem.W.Frag):R2:=fun x y H Q=>∃ p xs i v,x=.ref p/\y=.int i/\SqT K H p xs/\atI xs i=some v/\Q v H
def rIxS:R2:=fun x y H Q=>∃ z i c,x=.str z/\y=.int i/\z.length<=sizeLine/\atI z.cps.toList i=some c/\Q (.str ⟨#[c]⟩) H
theorem ix_list:IxR X (rIxL X.K):=by
 intro value slice pins s σ H x y v u Q I rx ry h hs
 obtain ⟨p,xs,i,z,rfl,rfl,hq,he,q⟩:=h
 cases rx
 obtain ⟨t,rfl⟩:=ry
 obtain ⟨its,r,pl,hz⟩:=I.list hq
 obtain ⟨j,h1,h2,h3,h4,h5⟩:=Qky he
 obtain ⟨w,ew,rw'⟩:=r.get h2
 have hl:=r.length
 have hn:=Qgu
 have fin:EP X pins σ Q w s:=⟨z,H,I,rw',q⟩
 by_cases h0:0<=i
 ·have hj:i.toNat=j:=by
   rw [seqIndex_of h0 h5] at h1
   exact Option.some.inj h1
  exact item_listR pl.isList h0 (by omega) (by rw [hj];simpa using ew) fin hs
 ·have hj:(i + (its.toArray.size:Int)).toNat=j:=by
   rw [seqIndex_neg (by omega) h4] at h1
   rw [List.size_toArray,← hl]
   exact Option.some.inj h1
  exact subscriptTail_builtinR (x:=w) pl.isList.typeIs slot_list_getitem.lookup
   (wpAny_getItem_list_neg (Q:=fun r s'=>r=w/\EP X pins σ Q r s') pl.isList (by omega) (by rw [List.size_toArray] <;> omega) (by omega) (by rw [hj];simpa using ew) ⟨rfl,fin⟩) hs
theorem ix_tup:IxR X (rIxT X.K):=by
 intro value slice pins s σ H x y v u Q I rx ry h hs
 obtain ⟨p,xs,i,z,rfl,rfl,hq,he,q⟩:=h
 cases rx
 obtain ⟨t,rfl⟩:=ry
 obtain ⟨its,r,pl,hz⟩:=I.tuple hq
 obtain ⟨j,h1,h2,h3,h4,h5⟩:=Qky he
 obtain ⟨w,ew,rw'⟩:=r.get h2
 have hl:=r.length
 have hn:=Qgu
 have fin:EP X pins σ Q w s:=⟨z,H,I,rw',q⟩
 exact subscriptTail_builtinR (x:=w) pl.typeIs slot_tuple_getitem.lookup
  (getItem_tuple (j:=j) (Q:=fun r s'=>r=w/\EP X pins σ Q r s') pl (by omega) (by omega) (by rw [List.size_toArray,← hl];exact h1) (by simpa using ew) ⟨rfl,fin⟩) hs
theorem Qq2:IxR X rIxS:=by
 intro value slice pins s σ H x y v u Q I rx ry h hs
 obtain ⟨z,i,c,rfl,rfl,hz,he,q⟩:=h
 obtain ⟨t,rfl⟩:=rx
 obtain ⟨t',rfl⟩:=ry
 obtain ⟨j,h1,h2,h3,h4,h5⟩:=Qky he
 have hl:z.cps.toList.length=z.length:=by simp [Str.length]
 rw [hl] at h1 h4 h5
 have hn:=Qgu
 exact tail_any (typeIs_str s z t) slot_str_getitem.lookup (getItem_str (c:=c) (by
  have e1:decide (i < -(2 ^ 63:Int))=false:=decide_eq_false (by omega)
  have e2:decide (i ≥ 2 ^ 63)=false:=decide_eq_false (by omega)
  rw [e1,e2,Bool.or_false]) (by rw [h1];simpa using h2) ⟨.str ⟨#[c]⟩,H,I.tok _,⟨_,rfl⟩,q⟩) hs
def rIx (K:PySem.W.Frag):R2:=fun x y H Q=>rIxL K x y H Q\/rIxT K x y H Q\/rIxS x y H Q
theorem Qq4:IxR X (rIx X.K):=ix_list.or (ix_tup.or Qq2)
theorem Inv.lst {pins:List (Addr×Obj)} {σ:St} {H:Hp} {s:Shared} {p:Addr} {xs:List V} (I:Inv X pins σ H s) (h:H p=some (.lst xs)) :
  ∃ (its:List Value) (n:Nat),Vals xs its/\s.heap.get? p=some { cls:=.type "list",data:=.seq its.toArray n }/\xs.length<=sizeLine:=by
 obtain ⟨z,its,n,r,e⟩:=I.hok p _ h
 exact ⟨its,n,r,e,z⟩
theorem QjM (lo hi:Option Int) (n:Nat):(sliceBounds lo hi none n).1=((HT.sIx n 0 lo:Nat):Int)/\(sliceBounds lo hi none n).2.1=((HT.sIx n n hi:Nat):Int)/\(sliceBounds lo hi none n).2.2=1:=by
 refine ⟨?_,?_,rfl⟩
 ·cases lo with
  | none=>simp [sliceBounds,HT.sIx]
  | some i =>
   simp only [sliceBounds,HT.sIx,Option.getD_none,show (1:Int) > 0 by decide,if_true]
   by_cases h:i < 0
   ·simp only [h,if_true] <;> omega
   ·simp only [h,if_false] <;> omega
 ·cases hi with
  | none=>simp [sliceBounds,HT.sIx]
  | some i =>
   simp only [sliceBounds,HT.sIx,Option.getD_none,show (1:Int) > 0 by decide,if_true]
   by_cases h:i < 0
   ·simp only [h,if_true] <;> omega
   ·simp only [h,if_false] <;> omega
theorem QiX (its:List Value) (lo hi:Option Int):slicePick its.toArray lo hi none=((its.drop (HT.sIx its.length 0 lo)).take (HT.sIx its.length its.length hi - HT.sIx its.length 0 lo)).toArray:=by
 obtain ⟨h1,h2,h3⟩:=QjM lo hi its.toArray.size
 unfold slicePick
 rw [h1,h2,h3]
 simp only [sliceRange_one,pick_run,List.size_toArray] <;> rfl
def rSlL (K:PySem.W.Frag):V->Option Int->Option Int->Hp->VK->Prop:=fun x lo hi H Q=>∃ a xs,x=.ref a/\SqL K H a xs/\∀ p,H p=none->Q (.ref p) (upd H p (.lst (cutV xs lo hi)))
theorem Qpj:SlR X (rSlL X.K):=by
 intro pins s σ H x v vl vu lo hi sl Q I rx hs pl pu h
 obtain ⟨a,xs,rfl,hx,q⟩:=h
 cases rx
 obtain ⟨its,r,ht,hz⟩:=I.list hx
 have hlen:=r.length
 refine ⟨"list",_,slot_list_getitem.lookup,ht.isList.typeIs,?_⟩
 refine wpAny_getItem_list_slice ht.isList hs pl pu .none (by simp) ?_ (by rw [List.size_toArray] <;> omega)
 rw [QiX,← hlen]
 refine ⟨.ref s.heap.objs.size,_,I.laid (t':=s.toks) (o:=.lst (cutV xs lo hi)) (fun b ob q=>Heap.get?_push_of_some _ q) (Nat.le_refl _) ?_,rfl,q _ (I.hok.fresh (Nat.le_refl _))⟩
 exact ⟨Nat.le_trans (QkT xs lo hi) hz,_,0,(r.drop (HT.sIx xs.length 0 lo)).take (HT.sIx xs.length xs.length hi - HT.sIx xs.length 0 lo),Heap.get?_push_size _ rfl⟩
def QcY:V->Bool
 | .non=>true
 | .bl _=>true
 | .int _=>true
 | .str _=>true
 | _=>false
def eqV:V->V->Bool
 | .non,.non=>true
 | .bl a,.bl b=>a == b
 | .bl a,.int b=>(if a then 1 else 0) == b
 | .int a,.bl b=>a == (if b then 1 else 0)
 | .int a,.int b=>a == b
 | .str a,.str b=>a == b
 | _,_=>false
theorem QqV {A:Around} {s:Shared} {y x:V} {u v:Value} (ry:RelV y u) (rx:RelV x v) (fy:QcY y=true) (fx:QcY x=true):SeqAt.EqAt A s u v (eqV y x):=by
 cases y with
 | non =>
  cases ry
  cases x with
  | non=>cases rx;exact SeqAt.EqAt.same _
  | bl b=>cases rx;exact SeqAt.EqAt.none_bool b
  | int b=>obtain ⟨t,rfl⟩:=rx;exact SeqAt.EqAt.none_int b t
  | str b=>obtain ⟨t,rfl⟩:=rx;exact SeqAt.EqAt.none_str b t
  | _=>exact absurd (show false=true from fx) Bool.false_ne_true
 | bl a =>
  cases ry
  cases x with
  | non=>cases rx;exact SeqAt.EqAt.bool_none a
  | bl b=>cases rx;exact SeqAt.EqAt.bool_bool a b
  | int b=>obtain ⟨t,rfl⟩:=rx;exact SeqAt.EqAt.bool_int a b t
  | str b=>obtain ⟨t,rfl⟩:=rx;exact SeqAt.EqAt.bool_str a b t
  | _=>exact absurd (show false=true from fx) Bool.false_ne_true
 | int a =>
  obtain ⟨t',rfl⟩:=ry
  cases x with
  | non=>cases rx;exact SeqAt.EqAt.int_none a t'
  | bl b=>cases rx;exact SeqAt.EqAt.int_bool a t' b
  | int b=>obtain ⟨t,rfl⟩:=rx;exact SeqAt.EqAt.int_int a t' b t
  | str b=>obtain ⟨t,rfl⟩:=rx;exact SeqAt.EqAt.int_str a t' b t
  | _=>exact absurd (show false=true from fx) Bool.false_ne_true
 | str a =>
  obtain ⟨t',rfl⟩:=ry
  cases x with
  | non=>cases rx;exact SeqAt.EqAt.str_none a t'
  | bl b=>cases rx;exact SeqAt.EqAt.str_bool a t' b
  | int b=>obtain ⟨t,rfl⟩:=rx;exact SeqAt.EqAt.str_int a t' b t
  | str b=>obtain ⟨t,rfl⟩:=rx;exact SeqAt.EqAt.str_str a t' b t
  | _=>exact absurd (show false=true from fx) Bool.false_ne_true
 | _=>exact absurd (show false=true from fy) Bool.false_ne_true
theorem Qkw:CallR X (.builtin "len") (fun xs H Q=>∃ p ys,xs=[.ref p]/\(SqL X.K H p ys\/SqT X.K H p ys)/\Q (.int ys.length) H):=by
 intro pins s σ H xs us Q I r h
 obtain ⟨p,ys,rfl,hq,q⟩:=h
 obtain ⟨u,rfl,rx⟩:=QgP r
 cases rx
 have hn:=Qgu
 rcases hq with hq | hq
 ·obtain ⟨its,r',pl,hz⟩:=I.list hq
  have hlen:=r'.length
  exact Calls.call_len_list pl.isList (by simp only [List.size_toArray] <;> omega) ⟨.int ys.length,H,I.tok _,⟨s.toks + 1,by rw [List.size_toArray,hlen]⟩,q⟩
 ·obtain ⟨its,r',pl,hz⟩:=I.tuple hq
  have hlen:=r'.length
  exact len_tuple pl (by simp only [List.size_toArray] <;> omega) ⟨.int ys.length,H,I.tok _,⟨s.toks + 1,by rw [List.size_toArray,hlen]⟩,q⟩
theorem Qkq:CallR X (.builtin "len") (fun xs H Q=>∃ z,xs=[.str z]/\z.length<=sizeLine/\Q (.int z.length) H):=by
 intro pins s σ H xs us Q I r h
 obtain ⟨z,rfl,hz,q⟩:=h
 obtain ⟨u,rfl,t,rfl⟩:=QgP r
 have hn:=Qgu
 exact len_str (by omega) ⟨.int z.length,H,I.tok _,⟨_,rfl⟩,q⟩
theorem CallR.or {f:Value} {r r':List V->Hp->VK->Prop} (h:CallR X f r) (h':CallR X f r'):CallR X f (fun xs H Q=>r xs H Q\/r' xs H Q):=by
 intro pins s σ H xs us Q I rs q
 rcases q with q | q
 ·exact h pins s σ H xs us Q I rs q
 ·exact h' pins s σ H xs us Q I rs q
theorem QjQ:CallR X (.type "list") (fun xs H Q=>∃ p ys,xs=[.ref p]/\(SqL X.K H p ys\/SqT X.K H p ys)/\∀ l,H l=none->Q (.ref l) (upd H l (.lst ys))):=by
 intro pins s σ H xs us Q I r h
 obtain ⟨p,ys,rfl,hq,q⟩:=h
 obtain ⟨u,rfl,rx⟩:=QgP r
 cases rx
 have fin:∀ (its:List Value),Vals ys its->ys.length<=sizeLine->∀ (h':Heap) (c':Nat),(∀ b o',s.heap.get? b=some o'->h'.get? b=some o') ->
   h'.get? s.heap.objs.size=some { cls:=.type "list",dict:=none,data:=.seq its.toArray c',slots:=#[] }->EP X pins σ Q (.ref s.heap.objs.size) { s with heap:=h' }:=fun its r' hz h' c' kp e =>
  ⟨.ref s.heap.objs.size,_,I.laid (t':=s.toks) kp (Nat.le_refl _) (show ObjOk X.prog X.w _ h' _ (.lst ys) from ⟨hz,its,c',r',e⟩),rfl,q _ (I.hok.fresh (Nat.le_refl _))⟩
 rcases hq with hq | hq
 ·obtain ⟨its,r',pl,hz⟩:=I.list hq
  have hlen:=r'.length
  obtain ⟨o,ho,hc,n,hd⟩:=pl.isList
  exact call_list_seq p (.inl rfl) ho hc hd (fun h' c' kp e=>fin its r' hz h' c' kp e) (by simp only [List.size_toArray] <;> omega)
 ·obtain ⟨its,r',pl,hz⟩:=I.tuple hq
  have hlen:=r'.length
  obtain ⟨o,ho,hc,n,hd⟩:=pl
  exact call_list_seq p (.inr rfl) ho hc hd (fun h' c' kp e=>fin its r' hz h' c' kp e) (by simp only [List.size_toArray] <;> omega)
theorem QiM:CallR X (.type "tuple") (fun xs H Q=>∃ p ys,xs=[.ref p]/\((SqL X.K H p ys/\∀ l,H l=none->Q (.ref l) (upd H l (.tup ys)))\/(SqT X.K H p ys/\Q (.ref p) H))):=by
 intro pins s σ H xs us Q I r h
 obtain ⟨p,ys,rfl,h⟩:=h
 obtain ⟨u,rfl,rx⟩:=QgP r
 cases rx
 rcases h with ⟨hq,q⟩ | ⟨hq,q⟩
 ·obtain ⟨its,r',pl,hz⟩:=I.list hq
  have hlen:=r'.length
  refine call_tuple_list pl.isList (fun h' kp=>?_) (by simp only [List.size_toArray] <;> omega)
  have I1:Inv X pins σ H { s with heap:=h' }:=I.kept (t':=s.toks) kp
  have I2:Inv X pins σ (upd H h'.objs.size (.tup ys)) { s with heap:=h'.push { cls:=.type "tuple",data:=.seq its.toArray } } :=
   I1.laid (t':=s.toks) (fun b o e=>Heap.get?_push_of_some _ e) (Nat.le_refl _) (show ObjOk X.prog X.w _ _ _ (.tup ys) from ⟨hz,its,r',IsTup.new _ _⟩)
  exact ⟨.ref h'.objs.size,_,I2,rfl,q _ (I1.hok.fresh (Nat.le_refl _))⟩
 ·obtain ⟨its,r',pl,hz⟩:=I.tuple hq
  exact call_tuple_same pl ⟨.ref p,H,I,rfl,q⟩
def tyV (K:PySem.W.Frag) (T:String) (x:V) (H:Hp):Prop:=match x with
 | .str _=>T = "str"
 | .int _=>T = "int"
 | .ref p=>(T = "list"/\∃ xs,SqL K H p xs)\/(T = "tuple"/\∃ o,K.lookup p=some o/\o.cls=.type "tuple"/\o.dict=none) \/
   (T = "dict"/\((∃ kvs,H p=some (.dK kvs))\/∃ kvs,H p=some (.dT kvs)))\/(T = "set"/\∃ S n,H p=some (.set S n))
 | _=>False
theorem QoE {pins:List (Addr×Obj)} {σ:St} {H:Hp} {s:Shared} {T:String} {x:V} {v:Value} (I:Inv X pins σ H s) (r:RelV x v) (ty:tyV X.K T x H) :
  s.TypeIs v T/\∀ a,v=.ref a->∃ ob,s.heap.get? a=some ob/\ob.dict=none:=by
 cases x with
 | str z =>
  obtain ⟨t,rfl⟩:=r
  cases (show T = "str" from ty)
  exact ⟨typeIs_str s z t,fun _ e=>nomatch e⟩
 | int i =>
  obtain ⟨t,rfl⟩:=r
  cases (show T = "int" from ty)
  exact ⟨typeIs_int s i t,fun _ e=>nomatch e⟩
 | ref p =>
  cases r
  rcases ty with ⟨rfl,xs,hq⟩ | ⟨rfl,o,hk,hc,hd⟩ | ⟨rfl,hk⟩ | ⟨rfl,S,n,hk⟩
  ·obtain ⟨its,_,pl,_⟩:=I.list hq
   refine ⟨pl.isList.typeIs,fun a e=>?_⟩
   cases e
   obtain ⟨o,n,e,c,hd,_⟩:=pl
   exact ⟨o,e,hd⟩
  ·refine ⟨⟨o,I.kIn p o hk,hc⟩,fun a e=>?_⟩
   cases e
   exact ⟨o,I.kIn _ o hk,hd⟩
  ·have z:∃ o,s.heap.get? p=some o/\o.ExactDict:=by
    rcases hk with ⟨kvs,hk⟩ | ⟨kvs,hk⟩
    ·obtain ⟨_,_,_,_,o,_,_,e,ex,_⟩:=I.hok p _ hk
     exact ⟨o,e,ex⟩
    ·obtain ⟨_,_,_,_,o,_,_,e,ex,_⟩:=I.hok p _ hk
     exact ⟨o,e,ex⟩
   obtain ⟨o,e,ex⟩:=z
   refine ⟨⟨o,e,ex.1⟩,fun a e2=>?_⟩
   cases e2
   exact ⟨o,e,ex.2.1⟩
  ·obtain ⟨o,_,_,_,e,ex,_⟩:=I.hok p _ hk
   refine ⟨⟨o,e,ex.1⟩,fun a e2=>?_⟩
   cases e2
   exact ⟨o,e,ex.2.1⟩
 | _=>exact False.elim ty
def tBM0 (K:PySem.W.Frag) (T:String) (r:V->List V->Hp->VK->Prop) (to:TE):TE:=fun σ H Q=>to σ H fun x H1=>tyV K T x H1/\r x [] H1 Q
def tBM (K:PySem.W.Frag) (T:String) (r:V->List V->Hp->VK->Prop) (to:TE) (t:TA):TE:=fun σ H Q=>to σ H fun x H1=>tyV K T x H1/\t σ H1 fun xs H2=>r x xs H2 Q
variable {o e:Expr} {es:List Expr} {to:TE} {t:TA} {name:Str} {apos cpos:Pos} {T id:String} {r:V->List V->Hp->VK->Prop}
theorem Qra (pa:PlainAttrs T) (slot:Slot T name id) (hty:typeOf (.builtin id)=pure (.type "method_descriptor")) (hm:MtR X id r) (ho:PE X o to)
  (hbase:attributeBase o name X.env (eval o X.env)=eval o X.env:=by rfl) (hline:(apos.endLine == cpos.line)=true:=by rfl):PE X (.Call (.Attribute o name apos) [] [] cpos) (tBM0 X.K T r to):=by
 intro pins s σ H Q I h
 refine wpAny_Call_method0_late hbase hline (thn (ho pins s σ H _ I h) fun v s1 ⟨x,H1,I1,r1,ty,q1⟩=>?_)
 obtain ⟨h1,h2⟩:=QoE I1 r1 ty
 exact ⟨T,id,pa,slot,hty,h1,h2,Calls.callWith_builtin rfl (PySem.evalArgs_none (hm pins s1 σ H1 x [] v [] Q I1 r1 .nil q1))⟩
theorem pe_bm (pa:PlainAttrs T) (slot:Slot T name id) (hty:typeOf (.builtin id)=pure (.type "method_descriptor")) (hm:MtR X id r) (ho:PE X o to) (ha:PA X (e::es) t)
  (hbase:attributeBase o name X.env (eval o X.env)=eval o X.env:=by rfl)
  (hfew:((backTo cpos (starEach (e::es) X.env)).all (fun x=>!x.1) && (backToKw cpos (keywordEach [] X.env)).all (fun x=>x.1.isSome)
   && decide ((e::es).length + ([]:List Keyword).length + (if ([]:List Keyword).isEmpty then 0 else 1) < 30))=true:=by rfl)
  (hline:(apos.endLine == cpos.line)=true:=by rfl) (hs:starEach (e::es) X.env=(false,eval e X.env)::starEach es X.env:=by rfl) (hplain:(backTo cpos (starEach es X.env)).any (·.1)=false:=by rfl) :
  PE X (.Call (.Attribute o name apos) (e::es) [] cpos) (tBM X.K T r to t):=by
 intro pins s σ H Q I h
 refine wpAny_Call_method_late hbase hfew hline rfl (thn (ho pins s σ H _ I h) fun v s1 ⟨x,H1,I1,r1,ty,q1⟩=>?_)
 obtain ⟨h1,h2⟩:=QoE I1 r1 ty
 refine ⟨T,id,pa,slot,hty,h1,h2,?_⟩
 have hA:=ha cpos pins s1 σ H1 _ I1 q1
 rw [hs] at hA ⊢
 refine Calls.callWith_builtin (by show (false || (backTo cpos (starEach es X.env)).any (·.1))=false;rw [hplain] <;> rfl) (Calls.evalArgs_plain ?_)
 exact thn hA fun us s2 ⟨vs,H2,I2,r2,q2⟩=>hm pins s2 σ H2 x vs v us Q I2 r1 r2 q2
end
end L2
namespace L2
open PySem PySem.Spec PyProof.Rows
def MtM (X:Cx) (id:String) (r:V->List V->Hp->VK->Prop):Prop :=
 ∀ (pins:List (Addr×Obj)) (s:Shared) (σ:St) (H:Hp) (x:V) (xs:List V) (v:Value) (us:List Value) (Q:VK),Inv X pins σ H s->RelV x v->Vals xs us->r x xs H Q ->
  wpAny (model X.prog X.w) X.A (call (.builtin id) (v::us)) (EP X pins σ Q) X.xe s
theorem Vals.one:∀ {x:V} {us:List Value},Vals [x] us->∃ u,us=[u]/\RelV x u
 | _,_,.cons r .nil=>⟨_,rfl,r⟩
theorem Vals.reverse {xs:List V} {us:List Value} (h:Vals xs us):Vals xs.reverse us.reverse:=by
 induction h with
 | nil=>exact .nil
 | cons r t ih=>rw [List.reverse_cons,List.reverse_cons];exact Vals.append ih (.cons r .nil)
section
variable {X:Cx} {pins:List (Addr×Obj)} {σ:St} {H:Hp} {s:Shared} {l b:Addr} {xs ys zs:List V}
theorem Inv.lset {its its':List Value} {n:Nat} {f:Array Value->Array Value} {t':Nat} (I:Inv X pins σ H s) (hH:H l=some (.lst xs))
  (e:s.heap.get? l=some { cls:=.type "list",data:=.seq its.toArray n }) (hf:f its.toArray=its'.toArray) (hv:Vals ys its') (hz:ys.length<=sizeLine) :
  Inv X pins σ (upd H l (.lst ys)) { s with heap:=s.heap.update l (Obj.mapSeq f),toks:=t' }:=by
 have q:=PySem.IsL.update e f
 rw [hf] at q
 refine I.write (x:=l) (e:=l) (by rw [hH];exact trivial) (.inl rfl) (fun b' u hb hu=>(Heap.get?_update_other s.heap (Obj.mapSeq f) (Ne.symm hb)).trans hu) ⟨_,q⟩ ?_
 exact ⟨hz,its',_,hv,q⟩
theorem Inv.lnew {its:List Value} {t':Nat} (I:Inv X pins σ H s) (hv:Vals ys its) (hz:ys.length<=sizeLine) :
  Inv X pins σ (upd H s.heap.objs.size (.lst ys)) { s with heap:=s.heap.push { cls:=.type "list",data:=.seq its.toArray },toks:=t' } :=
 I.laid (fun _ _ q=>Heap.get?_push_of_some _ q) (Nat.le_refl _) ⟨hz,its,0,hv,Heap.get?_push_size _ rfl⟩
theorem Inv.fresh (I:Inv X pins σ H s):H s.heap.objs.size=none:=I.hok.fresh (Nat.le_refl _)
theorem Inv.lstM (I:Inv X pins σ H s) (hH:H l=some (.lst xs)):xs.length<=sizeLine/\∃ (its:List Value) (n:Nat),Vals xs its/\xs.length=its.length/\s.heap.get? l=some { cls:=.type "list",data:=.seq its.toArray n }:=by
 obtain ⟨z,its,n,r,e⟩:=I.hok l _ hH
 exact ⟨z,its,n,r,r.length,e⟩
end
section
variable {X:Cx}
def Qpc:V->List V->Hp->VK->Prop:=fun x vs H Q=>∃ l xs y,x=.ref l/\vs=[y]/\H l=some (.lst xs)/\xs.length < sizeLine/\Q .non (upd H l (.lst (xs++[y])))
theorem Qjs:MtM X "list.append" Qpc:=by
 intro pins s σ H x vs v us Q I rx rv h
 obtain ⟨l,xs,y,rfl,rfl,hH,hz,q⟩:=h
 cases rx
 obtain ⟨u,rfl,ru⟩:=rv.one
 obtain ⟨z,its,n,r,hl,e⟩:=I.lstM hH
 refine call_meets F.slot_list_append ⟨_,e,rfl⟩ F.entry_list_append (F.args_list_append_2 _ _) (PySem.list_append l its.toArray n u (by rw [List.size_toArray];omega)) ⟨e,?_⟩
 refine ⟨.non,_,I.lset (its':=its++[u]) hH e (by simp) (r.append (.cons ru .nil)) ?_,rfl,q⟩
 rw [List.length_append,List.length_singleton]
 omega
end
section
variable {prog:Program} {w:World} {A:Around} {E:Value->Shared->Prop} {s:Shared}
end
section
variable {X:Cx}
end
end L2
namespace Att
open PySem PySem.W PySem.Calls PyProof.Rows
theorem QgX {P:Params} {h:Heap}:∀ (ns:List Int) (vs:List Value),WellAll P h vs (ns.map WData.int)->IntsAre vs ns:=by
 intro ns
 induction ns with
 | nil =>
  intro vs w
  rw [List.map_nil] at w
  cases w
  exact .nil
 | cons n ns ih =>
  intro vs w
  rw [List.map_cons] at w
  cases w with
  | cons a b =>
   cases a
   exact .cons _ _ (ih _ b)
theorem QmY {l:OpenLaw} {n:Nat} (hn:l.most=some n) {P:Params} {h:Heap} {args:List WData} {vals:List Value}
  (hpre:l.row.toRowW.claim.pre args=true) (hwl:WellAll P h vals args) :
  ∃ a vs ns,vals=[Value.ref a]/\args=[WData.list (ns.map WData.int)]/\h.get? a=some { cls:=.type "list",data:=.seq vs.toArray }/\IntsAre vs ns/\ns.length<=n:=by
 have hsh:WShape.hasAll [] args [.list .int]=true:=(pre_splitW hpre).1
 have hc:l.pre.holds [] { args:=args }=true:=(pre_splitW hpre).2
 obtain ⟨d,r,rfl,h1,h2⟩:=hasAllW_cons hsh
 obtain rfl:=hasAllW_nil h2
 obtain ⟨xs,rfl,h3⟩:=hasW_list h1
 obtain ⟨ns,rfl⟩:=items_int h3
 have hlen:ns.length<=n:=by
  unfold OpenLaw.pre at hc
  have h4:(WTm.not (.lt (.lit (.int (n:Int))) (.len (.arg 0)))).holds [] { args:=[.list (ns.map .int)] }=true:=by
   have h4:=(holds_andW hc).1
   rw [hn] at h4
   exact h4
  have h5:=condW_of h4 (w_not (w_lt w_lit (w_len_list (w_arg rfl))))
  rw [List.length_map] at h5
  refine Nat.le_of_not_lt fun q=>?_
  have q':(n:Int) < ((ns.length:Nat):Int):=by omega
  first
   | (rw [decide_eq_true q'] at h5;exact absurd h5 (by decide))
   | (simp at h5;omega)
 cases hwl with
 | cons w1 w2 =>
  cases w2
  cases w1 with
  | list ho hall=>exact ⟨_,_,ns,rfl,rfl,ho,QgX ns _ hall,hlen⟩
theorem Qnn (l:OpenLaw) (args:List WData):l.row.toRowW.claim.post args (.bool true) args=true :=
 postW_of (r:=l.row.toRowW) (X:=(true == true))
  (show WShape.has [] (.bool true) .bool=true by first | rfl | decide | simp [WShape.has,WShape.arms,WShape.armsAll])
  (show (WTm.eq .res (.lit (.bool true))).value [] { args:=args,res:=some (.bool true),after:=args }=some (.bool (true == true)) from w_eq_bool (w_res rfl) w_lit) rfl
theorem attach_call {l:OpenLaw} {n:Nat} {q:Program} {loose:List Str} {XP:(Str->Option Value)->Heap->Prop} {YP:World->Heap->Prop} {d:DefRec}
  (hn:l.most=some n) (hdf:d.params.defaults=[])
  (call:∀ (w:World) (s₀ s₁:Shared) (mg mb:Str->Option Value) (fa:Addr) (o:Obj) (pm cd doc:Value) (a:Addr) (vs:List Value) (ns:List Int),
   Ground q loose [] XP w s₀ mg mb s₁.heap->YP w s₁.heap ->
   s₁.heap.get? fa=some o->o.data=.func (docDef d.name d.params d.body d.scope pm cd doc)->s₁.heap.CodeRec cd d.name->mg d.name=some (.ref fa) ->
   s₁.heap.get? a=some { cls:=.type "list",data:=.seq vs.toArray }->IntsAre vs ns->ns.length<=n->s₁.gens=#[] ->
   codeAny (model l.prog w) callerA (.call (.ref fa) ⟨[.ref a],[]⟩) (fun r s'=>r=.ok (.ret (.bool true))/\OldK s₁.heap s'.heap/\s'.os=s₁.os/\AllBare s'.gens) s₁) :
  WalkO q loose XP YP l.row.toRowW d [] (fun f vs=>PySem.call f vs):=by
 intro w s₀ s₁ mg mb G Y fa o pm cd doc dV kV ho hd hcd hD hmg hg args vals as hpre hlay hrd hwl hlo
 obtain rfl:dV=.none:=Dflts.none hD hdf
 obtain rfl:kV=.none:=Dflts.noKw hD
 obtain ⟨a,vs,ns,rfl,rfl,hobj,hints,hlen⟩:=QmY hn hpre hwl
 refine enter_call (codeAny_mono (call w s₀ s₁ mg mb fa o pm cd doc a vs ns G Y ho (fd_plain hd) hcd hmg hobj hints hlen hg) fun r s' hq=>?_)
 obtain ⟨rfl,h2,h3,h4⟩:=hq
 exact ⟨.inl ⟨.bool true,.bool true,[],rfl,fun _=>rfl,.bool true,Qnn l _,fun _=>⟨List.Pairwise.nil,fun _ hm=>(nomatch hm)⟩⟩,h2,h3,h4⟩
section
variable {prog:Program} {w:World} {A:Around} {E:Value->Shared->Prop} {s:Shared} {K:Frag}
def noObjs (h:Heap):Heap:={ h with objs:=#[] }
theorem noObjs_get (h:Heap) (b:Addr):(noObjs h).get? b=none:=by
 cases e:(noObjs h).get? b with
 | none=>rfl
 | some o=>exact absurd (Heap.lt_size e) (Nat.not_lt_zero _)
def ledger (h:Heap) (L d:Addr):List (Addr×Obj):=(List.range h.objs.size).filterMap fun a=>if a=L\/a=d then none else (h.get? a).map fun o=>(a,o)
theorem mem_ledger {h:Heap} {L d a:Addr} {o:Obj}:(a,o)∈ledger h L d ↔ a≠L/\a≠d/\h.get? a=some o:=by
 unfold ledger
 rw [List.mem_filterMap]
 constructor
 ·rintro ⟨b,_,e⟩
  split at e
  ·cases e
  ·rename_i hb
   obtain ⟨o',ho,e'⟩:=Option.map_eq_some_iff.mp e
   cases e'
   exact ⟨fun q=>hb (.inl q),fun q=>hb (.inr q),ho⟩
 ·rintro ⟨n1,n2,ho⟩
  refine ⟨a,List.mem_range.mpr (Heap.lt_size ho),?_⟩
  rw [if_neg (show ¬ (a=L\/a=d) from fun q=>q.elim n1 n2),ho] <;> rfl
theorem fr_all {h:Heap} {L:Addr} {m:Str->Option Value} (n:h.Ns L m):Fr (noObjs h) L h m :=
 ⟨n,fun b o e=>(by rw [noObjs_get] at e;cases e),Nat.zero_le _⟩
end
end Att
namespace L2
open PySem PySem.Spec PyProof.Rows
theorem QdJ:∀ {vs:List Value} {ns:List Int},IntsAre vs ns->Vals (ns.map V.int) vs
 | _,_,.nil=>.nil
 | _,_,.cons n t h=>.cons ⟨t,rfl⟩ (QdJ h)
def Only (H:Hp):Prop:=∀ b,H b=none\/∃ o xs,H b=some (.frz o (.lst xs))
theorem QnG {P:Program} {w:World} {K:PySem.W.Frag} {mg mb:Str->Option Value} {CX:CXT} {k:Nat} {fa a:Addr} {fd:FuncData} {x:Str} {sp:Sp} {s₁:Shared} {vs:List Value} {ns:List Int}
  (KX:K.In s₁.heap) (hns:s₁.heap.Ns mainGlobals mg) (hb:s₁.heap.Ns builtinsNs mb) (hbb:∀ x:Str,x≠"__name__"->mb x=bootBuiltins x) (hlim:s₁.heap.NoLimit) (hg:s₁.gens=#[])
  (ha:s₁.heap.get? a=some { cls:=.type "list",data:=.seq vs.toArray }) (hi:IntsAre vs ns) (hl:ns.length<=sizeLine) (hr:Room k callerA)
  (F:∀ base:Heap,K.In base->base.Ns mainGlobals mg->FnOk P w K mg base CX k fa fd [x] sp) (hbind:∀ (s:Shared) (u:Value),BindsTo s fd ⟨[u],[]⟩ [(x,u)])
  (hsp:∀ H:Hp,Only H->SqL K H a (ns.map V.int)->sp [.ref a] H (fun v _=>v=.bl true) fun _ _ _=>False)
  (hCX:∀ H e s',CX [] H s₁ (fun _ _ _=>False) e s'->False) :
  codeAny (model P w) callerA (.call (.ref fa) ⟨[.ref a],[]⟩) (fun r s'=>r=.ok (.ret (.bool true))/\OldK s₁.heap s'.heap/\s'.os=s₁.os/\AllBare s'.gens) s₁:=by
 have rv:=QdJ hi
 have lenV:=hi.length
 have core:∀ H:Hp,Only H->SqL K H a (ns.map V.int)->HOk P w H s₁.heap->(∀ b,H b≠none->b=a)->(H a≠none->K.lookup a=none) ->
   codeAny (model P w) callerA (.call (.ref fa) ⟨[.ref a],[]⟩) (fun r s'=>r=.ok (.ret (.bool true))/\OldK s₁.heap s'.heap/\s'.os=s₁.os/\AllBare s'.gens) s₁:=by
  intro H hO hS hok hA hK
  have base_of:∀ {b:Addr} {o:Obj},s₁.heap.get? b=some o->H b=none->(hidT s₁.heap H).get? b=some o:=fun e n=>Qls e n
  have noA:∀ {b:Addr} {o:Obj} {es:Array DictEntry} {ep:Nat},s₁.heap.get? b=some o->o.data=.dict es ep->H b=none:=fun {b o es ep} e d=>by
   cases q:H b with
   | none=>rfl
   | some u =>
    have e':b=a:=hA b (by rw [q];simp)
    subst e'
    rw [ha] at e;cases e
    have d':Data.seq vs.toArray _=Data.dict es ep:=d
    cases d'
  have nsK:∀ {b:Addr} {m:Str->Option Value},s₁.heap.Ns b m->(hidT s₁.heap H).Ns b m:=fun {b m} ⟨o,es,ep,e,d,r⟩=>⟨o,es,ep,base_of e (noA e d),d,r⟩
  have hKb:K.In (hidT s₁.heap H):=fun b o e=>base_of (KX b o e) (by
   cases q:H b with
   | none=>rfl
   | some u =>
    have e':b=a:=hA b (by rw [q];simp)
    subst e'
    rw [hK (by rw [q];simp)] at e;cases e)
  have hM:Mod K mg (hidT s₁.heap H):=⟨hKb,nsK hns,⟨mb,nsK hb,hbb⟩,let ⟨mc,h1,h2⟩:=hlim;⟨mc,nsK h1,h2⟩⟩
  have e0:Env0 P w K mg (hidT s₁.heap H) callerA [] s₁ H:=⟨rfl,hM,fun b o e=>QmJ e,Nat.le_of_eq (Qjq _ _),trivial,fun b hb=>absurd (show b∈([]:List Addr) from hb) (by simp),hok,.of_eq hg⟩
  refine codeAny_mono ((F _ hKb (nsK hns)).run callerA [] s₁ H ⟨[.ref a],[]⟩ [.ref a] [.ref a] _ _ hr e0 (hbind s₁ (.ref a)) (.cons rfl .nil) (hsp H hO hS)) fun r s' h=>?_
  cases r with
  | error e=>exact (hCX H e s' h).elim
  | ok fl =>
   cases fl with
   | next=>exact False.elim h
   | brk=>exact False.elim h
   | cont=>exact False.elim h
   | ret u =>
    obtain ⟨v,H',os,bare,un,hok',r',q⟩:=h
    have q':v=.bl true:=q
    subst q'
    obtain rfl:u=Value.bool true:=r'
    refine ⟨rfl,OldK.of_keep fun b o e=>?_,os,bare⟩
    cases q:H b with
    | none=>exact un.keep b o e q (by intro z;exact absurd (show b∈([]:List Addr) from z) (by simp)) (by simp)
    | some u =>
     rcases hO b with z | ⟨ob,xs,z⟩
     ·rw [q] at z;cases z
     ·have z2:=un.frzs b ob _ z
      obtain ⟨e1,_⟩:=hok b _ z
      obtain ⟨e2,_⟩:=hok' b _ z2
      rw [e] at e1;cases e1
      exact e2
 cases hk:K.lookup a with
 | some o =>
  have e:=KX a o hk
  rw [ha] at e
  cases e
  refine core (fun _=>none) (fun _=>.inl rfl) (.inr ⟨_,vs.toArray,_,hk,rfl,rfl,rfl,by rw [List.size_toArray,lenV];exact hl,by simpa using rv⟩) (fun b u z=>by have z':(none:Option HO)=some u:=z;cases z') (fun b z=>absurd rfl z) fun z=>absurd rfl z
 | none =>
  refine core (fun b=>if b=a then some (.frz { cls:=.type "list",data:=.seq vs.toArray } (.lst (ns.map V.int))) else none) (fun b=>?_) (.inl (.inr ⟨{ cls:=.type "list",data:=.seq vs.toArray },if_pos rfl⟩)) (fun b u z=>?_) (fun b z=>?_) fun _=>hk
  ·by_cases hb:b=a
   ·exact .inr ⟨_,_,if_pos hb⟩
   ·exact .inl (if_neg hb)
  ·by_cases hb:b=a
   ·have z':=(if_pos hb).symm.trans z
    cases z'
    subst hb
    exact ⟨ha,by rw [List.length_map];exact hl,vs,_,rv,ha⟩
   ·have z':=(if_neg hb).symm.trans z
    cases z'
  ·by_cases hb:b=a
   ·exact hb
   ·exact absurd (if_neg hb) z
end L2
namespace L2
open PySem PySem.Spec PyProof.Rows
abbrev KOf {K:PySem.W.Frag} {h:Heap} (_:K.In h):PySem.W.Frag:=K
theorem walk_of {l:PySem.W.OpenLaw} {n k:Nat} {q:Program} {loose:List Str} {XP:(Str->Option Value)->Heap->Prop} {YP:World->Heap->Prop} {d:DefRec} {K:Params->PySem.W.Frag} {CX:World->CXT} {sp:World->Sp} {x:Str}
  (hn:l.most=some n) (hn2:n<=sizeLine) (hdf:d.params.defaults=[]) (hr:Room k callerA)
  (hY:∀ (w:World) (h:Heap),YP w h->(K w.params).In h)
  (F:∀ (w:World) (mg:Str->Option Value) (fa:Addr) (h:Heap),(K w.params).In h->h.Ns mainGlobals mg->mg d.name=some (.ref fa) ->
   ∃ fd:FuncData,(∀ (s:Shared) (u:Value),BindsTo s fd ⟨[u],[]⟩ [(x,u)]) /\
    ∀ base:Heap,(K w.params).In base->base.Ns mainGlobals mg->FnOk l.prog w (K w.params) mg base (CX w) k fa fd [x] (sp w))
  (hsp:∀ (w:World) (H:Hp) (a:Addr) (ns:List Int),ns.length<=n->Only H->SqL (K w.params) H a (ns.map V.int)->sp w [.ref a] H (fun v _=>v=.bl true) fun _ _ _=>False)
  (hCX:∀ (w:World) (H:Hp) (s:Shared) (e:Value) (s':Shared),CX w [] H s (fun _ _ _=>False) e s'->False) :
  PySem.W.WalkO q loose XP YP l.row.toRowW d [] (fun f vs=>PySem.call f vs):=by
 refine Att.attach_call hn hdf fun w s₀ s₁ mg mb fa o pm cd doc a vs ns G Y ho hd hcd hmg hobj hints hlen hg=>?_
 have KX:=hY w _ Y
 obtain ⟨fd,hb,hF⟩:=F w mg fa _ KX G.T.g hmg
 exact QnG KX G.T.g G.T.b G.T.builtins G.T.nolimit hg hobj hints (Nat.le_trans hlen hn2) hr hF hb (fun H hO hS=>hsp w H a ns hlen hO hS) fun H e s'=>hCX w H s₁ e s'
end L2
namespace L2
open PySem PySem.Spec PyProof.Rows
def QR (s:Stmt) (j:Nat):Stmt:=match s with
 | .ClassDef _ _ _ body _ _ _ _ _ _ _=>body.getD j (.Pass ⟨0,0,0,0⟩)
 | _=>.Pass ⟨0,0,0,0⟩
def Qj (s:Stmt):Arguments:=match s with
 | .FunctionDef _ a _ _ _ _ _ _ _ _=>a
 | _=>{ posonlyargs:=[],args:=[],vararg:=none,kwonlyargs:=[],kw_defaults:=[],kwarg:=none,defaults:=[] }
def Qi (s:Stmt):List Stmt:=match s with
 | .FunctionDef _ _ b _ _ _ _ _ _ _=>b
 | _=>[]
def Qb (s:Stmt):Scope:=match s with
 | .FunctionDef _ _ _ _ _ _ sc _ _ _=>sc
 | _=>{ kind:=.function,names:=[],isGenerator:=false,isCoroutine:=false }
abbrev CX0:CXT:=fun _ _ _ _ _ _=>False
abbrev E0:XK:=fun _ _ _=>False
theorem Qii {X:Cx}:Qis CX0 X E0:=fun _ _ _ _ _ _ _ h=>h.elim
structure Fun (K:PySem.W.Frag) (x qual:Str) (st:Stmt) (f:Addr) (fd:FuncData):Prop where
 ex:∃ (oc:Value) (od:Option Addr) (kV doc pm:Value) (an:Option Addr) (cdv ct:Value) (osl:Array (Option Value)),
  fd=PySem.W.fnOf x qual (Qj st) (Qi st) (Qb st) .none kV doc pm an cdv ct/\K.lookup f=some ⟨oc,od,.func fd,osl⟩/\PySem.W.codeIn K cdv qual=true
 kp:PySem.W.keepIn K (.ref f)=true
section
variable {P:Program} {w:World} {K:PySem.W.Frag} {mg:Str->Option Value} {base:Heap}
theorem Fun.ok {x qual:Str} {st:Stmt} {f:Addr} {fd:FuncData} {N ps:List Str} {k:Nat} {sp:Sp} (F:Fun K x qual st f fd) (S:FnScope N ps (Qb st)) (len:∀ vs H Q E,sp vs H Q E->vs.length=ps.length)
  (hbody:∀ (cdv:Value) (A:Around) (outer:List Env) (s:Shared) (H:Hp) (vs:List V) (Q:VK) (E:XK),Room k (A.deeper (envOfC qual (Qb st) s.heap.objs.size f cdv))->sp vs H Q E ->
   ∃ t,PSs (cxOf CX0 P w K mg base N qual (Qb st) f cdv A outer s H E).nox (Qi st) t/\t { nx:=fun _ H'=>Q .non H',rt:=Q } (start N vs) H):FnOk P w K mg base CX0 (k + 1) f fd ps sp:=by
 obtain ⟨oc,od,kV,doc,pm,an,cdv,ct,osl,rfl,lk,hcd⟩:=F.ex
 refine QpX lk hcd S len fun A outer s H vs Q E hr hsp=>?_
 obtain ⟨t,h,q⟩:=hbody cdv A outer s H vs Q E hr hsp
 exact ⟨t,h.nox,q⟩
theorem Fun.binds {x qual:Str} {st:Stmt} {f:Addr} {fd:FuncData} {ps:List Str} (F:Fun K x qual st f fd)
  (h:∀ (kV doc pm:Value) (an:Option Addr) (cdv ct:Value) (us:List Value),us.length=ps.length->bindArgs (PySem.W.fnOf x qual (Qj st) (Qi st) (Qb st) .none kV doc pm an cdv ct) ⟨us,[]⟩=pure (ps.zip us)):Binds K fd ps []:=by
 obtain ⟨oc,od,kV,doc,pm,an,cdv,ct,osl,rfl,lk,hcd⟩:=F.ex
 exact .all (h kV doc pm an cdv ct)
theorem Qn {x qual:Str} {st:Stmt} {f:Addr} {oc:Value} {od an:Option Addr} {osl:Array (Option Value)} {kV doc pm cdv ct:Value} (l:K.lookup f=some ⟨oc,od,.func (PySem.W.fnOf x qual (Qj st) (Qi st) (Qb st) .none kV doc pm an cdv ct),osl⟩)
  (c:PySem.W.codeIn K cdv qual=true) (k:PySem.W.keepIn K (.ref f)=true):Fun K x qual st f (PySem.W.fnOf x qual (Qj st) (Qi st) (Qb st) .none kV doc pm an cdv ct):=⟨⟨oc,od,kV,doc,pm,an,cdv,ct,osl,rfl,l,c⟩,k⟩
end
theorem Qap {n:Nat} (h:n<=1000):n < sizeLine:=Nat.lt_of_le_of_lt h (by decide)
section
variable {X:Cx}
theorem pv (i:Nat) {x:Str} {pos:Pos} (hN:X.N[i]? = some x:=by rfl) (hv:Vis X.env.scope x:=by first | exact Or.inl rfl | exact Or.inr (Or.inl rfl) | exact Or.inr (Or.inr rfl)) (hd:(x == ("__debug__":Str))=false:=by decide)
  (hcd:(x == ("__classdict__":Str))=false:=by decide):PE X (.Name x pos) (tVar i):=QqG hN hv hd hcd
end
def Same (H H':Hp):Prop:=∀ b o,H b=some o->H' b=some o
theorem Same.refl (H:Hp):Same H H:=fun _ _ h=>h
theorem Same.trans {H H1 H2:Hp} (a:Same H H1) (b:Same H1 H2):Same H H2:=fun c o h=>b c o (a c o h)
theorem Same.free {H H':Hp} (e:Same H H') {l:Addr} (h:H' l=Option.none):H l=Option.none:=by
 cases q:H l with
 | none=>rfl
 | some o =>
  rw [e l o q] at h
  cases h
theorem Same.seq {K:PySem.W.Frag} {H H':Hp} {a:Addr} {xs:List V} (e:Same H H') (h:SqL K H a xs):SqL K H' a xs:=by
 rcases h with (h | ⟨o,h⟩) | h
 ·exact .inl (.inl (e _ _ h))
 ·exact .inl (.inr ⟨o,e _ _ h⟩)
 ·exact .inr h
end L2
namespace L2
open PySem PySem.Spec PyProof.Rows
section
variable {κ:Type} [DecidableEq κ]
def valV (kvs:List (κ×V)) (k:κ):Option V:=(kvs.find? fun kv=>decide (kv.1=k)).map (·.2)
theorem Qlg {p:κ×V} {r:List (κ×V)} {k:κ} (e:p.1=k):valV (p::r) k=some p.2:=by simp [valV,List.find?_cons,e]
theorem Qla {p:κ×V} {r:List (κ×V)} {k:κ} (e:¬ p.1=k):valV (p::r) k=valV r k:=by simp [valV,List.find?_cons,e]
theorem KV.val {kvs:List (κ×V)} {vs:List (κ×Value)} (r:KV kvs vs) (k:κ):RelO (valV kvs k) (valueAt vs k):=by
 unfold KV at r
 induction r with
 | nil=>exact True.intro
 | @cons p q ps qs h t ih =>
  obtain ⟨h1,h2⟩:=h
  by_cases e:p.1=k
  ·have e':q.1=k:=h1.symm.trans e
   have b:valueAt (q::qs) k=some q.2:=by simp [valueAt,List.find?_cons,e']
   rw [Qlg e,b];exact h2
  ·have e':¬ q.1=k:=fun z=>e (h1.trans z)
   have b:valueAt (q::qs) k=valueAt qs k:=by simp [valueAt,List.find?_cons,e']
   rw [Qla e,b];exact ih
theorem KV.any {kvs:List (κ×V)} {vs:List (κ×Value)} (r:KV kvs vs) (k:κ):(kvs.any fun kv=>decide (kv.1=k))=vs.any fun kv=>decide (kv.1=k):=by
 unfold KV at r
 induction r with
 | nil=>rfl
 | cons h t ih=>rw [List.any_cons,List.any_cons,ih,h.1]
theorem KV.length {kvs:List (κ×V)} {vs:List (κ×Value)} (r:KV kvs vs):kvs.length=vs.length:=Paired.length r
end
abbrev KT (H:Hp):List (List Key×V)->List (List Key×Addr×Value)->Prop:=Paired fun p q=>p.1=q.1/\H q.2.1=some (.tup (p.1.map kV))/\RelV p.2 q.2.2
theorem KT.val {H:Hp} {kvs:List (List Key×V)} {xs:List (List Key×Addr×Value)} (r:KT H kvs xs) (k:List Key):RelO (valV kvs k) ((atKey xs k).map (·.2)):=by
 induction r with
 | nil=>exact True.intro
 | @cons p q ps qs h t ih =>
  obtain ⟨h1,_,h2⟩:=h
  by_cases e:p.1=k
  ·have e':q.1=k:=h1.symm.trans e
   have b:atKey (q::qs) k=some q.2:=by simp [atKey,List.find?_cons,e']
   rw [Qlg e,b];exact h2
  ·have e':¬ q.1=k:=fun z=>e (h1.trans z)
   have b:atKey (q::qs) k=atKey qs k:=by simp [atKey,List.find?_cons,e']
   rw [Qla e,b];exact ih
section
variable {P:Program} {w:World} {H:Hp} {h:Heap} {a:Addr}
theorem rd_of {u:HO} (ok:HOk P w H h) (e:Rd H a u):ObjOk P w H h a u:=e.ok ok
theorem dk_rd {kvs:List (Key×V)} (ok:HOk P w H h) (e:Rd H a (.dK kvs)):kvs.length<=sizeLine/\(a == sysModules)=false/\∃ vs,KV kvs vs/\h.DictOf (Qhl P w) a vs :=
 show ObjOk P w H h a (.dK kvs) from rd_of ok e
end
section
variable {X:Cx} {pins:List (Addr×Obj)} {σ:St} {H:Hp} {s:Shared} {a:Addr} {y v:V} {u r:Value} {o:Option V} {A:Around} {E:Value->Shared->Prop}
end
section
variable {X:Cx} {pins:List (Addr×Obj)} {σ:St} {H:Hp} {s:Shared} {a:Addr} {kvs:List (Key×V)} {k:Key} {u:Value} {A:Around} {E:Value->Shared->Prop}
theorem d_len {Q:Value->Shared->Prop} (I:Inv X pins σ H s) (e:Rd H a (.dK kvs)) (h:∀ t s',Inv X pins σ H s'->Q (.int kvs.length t) s'):wpAny (model X.prog X.w) A (call (.builtin "len") [.ref a]) Q E s:=by
 obtain ⟨z,hd,vs,rel,dd⟩:=dk_rd I.hok e
 refine call_len_dict hd dd (by rw [← rel.length];rw [sizeLine_eq] at z;omega) ?_
 rw [← rel.length]
 exact h _ _ (I.tok _)
end
section
variable {X:Cx} {o i e value:Expr} {pos pos' tpos:Pos} {td ty tv:TE}
end
section
variable {X:Cx} {pos:Pos}
end
structure M1 (X:Cx) (o:Expr) (m:Str) (apos:Pos) (e:Expr) (cpos:Pos):Prop where
 base:attributeBase o m X.env (eval o X.env)=eval o X.env
 few:((backTo cpos (starEach [e] X.env)).all (fun x=>!x.1) && (backToKw cpos (keywordEach [] X.env)).all (fun x=>x.1.isSome)
  && decide (([e]:List Expr).length + ([]:List Keyword).length + (if ([]:List Keyword).isEmpty then 0 else 1) < 30))=true
 line:(apos.endLine == cpos.line)=true
 trees:backTo cpos (starEach [e] X.env)=[(false,eval e X.env)]
structure M2 (X:Cx) (o:Expr) (m:Str) (apos:Pos) (e f:Expr) (cpos:Pos):Prop where
 base:attributeBase o m X.env (eval o X.env)=eval o X.env
 few:((backTo cpos (starEach [e,f] X.env)).all (fun x=>!x.1) && (backToKw cpos (keywordEach [] X.env)).all (fun x=>x.1.isSome)
  && decide (([e,f]:List Expr).length + ([]:List Keyword).length + (if ([]:List Keyword).isEmpty then 0 else 1) < 30))=true
 line:(apos.endLine == cpos.line)=true
 trees:backTo cpos (starEach [e,f] X.env)=[(false,eval e X.env),(false,eval f X.env)]
section
variable {X:Cx} {pins:List (Addr×Obj)} {σ:St} {H:Hp} {s:Shared} {a:Addr} {y d:V} {u r:Value} {o:Option V} {A:Around} {E:Value->Shared->Prop}
end
section
variable {X:Cx} {o e f:Expr} {apos cpos:Pos} {td ty tx:TE}
end
section
variable {X:Cx} {pins:List (Addr×Obj)} {σ:St} {H:Hp} {s:Shared} {a:Addr} {kvs:List (Key×V)} {A:Around} {E:Value->Shared->Prop}
end
section
variable {X:Cx} {pins:List (Addr×Obj)} {σ:St} {H:Hp} {s:Shared} {a:Addr} {y:V} {u:Value} {A:Around} {E:Value->Shared->Prop}
end
section
variable {X:Cx}
end
section
variable {κ:Type} [DecidableEq κ]
end
end L2
set_option maxRecDepth 100000
namespace L2
open PySem PySem.Spec PyProof.Rows
section
variable {X:Cx}
theorem PE.imp {e:Expr} {t t':TE} (h:PE X e t) (hi:∀ σ H Q,t' σ H Q->t σ H Q):PE X e t':=fun pins s σ H Q I q=>h pins s σ H Q I (hi _ _ _ q)
theorem PT.imp {e:Expr} {t t':TT} (h:PT X e t) (hi:∀ σ H Q,t' σ H Q->t σ H Q):PT X e t':=fun pins s σ H Q I q=>h pins s σ H Q I (hi _ _ _ q)
theorem PW.imp {e:Expr} {t t':TT} (h:PW X e t) (hi:∀ σ H Q,t' σ H Q->t σ H Q):PW X e t':=fun wh pins s σ H Q I q=>h wh pins s σ H Q I (hi _ _ _ q)
theorem PA.imp {e:List Expr} {t t':TA} (h:PA X e t) (hi:∀ σ H Q,t' σ H Q->t σ H Q):PA X e t':=fun pos pins s σ H Q I q=>h pos pins s σ H Q I (hi _ _ _ q)
theorem PS.imp {e:Stmt} {t t':TS} (h:PS X e t) (hi:∀ D σ H,t' D σ H->t D σ H):PS X e t':=fun pins s σ H D I q=>h pins s σ H D I (hi _ _ _ q)
theorem PSs.imp {e:List Stmt} {t t':TS} (h:PSs X e t) (hi:∀ D σ H,t' D σ H->t D σ H):PSs X e t':=fun pins s σ H D I q=>h pins s σ H D I (hi _ _ _ q)
theorem PG.imp {e:Expr} {t t':TG} (h:PG X e t) (hi:∀ v σ H Q,t' v σ H Q->t v σ H Q):PG X e t':=fun pins s σ H v u Q I r q=>h pins s σ H v u Q I r (hi _ _ _ _ q)
end
end L2
namespace L2
open PySem PySem.Spec PyProof.Rows
section
variable {prog:Program} {w:World} {A:Around} {R:Result->Shared->Prop} {s:Shared}
theorem Qm7 {elt target iter:Expr} {ifs:List Expr} {scope:Scope} {pos:Pos} {it acc:Value} {env:Env} (I:Nat->Shared->Prop)
  (turn:∀ n s,I n s->wpAny (model prog w) A (pyNext it) (fun r s₁=>match r with
   | none=>R (.ok .next) s₁
   | some v=>wpAny (model prog w) A (letOwnedTupleGo target it v) (fun _ s₁'=>wpAny (model prog w) A (assign target env v) (fun _ s₂ =>
     wpAny (model prog w) A (forIn ifs true fun c r=>if r=true then do let ok ← isTrue c env (eval c env);pure (ForInStep.yield ok) else pure (ForInStep.yield r)) (fun ok s₃ =>
      if ok=true then wpAny (model prog w) A (eval elt env) (fun x s₄ =>
       wpAny (model prog w) A (call (.builtin "list.append") [acc,x]) (fun _ s₅=>∃ m,m < n/\I m s₅) (fun _ _=>False) s₄) (fun _ _=>False) s₃
      else ∃ m,m < n/\I m s₃) (fun _ _=>False) s₂) (fun _ _=>False) s₁') (fun _ _=>False) s₁) (fun _ _=>False) s)
  (n:Nat) (h:I n s):codeAny (model prog w) A (.compLoop (.ListComp elt [⟨target,iter,ifs,0⟩] scope pos) 0 it acc env) R s:=by
 refine codeAny_loop rfl I (fun n s hI=>?_) n h
 show wpAny _ A ((compTurn (.ListComp elt [⟨target,iter,ifs,0⟩] scope pos) 0 it acc env).onRaise (fun x=>do noteFrame x env;theTreesLotGoes x)) _ _ s
 refine wpAny_noted ?_
 rw [compTurn_list]
 refine wpAny_mono (E:=fun _ _=>False) ?_ (fun _ _ q=>q) (fun _ _ q=>q.elim)
 refine wpAny_bind (wpAny_standAt (wpAny_bind (wpAny_mono (turn n s hI) (fun r s₁ h₁=>?_) fun _ _ h'=>h')))
 cases r with
 | none=>exact wpAny_pure h₁
 | some v =>
  refine wpAny_bind (wpAny_mono h₁ (fun _ s₁' h₁'=>?_) fun _ _ h'=>h')
  refine wpAny_bind (wpAny_mono h₁' (fun _ s₂ h₂=>wpAny_bind (wpAny_mono h₂ (fun ok s₃ h₃=>?_) fun _ _ h'=>h')) fun _ _ h'=>h')
  cases ok with
  | false=>exact wpAny_pure ⟨rfl,h₃⟩
  | true =>
   exact wpAny_bind (wpAny_bind (wpAny_mono h₃ (fun x s₄ h₄=>wpAny_bind (wpAny_mono h₄ (fun _ s₅ h₅=>wpAny_pure (wpAny_pure ⟨rfl,h₅⟩)) fun _ _ h'=>h')) fun _ _ h'=>h'))
end
def clOf (f:Str->Option Addr):List (Str×NameKind)->List (Str×Addr)->List (Str×Addr)
 | [],acc=>acc
 | (n,k)::r,acc=>if k == .free then (match f n with
  | some c=>clOf f r ((n,c)::acc)
  | none=>clOf f r acc) else clOf f r acc
theorem QfJ {f:Str->Option Addr}:∀ {names:List (Str×NameKind)} {acc:List (Str×Addr)} {x:Str} {c:Addr},(x,c)∈clOf f names acc->(x,c)∈acc\/f x=some c
 | [],acc,x,c,h=>.inl h
 | (n,k)::r,acc,x,c,h=>by
  unfold clOf at h
  split at h
  ·cases e:f n with
   | none=>rw [e] at h;exact QfJ h
   | some c' =>
    rw [e] at h
    rcases QfJ h with z | z
    ·rcases List.mem_cons.mp z with z | z
     ·cases z;exact .inr e
     ·exact .inl z
    ·exact .inr z
  ·exact QfJ h
theorem QfM {f:Str->Option Addr}:∀ {names:List (Str×NameKind)} {acc:List (Str×Addr)} {p:Str×Addr},p∈acc->p∈clOf f names acc
 | [],acc,p,h=>h
 | (n,k)::r,acc,p,h=>by
  unfold clOf
  split
  ·cases e:f n with
   | none=>exact QfM h
   | some c'=>exact QfM (List.mem_cons_of_mem _ h)
  ·exact QfM h
theorem Qf2 {f:Str->Option Addr}:∀ {names:List (Str×NameKind)} {acc:List (Str×Addr)} {x:Str} {c:Addr},(x,NameKind.free)∈names->f x=some c->∃ c',(x,c')∈clOf f names acc
 | [],acc,x,c,h,_=>nomatch h
 | (n,k)::r,acc,x,c,h,hf=>by
  unfold clOf
  rcases List.mem_cons.mp h with z | z
  ·cases z
   rw [if_pos (by decide),hf]
   exact ⟨c,QfM List.mem_cons_self⟩
  ·split
   ·cases e:f n with
    | none=>exact Qf2 z hf
    | some c'=>exact Qf2 z hf
   ·exact Qf2 z hf
theorem Ql6 {scope:Scope} {env:Env} (h:∀ y∈scope.names,y.2=.free->∃ c,env.cells.lookup y.1=some c):closureFor scope env=pure (clOf (fun x=>env.cells.lookup x) scope.names []):=by
 unfold closureFor
 suffices H:∀ (names:List (Str×NameKind)) (acc:List (Str×Addr)),(∀ y∈names,y.2=.free->∃ c,env.cells.lookup y.1=some c) ->
   (forIn names acc fun x cs=>do
    match x with
    | (name,kind)=>if (kind == .free)=true then do
      let a ← cellOf env name
      pure (ForInStep.yield ((name,a)::cs)) else pure (ForInStep.yield cs):Sem (List (Str×Addr)))=pure (clOf (fun x=>env.cells.lookup x) names acc) by
  have:=H scope.names [] h
  simp only [bind_pure] at this ⊢
  exact this
 intro names
 induction names with
 | nil=>intro acc _;rfl
 | cons y r ih =>
  intro acc hh
  obtain ⟨n,k⟩:=y
  rw [List.forIn_cons]
  by_cases hk:(k == NameKind.free)=true
  ·obtain ⟨c,hc⟩:=hh (n,k) List.mem_cons_self (by simpa using hk)
   simp only [hk,if_true,cellOf,hc,pure_bind,clOf]
   exact ih _ fun z hz=>hh z (List.mem_cons_of_mem _ hz)
  ·have hk':(k == NameKind.free)=false:=by simpa using hk
   simp only [hk',Bool.false_eq_true,if_false,pure_bind,clOf]
   exact ih _ fun z hz=>hh z (List.mem_cons_of_mem _ hz)
theorem QfS {env:Env}:∀ {names:List (Str×NameKind)} {x:Str},(∀ y∈names,y.2≠.cell) ->
  ((names.map fun (n,k)=>if (k == NameKind.free && env.scope.kind == .function && env.kindOf n == some .cell) then (n,NameKind.cell) else (n,k)).lookup x=some .cell \/
   (names.map fun (n,k)=>if (k == NameKind.free && env.scope.kind == .function && env.kindOf n == some .cell) then (n,NameKind.cell) else (n,k)).lookup x=some .free)->(x,NameKind.free)∈names
 | [],x,_,h=>by simp at h
 | (n,k)::r,x,hc,h=>by
  have ih:=@QfS env r x fun y hy=>hc y (List.mem_cons_of_mem _ hy)
  simp only [List.map_cons] at h
  by_cases hk:(k == NameKind.free && env.scope.kind == .function && env.kindOf n == some .cell)=true
  ·rw [if_pos hk] at h
   by_cases hx:(x == n)=true
   ·have:x=n:=by simpa using hx
    subst this
    have hkf:k=.free:=by
     simp only [Bool.and_eq_true,beq_iff_eq] at hk
     exact hk.1.1
    subst hkf
    exact List.mem_cons_self
   ·have hx':(x == n)=false:=by simpa using hx
    simp only [List.lookup_cons,hx'] at h
    exact List.mem_cons_of_mem _ (ih h)
  ·rw [if_neg hk] at h
   by_cases hx:(x == n)=true
   ·have:x=n:=by simpa using hx
    subst this
    simp only [List.lookup_cons,beq_self_eq_true] at h
    rcases h with h | h
    ·have:=hc (x,k) List.mem_cons_self
     exact absurd (Option.some.inj h) this
    ·have hkf:k=.free:=Option.some.inj h
     subst hkf
     exact List.mem_cons_self
   ·have hx':(x == n)=false:=by simpa using hx
    simp only [List.lookup_cons,hx'] at h
    exact List.mem_cons_of_mem _ (ih h)
theorem QlX {l:List (Str×Addr)} {x:Str} {c:Addr} (h:(x,c)∈l):∃ c',l.lookup x=some c':=by
 induction l with
 | nil=>cases h
 | cons p r ih =>
  obtain ⟨n,a⟩:=p
  by_cases hx:(x == n)=true
  ·exact ⟨a,by simp only [List.lookup_cons,hx]⟩
  ·have hx':(x == n)=false:=by simpa using hx
   simp only [List.lookup_cons,hx']
   rcases List.mem_cons.mp h with z | z
   ·cases z;simp at hx
   ·exact ih z
structure CNames (X:Cx) (scope:Scope) (N':List Str) (k:Nat) (ix:List Nat):Prop where
 cell:∀ y∈scope.names,y.2≠.cell
 kind:scope.kind=.function
 loc:∀ y∈scope.names,y.2=.local->scope.names.lookup y.1=some .local
 fre:∀ y∈scope.names,y.2=.free->X.env.kindOf y.1=some .cell\/X.env.kindOf y.1=some .free
 len:N'.length=k + ix.length
 ref:∀ (j i:Nat) (x:Str),ix[j]? = some i->N'[k + j]? = some x->X.N[i]? = some x/\(X.env.kindOf x=some .cell\/X.env.kindOf x=some .free)/\(relabel scope X.env).names.lookup x≠some .local
abbrev clX (X:Cx) (scope:Scope):List (Str×Addr):=clOf (fun x=>X.env.cells.lookup x) scope.names []
def blk (X:Cx) (N':List Str) (scope:Scope) (C:Addr) (s2:Shared) (H2:Hp) (fp:List Addr) (pins:List (Addr×Obj)):Cx :=
 { X with N:=N',s₀:=s2,H₀:=H2,env:=compEnvC scope (clX X scope) C X.env,outer:=X.stack,ex:=fp,fn:=fun _=>false,pn:=X.pn++pins,xe:=fun _ _=>False }
def σin (k:Nat) (ix:List Nat) (σ:St):St:=List.replicate k none++ix.map fun i=>(σ[i]?).join
section
variable {X:Cx} {pins:List (Addr×Obj)} {σ:St} {H2:Hp} {s2:Shared} {scope:Scope} {N':List Str} {k:Nat} {ix:List Nat} {fp:List Addr}
theorem Qd3 {x:Str} {c:Addr} (h:(clX X scope).lookup x=some c):X.env.cells.lookup x=some c:=by
 rcases QfJ (PySem.mem_of_lookup h) with z | z
 ·cases z
 ·exact z
theorem Qnf {C D:Addr} {h1:Heap} {tk:Nat} {m0:Str->Option Value} (I:Inv X pins σ H2 s2) (hf:∀ b∈fp,FpOk X pins H2 b) (hfo:∀ b∈fp,b < s2.heap.objs.size) (S:CNames X scope N' k ix) (hD:D=s2.heap.objs.size) (hC:s2.heap.objs.size < C)
  (hns:h1.Ns C m0) (hk:∀ b o,s2.heap.get? b=some o->h1.get? b=some o) (hl:h1.get? D=some { cls:=.type "list",data:=.seq ([]:List Value).toArray }) :
  Inv (blk X N' scope C s2 H2 fp pins) [] (σin k ix σ) (upd H2 D (.lst [])) { s2 with heap:=h1,toks:=tk }:=by
 have hDn:H2 D=none:=I.hok.fresh (by rw [hD];exact Nat.le_refl _)
 have hCD:C≠D:=by rw [hD];exact Nat.ne_of_gt hC
 have freshC:H2 C=none:=I.hok.fresh (Nat.le_of_lt hC)
 have has:∀ x,((compEnvC scope (clX X scope) C X.env).kindOf x=some .cell\/(compEnvC scope (clX X scope) C X.env).kindOf x=some .free)->∃ c,(clX X scope).lookup x=some c:=fun x hx=>by
  have hm:=QfS (env:=X.env) S.cell hx
  obtain ⟨c,hc⟩:=I.ok.has x (S.fre _ hm rfl)
  obtain ⟨c',hc'⟩:=Qf2 (f:=fun x=>X.env.cells.lookup x) (acc:=[]) hm hc
  exact QlX hc'
 refine ⟨⟨I.ok.mod,S.kind,I.ok.glob,I.ok.blt,Nat.le_of_lt hC,fun x y c h1 h2=>I.ok.inj x y c (Qd3 h1) (Qd3 h2),has,fun x c z _=>absurd z Bool.false_ne_true,I.ok.hd,I.ok.frames,.inl rfl,fun b hb=>?_,I.bs,Nat.le_trans I.ok.bsz I.sz,fun b o e hb=>?_,fun b hb hs=>?_,I.stack,I.stkFree⟩,
  rfl,I.bare,?_,⟨m0,hns,fun i x v e1 e2 e3=>?_⟩,fun x c e=>?_,?_,fun x c e=>?_,fun p hp=>?_,?_,?_⟩
 ·exact ⟨Nat.ne_of_lt (Nat.lt_trans (hfo b hb) hC),fun x c e z=>(hf b hb).2.2.2.2.1 x c (Qd3 e) z⟩
 ·rcases (hf b hb).2.2.2.1 with z | z
  ·exact I.ok.noex b o e z
  ·exact absurd (Nat.lt_of_lt_of_le (Heap.lt_size e) (Nat.le_trans I.ok.bsz z)) (Nat.lt_irrefl _)
 ·rcases List.mem_cons.mp (I.stkSub b hs) with z | z
  ·exact (hf b hb).2.1 z
  ·exact (hf b hb).2.2.1 z
 ·exact (Un.laid (fun b u q=>hk b u q) (by rw [hD];exact Nat.le_refl _) hDn)
 ·have e2':(List.replicate k none++ix.map fun i=>(σ[i]?).join)[i]? = some (some v):=e2
  have hik:k<=i:=by
   rcases Nat.lt_or_ge i k with z | z
   ·rw [List.getElem?_append_left (by simpa using z),List.getElem?_replicate,if_pos z] at e2'
    cases e2'
   ·exact z
  obtain ⟨j,rfl⟩:∃ j,i=k + j:=⟨i - k,by lia⟩
  rw [List.getElem?_append_right (by simp),List.length_replicate,Nat.add_sub_cancel_left,List.getElem?_map] at e2'
  cases ej:ix[j]? with
  | none=>rw [ej] at e2';cases e2'
  | some i0 =>
   rw [ej] at e2'
   have e4:(σ[i0]?).join=some v:=Option.some.inj e2'
   have e5:σ[i0]? = some (some v):=by
    cases q:σ[i0]? with
    | none=>rw [q] at e4;cases e4
    | some z=>rw [q] at e4;exact congrArg some e4
   obtain ⟨r1,r2,r3⟩:=S.ref j i0 x ej e1
   obtain ⟨m,_,hl'⟩:=I.loc
   obtain ⟨u,hu,lk⟩:=hl' i0 x v r1 e5 (by rcases r2 with z | z;exact .inr (.inl z);exact .inr (.inr z))
   refine ⟨u,hu,?_⟩
   rcases lk with ⟨z,_⟩ | ⟨_,c,hc,hcell⟩
   ·rcases r2 with q | q <;> rw [z] at q <;> cases q
   ·have kk:(compEnvC scope (clX X scope) C X.env).kindOf x=some .cell\/(compEnvC scope (clX X scope) C X.env).kindOf x=some .free:=by
     rcases e3 with q | q
     ·exact absurd q r3
     ·exact q
    obtain ⟨c',hc'⟩:=has x kk
    have:=Qd3 hc'
    rw [hc] at this;cases this
    obtain ⟨o,ho,hd⟩:=hcell
    exact .inr ⟨kk,c,hc',o,hk _ _ ho,hd⟩
 ·obtain ⟨v,hv⟩:=I.cell x c (Qd3 e)
  obtain ⟨o,ho,hd⟩:=hv
  exact ⟨v,o,hk _ _ ho,hd⟩
 ·show upd H2 D (.lst []) C=none
  rw [Qt hCD];exact freshC
 ·have e':=Qd3 (X:=X) e
  show upd H2 D (.lst []) c=none
  obtain ⟨v,o,ho,_⟩:=I.cell x c e'
  rw [Qt (by rw [hD];exact Nat.ne_of_lt (Heap.lt_size ho))]
  exact I.freeC x c e'
 ·have hp':p∈X.pn++pins:=by
   have z:p∈(X.pn++pins)++[]:=hp
   rwa [List.append_nil] at z
  obtain ⟨q1,q2,q3,q4,q5⟩:=I.pin p hp'
  have lt:=Heap.lt_size q1
  refine ⟨hk _ _ q1,?_,Nat.ne_of_lt (Nat.lt_trans lt hC),fun z=>?_,q5⟩
  ·show upd H2 D (.lst []) p.1=none
   rw [Qt (by rw [hD];exact Nat.ne_of_lt lt)];exact q2
  ·rcases List.mem_cons.mp (I.stkSub p.1 z) with y | y
   ·exact q3 y
   ·exact q4 y
 ·exact I.hok.laid hk (by rw [hD];exact Nat.le_refl _) ⟨by simp,[],0,.nil,hl⟩
 ·show (List.replicate k none++ix.map fun i=>(σ[i]?).join).length=N'.length
  rw [S.len];simp
def PCs (X:Cx) (ifs:List Expr) (t:TT):Prop:=∀ (pins:List (Addr×Obj)) (s:Shared) (σ:St) (H:Hp) (Q:Bool->Hp->Prop),Inv X pins σ H s->t σ H Q ->
 wpAny (model X.prog X.w) X.A (forIn ifs true fun c r=>if r=true then do let ok ← isTrue c X.env (eval c X.env);pure (ForInStep.yield ok) else pure (ForInStep.yield r)) (TP X pins σ Q) X.xe s
def tYes:TT:=fun _ H Q=>Q true H
theorem QpF {X:Cx}:PCs X [] tYes:=fun pins s σ H Q I h=>wpAny_tests_nil ⟨H,I,h⟩
theorem Qpa {X:Cx} {c:Expr} {t:TT} (h:PT X c t):PCs X [c] t:=fun pins s σ H Q I q=>wpAny_tests_one (h pins s σ H Q I q)
def QkG (wi:TI) (g:TG) (gt:TT) (te:TE) (k:Nat) (ix:List Nat):TE:=fun σ H Q=>wi σ H fun J H1=>∀ D,H1 D=none->∃ W:Nat->Nat->St->List V->Hp->Prop,(∃ m,W 0 m (σin k ix σ) [] (upd H1 D (.lst []))) /\
 ∀ i m σ ys H,W i m σ ys H->H D=some (.lst ys)/\((J.stop i H/\Q (.ref D) H)\/(J.go i H/\ys.length < sizeLine/\∃ N:St->List V->Hp->Prop,(∀ σ' ys' H',N σ' ys' H'->∃ m',m' < m/\W (i + 1) m' σ' ys' H') /\
  ∀ x H',J.yld i H x H'->g x σ H' fun σ2 H2=>gt σ2 H2 fun b H3=>if b=true then te σ2 H3 fun y H4=>H4 D=some (.lst ys)/\N σ2 (ys++[y]) (upd H4 D (.lst (ys++[y]))) else N σ2 ys H3))
theorem Qlv {iter elt tg:Expr} {ifs:List Expr} {pos cpos:Pos} {wi:TI} {g:TG} {gt:TT} {te:TE} (hc:X.calm=true) (S:CNames X scope N' k ix) (hi:PI X tg iter wi)
  (hb:∀ C s2 H2 fp pins,PG (blk X N' scope C s2 H2 fp pins) tg g/\PCs (blk X N' scope C s2 H2 fp pins) ifs gt/\PE (blk X N' scope C s2 H2 fp pins) elt te)
  (hs:∀ x,foldedSetIterable iter X.env x=pure x) {use:Option (Value->Sem Unit)} {Q':Value->Shared->Prop} {pins:List (Addr×Obj)} {s:Shared} {σ:St} {H:Hp} {Q:VK} (I:Inv X pins σ H s) (h:QkG wi g gt te k ix σ H Q)
  (fin:∀ (D C:Addr) (H4:Hp) (s5:Shared),FpOk X pins H4 C->(∃ m,s5.heap.Ns C m)->(∀ h',Heap.SameBut C s5.heap h'->Inv X pins σ H4 { s5 with heap:=h' })->Q (.ref D) H4->compPost (model X.prog X.w) X.A X.xe use Q' (.ref D) C (.ok .next) s5) :
  wpAny (model X.prog X.w) X.A (comprehension (.ListComp elt [⟨tg,iter,ifs,0⟩] scope pos) scope X.env cpos (newList []) false (eval iter X.env) use) Q' X.xe s:=by
 have hcl:closureFor scope X.env=pure (clX X scope):=Ql6 fun y hy hk=>I.ok.has y.1 (S.fre y hy hk)
 refine wpAny_comprehension_free (use:=use) rfl hs hcl S.kind S.loc (wpAny_mono (hi pins s σ H _ I h) (fun v s1 h1=>wpAny_mono h1 (fun itv s2 h2=>?_) fun _ _ e=>e) fun _ _ e=>e)
 obtain ⟨it,fp,tn,J,H2,e,I2,T,st2,f2,q⟩:=h2
 subst e
 refine wpAny_newObj_type (wpAny_newFunctionEnv S.cell (by intro y hy;simp at hy) (fun h₁ hns₁ hsb₁=>?_) S.kind)
 dsimp only at hns₁ hsb₁ ⊢
 generalize hH2:s2.heap.push { cls:=.type "list",dict:=none,data:=.seq ([]:List Value).toArray }=G2 at hns₁ hsb₁ ⊢
 have hC:G2.objs.size=s2.heap.objs.size + 1:=by rw [← hH2,Heap.size_push]
 have hDC:s2.heap.objs.size≠G2.objs.size:=by rw [hC];exact Nat.ne_of_lt (Nat.lt_succ_self _)
 have Qij:∀ b,b < s2.heap.objs.size->b≠G2.objs.size:=fun b hb=>by rw [hC];exact Nat.ne_of_lt (Nat.lt_succ_of_lt hb)
 have old:∀ b o,s2.heap.get? b=some o->h₁.get? b=some o:=fun b o e=>hsb₁.extBut b o (Qij b (Heap.lt_size e)) (Heap.get?_push_of_some _ (hH2 ▸ Heap.get?_push_of_some _ e))
 have hacc:h₁.get? s2.heap.objs.size=some { cls:=.type "list",data:=.seq ([]:List Value).toArray }:=hsb₁.extBut _ _ hDC (Heap.get?_push_of_some _ (hH2 ▸ Heap.get?_push_size _ rfl))
 obtain ⟨W,⟨m0,w0⟩,turn⟩:=q s2.heap.objs.size (I2.hok.fresh (Nat.le_refl _))
 have hfo:∀ b∈fp,b < s2.heap.objs.size:=fun b hb=>by
  obtain ⟨o,ho,_⟩:=T.obj _ _ st2 b hb
  exact Heap.lt_size ho
 have I3:=Qnf (C:=G2.objs.size) (D:=s2.heap.objs.size) (h1:=h₁) (tk:=s2.toks + ([]:List (Str×Value)).length) I2 f2 hfo S rfl (by rw [hC];exact Nat.lt_succ_self _) hns₁ old hacc
 have st3:tn 0 h₁:=T.keep _ _ _ st2 fun b hb o e=>old b o e
 obtain ⟨hg,hcs,he⟩:=hb G2.objs.size s2 H2 fp pins
 have fpo:∀ {H':Hp},(∀ b∈fp,H' b=none)->∀ b∈fp,FpOk (blk X N' scope G2.objs.size s2 H2 fp pins) [] H' b:=fun hn b hb=>by
  obtain ⟨_,q1,q2,_,q4,q5⟩:=f2 b hb
  refine ⟨hn b hb,Nat.ne_of_lt (Nat.lt_trans (hfo b hb) (by rw [hC];exact Nat.lt_succ_self _)),fun z=>?_,.inl hb,fun x c e z=>q4 x c (Qd3 e) z,fun p hp=>?_⟩
  ·rcases List.mem_cons.mp (I2.stkSub b z) with y | y
   ·exact q1 y
   ·exact q2 y
  ·have z:p∈(X.pn++pins)++[]:=hp
   rw [List.append_nil] at z
   exact q5 p z
 have loop:∀ s3:Shared,s3={ s2 with heap:=h₁,toks:=s2.toks + ([]:List (Str×Value)).length } ->
   codeAny (model X.prog X.w) X.A (.compLoop (.ListComp elt [⟨tg,iter,ifs,0⟩] scope pos) 0 (.ref it) (.ref s2.heap.objs.size) (compEnvC scope (clX X scope) G2.objs.size X.env))
    (compPost (model X.prog X.w) X.A X.xe use Q' (.ref s2.heap.objs.size) G2.objs.size) s3:=by
  rintro s3 rfl
  refine Qm7 (fun n s'=>∃ i σ' ys H',Inv (blk X N' scope G2.objs.size s2 H2 fp pins) [] σ' H' s'/\tn i s'.heap/\(∀ b∈fp,H' b=none)/\W i n σ' ys H') ?_ m0 ⟨0,_,[],_,I3,st3,fun b hb=>?_,w0⟩
  ·rintro n s4 ⟨i,σ4,ys,H4,I4,st4,fr4,w4⟩
   obtain ⟨hD4,w5⟩:=turn i n σ4 ys H4 w4
   rcases w5 with ⟨stop,qn⟩ | ⟨go,hlen,N,hN,step⟩
   ·refine thn (T.done (blk X N' scope G2.objs.size s2 H2 fp pins) rfl rfl rfl hc i [] s4 σ4 H4 (fun _ _=>False) I4 (fpo fr4) st4 stop) fun r s5 ⟨hr,I5⟩=>?_
    subst hr
    obtain ⟨m5,ns5,_⟩:=I5.loc
    have nC0:H4 G2.objs.size=none:=I5.free
    refine fin _ _ H4 s5 (I2.fpOk (by rw [hC];exact Nat.le_succ _) nC0) ⟨m5,ns5⟩ (fun h' hs'=>?_) qn
    have off:∀ b o,b≠G2.objs.size->s5.heap.get? b=some o->h'.get? b=some o:=fun b o hb e=>hs'.extBut b o hb e
    have nC:H4 G2.objs.size=none:=I5.free
    have ne2:∀ b o,s2.heap.get? b=some o->b≠G2.objs.size:=fun b o e=>Qij b (Heap.lt_size e)
    have u5:=I5.base
    have un:Un (frs X.stack) fp H2 H4 s2.heap h':=⟨fun b o e n hb hx=>off b o (ne2 b o e) (u5.keep b o e n hb hx),fun b o e n hb hx=>by
      obtain ⟨sl,q⟩:=u5.slot b o e n hb hx
      exact ⟨sl,off b _ (ne2 b o e) q⟩,u5.free,fun b o e hx=>by
      obtain ⟨o',q⟩:=u5.there b o e hx
      exact ⟨o',off b o' (ne2 b o e) q⟩,u5.tups,u5.frzs,u5.tbls⟩
    have hok:HOk X.prog X.w H4 h':=fun b u e=>(I5.hok b u e).stay (fun c v hc q=>off c v (fun z=>by
      rcases hc with y | y
      ·rw [← y,z,nC] at e;cases e
      ·rw [z,nC] at y;cases y) q) (fun _ q=>q) fun _ _ q=>q
    exact I2.call' (s':={ s5 with heap:=h' }) (ch:=fp) I5.os un hok I5.bare (fun b hb=>by
     obtain ⟨_,q1,_,q3,q4,q5⟩:=f2 b hb
     exact ⟨q3,q1,q4,q5⟩)
   ·refine thn (T.item (blk X N' scope G2.objs.size s2 H2 fp pins) rfl rfl rfl hc i [] s4 σ4 H4 (fun _ _=>False) I4 (fpo fr4) st4 go) fun r s5 ⟨u,hr,h5⟩=>?_
    subst hr
    refine thn h5 fun _ s6 ⟨x,H6,I6,r6,y6,st6,fr6⟩=>?_
    have I6':=I6.pinned (fpo fr6) (T.obj _ _ st6)
    refine thn (hg _ s6 σ4 H6 x u _ I6' r6 (step x H6 y6)) fun _ s7 ⟨σ7,H7,I7,q7⟩=>?_
    refine thn (hcs _ s7 σ7 H7 _ I7 q7) fun ok s8 ⟨H8,I8,q8⟩=>?_
    have again:∀ {σ9:St} {zs:List V} {H9:Hp} {s9:Shared},Inv (blk X N' scope G2.objs.size s2 H2 fp pins) ([]++Qgo fp s6.heap) σ9 H9 s9->N σ9 zs H9 ->
      ∃ m,m < n/\∃ i σ' ys H',Inv (blk X N' scope G2.objs.size s2 H2 fp pins) [] σ' H' s9/\tn i s9.heap/\(∀ b∈fp,H' b=none)/\W i m σ' ys H':=fun {σ9 zs H9 s9} I9 n9=>by
     obtain ⟨m',hm,w9⟩:=hN σ9 zs H9 n9
     refine ⟨m',hm,i + 1,σ9,zs,H9,I9.unpinned,T.keep _ _ _ st6 fun b hb o e=>(I9.pin (b,o) (List.mem_append_right _ (List.mem_append_right _ (Qda hb e)))).1,fun b hb=>?_,w9⟩
     obtain ⟨o,e,d⟩:=T.obj _ _ st6 b hb
     exact (I9.pin (b,o) (List.mem_append_right _ (List.mem_append_right _ (Qda hb e)))).2.1
    cases ok with
    | false=>exact again I8 q8
    | true =>
     refine thn (he _ s8 σ7 H8 _ I8 q8) fun xv s9 ⟨y,H9,I9,r9,hD9,n9⟩=>?_
     exact thn (Qjs (X:=blk X N' scope G2.objs.size s2 H2 fp pins) _ s9 σ7 H9 (.ref s2.heap.objs.size) [y] _ _ (fun v H'=>H'=upd H9 s2.heap.objs.size (.lst (ys++[y]))) I9 rfl (.cons r9 .nil) ⟨_,ys,y,rfl,rfl,hD9,hlen,rfl⟩)
      fun _ s10 ⟨v10,H10,I10,_,e10⟩=>by subst e10;exact again I10 n9
  ·show upd H2 s2.heap.objs.size (.lst []) b=none
   rw [Qt (Nat.ne_of_lt (hfo b hb))]
   exact (f2 b hb).1
 exact codeAny_compStart_list (loop _ rfl) (T.self _ 0 _ _ _ st3 (loop _ rfl))
theorem Qo0 {iter elt tg:Expr} {ifs:List Expr} {pos:Pos} {wi:TI} {g:TG} {gt:TT} {te:TE} (hc:X.calm=true) (S:CNames X scope N' k ix) (hi:PI X tg iter wi)
  (hb:∀ C s2 H2 fp pins,PG (blk X N' scope C s2 H2 fp pins) tg g/\PCs (blk X N' scope C s2 H2 fp pins) ifs gt/\PE (blk X N' scope C s2 H2 fp pins) elt te)
  (hs:∀ x,foldedSetIterable iter X.env x=pure x:=by intro _;rfl):PE X (.ListComp elt [⟨tg,iter,ifs,0⟩] scope pos) (QkG wi g gt te k ix):=by
 intro pins s σ H Q I h
 rw [eval_ListComp]
 refine Qlv hc S hi hb hs I h fun D C H4 s5 _ ⟨m5,ns5⟩ iv q=>⟨m5,ns5,fun h' hs'=>⟨.ref D,H4,iv h' hs',rfl,q⟩⟩
theorem QpA {i:Nat} {x:Str} {pos' spos:Pos} {iter elt tg:Expr} {ifs:List Expr} {pos:Pos} {wi:TI} {g:TG} {gt:TT} {te:TE} (hN:X.N.Nodup) (hx0:X.N[i]? = some x) (hx:Loc X.env.scope x)
  (hsw:swapsWith (.ListComp elt [⟨tg,iter,ifs,0⟩] scope pos) (some (.Name x pos')) spos.line X.env=pure true)
  (hf:X.fn x=true\/X.env.scope.names.lookup x=some .local) (hc:X.calm=true) (S:CNames X scope N' k ix) (hi:PI X tg iter wi)
  (hb:∀ C s2 H2 fp pins,PG (blk X N' scope C s2 H2 fp pins) tg g/\PCs (blk X N' scope C s2 H2 fp pins) ifs gt/\PE (blk X N' scope C s2 H2 fp pins) elt te)
  (hs:∀ x,foldedSetIterable iter X.env x=pure x:=by intro _;rfl):PS X (.Assign [.Name x pos'] (.ListComp elt [⟨tg,iter,ifs,0⟩] scope pos) spos) (tAsg (QkG wi g gt te k ix) (Qmi i)):=by
 intro pins s σ H D I h
 rw [exec_Assign_Name_used _ _ _ _ hsw]
 refine wpAny_bind (wpAny_standAt (wpAny_bind ?_))
 show wpAny _ X.A (do let _ ← comprehension (.ListComp elt [⟨tg,iter,ifs,0⟩] scope pos) scope X.env _ (newList []) false (eval iter X.env) (some (assign (.Name x pos') X.env))) _ _ s
 refine wpAny_bind (wpAny_mono (Qlv (use:=some (assign (.Name x pos') X.env)) (Q':=fun _ s'=>SP X pins D .next s') hc S hi hb hs I h fun D' C H4 s5 fp ⟨m5,ns5⟩ iv q=>?_) (fun _ s' hq=>wpAny_pure (wpAny_pure hq)) fun _ _ e=>e)
 show wpAny _ X.A (assign (.Name x pos') X.env (.ref D')) _ _ s5
 have J:Inv X pins σ H4 s5:=iv s5.heap (Heap.SameBut.refl _ _)
 obtain ⟨oC,e1,e2,hoC,e3⟩:=id ns5
 have J':Inv X (pins++Qgo [C] s5.heap) σ H4 s5:=J.pinned (fp:=[C]) (fun b hb=>by rw [List.mem_singleton.mp hb];exact fp) fun b hb=>by
  rw [List.mem_singleton.mp hb]
  refine ⟨oC,hoC,fun v hv=>?_⟩
  rw [hv] at e3
  simp at e3
 refine wpAny_assign_Name (QiA J' hN hx0 hx (show RelV (.ref D') (.ref D') from rfl) (fun s6 I6=>?_) hf)
 have pC:=I6.pin (C,oC) (List.mem_append_right _ (List.mem_append_right _ (Qda List.mem_cons_self hoC)))
 refine ⟨m5,⟨oC,e1,e2,pC.1,e3⟩,fun h' hs'=>?_⟩
 obtain ⟨q0,q1,q2,q3,q4,q5⟩:=fp
 have off:∀ b o,b≠C->s6.heap.get? b=some o->h'.get? b=some o:=fun b o hb e=>hs'.extBut b o hb e
 have un:Un (frs X.stack) [C] H4 H4 s6.heap h':=⟨fun b o e _ _ hx=>off b o (fun z=>hx (by rw [z];exact List.mem_cons_self)) e,fun b o e _ _ hx=>⟨o.slots,off b o (fun z=>hx (by rw [z];exact List.mem_cons_self)) e⟩,
  fun _ _ _ n _=>n,fun b o e hx=>⟨o,off b o (fun z=>hx (by rw [z];exact List.mem_cons_self)) e⟩,fun _ _ e=>e,fun _ _ _ e=>e,fun b ps e=>⟨#[],by rw [Array.append_empty];exact e⟩⟩
 have hok:HOk X.prog X.w H4 h':=fun b u e=>(I6.hok b u e).stay (fun c v hc q=>off c v (fun z=>by
   rcases hc with y | y
   ·rw [← y,z,q0] at e;cases e
   ·rw [z,q0] at y;cases y) q) (fun _ q=>q) fun _ _ q=>q
 exact ⟨_,H4,I6.unpinned.call' (s':={ s6 with heap:=h' }) (ch:=[C]) rfl un hok I6.bare (fun b hb=>by
  rw [List.mem_singleton.mp hb]
  exact ⟨q3,q1,q4,q5⟩),q⟩
structure CompR (X:Cx) (e:Expr) (te:TE):Prop where
 pe:PE X e te
 ps:∀ (i:Nat) (x:Str) (pos' spos:Pos),X.N.Nodup->X.N[i]? = some x->Loc X.env.scope x->swapsWith e (some (.Name x pos')) spos.line X.env=pure true->(X.fn x=true\/X.env.scope.names.lookup x=some .local)->PS X (.Assign [.Name x pos'] e spos) (tAsg te (Qmi i))
theorem CompR.imp {e:Expr} {te te':TE} (h:CompR X e te) (k:∀ σ H Q,te' σ H Q->te σ H Q):CompR X e te' :=
 ⟨h.pe.imp k,fun i x pos' spos a b c d f=>(h.ps i x pos' spos a b c d f).imp fun D σ H q=>k σ H _ q⟩
theorem Qh6 {iter elt tg:Expr} {ifs:List Expr} {pos:Pos} {wi:TI} {g:TG} {gt:TT} {te:TE} (hc:X.calm=true) (S:CNames X scope N' k ix) (hi:PI X tg iter wi)
  (hb:∀ C s2 H2 fp pins,PG (blk X N' scope C s2 H2 fp pins) tg g/\PCs (blk X N' scope C s2 H2 fp pins) ifs gt/\PE (blk X N' scope C s2 H2 fp pins) elt te)
  (hs:∀ x,foldedSetIterable iter X.env x=pure x:=by intro _;rfl):CompR X (.ListComp elt [⟨tg,iter,ifs,0⟩] scope pos) (QkG wi g gt te k ix) :=
 ⟨Qo0 hc S hi hb hs,fun i x pos' spos a b c d f=>QpA a b c d f hc S hi hb hs⟩
end
end L2
namespace DL
open PySem PySem.Spec PyProof.Rows L2
abbrev St:=L2.St
inductive D where
 | non | bl (b:Bool) | int (i:Int) | str (x:Str) | tup (xs:List D) | lst (xs:List D) | frl (xs:List D) | dic (ks:List Key) (ds:List D) | obj (c:Str) | dip (ks:List (List Key)) (ds:List D) | exc (c:Str) (ks:List Str) (ds:List D)
 deriving Inhabited
structure Exn where
 cls:Str
 args:List D
inductive Ou (α:Type) where
 | ok (a:α) | ex (e:Exn) | bad
def Ou.bind {α β:Type}:Ou α->(α->Ou β)->Ou β
 | .ok a,f=>f a
 | .ex e,_=>.ex e
 | .bad,_=>.bad
@[simp] theorem Qad {α β:Type} (a:α) (f:α->Ou β):(Ou.ok a).bind f=f a:=rfl
@[simp] theorem bind_ex {α β:Type} (e:Exn) (f:α->Ou β):(Ou.ex e:Ou α).bind f=.ex e:=rfl
@[simp] theorem bind_bad {α β:Type} (f:α->Ou β):(Ou.bad:Ou α).bind f=.bad:=rfl
inductive Sl where
 | un | val (d:D) | own (d:D)
abbrev DS:=List Sl
abbrev Fn:=DS->Ou D
def FrK (K:PySem.W.Frag) (H:Hp) (a:Addr) (xs:List V):Prop :=
 (∃ o,H a=some (.frz o (.lst xs))) \/
  ∃ (o:Obj) (its:Array Value) (n:Nat),K.lookup a=some o/\o.cls=.type "list"/\o.dict=none/\o.data=.seq its n/\its.size<=sizeLine/\Vals xs its.toList
theorem FrK.sq {K:PySem.W.Frag} {H:Hp} {a:Addr} {xs:List V} (h:FrK K H a xs):SqL K H a xs:=by
 rcases h with ⟨o,h⟩ | h
 ·exact .inl (.inr ⟨o,h⟩)
 ·exact .inr h
def ExcAt (H:Hp) (a C:Addr) (dx:Option Addr):Prop:=∃ φ,H a=some (.ext φ)/\∀ h:Heap,φ h->∃ o,h.get? a=some o/\o.cls=.ref C/\o.dict=dx
mutual
def Rep (K:PySem.W.Frag) (B:Addr->Prop) (H:Hp):D->V->Prop
 | .non,v=>v=.non
 | .bl b,v=>v=.bl b
 | .int i,v=>v=.int i
 | .str x,v=>v=.str x
 | .tup ds,v=>∃ a xs,v=.ref a/\SqT K H a xs/\Reps K B H ds xs
 | .lst ds,v=>∃ a xs,v=.ref a/\B a/\H a=some (.lst xs)/\Reps K B H ds xs
 | .frl ds,v=>∃ a xs,v=.ref a/\FrK K H a xs/\Reps K B H ds xs
 | .dic ks ds,v=>∃ a kvs,v=.ref a/\B a/\Rd H a (.dK kvs)/\kvs.map (·.1)=ks/\Reps K B H ds (kvs.map (·.2))
 | .obj c,v=>∃ a C dx,v=.ref a/\PySem.W.nsIn K mainGlobals c=some (some (.ref C))/\B a/\H a=some (.ins C dx [])
 | .dip ks ds,v=>∃ a kvs,v=.ref a/\B a/\H a=some (.dT kvs)/\kvs.map (·.1)=ks/\Reps K B H ds (kvs.map (·.2))
 | .exc c ks ds,v=>∃ a C dx fs,v=.ref a/\PySem.W.nsIn K mainGlobals c=some (some (.ref C))/\B a/\ExcAt H a C dx/\fs.map (·.1)=ks/\(ks=[]\/∃ d,dx=some d/\B d/\H d=some (.xd fs))/\Reps K B H ds (fs.map (·.2))
def Reps (K:PySem.W.Frag) (B:Addr->Prop) (H:Hp):List D->List V->Prop
 | [],vs=>vs=[]
 | d::ds,vs=>∃ v r,vs=v::r/\Rep K B H d v/\Reps K B H ds r
end
section
variable {K:PySem.W.Frag} {B B':Addr->Prop} {H H':Hp}
theorem Qeu (e:Same H H') {a:Addr} {xs:List V} (h:SqT K H a xs):SqT K H' a xs:=by
 rcases h with (h | ⟨o,h⟩) | h
 ·exact .inl (.inl (e _ _ h))
 ·exact .inl (.inr ⟨o,e _ _ h⟩)
 ·exact .inr h
structure Stay (K:PySem.W.Frag) (B:Addr->Prop) (H H':Hp):Prop where
 tup:∀ a xs,SqT K H a xs->SqT K H' a xs
 frz:∀ a xs,FrK K H a xs->FrK K H' a xs
 keep:∀ a o,B a->H a=some o->H' a=some o
theorem Qou (e:Same H H') {a:Addr} {xs:List V} (h:FrK K H a xs):FrK K H' a xs:=by
 rcases h with ⟨o,h⟩ | h
 ·exact .inl ⟨o,e _ _ h⟩
 ·exact .inr h
theorem Stay.of_same (e:Same H H'):Stay K B H H':=⟨fun _ _ h=>Qeu e h,fun _ _ h=>Qou e h,fun _ _ _ h=>e _ _ h⟩
mutual
theorem Rep.mono (hB:∀ a o,B a->H a=some o->B' a) (hs:Stay K B H H'):∀ (d:D) (v:V),Rep K B H d v->Rep K B' H' d v
 | .non,_,h=>by simpa [Rep] using h
 | .bl _,_,h=>by simpa [Rep] using h
 | .int _,_,h=>by simpa [Rep] using h
 | .str _,_,h=>by simpa [Rep] using h
 | .tup ds,v,h=>by
  simp only [Rep] at h ⊢
  obtain ⟨a,xs,e,h1,h2⟩:=h
  exact ⟨a,xs,e,hs.tup _ _ h1,Reps.mono hB hs ds xs h2⟩
 | .lst ds,v,h=>by
  simp only [Rep] at h ⊢
  obtain ⟨a,xs,e,hb,h1,h2⟩:=h
  exact ⟨a,xs,e,hB _ _ hb h1,hs.keep _ _ hb h1,Reps.mono hB hs ds xs h2⟩
 | .frl ds,v,h=>by
  simp only [Rep] at h ⊢
  obtain ⟨a,xs,e,h1,h2⟩:=h
  exact ⟨a,xs,e,hs.frz _ _ h1,Reps.mono hB hs ds xs h2⟩
 | .dic ks ds,v,h=>by
  simp only [Rep] at h ⊢
  obtain ⟨a,kvs,e,hb,h1,hk,h2⟩:=h
  rcases h1 with h1 | ⟨o,h1⟩
  ·exact ⟨a,kvs,e,hB _ _ hb h1,.inl (hs.keep _ _ hb h1),hk,Reps.mono hB hs ds _ h2⟩
  ·exact ⟨a,kvs,e,hB _ _ hb h1,.inr ⟨o,hs.keep _ _ hb h1⟩,hk,Reps.mono hB hs ds _ h2⟩
 | .obj c,v,h=>by
  simp only [Rep] at h ⊢
  obtain ⟨a,C,dx,e,hn,hb,h1⟩:=h
  exact ⟨a,C,dx,e,hn,hB _ _ hb h1,hs.keep _ _ hb h1⟩
 | .dip ks ds,v,h=>by
  simp only [Rep] at h ⊢
  obtain ⟨a,kvs,e,hb,h1,hk,h2⟩:=h
  exact ⟨a,kvs,e,hB _ _ hb h1,hs.keep _ _ hb h1,hk,Reps.mono hB hs ds _ h2⟩
 | .exc c ks ds,v,h=>by
  simp only [Rep] at h ⊢
  obtain ⟨a,C,dx,fs,e,hn,hb,⟨φ,h1,h2⟩,hk,h3,h4⟩:=h
  refine ⟨a,C,dx,fs,e,hn,hB _ _ hb h1,⟨φ,hs.keep _ _ hb h1,h2⟩,hk,?_,Reps.mono hB hs ds _ h4⟩
  rcases h3 with h3 | ⟨d,h5,h6,h7⟩
  ·exact .inl h3
  ·exact .inr ⟨d,h5,hB _ _ h6 h7,hs.keep _ _ h6 h7⟩
theorem Reps.mono (hB:∀ a o,B a->H a=some o->B' a) (hs:Stay K B H H'):∀ (ds:List D) (vs:List V),Reps K B H ds vs->Reps K B' H' ds vs
 | [],_,h=>by simpa [Reps] using h
 | d::ds,vs,h=>by
  simp only [Reps] at h ⊢
  obtain ⟨v,r,e,h1,h2⟩:=h
  exact ⟨v,r,e,Rep.mono hB hs d v h1,Reps.mono hB hs ds r h2⟩
end
theorem Rep.same {d:D} {v:V} (r:Rep K B H d v) (e:Same H H'):Rep K B H' d v:=Rep.mono (fun _ _ h _=>h) (.of_same e) d v r
theorem Reps.same {ds:List D} {vs:List V} (r:Reps K B H ds vs) (e:Same H H'):Reps K B H' ds vs:=Reps.mono (fun _ _ h _=>h) (.of_same e) ds vs r
theorem Rep.weak {d:D} {v:V} (r:Rep K B H d v) (hB:∀ a,B a->B' a):Rep K B' H d v:=Rep.mono (fun a _ h _=>hB a h) (.of_same (Same.refl H)) d v r
theorem Reps.length:∀ {ds:List D} {vs:List V},Reps K B H ds vs->vs.length=ds.length
 | [],_,h=>by simp only [Reps] at h;rw [h];rfl
 | d::ds,vs,h=>by
  simp only [Reps] at h
  obtain ⟨v,r,rfl,_,h2⟩:=h
  simp [Reps.length h2]
theorem Reps.get:∀ {ds:List D} {vs:List V},Reps K B H ds vs->∀ (i:Nat) (d:D),ds[i]? = some d->∃ v,vs[i]? = some v/\Rep K B H d v
 | [],_,_=>fun i d e=>by simp at e
 | d0::ds,vs,h=>fun i d e=>by
  simp only [Reps] at h
  obtain ⟨v,r,rfl,h1,h2⟩:=h
  cases i with
  | zero=>simp at e;subst e;exact ⟨v,rfl,h1⟩
  | succ i=>simpa using Reps.get h2 i d (by simpa using e)
theorem Reps.append:∀ {ds es:List D} {vs us:List V},Reps K B H ds vs->Reps K B H es us->Reps K B H (ds++es) (vs++us)
 | [],es,vs,us,h,h'=>by simp only [Reps] at h;subst h;simpa using h'
 | d::ds,es,vs,us,h,h'=>by
  simp only [Reps] at h
  obtain ⟨v,r,rfl,h1,h2⟩:=h
  show Reps K B H (d::(ds++es)) (v::(r++us))
  simp only [Reps]
  exact ⟨v,r++us,rfl,h1,Reps.append h2 h'⟩
theorem Reps.one {d:D} {v:V} (h:Rep K B H d v):Reps K B H [d] [v]:=by
 simp only [Reps];exact ⟨v,[],rfl,h,rfl⟩
theorem Reps.take:∀ {ds:List D} {vs:List V} (n:Nat),Reps K B H ds vs->Reps K B H (ds.take n) (vs.take n)
 | [],_,n,h=>by simp only [Reps] at h;subst h;simp [Reps]
 | d::ds,vs,0,h=>by simp [Reps]
 | d::ds,vs,n + 1,h=>by
  simp only [Reps] at h
  obtain ⟨v,r,rfl,h1,h2⟩:=h
  simp only [List.take_succ_cons,Reps]
  exact ⟨v,r.take n,rfl,h1,Reps.take n h2⟩
theorem Reps.drop:∀ {ds:List D} {vs:List V} (n:Nat),Reps K B H ds vs->Reps K B H (ds.drop n) (vs.drop n)
 | [],_,n,h=>by simp only [Reps] at h;subst h;simp [Reps]
 | d::ds,vs,0,h=>by simpa using h
 | d::ds,vs,n + 1,h=>by
  simp only [Reps] at h
  obtain ⟨v,r,rfl,h1,h2⟩:=h
  simpa using Reps.drop n h2
theorem Reps.reverse:∀ {ds:List D} {vs:List V},Reps K B H ds vs->Reps K B H ds.reverse vs.reverse
 | [],_,h=>by simp only [Reps] at h;subst h;simp [Reps]
 | d::ds,vs,h=>by
  simp only [Reps] at h
  obtain ⟨v,r,rfl,h1,h2⟩:=h
  rw [List.reverse_cons,List.reverse_cons]
  exact Reps.append (Reps.reverse h2) (Reps.one h1)
theorem Reps.ints (ns:List Int):Reps K B H (ns.map D.int) (ns.map V.int):=by
 induction ns with
 | nil=>simp [Reps]
 | cons n r ih=>simp only [List.map_cons,Reps];exact ⟨_,_,rfl,by simp [Rep],ih⟩
end
def toV:D->V
 | .bl b=>.bl b
 | .int i=>.int i
 | .str x=>.str x
 | _=>.non
def isS:D->Bool
 | .non=>true
 | .bl _=>true
 | .int _=>true
 | .str _=>true
 | _=>false
theorem Rep.ofS {K:PySem.W.Frag} {B:Addr->Prop} {H:Hp} {d:D} (h:isS d=true):Rep K B H d (toV d):=by
 cases d <;> simp [isS,Rep,toV] at h ⊢
mutual
def imm:D->Bool
 | .tup ds=>imms ds
 | .frl ds=>imms ds
 | .lst _=>false
 | .dic _ _=>false
 | .obj _=>false
 | .dip _ _=>false
 | .exc _ _ _=>false
 | _=>true
def imms:List D->Bool
 | []=>true
 | d::ds=>imm d && imms ds
end
mutual
theorem Rep.imm {K:PySem.W.Frag} {B B':Addr->Prop} {H:Hp}:∀ (d:D) (v:V),imm d=true->Rep K B H d v->Rep K B' H d v
 | .non,_,_,h=>by simpa [Rep] using h
 | .bl _,_,_,h=>by simpa [Rep] using h
 | .int _,_,_,h=>by simpa [Rep] using h
 | .str _,_,_,h=>by simpa [Rep] using h
 | .tup ds,v,hi,h=>by
  simp only [Rep] at h ⊢
  obtain ⟨a,xs,e,h1,h2⟩:=h
  exact ⟨a,xs,e,h1,Reps.imm ds xs (by simpa [DL.imm] using hi) h2⟩
 | .frl ds,v,hi,h=>by
  simp only [Rep] at h ⊢
  obtain ⟨a,xs,e,h1,h2⟩:=h
  exact ⟨a,xs,e,h1,Reps.imm ds xs (by simpa [DL.imm] using hi) h2⟩
 | .lst ds,v,hi,h=>by simp [DL.imm] at hi
 | .dic ks ds,v,hi,h=>by simp [DL.imm] at hi
 | .obj C,v,hi,h=>by simp [DL.imm] at hi
 | .dip ks ds,v,hi,h=>by simp [DL.imm] at hi
 | .exc c ks ds,v,hi,h=>by simp [DL.imm] at hi
theorem Reps.imm {K:PySem.W.Frag} {B B':Addr->Prop} {H:Hp}:∀ (ds:List D) (vs:List V),imms ds=true->Reps K B H ds vs->Reps K B' H ds vs
 | [],_,_,h=>by simpa [Reps] using h
 | d::ds,vs,hi,h=>by
  simp only [Reps] at h ⊢
  obtain ⟨v,r,e,h1,h2⟩:=h
  simp only [imms,Bool.and_eq_true] at hi
  exact ⟨v,r,e,Rep.imm d v hi.1 h1,Reps.imm ds r hi.2 h2⟩
end
def RepO (K:PySem.W.Frag) (B:Addr->Prop) (H:Hp):D->HO->Prop
 | .lst ds,o=>∃ xs,o=.lst xs/\Reps K B H ds xs
 | .dic ks ds,o=>∃ kvs,o=.dK kvs/\kvs.map (·.1)=ks/\Reps K B H ds (kvs.map (·.2))
 | .dip ks ds,o=>∃ kvs,o=.dT kvs/\kvs.map (·.1)=ks/\Reps K B H ds (kvs.map (·.2))
 | _,_=>False
section
variable {K:PySem.W.Frag} {B B':Addr->Prop} {H H':Hp}
theorem RepO.mono {d:D} {o:HO} (hB:∀ a o,B a->H a=some o->B' a) (hs:Stay K B H H') (r:RepO K B H d o):RepO K B' H' d o:=by
 cases d <;> first | exact r.elim | skip
 ·obtain ⟨xs,h1,h2⟩:=r
  exact ⟨xs,h1,Reps.mono hB hs _ _ h2⟩
 ·obtain ⟨kvs,h1,h2,h3⟩:=r
  exact ⟨kvs,h1,h2,Reps.mono hB hs _ _ h3⟩
 ·obtain ⟨kvs,h1,h2,h3⟩:=r
  exact ⟨kvs,h1,h2,Reps.mono hB hs _ _ h3⟩
theorem RepO.same {d:D} {o:HO} (r:RepO K B H d o) (e:Same H H'):RepO K B H' d o:=r.mono (fun _ _ h _=>h) (.of_same e)
theorem RepO.weak {d:D} {o:HO} (r:RepO K B H d o) (hB:∀ a,B a->B' a):RepO K B' H d o:=r.mono (fun a _ h _=>hB a h) (.of_same (Same.refl H))
theorem RepO.rep {d:D} {o:HO} {p:Addr} (r:RepO K B H d o) (h:H p=some o) (hp:B p):Rep K B H d (.ref p):=by
 cases d <;> first | exact r.elim | skip
 ·obtain ⟨xs,rfl,h2⟩:=r
  simp only [Rep]
  exact ⟨p,xs,rfl,hp,h,h2⟩
 ·obtain ⟨kvs,rfl,h2,h3⟩:=r
  simp only [Rep]
  exact ⟨p,kvs,rfl,hp,.inl h,h2,h3⟩
 ·obtain ⟨kvs,rfl,h2,h3⟩:=r
  simp only [Rep]
  exact ⟨p,kvs,rfl,hp,h,h2,h3⟩
theorem RepO.noT {d:D} {o:HO} (r:RepO K B H d o) (xs:List V):HO.tup xs≠o:=by
 cases d <;> first | exact r.elim | skip
 ·obtain ⟨xs,rfl,h2⟩:=r;intro w;cases w
 ·obtain ⟨kvs,rfl,h2,h3⟩:=r;intro w;cases w
 ·obtain ⟨kvs,rfl,h2,h3⟩:=r;intro w;cases w
theorem RepO.noF {d:D} {o:HO} (r:RepO K B H d o) (ob:Obj) (u:HO):HO.frz ob u≠o:=by
 cases d <;> first | exact r.elim | skip
 ·obtain ⟨xs,rfl,h2⟩:=r;intro w;cases w
 ·obtain ⟨kvs,rfl,h2,h3⟩:=r;intro w;cases w
 ·obtain ⟨kvs,rfl,h2,h3⟩:=r;intro w;cases w
end
structure Cn where
 K:PySem.W.Frag
 B:Addr->Prop
 H₀:Hp
 G:List (D×V)
 P:Option (Nat×Addr):=none
def Own (σ:St) (δ:DS) (p:Addr):Prop:=∃ (i:Nat) (ds:D),δ[i]? = some (Sl.own ds)/\σ[i]? = some (some (V.ref p))
def Av (c:Cn) (σ:St) (δ:DS) (a:Addr):Prop:=c.B a/\¬ Own σ δ a
structure Abs (c:Cn) (σ:St) (δ:DS) (H:Hp):Prop where
 same:Same c.H₀ H
 fr:∀ a,H a=none->c.B a
 len:δ.length=σ.length
 val:∀ (i:Nat) (d:D),δ[i]? = some (Sl.val d)->∃ v,σ[i]? = some (some v)/\Rep c.K (Av c σ δ) H d v
 own:∀ (i:Nat) (ds:D),δ[i]? = some (Sl.own ds)->∃ p xs,σ[i]? = some (some (V.ref p))/\H p=some xs/\(c.H₀ p=none/\c.B p)/\RepO c.K (Av c σ δ) H ds xs
 gho:∀ d v,(d,v)∈c.G->Rep c.K (Av c σ δ) H d v
 inj:∀ (i j:Nat) (di dj:D) (p:Addr),δ[i]? = some (Sl.own di)->δ[j]? = some (Sl.own dj)->σ[i]? = some (some (V.ref p))->σ[j]? = some (some (V.ref p))->i=j
 pin:∀ (i:Nat) (p:Addr),c.P=some (i,p)->∀ d,δ[i]? = some (Sl.own d)->σ[i]? = some (some (V.ref p))
section
variable {c:Cn} {σ:St} {δ:DS} {H H':Hp}
theorem Abs.grow (a:Abs c σ δ H) (e:Same H H'):Abs c σ δ H' where
 same:=a.same.trans e
 fr:=fun b h=>a.fr b (e.free h)
 len:=a.len
 val:=fun i d h=>by obtain ⟨v,h1,h2⟩:=a.val i d h;exact ⟨v,h1,h2.same e⟩
 own:=fun i ds h=>by obtain ⟨p,xs,h1,h2,h3,h4⟩:=a.own i ds h;exact ⟨p,xs,h1,e _ _ h2,h3,h4.same e⟩
 gho:=fun d v h=>(a.gho d v h).same e
 inj:=a.inj
 pin:=a.pin
theorem Own.is (a:Abs c σ δ H) {p:Addr} (o:Own σ δ p):∃ xs,H p=some xs/\c.H₀ p=none:=by
 obtain ⟨i,ds,h1,h2⟩:=o
 obtain ⟨p',xs,h3,h4,h5,_⟩:=a.own i ds h1
 rw [h2] at h3;cases h3
 exact ⟨xs,h4,h5.1⟩
theorem Abs.av_new (a:Abs c σ δ H) {p:Addr} (h:H p=none):Av c σ δ p:=by
 refine ⟨a.fr p h,fun o=>?_⟩
 obtain ⟨xs,h1,_⟩:=Own.is a o
 rw [h] at h1;cases h1
end
inductive Md where
 | W | S | F
def Post (c:Cn) (σ:St) (δ:DS) (H:Hp) (m:Md) (d:D) (v:V) (H':Hp):Prop :=
 match m with
 | .W=>Rep c.K c.B H' d v
 | .S=>Rep c.K (Av c σ δ) H' d v
 | .F=>∃ p xs,v=.ref p/\H p=none/\H' p=some xs/\RepO c.K (fun a=>Av c σ δ a/\a≠p) H' d xs
def Wish (K:PySem.W.Frag) (E:XK) (H₀:Hp) (e:Exn):Prop:=∃ C,PySem.W.nsIn K mainGlobals e.cls=some (some (.ref C))/\∀ H',Same H₀ H'->E (.ref C) none H'
def Res {α:Type} (K:PySem.W.Frag) (E:XK) (H₀:Hp) (o:Ou α) (k:α->Prop):Prop :=
 match o with
 | .ok a=>k a
 | .ex e=>Wish K E H₀ e
 | .bad=>False
theorem Res.bind {α β:Type} {K:PySem.W.Frag} {E:XK} {H₀:Hp} {o:Ou α} {f:α->Ou β} {k:β->Prop} (h:Res K E H₀ (o.bind f) k):Res K E H₀ o fun a=>Res K E H₀ (f a) k:=by
 cases o with
 | ok a=>exact h
 | ex e=>exact h
 | bad=>exact h
theorem Res.imp {α:Type} {K:PySem.W.Frag} {E:XK} {H₀:Hp} {o:Ou α} {k k':α->Prop} (h:Res K E H₀ o k) (hi:∀ a,o=.ok a->k a->k' a):Res K E H₀ o k':=by
 cases o with
 | ok a=>exact hi a rfl h
 | ex e=>exact h
 | bad=>exact h
def tX (K:PySem.W.Frag) (E:XK) (m:Md) (f:Fn):TE:=fun σ H Q=>∃ c δ,c.K=K/\Abs c σ δ H/\Res K E c.H₀ (f δ) fun d=>∀ v H',Same H H'->Post c σ δ H m d v H'->Q v H'
theorem tX.intro {K:PySem.W.Frag} {E:XK} {m:Md} {f:Fn} {c:Cn} {δ:DS} {σ:St} {H:Hp} {Q:VK} (hK:c.K=K) (a:Abs c σ δ H) (h:Res K E c.H₀ (f δ) fun d=>∀ v H',Same H H'->Post c σ δ H m d v H'->Q v H'):tX K E m f σ H Q:=⟨c,δ,hK,a,h⟩
theorem Post.toW {c:Cn} {σ:St} {δ:DS} {H H':Hp} {m:Md} {d:D} {v:V} (a:Abs c σ δ H) (e:Same H H') (p:Post c σ δ H m d v H'):Rep c.K c.B H' d v:=by
 cases m with
 | W=>exact p
 | S=>exact Rep.weak p fun _ h=>h.1
 | F =>
  obtain ⟨p,xs,rfl,h1,h2,h3⟩:=p
  exact (h3.weak fun _ h=>h.1.1).rep h2 (a.fr p h1)
theorem Post.toS {c:Cn} {σ:St} {δ:DS} {H H':Hp} {d:D} {v:V} (a:Abs c σ δ H) (p:Post c σ δ H .F d v H'):Post c σ δ H .S d v H':=by
 obtain ⟨p,xs,rfl,h1,h2,h3⟩:=p
 show Rep _ _ _ _ _
 exact (h3.weak fun _ h=>h.1).rep h2 (a.av_new h1)
def notF:Md->Bool
 | .F=>false
 | _=>true
theorem Post.ofS {c:Cn} {σ:St} {δ:DS} {H H':Hp} {m:Md} {d:D} (hm:notF m=true) (h:isS d=true):Post c σ δ H m d (toV d) H':=by
 cases m with
 | W=>exact Rep.ofS h
 | S=>exact Rep.ofS h
 | F=>simp [notF] at hm
def fVar (i:Nat):Fn:=fun δ=>match δ[i]? with
 | some (.val d)=>.ok d
 | some (.own d)=>.ok d
 | _=>.bad
def Qh (i:Nat):Fn:=fun δ=>match δ[i]? with
 | some (.val d)=>.ok d
 | _=>.bad
def fC (d:D):Fn:=fun _=>.ok d
section
variable {X:Cx} {E:XK} {m:Md} {a b:Expr} {fa fb:Fn} {pos:Pos}
theorem Qrd {K:PySem.W.Frag} {i:Nat} {σ:St} {H:Hp} {Q:VK} (h:tX K E .W (fVar i) σ H Q):tVar i σ H Q:=by
 obtain ⟨c,δ,rfl,ab,h⟩:=h
 unfold fVar at h
 cases e:δ[i]? with
 | none=>rw [e] at h;exact h.elim
 | some s =>
  rw [e] at h
  cases s with
  | un=>exact h.elim
  | val d =>
   obtain ⟨v,h1,h2⟩:=ab.val i d e
   exact ⟨v,h1,h v H (Same.refl H) (Rep.weak h2 fun _ z=>z.1)⟩
  | own ds =>
   obtain ⟨p,xs,h1,h2,h3,h4⟩:=ab.own i ds e
   refine ⟨.ref p,h1,h (.ref p) H (Same.refl H) ?_⟩
   show Rep _ _ _ _ _
   exact (h4.weak fun _ z=>z.1).rep h2 h3.2
theorem Qo9 {K:PySem.W.Frag} {i:Nat} {σ:St} {H:Hp} {Q:VK} (h:tX K E .S (Qh i) σ H Q):tVar i σ H Q:=by
 obtain ⟨c,δ,rfl,ab,h⟩:=h
 unfold Qh at h
 cases e:δ[i]? with
 | none=>rw [e] at h;exact h.elim
 | some s =>
  rw [e] at h
  cases s with
  | un=>exact h.elim
  | val d =>
   obtain ⟨v,h1,h2⟩:=ab.val i d e
   exact ⟨v,h1,h v H (Same.refl H) h2⟩
  | own ds=>exact h.elim
theorem xv (i:Nat) {x:Str} (hN:X.N[i]? = some x:=by rfl) (hv:Vis X.env.scope x:=by first | exact Or.inl rfl | exact Or.inr (Or.inl rfl) | exact Or.inr (Or.inr rfl)) (hd:(x == ("__debug__":Str))=false:=by decide)
  (hcd:(x == ("__classdict__":Str))=false:=by decide):PE X (.Name x pos) (tX X.K E .W (fVar i)):=PE.imp (pv i hN hv hd hcd) fun _ _ _ h=>Qrd h
theorem xvS (i:Nat) {x:Str} (hN:X.N[i]? = some x:=by rfl) (hv:Vis X.env.scope x:=by first | exact Or.inl rfl | exact Or.inr (Or.inl rfl) | exact Or.inr (Or.inr rfl)) (hd:(x == ("__debug__":Str))=false:=by decide)
  (hcd:(x == ("__classdict__":Str))=false:=by decide):PE X (.Name x pos) (tX X.K E .S (Qh i)):=PE.imp (pv i hN hv hd hcd) fun _ _ _ h=>Qo9 h
theorem rd_c {K:PySem.W.Frag} {d:D} {σ:St} {H:Hp} {Q:VK} (hm:notF m=true) (hs:isS d=true) (h:tX K E m (fC d) σ H Q):tC (toV d) σ H Q:=by
 obtain ⟨c,δ,rfl,ab,h⟩:=h
 exact h _ H (Same.refl H) (Post.ofS hm hs)
theorem xint {i j} (hm:notF m=true:=by rfl):PE X (.Constant (.int i) j pos) (tX X.K E m (fC (.int i))):=PE.imp QqS fun _ _ _ h=>rd_c hm rfl h
theorem xbl {i j} (hm:notF m=true:=by rfl):PE X (.Constant (.bool i) j pos) (tX X.K E m (fC (.bl i))):=PE.imp pe_bl fun _ _ _ h=>rd_c hm rfl h
theorem xnon {j} (hm:notF m=true:=by rfl):PE X (.Constant .none j pos) (tX X.K E m (fC .non)):=PE.imp QqO fun _ _ _ h=>rd_c hm rfl h
theorem xstr {i j} (hm:notF m=true:=by rfl):PE X (.Constant (.str i) j pos) (tX X.K E m (fC (.str i))):=PE.imp Qqf fun _ _ _ h=>rd_c hm rfl h
theorem toW (h:PE X a (tX X.K E m fa)):PE X a (tX X.K E .W fa):=h.imp fun σ H Q q=>by
 obtain ⟨c,δ,hK,ab,q⟩:=q
 exact ⟨c,δ,hK,ab,q.imp fun d _ k v H' e p=>k v H' e (Post.toW ab e p)⟩
theorem toS (h:PE X a (tX X.K E .F fa)):PE X a (tX X.K E .S fa):=h.imp fun σ H Q q=>by
 obtain ⟨c,δ,hK,ab,q⟩:=q
 exact ⟨c,δ,hK,ab,q.imp fun d _ k v H' e p=>k v H' e (Post.toS ab p)⟩
def fUp (f:Fn):Fn:=fun δ=>(f δ).bind fun d=>if imm d=true then .ok d else .bad
def f2 (g:D->D->Ou D) (fa fb:Fn):Fn:=fun δ=>(fa δ).bind fun x=>(fb δ).bind fun y=>g x y
def OpD (X:Cx) (f:Value->Value->Sem Value) (g:D->D->Ou D):Prop :=
 ∃ r,OpR X f r/\∀ (B:Addr->Prop) (H:Hp) (dx dy:D) (x y:V) (Q:VK),Rep X.K B H dx x->Rep X.K B H dy y->match g dx dy with
  | .ok d=>isS d=true/\(Q (toV d) H->r x y H Q)
  | .ex _=>False
  | .bad=>True
theorem rd_2 {r:R2} {g:D->D->Ou D} {σ:St} {H:Hp} {Q:VK} (hr:∀ (B:Addr->Prop) (H:Hp) (dx dy:D) (x y:V) (Q:VK),Rep X.K B H dx x->Rep X.K B H dy y->match g dx dy with
  | .ok d=>isS d=true/\(Q (toV d) H->r x y H Q)
  | .ex _=>False
  | .bad=>True) (hm:notF m=true) (h:tX X.K E m (f2 g fa fb) σ H Q):tOp r (tX X.K E .W fa) (tX X.K E .W fb) σ H Q:=by
 obtain ⟨c,δ,hK,ab,h⟩:=h
 refine ⟨c,δ,hK,ab,(Res.bind h).imp fun dx _ k x H1 e1 r1=>?_⟩
 refine ⟨c,δ,hK,ab.grow e1,(Res.bind k).imp fun dy _ k y H2 e2 r2=>?_⟩
 have r1':Rep X.K c.B H2 dx x:=by
  have z:Rep c.K c.B H1 dx x:=r1
  rw [hK] at z;exact z.same e2
 have r2':Rep X.K c.B H2 dy y:=by
  have z:Rep c.K c.B H2 dy y:=r2
  rw [hK] at z;exact z
 have q:=hr c.B H2 dx dy x y Q r1' r2'
 cases e:g dx dy with
 | ok d =>
  rw [e] at q k
  exact q.2 (k (toV d) H2 (e1.trans e2) (Post.ofS hm q.1))
 | ex z=>rw [e] at q;exact q.elim
 | bad=>rw [e] at k;exact k.elim
theorem xop {op:Operator} {g:D->D->Ou D} (ho:OpD X (binaryOp op) g) (ha:PE X a (tX X.K E .W fa)) (hb:PE X b (tX X.K E .W fb)) (hm:notF m=true:=by rfl):PE X (.BinOp a op b pos) (tX X.K E m (f2 g fa fb)):=by
 obtain ⟨r,h1,h2⟩:=ho
 exact (Qny h1 ha hb).imp fun σ H Q q=>rd_2 h2 hm q
theorem xcmp {op:CmpOp} {g:D->D->Ou D} (ho:OpD X (compareOp op) g) (ha:PE X a (tX X.K E .W fa)) (hb:PE X b (tX X.K E .W fb)) (hk:behindInMarks op b=false) (hm:notF m=true:=by rfl):PE X (.Compare a [op] [b] pos) (tX X.K E m (f2 g fa fb)):=by
 obtain ⟨r,h1,h2⟩:=ho
 exact (Qpu h1 ha hb hk).imp fun σ H Q q=>rd_2 h2 hm q
def gAdd:D->D->Ou D
 | .int i,.int j=>.ok (.int (i + j))
 | .str x,.str y=>if x.length + y.length<=sizeLine then .ok (.str (x++y)) else .bad
 | _,_=>.bad
theorem QaG:OpD X (binaryOp .Add) gAdd:=by
 refine ⟨_,OpR.or QqU QlF,fun B H dx dy x y Q rx ry=>?_⟩
 cases dx <;> cases dy <;> simp only [gAdd]
 ·rename_i i j
  simp only [Rep] at rx ry
  subst rx;subst ry
  exact ⟨rfl,fun q=>.inl ⟨i,j,rfl,rfl,q⟩⟩
 ·rename_i i j
  simp only [Rep] at rx ry
  subst rx;subst ry
  by_cases hl:i.length + j.length<=sizeLine
  ·rw [if_pos hl]
   exact ⟨rfl,fun q=>.inr ⟨i,j,rfl,rfl,hl,q⟩⟩
  ·rw [if_neg hl]
   trivial
def tT (K:PySem.W.Frag) (E:XK) (f:DS->Ou Bool):TT:=fun σ H Q=>∃ c δ,c.K=K/\Abs c σ δ H/\Res K E c.H₀ (f δ) fun b=>∀ H',Same H H'->Q b H'
def asB:D->Ou Bool
 | .bl b=>.ok b
 | _=>.bad
def Qjj (fa fb:Fn):Fn:=fun δ=>(fa δ).bind fun x=>(asB x).bind fun b=>if b=true then fb δ else .ok (.bl false)
def fOrV (fa fb:Fn):Fn:=fun δ=>(fa δ).bind fun x=>(asB x).bind fun b=>if b=true then .ok (.bl true) else fb δ
def QoL (fa:Fn):Fn:=fun δ=>(fa δ).bind fun x=>(asB x).bind fun b=>.ok (.bl (!b))
theorem Res.asB {K K':PySem.W.Frag} {H₀:Hp} {B:Addr->Prop} {H:Hp} {d:D} {v:V} {k:Bool->Prop} (h:Res K E H₀ (asB d) k) (r:Rep K' B H d v):∃ b,d=.bl b/\v=.bl b/\k b:=by
 cases d <;> first | exact h.elim | skip
 rename_i b
 simp only [Rep] at r
 exact ⟨b,rfl,r,h⟩
variable {rest:List Expr}
theorem xone {op} (h:PE X a (tX X.K E m fa)):PE X (.BoolOp op [a] pos) (tX X.K E m fa):=QqM h
theorem xand (ha:PE X a (tX X.K E .W fa)) (hb:PE X (.BoolOp .And (b::rest) pos) (tX X.K E m fb)) (hm:notF m=true:=by rfl):PE X (.BoolOp .And (a::b::rest) pos) (tX X.K E m (Qjj fa fb)):=(Qrh ha hb).imp fun σ H Q q=>by
 obtain ⟨c,δ,hK,ab,q⟩:=q
 refine ⟨c,δ,hK,ab,(Res.bind q).imp fun dx _ k x H1 e1 r1=>?_⟩
 obtain ⟨z,rfl,rfl,k⟩:=Res.asB (Res.bind k) (show Rep c.K c.B H1 dx x from r1)
 refine ⟨z,rfl,?_⟩
 cases z with
 | true=>exact ⟨c,δ,hK,ab.grow e1,k.imp fun d _ k v H' e p=>k v H' (e1.trans e) (by
   cases m with
   | W=>exact p
   | S=>exact p
   | F=>simp [notF] at hm)⟩
 | false=>exact k _ H1 e1 (Post.ofS hm rfl)
theorem xor (ha:PE X a (tX X.K E .W fa)) (hb:PE X (.BoolOp .Or (b::rest) pos) (tX X.K E m fb)) (hm:notF m=true:=by rfl):PE X (.BoolOp .Or (a::b::rest) pos) (tX X.K E m (fOrV fa fb)):=(pe_or ha hb).imp fun σ H Q q=>by
 obtain ⟨c,δ,hK,ab,q⟩:=q
 refine ⟨c,δ,hK,ab,(Res.bind q).imp fun dx _ k x H1 e1 r1=>?_⟩
 obtain ⟨z,rfl,rfl,k⟩:=Res.asB (Res.bind k) (show Rep c.K c.B H1 dx x from r1)
 refine ⟨z,rfl,?_⟩
 cases z with
 | false=>exact ⟨c,δ,hK,ab.grow e1,k.imp fun d _ k v H' e p=>k v H' (e1.trans e) (by
   cases m with
   | W=>exact p
   | S=>exact p
   | F=>simp [notF] at hm)⟩
 | true=>exact k _ H1 e1 (Post.ofS hm rfl)
theorem xnot (ha:PE X a (tX X.K E .W fa)) (hm:notF m=true:=by rfl):PE X (.UnaryOp .Not a pos) (tX X.K E m (QoL fa)):=(Qp5 ha).imp fun σ H Q q=>by
 obtain ⟨c,δ,hK,ab,q⟩:=q
 refine ⟨c,δ,hK,ab,(Res.bind q).imp fun dx _ k x H1 e1 r1=>?_⟩
 obtain ⟨z,rfl,rfl,k⟩:=Res.asB (Res.bind k) (show Rep c.K c.B H1 dx x from r1)
 exact ⟨z,rfl,k _ H1 e1 (Post.ofS hm rfl)⟩
def truD:D->Ou Bool
 | .non=>.ok false
 | .bl b=>.ok b
 | .int i=>.ok (i != 0)
 | .str y=>if y.length<=sizeLine then .ok ((y.length:Int) != 0) else .bad
 | .tup ds=>.ok (!ds.isEmpty)
 | .lst ds=>.ok (!ds.isEmpty)
 | .frl ds=>.ok (!ds.isEmpty)
 | .dic _ _=>.bad
 | .obj _=>.bad
 | .dip _ _=>.bad
 | .exc _ _ _=>.bad
def fTru (fa:Fn):DS->Ou Bool:=fun δ=>(fa δ).bind truD
def fAsB (fa:Fn):DS->Ou Bool:=fun δ=>(fa δ).bind asB
theorem Qiz {K:PySem.W.Frag} {B:Addr->Prop} {H:Hp} {ds:List D} {xs:List V} (r:Reps K B H ds xs):(!ds.isEmpty)=!xs.isEmpty:=by
 have h:=r.length
 cases ds <;> cases xs <;> simp at h ⊢
theorem Qq8 {K:PySem.W.Frag} {H₀:Hp} {B:Addr->Prop} {H:Hp} {d:D} {v:V} {k:Bool->Prop} (h:Res K E H₀ (truD d) k) (r:Rep K B H d v):∃ b,TruV K v H b/\k b:=by
 cases d <;> simp only [Rep] at r
 ·subst r;exact ⟨_,rfl,h⟩
 ·subst r;exact ⟨_,rfl,h⟩
 ·subst r;exact ⟨_,rfl,h⟩
 ·subst r
  rename_i y
  simp only [truD] at h
  by_cases hl:y.length<=sizeLine
  ·rw [if_pos hl] at h;exact ⟨_,⟨hl,rfl⟩,h⟩
  ·rw [if_neg hl] at h;exact h.elim
 ·obtain ⟨a,xs,rfl,h1,h2⟩:=r
  exact ⟨_,.inr (.inl ⟨xs,h1,rfl⟩),by rw [← Qiz h2];exact h⟩
 ·obtain ⟨a,xs,rfl,hb,h1,h2⟩:=r
  exact ⟨_,.inl ⟨xs,.of h1,rfl⟩,by rw [← Qiz h2];exact h⟩
 ·obtain ⟨a,xs,rfl,h1,h2⟩:=r
  exact ⟨_,.inl ⟨xs,h1.sq,rfl⟩,by rw [← Qiz h2];exact h⟩
 ·exact h.elim
 ·exact h.elim
 ·exact h.elim
 ·exact h.elim
theorem xt (ha:PE X a (tX X.K E .W fa)) (he:∀ whole,isTrue a X.env whole=(do let v ← whole;standAt a.pos;holding [v] (truthy v)):=by intro _;rfl):PT X a (tT X.K E (fTru fa)):=(QnM ha he).imp fun σ H Q q=>by
 obtain ⟨c,δ,hK,ab,q⟩:=q
 refine ⟨c,δ,hK,ab,(Res.bind q).imp fun dx _ k x H1 e1 r1=>?_⟩
 obtain ⟨z,h1,h2⟩:=Qq8 k (show Rep X.K c.B H1 dx x by rw [← hK];exact r1)
 exact ⟨z,h1,h2 H1 e1⟩
theorem Qaf {op:CmpOp} {g:D->D->Ou D} (ho:OpD X (compareOp op) g) (ha:PE X a (tX X.K E .W fa)) (hb:PE X b (tX X.K E .W fb)) (hk:behindInMarks op b=false):PT X (.Compare a [op] [b] pos) (tT X.K E (fAsB (f2 g fa fb))):=by
 obtain ⟨r,h1,h2⟩:=ho
 refine (Qpt h1 ha hb hk).imp fun σ H Q q=>?_
 refine rd_2 (m:=.W) (E:=E) (fa:=fa) (fb:=fb) h2 rfl ?_
 obtain ⟨c,δ,hK,ab,q⟩:=q
 refine ⟨c,δ,hK,ab,(Res.bind q).imp fun d _ k v H' e p=>?_⟩
 obtain ⟨z,rfl,rfl,k⟩:=Res.asB k (show Rep c.K c.B H' d v from p)
 exact ⟨z,rfl,k H' e⟩
variable {ga gb:DS->Ou Bool}
def QmQ (ga gb:DS->Ou Bool):DS->Ou Bool:=fun δ=>(ga δ).bind fun b=>if b=true then gb δ else .ok false
def fOrT (ga gb:DS->Ou Bool):DS->Ou Bool:=fun δ=>(ga δ).bind fun b=>if b=true then .ok true else gb δ
def Qey (ga:DS->Ou Bool):DS->Ou Bool:=fun δ=>(ga δ).bind fun b=>.ok (!b)
theorem QoU (ha:PT X a (tT X.K E ga)):PW X (.BoolOp .And [a] pos) (tT X.K E ga):=QpL ha
theorem QqX (ha:PT X a (tT X.K E ga)):PW X (.BoolOp .Or [a] pos) (tT X.K E ga):=QqW ha
theorem QqI (ha:PT X a (tT X.K E ga)) (hb:PW X (.BoolOp .And (b::rest) pos) (tT X.K E gb)):PW X (.BoolOp .And (a::b::rest) pos) (tT X.K E (QmQ ga gb)):=(Qqb ha hb).imp fun σ H Q q=>by
 obtain ⟨c,δ,hK,ab,q⟩:=q
 refine ⟨c,δ,hK,ab,(Res.bind q).imp fun z _ k H1 e1=>?_⟩
 cases z with
 | true=>exact ⟨c,δ,hK,ab.grow e1,k.imp fun d _ k H' e=>k H' (e1.trans e)⟩
 | false=>exact k H1 e1
theorem xw_or (ha:PT X a (tT X.K E ga)) (hb:PW X (.BoolOp .Or (b::rest) pos) (tT X.K E gb)):PW X (.BoolOp .Or (a::b::rest) pos) (tT X.K E (fOrT ga gb)):=(pw_or ha hb).imp fun σ H Q q=>by
 obtain ⟨c,δ,hK,ab,q⟩:=q
 refine ⟨c,δ,hK,ab,(Res.bind q).imp fun z _ k H1 e1=>?_⟩
 cases z with
 | false=>exact ⟨c,δ,hK,ab.grow e1,k.imp fun d _ k H' e=>k H' (e1.trans e)⟩
 | true=>exact k H1 e1
theorem Qgk (ha:PT X a (tT X.K E ga)):PT X (.UnaryOp .Not a pos) (tT X.K E (Qey ga)):=(Qre ha).imp fun σ H Q q=>by
 obtain ⟨c,δ,hK,ab,q⟩:=q
 exact ⟨c,δ,hK,ab,(Res.bind q).imp fun z _ k H1 e1=>k H1 e1⟩
def fIfE (gc:DS->Ou Bool) (fa fb:Fn):Fn:=fun δ=>(gc δ).bind fun b=>if b=true then fa δ else fb δ
theorem Post.early {c:Cn} {σ:St} {δ:DS} {H H1 H':Hp} {d:D} {v:V} (e:Same H H1) (p:Post c σ δ H1 m d v H'):Post c σ δ H m d v H':=by
 cases m with
 | W=>exact p
 | S=>exact p
 | F =>
  obtain ⟨p,xs,rfl,h1,h2,h3⟩:=p
  exact ⟨p,xs,rfl,e.free h1,h2,h3⟩
theorem xife {t:Expr} (hc:PT X t (tT X.K E ga)) (ha:PE X a (tX X.K E m fa)) (hb:PE X b (tX X.K E m fb)):PE X (.IfExp t a b pos) (tX X.K E m (fIfE ga fa fb)):=(Qn6 hc ha hb).imp fun σ H Q q=>by
 obtain ⟨c,δ,hK,ab,q⟩:=q
 refine ⟨c,δ,hK,ab,(Res.bind q).imp fun z _ k H1 e1=>?_⟩
 cases z with
 | true=>exact ⟨c,δ,hK,ab.grow e1,k.imp fun d _ k v H' e p=>k v H' (e1.trans e) (p.early e1)⟩
 | false=>exact ⟨c,δ,hK,ab.grow e1,k.imp fun d _ k v H' e p=>k v H' (e1.trans e) (p.early e1)⟩
def BOf (c:Cn) (σ:St) (δ:DS):Md->Addr->Prop
 | .W=>c.B
 | _=>Av c σ δ
def QaF:List Fn->DS->Ou (List D)
 | [],_=>.ok []
 | f::fs,δ=>(f δ).bind fun d=>(QaF fs δ).bind fun ds=>.ok (d::ds)
def tXA (K:PySem.W.Frag) (E:XK) (m:Md) (fs:List Fn):TA:=fun σ H Q=>∃ c δ,c.K=K/\Abs c σ δ H/\Res K E c.H₀ (QaF fs δ) fun ds=>∀ vs H',Same H H'->Reps c.K (BOf c σ δ m) H' ds vs->Q vs H'
variable {es:List Expr} {fs:List Fn} {e:Expr} {fe:Fn}
theorem Qd:PA X [] (tXA X.K E m []):=pa_nil.imp fun σ H Q q=>by
 obtain ⟨c,δ,hK,ab,q⟩:=q
 exact q [] H (Same.refl H) (by simp [Reps])
theorem Post.bOf {c:Cn} {σ:St} {δ:DS} {H H':Hp} {d:D} {v:V} (hm:notF m=true) (p:Post c σ δ H m d v H'):Rep c.K (BOf c σ δ m) H' d v:=by
 cases m with
 | W=>exact p
 | S=>exact p
 | F=>simp [notF] at hm
theorem Qa (ha:PE X e (tX X.K E m fe)) (hr:PA X es (tXA X.K E m fs)) (hs:starEach (e::es) X.env=(false,eval e X.env)::starEach es X.env:=by rfl) (hm:notF m=true:=by rfl):PA X (e::es) (tXA X.K E m (fe::fs)):=(Qdq ha hr hs).imp fun σ H Q q=>by
 obtain ⟨c,δ,hK,ab,q⟩:=q
 refine ⟨c,δ,hK,ab,(Res.bind q).imp fun d _ k v H1 e1 r1=>?_⟩
 refine ⟨c,δ,hK,ab.grow e1,(Res.bind k).imp fun ds _ k vs H2 e2 r2=>?_⟩
 refine k (v::vs) H2 (e1.trans e2) ?_
 simp only [Reps]
 exact ⟨v,vs,rfl,(Post.bOf hm r1).same e2,r2⟩
theorem QaN:∀ {fs:List Fn} {δ:DS} {ds:List D},QaF fs δ=.ok ds->ds.length=fs.length
 | [],δ,ds,h=>by simp only [QaF] at h;cases h;rfl
 | f::fs,δ,ds,h=>by
  simp only [QaF] at h
  cases e:f δ with
  | ok d =>
   rw [e] at h
   cases e2:QaF fs δ with
   | ok r=>rw [e2] at h;simp only [Qad] at h;cases h;simp [QaN e2]
   | ex z=>rw [e2] at h;simp at h
   | bad=>rw [e2] at h;simp at h
  | ex z=>rw [e] at h;simp at h
  | bad=>rw [e] at h;simp at h
def fTup (fs:List Fn):Fn:=fun δ=>(QaF fs δ).bind fun ds=>.ok (.tup ds)
def fLst (fs:List Fn):Fn:=fun δ=>(QaF fs δ).bind fun ds=>.ok (.lst ds)
theorem QD {H:Hp} {p:Addr} (h:H p=none) (o:HO):Same H (upd H p o):=fun b u q=>by rw [Qt (QaD q h)];exact q
theorem xtup {x1} (h:PA X es (tXA X.K E m fs)) (hl:fs.length<=sizeLine:=by decide) (hm:notF m=true:=by rfl):PE X (.Tuple es x1 pos) (tX X.K E m (fTup fs)):=(Qqe h).imp fun σ H Q q=>by
 obtain ⟨c,δ,hK,ab,q⟩:=q
 refine ⟨c,δ,hK,ab,(Res.bind q).imp fun ds hds k vs H1 e1 r1=>⟨by rw [r1.length,QaN hds];exact hl,fun p hp=>?_⟩⟩
 refine k (.ref p) _ (e1.trans (QD hp _)) ?_
 have r2:Rep c.K (BOf c σ δ m) (upd H1 p (.tup vs)) (.tup ds) (.ref p):=by
  simp only [Rep]
  exact ⟨p,vs,rfl,.inl (.inl QH),r1.same (QD hp _)⟩
 cases m with
 | W=>exact r2
 | S=>exact r2
 | F=>simp [notF] at hm
theorem Reps.off {K:PySem.W.Frag} {B:Addr->Prop} {H:Hp} {ds:List D} {vs:List V} {p:Addr} (r:Reps K B H ds vs) (hp:H p=none):Reps K (fun a=>B a/\a≠p) H ds vs :=
 Reps.mono (fun a o h z=>⟨h,fun e=>by subst e;rw [hp] at z;cases z⟩) (.of_same (Same.refl H)) ds vs r
theorem xlst (h:PA X es (tXA X.K E .S fs)) (hl:fs.length<=sizeLine:=by decide):PE X (.List es pos) (tX X.K E .F (fLst fs)):=(Qrj h).imp fun σ H Q q=>by
 obtain ⟨c,δ,hK,ab,q⟩:=q
 refine ⟨c,δ,hK,ab,(Res.bind q).imp fun ds hds k vs H1 e1 r1=>⟨by rw [r1.length,QaN hds];exact hl,fun p hp=>?_⟩⟩
 exact k (.ref p) _ (e1.trans (QD hp _)) ⟨p,_,rfl,e1.free hp,QH,vs,rfl,(Reps.off r1 hp).same (QD hp _)⟩
def gIx:D->D->Ou D
 | .tup ds,.int i=>match atI ds i with
  | some d=>.ok d
  | none=>.bad
 | .lst ds,.int i=>match atI ds i with
  | some d=>.ok d
  | none=>.bad
 | .frl ds,.int i=>match atI ds i with
  | some d=>.ok d
  | none=>.bad
 | .str z,.int i=>if z.length<=sizeLine then (match atI z.cps.toList i with
  | some c=>.ok (.str ⟨#[c]⟩)
  | none=>.bad) else .bad
 | _,_=>.bad
theorem Reps.at {K:PySem.W.Frag} {B:Addr->Prop} {H:Hp} {ds:List D} {vs:List V} {i:Int} {d:D} (r:Reps K B H ds vs) (h:atI ds i=some d):∃ v,atI vs i=some v/\Rep K B H d v:=by
 unfold atI at h ⊢
 rw [r.length]
 cases e:ixN ds.length i with
 | none=>rw [e] at h;cases h
 | some j =>
  rw [e] at h
  exact r.get j d h
theorem rd_ix {K:PySem.W.Frag} {H₀:Hp} {B:Addr->Prop} {H:Hp} {dx dy:D} {x y:V} {Q:VK} (rx:Rep K B H dx x) (ry:Rep K B H dy y) (h:Res K E H₀ (gIx dx dy) fun d=>∀ v,Rep K B H d v->Q v H):rIx K x y H Q:=by
 cases dy <;> first | (cases dx <;> exact h.elim) | skip
 rename_i i
 simp only [Rep] at ry
 subst ry
 cases dx <;> first | exact h.elim | skip
 ·rename_i z
  simp only [Rep] at rx
  subst rx
  simp only [gIx] at h
  by_cases hl:z.length<=sizeLine
  ·rw [if_pos hl] at h
   cases e:atI z.cps.toList i with
   | none=>rw [e] at h;exact h.elim
   | some ch=>rw [e] at h;exact .inr (.inr ⟨z,i,ch,rfl,rfl,hl,e,h _ (by simp [Rep])⟩)
  ·rw [if_neg hl] at h;exact h.elim
 ·rename_i ds
  simp only [Rep] at rx
  obtain ⟨a,xs,rfl,h1,h2⟩:=rx
  simp only [gIx] at h
  cases e:atI ds i with
  | none=>simp only [e] at h;exact h.elim
  | some d =>
   simp only [e] at h
   obtain ⟨v,e2,r2⟩:=h2.at e
   exact .inr (.inl ⟨a,xs,i,v,rfl,rfl,h1,e2,h v r2⟩)
 ·rename_i ds
  simp only [Rep] at rx
  obtain ⟨a,xs,rfl,hb,h1,h2⟩:=rx
  simp only [gIx] at h
  cases e:atI ds i with
  | none=>simp only [e] at h;exact h.elim
  | some d =>
   simp only [e] at h
   obtain ⟨v,e2,r2⟩:=h2.at e
   exact .inl ⟨a,xs,i,v,rfl,rfl,.of h1,e2,h v r2⟩
 ·rename_i ds
  simp only [Rep] at rx
  obtain ⟨a,xs,rfl,h1,h2⟩:=rx
  simp only [gIx] at h
  cases e:atI ds i with
  | none=>simp only [e] at h;exact h.elim
  | some d =>
   simp only [e] at h
   obtain ⟨v,e2,r2⟩:=h2.at e
   exact .inl ⟨a,xs,i,v,rfl,rfl,h1.sq,e2,h v r2⟩
theorem xix (ha:PE X a (tX X.K E m fa)) (hb:PE X b (tX X.K E .W fb)) (hs:Qmq b:=by exact fun _ _=>rfl) (hm:notF m=true:=by rfl):PE X (.Subscript a b pos) (tX X.K E m (f2 gIx fa fb)):=(pe_ix Qq4 ha hb hs).imp fun σ H Q q=>by
 obtain ⟨c,δ,hK,ab,q⟩:=q
 refine ⟨c,δ,hK,ab,(Res.bind q).imp fun dx _ k x H1 e1 r1=>?_⟩
 refine ⟨c,δ,hK,ab.grow e1,(Res.bind k).imp fun dy hy k y H2 e2 r2=>?_⟩
 have z1:Rep X.K (BOf c σ δ m) H2 dx x:=by rw [← hK];exact (Post.bOf hm r1).same e2
 by_cases hd:∃ i,dy=.int i
 ·obtain ⟨i,rfl⟩:=hd
  have z2:Rep X.K (BOf c σ δ m) H2 (.int i) y:=by
   have z:Rep c.K c.B H2 (.int i) y:=r2
   simp only [Rep] at z ⊢;exact z
  refine rd_ix z1 z2 (k.imp fun d _ k v r=>k v H2 (e1.trans e2) ?_)
  rw [← hK] at r
  cases m with
  | W=>exact r
  | S=>exact r
  | F=>simp [notF] at hm
 ·exfalso
  have:gIx dx dy=.bad:=by
   cases dy <;> first | (cases dx <;> rfl) | exact absurd ⟨_,rfl⟩ hd
  rw [this] at k
  exact k
inductive Fl where
 | nx (δ:DS) | rt (d:D) | bk (δ:DS) | ct (δ:DS)
abbrev Sm:=DS->Ou Fl
structure Rm where
 new:Bool
 pin:Option Nat
instance:Coe Bool Rm:=⟨fun b=>⟨b,none⟩⟩
def RtP (K:PySem.W.Frag) (B:Addr->Prop) (H₀:Hp) (fr:Bool) (d:D) (v:V) (H':Hp):Prop :=
 match fr with
 | true=>∃ p xs,v=.ref p/\H₀ p=none/\H' p=some xs/\RepO K (fun a=>B a/\a≠p) H' d xs
 | false=>Rep K B H' d v
def RtM (c:Cn) (fr:Rm) (d:D) (v:V) (H':Hp):Prop :=
 match c.P with
 | none=>RtP c.K c.B c.H₀ fr.new d v H'
 | some (_,p)=>∃ dv dO o,d=.tup [dv,dO]/\Rep c.K (fun a=>c.B a/\a≠p) H' dv v/\H' p=some o/\RepO c.K (fun a=>c.B a/\a≠p) H' dO o
def EndP (c:Cn) (fr:Rm) (D:Ends):Fl->Prop
 | .nx δ'=>∀ σ' H',Abs c σ' δ' H'->D.nx σ' H'
 | .bk δ'=>∀ σ' H',Abs c σ' δ' H'->D.bk σ' H'
 | .ct δ'=>∀ σ' H',Abs c σ' δ' H'->D.ct σ' H'
 | .rt d=>∀ v H',Same c.H₀ H'->RtM c fr d v H'->D.rt v H'
structure AbsF (rm:Rm) (c:Cn) (σ:St) (δ:DS) (H:Hp):Prop extends Abs c σ δ H where
 pi:c.P.map (·.1)=rm.pin
instance {fr:Rm} {c:Cn} {σ:St} {δ:DS} {H:Hp}:CoeOut (AbsF fr c σ δ H) (Abs c σ δ H):=⟨AbsF.toAbs⟩
def tS (K:PySem.W.Frag) (E:XK) (fr:Rm) (F:Sm):TS:=fun D σ H=>∃ c δ,c.K=K/\AbsF fr c σ δ H/\Res K E c.H₀ (F δ) (EndP c fr D)
theorem AbsF.none {fr:Rm} {c:Cn} {σ:St} {δ:DS} {H:Hp} (a:AbsF fr c σ δ H) (h:fr.pin=Option.none):c.P=Option.none:=by
 have:=a.pi
 rw [h] at this
 cases e:c.P with
 | none=>rfl
 | some x=>rw [e] at this;cases this
theorem AbsF.ne {fr:Rm} {c:Cn} {σ:St} {δ:DS} {H:Hp} (a:AbsF fr c σ δ H) {i:Nat} (h:fr.pin≠some i) (q:Addr):c.P≠some (i,q):=fun z=>h (by rw [← a.pi,z];rfl)
theorem RtM.of {c:Cn} {fr:Rm} {d:D} {v:V} {H':Hp} (h:c.P=Option.none) (r:RtP c.K c.B c.H₀ fr.new d v H'):RtM c fr d v H':=by
 unfold RtM;rw [h];exact r
variable {fr:Rm} {F G:Sm} {st:Stmt} {sts:List Stmt}
def Qf:Sm:=fun δ=>.ok (.nx δ)
def sSeq (F G:Sm):Sm:=fun δ=>(F δ).bind fun r=>match r with
 | .nx δ'=>G δ'
 | r=>.ok r
def sIf (gc:DS->Ou Bool) (F G:Sm):Sm:=fun δ=>(gc δ).bind fun b=>if b=true then F δ else G δ
def Qql:Sm:=fun δ=>.ok (.bk δ)
def sCont:Sm:=fun δ=>.ok (.ct δ)
def sRet (f:Fn):Sm:=fun δ=>(f δ).bind fun d=>.ok (.rt d)
def sDrop (f:Fn):Sm:=fun δ=>(f δ).bind fun _=>.ok (.nx δ)
theorem Qe:PSs X [] (tS X.K E fr Qf):=pss_nil.imp fun D σ H q=>by
 obtain ⟨c,δ,hK,ab,q⟩:=q
 exact q σ H ab
theorem Qmp (h1:PS X st (tS X.K E fr F)) (h2:PSs X sts (tS X.K E fr G)):PSs X (st::sts) (tS X.K E fr (sSeq F G)):=(QhP h1 h2).imp fun D σ H q=>by
 obtain ⟨c,δ,hK,ab,q⟩:=q
 refine ⟨c,δ,hK,ab,(Res.bind q).imp fun r _ k=>?_⟩
 cases r with
 | nx δ'=>exact fun σ' H' ab'=>⟨c,δ',hK,⟨ab',ab.pi⟩,k⟩
 | rt d=>exact k
 | bk δ'=>exact k
 | ct δ'=>exact k
theorem Qan {t:Expr} {sa sb:List Stmt} (hc:PT X t (tT X.K E ga)) (ha:PSs X sa (tS X.K E fr F)) (hb:PSs X sb (tS X.K E fr G)):PS X (.If t sa sb pos) (tS X.K E fr (sIf ga F G)):=(ps_if hc ha hb).imp fun D σ H q=>by
 obtain ⟨c,δ,hK,ab,q⟩:=q
 refine ⟨c,δ,hK,ab,(Res.bind q).imp fun z _ k H1 e1=>?_⟩
 cases z with
 | true=>exact ⟨c,δ,hK,⟨ab.grow e1,ab.pi⟩,k⟩
 | false=>exact ⟨c,δ,hK,⟨ab.grow e1,ab.pi⟩,k⟩
theorem Qk (h:PE X e (tX X.K E .W fe)):PS X (.Return (some e) pos) (tS X.K E false (sRet fe)):=(Qka h).imp fun D σ H q=>by
 obtain ⟨c,δ,hK,ab,q⟩:=q
 exact ⟨c,δ,hK,ab,(Res.bind q).imp fun d _ k v H1 e1 r1=>k v H1 (ab.same.trans e1) (.of (ab.none rfl) r1)⟩
theorem QfR (h:PE X e (tX X.K E .F fe)):PS X (.Return (some e) pos) (tS X.K E true (sRet fe)):=(Qka h).imp fun D σ H q=>by
 obtain ⟨c,δ,hK,ab,q⟩:=q
 refine ⟨c,δ,hK,ab,(Res.bind q).imp fun d _ k v H1 e1 r1=>k v H1 (ab.same.trans e1) (.of (ab.none rfl) ?_)⟩
 obtain ⟨p,xs,rfl,h1,h2,h3⟩:=r1
 exact ⟨p,xs,rfl,ab.same.free h1,h2,h3.weak fun a z=>⟨z.1.1,z.2⟩⟩
def QjE (i:Nat):Sm:=fun δ=>match δ[i]? with
 | some (.own ds)=>.ok (.rt ds)
 | _=>.bad
theorem QmC (i:Nat) {x:Str} {px:Pos} (hN:X.N[i]? = some x:=by rfl) (hv:Vis X.env.scope x:=by first | exact Or.inl rfl | exact Or.inr (Or.inl rfl) | exact Or.inr (Or.inr rfl)) (hd:(x == ("__debug__":Str))=false:=by decide)
  (hcd:(x == ("__classdict__":Str))=false:=by decide):PS X (.Return (some (.Name x px)) pos) (tS X.K E true (QjE i)):=(Qka (pv i hN hv hd hcd)).imp fun D σ H q=>by
 obtain ⟨c,δ,hK,ab,q⟩:=q
 unfold QjE at q
 cases e:δ[i]? with
 | none=>rw [e] at q;exact q.elim
 | some s =>
  rw [e] at q
  cases s with
  | un=>exact q.elim
  | val d=>exact q.elim
  | own ds =>
   obtain ⟨p,xs,h1,h2,h3,h4⟩:=ab.own i ds e
   refine ⟨.ref p,h1,q (.ref p) H ab.same (.of (ab.none rfl) ⟨p,xs,rfl,h3.1,h2,h4.weak fun a z=>⟨z.1,fun w=>z.2 ⟨i,ds,e,by rw [w];exact h1⟩⟩⟩)⟩
theorem QP {α:Type} {l:List α} {i j:Nat} {x y:α} (h:(l.set i x)[j]? = some y):(j=i/\y=x/\i < l.length)\/(j≠i/\l[j]? = some y):=by
 rw [List.getElem?_set] at h
 by_cases e:i=j
 ·rw [if_pos e] at h
  by_cases hl:i < l.length
  ·rw [if_pos hl] at h
   exact .inl ⟨e.symm,(Option.some.inj h).symm,hl⟩
  ·rw [if_neg hl] at h;cases h
 ·rw [if_neg e] at h
  exact .inr ⟨fun z=>e z.symm,h⟩
theorem Qcy {α:Type} {l:List α} {i j:Nat} {x:α} (h:j≠i):(l.set i x)[j]? = l[j]?:=by
 rw [List.getElem?_set,if_neg fun z=>h z.symm]
theorem QoS {α:Type} {l:List α} {i:Nat} {x:α} (h:i < l.length):(l.set i x)[i]? = some x:=by
 rw [List.getElem?_set,if_pos rfl,if_pos h]
theorem QgM {σ:St} {δ:DS} {i:Nat} {v:V} {d:D} {q:Addr} (o:Own (σ.set i (some v)) (δ.set i (.val d)) q):Own σ δ q:=by
 obtain ⟨j,ds,h1,h2⟩:=o
 rcases QP h1 with ⟨_,z,_⟩ | ⟨ne,h1⟩
 ·cases z
 ·rw [Qcy ne] at h2
  exact ⟨j,ds,h1,h2⟩
theorem Abs.set_val {c:Cn} {σ:St} {δ:DS} {H H':Hp} {i:Nat} {d:D} {v:V} (a:Abs c σ δ H) (e:Same H H') (r:Rep c.K (Av c σ δ) H' d v):Abs c (σ.set i (some v)) (δ.set i (.val d)) H':=by
 have av:∀ q,Av c σ δ q->Av c (σ.set i (some v)) (δ.set i (.val d)) q:=fun q h=>⟨h.1,fun o=>h.2 (QgM o)⟩
 refine ⟨a.same.trans e,fun b h=>a.fr b (e.free h),by rw [List.length_set,List.length_set];exact a.len,fun j d' h=>?_,fun j ds h=>?_,fun d' v' h=>?_,fun j k dj dk p h1 h2 h3 h4=>?_,fun j p hP d' h=>?_⟩
 ·rcases QP h with ⟨rfl,z,hl⟩ | ⟨ne,h⟩
  ·cases z
   exact ⟨v,QoS (by rw [← a.len];exact hl),r.weak av⟩
  ·obtain ⟨u,h1,h2⟩:=a.val j d' h
   exact ⟨u,by rw [Qcy ne];exact h1,(h2.same e).weak av⟩
 ·rcases QP h with ⟨rfl,z,hl⟩ | ⟨ne,h⟩
  ·cases z
  ·obtain ⟨p,xs,h1,h2,h3,h4⟩:=a.own j ds h
   exact ⟨p,xs,by rw [Qcy ne];exact h1,e _ _ h2,h3,(h4.same e).weak av⟩
 ·exact ((a.gho d' v' h).same e).weak av
 ·rcases QP h1 with ⟨_,z,_⟩ | ⟨n1,h1⟩
  ·cases z
  rcases QP h2 with ⟨_,z,_⟩ | ⟨n2,h2⟩
  ·cases z
  rw [Qcy n1] at h3
  rw [Qcy n2] at h4
  exact a.inj j k dj dk p h1 h2 h3 h4
 ·rcases QP h with ⟨_,z,_⟩ | ⟨ne,h⟩
  ·cases z
  ·rw [Qcy ne];exact a.pin j p hP d' h
theorem QkD {σ:St} {δ:DS} {i:Nat} {p:Addr} {ds:D} {q:Addr} (o:Own (σ.set i (some (.ref p))) (δ.set i (.own ds)) q):Own σ δ q\/q=p:=by
 obtain ⟨j,es,h1,h2⟩:=o
 rcases QP h1 with ⟨rfl,z,_⟩ | ⟨ne,h1⟩
 ·rcases QP h2 with ⟨_,z2,_⟩ | ⟨n2,_⟩
  ·cases z2;exact .inr rfl
  ·exact absurd rfl n2
 ·rw [Qcy ne] at h2
  exact .inl ⟨j,es,h1,h2⟩
theorem Abs.set_own {c:Cn} {σ:St} {δ:DS} {H H':Hp} {i:Nat} {ds:D} {p:Addr} {xs:HO} (a:Abs c σ δ H) (e:Same H H') (hp:H p=none) (h':H' p=some xs) (r:RepO c.K (fun q=>Av c σ δ q/\q≠p) H' ds xs) (hj:∀ q,c.P≠some (i,q)) :
  Abs c (σ.set i (some (.ref p))) (δ.set i (.own ds)) H':=by
 have av:∀ q,Av c σ δ q/\q≠p->Av c (σ.set i (some (.ref p))) (δ.set i (.own ds)) q:=fun q h=>⟨h.1.1,fun o=>(QkD o).elim h.1.2 h.2⟩
 have avH:∀ (q:Addr) (o:HO),Av c σ δ q->H q=some o->Av c (σ.set i (some (.ref p))) (δ.set i (.own ds)) q:=fun q o h z=>av q ⟨h,QaD z hp⟩
 have up:∀ d v,Rep c.K (Av c σ δ) H d v->Rep c.K (Av c (σ.set i (some (.ref p))) (δ.set i (.own ds))) H' d v:=fun d v h=>Rep.mono avH (.of_same e) d v h
 have ups:∀ d v,RepO c.K (Av c σ δ) H d v->RepO c.K (Av c (σ.set i (some (.ref p))) (δ.set i (.own ds))) H' d v:=fun d v h=>RepO.mono avH (.of_same e) h
 have no:∀ (j:Nat) dj,δ[j]? = some (Sl.own dj)->σ[j]? = some (some (.ref p))->False:=fun j dj h1 h2=>by
  obtain ⟨p',ys,h3,h4,_⟩:=a.own j dj h1
  rw [h2] at h3;cases h3
  rw [hp] at h4;cases h4
 refine ⟨a.same.trans e,fun b h=>a.fr b (e.free h),by rw [List.length_set,List.length_set];exact a.len,fun j d' h=>?_,fun j es h=>?_,fun d' v' h=>up _ _ (a.gho d' v' h),fun j k dj dk q h1 h2 h3 h4=>?_,fun j q hP d' h=>?_⟩
 ·rcases QP h with ⟨rfl,z,hl⟩ | ⟨ne,h⟩
  ·cases z
  ·obtain ⟨u,h1,h2⟩:=a.val j d' h
   exact ⟨u,by rw [Qcy ne];exact h1,up _ _ h2⟩
 ·rcases QP h with ⟨rfl,z,hl⟩ | ⟨ne,h⟩
  ·cases z
   exact ⟨p,xs,QoS (by rw [← a.len];exact hl),h',⟨a.same.free hp,a.fr p hp⟩,r.weak av⟩
  ·obtain ⟨q,ys,h1,h2,h3,h4⟩:=a.own j es h
   exact ⟨q,ys,by rw [Qcy ne];exact h1,e _ _ h2,h3,ups _ _ h4⟩
 ·rcases QP h1 with ⟨e1,_,_⟩ | ⟨n1,h1⟩
  ·rcases QP h2 with ⟨e2,_,_⟩ | ⟨n2,h2⟩
   ·rw [e1,e2]
   ·subst e1
    rcases QP h3 with ⟨_,z,_⟩ | ⟨n3,_⟩
    ·cases z
     rw [Qcy n2] at h4
     exact (no k dk (by assumption) h4).elim
    ·exact absurd rfl n3
  ·rw [Qcy n1] at h3
   rcases QP h2 with ⟨e2,_,_⟩ | ⟨n2,h2⟩
   ·subst e2
    rcases QP h4 with ⟨_,z,_⟩ | ⟨n3,_⟩
    ·cases z
     exact (no j dj (by assumption) h3).elim
    ·exact absurd rfl n3
   ·rw [Qcy n2] at h4
    exact a.inj j k dj dk q h1 h2 h3 h4
 ·rcases QP h with ⟨rfl,_,_⟩ | ⟨ne,h⟩
  ·exact absurd hP (hj q)
  ·rw [Qcy ne];exact a.pin j q hP d' h
theorem Abs.mut {c:Cn} {σ:St} {δ:DS} {H:Hp} {i:Nat} {ds ds':D} {p:Addr} {xs':HO} (a:Abs c σ δ H) (h:δ[i]? = some (Sl.own ds)) (hs:σ[i]? = some (some (V.ref p))) (r:RepO c.K (Av c σ δ) H ds' xs') :
  Abs c σ (δ.set i (.own ds')) (upd H p xs'):=by
 have hi:i < δ.length:=(List.getElem?_eq_some_iff.mp h).1
 have ow:Own σ δ p:=⟨i,ds,h,hs⟩
 have oi:∀ {q},Own σ (δ.set i (.own ds')) q->Own σ δ q:=fun {q} o=>by
  obtain ⟨j,es,h1,h2⟩:=o
  rcases QP h1 with ⟨rfl,_,_⟩ | ⟨_,h1⟩
  ·exact ⟨j,ds,h,h2⟩
  ·exact ⟨j,es,h1,h2⟩
 have av:∀ q,Av c σ δ q->Av c σ (δ.set i (.own ds')) q:=fun q z=>⟨z.1,fun o=>z.2 (oi o)⟩
 have hne:∀ q,Av c σ δ q->q≠p:=fun q z e=>by subst e;exact z.2 ow
 obtain ⟨p',ys,g1,g2,g3,g4⟩:=a.own i ds h
 rw [hs] at g1;cases g1
 have st:Stay c.K (Av c σ δ) H (upd H p xs'):=⟨fun q ys z=>by
   rcases z with (z | ⟨o,z⟩) | z
   ·exact .inl (.inl (by rw [Qt (Qf6 z g2 (g4.noT _))];exact z))
   ·exact .inl (.inr ⟨o,by rw [Qt (Qf6 z g2 (g4.noF _ _))];exact z⟩)
   ·exact .inr z,fun q ys z=>by
   rcases z with ⟨o,z⟩ | z
   ·exact .inl ⟨o,by rw [Qt (Qf6 z g2 (g4.noF _ _))];exact z⟩
   ·exact .inr z,fun q o z w=>by rw [Qt (hne q z)];exact w⟩
 have up:∀ d v,Rep c.K (Av c σ δ) H d v->Rep c.K (Av c σ (δ.set i (.own ds'))) (upd H p xs') d v:=fun d v z=>Rep.mono (fun q _ w _=>av q w) st d v z
 have ups:∀ d v,RepO c.K (Av c σ δ) H d v->RepO c.K (Av c σ (δ.set i (.own ds'))) (upd H p xs') d v:=fun d v z=>RepO.mono (fun q _ w _=>av q w) st z
 refine ⟨fun b o z=>?_,fun b z=>a.fr b (by
   by_cases hb:b=p
   ·subst hb;rw [QH] at z;cases z
   ·rw [Qt hb] at z;exact z),by rw [List.length_set];exact a.len,fun j d' z=>?_,fun j es z=>?_,fun d' v' z=>up _ _ (a.gho d' v' z),fun j k dj dk q h1 h2 h3 h4=>?_,fun j q hP d' z=>?_⟩
 ·rw [Qt (QaD z g3.1)];exact a.same b o z
 ·rcases QP z with ⟨_,w,_⟩ | ⟨ne,z⟩
  ·cases w
  ·obtain ⟨u,z1,z2⟩:=a.val j d' z
   exact ⟨u,z1,up _ _ z2⟩
 ·rcases QP z with ⟨rfl,w,_⟩ | ⟨ne,z⟩
  ·cases w
   exact ⟨p,xs',hs,QH,g3,ups _ _ r⟩
  ·obtain ⟨q,zs,z1,z2,z3,z4⟩:=a.own j es z
   refine ⟨q,zs,z1,?_,z3,ups _ _ z4⟩
   rw [Qt fun w=>ne (a.inj j i es ds p z h (by rw [← w];exact z1) hs)]
   exact z2
 ·have go:∀ {j:Nat} {dj:D},(δ.set i (.own ds'))[j]? = some (Sl.own dj)->∃ dj',δ[j]? = some (Sl.own dj'):=fun {j dj} z=>by
   rcases QP z with ⟨rfl,_,_⟩ | ⟨_,z⟩
   ·exact ⟨ds,h⟩
   ·exact ⟨_,z⟩
  obtain ⟨dj',h1⟩:=go h1
  obtain ⟨dk',h2⟩:=go h2
  exact a.inj j k dj' dk' q h1 h2 h3 h4
 ·rcases QP z with ⟨rfl,_,_⟩ | ⟨_,z⟩
  ·exact a.pin j q hP ds h
  ·exact a.pin j q hP d' z
def thaw (i:Nat) (δ:DS):DS:=match δ[i]? with
 | some (.own ds)=>δ.set i (.val ds)
 | _=>δ
theorem Abs.thaw {c:Cn} {σ:St} {δ:DS} {H:Hp} (i:Nat) (a:Abs c σ δ H):Abs c σ (thaw i δ) H:=by
 unfold DL.thaw
 cases e:δ[i]? with
 | none=>exact a
 | some s =>
  cases s with
  | un=>exact a
  | val d=>exact a
  | own ds =>
   obtain ⟨p,xs,h1,h2,h3,h4⟩:=a.own i ds e
   have oi:∀ {q},Own σ (δ.set i (.val ds)) q->Own σ δ q/\q≠p:=fun {q} o=>by
    obtain ⟨j,es,z1,z2⟩:=o
    rcases QP z1 with ⟨_,w,_⟩ | ⟨ne,z1⟩
    ·cases w
    ·exact ⟨⟨j,es,z1,z2⟩,fun w=>ne (a.inj j i es ds p z1 e (by rw [← w];exact z2) h1)⟩
   have av:∀ q,Av c σ δ q->Av c σ (δ.set i (.val ds)) q:=fun q z=>⟨z.1,fun o=>z.2 (oi o).1⟩
   refine ⟨a.same,a.fr,by rw [List.length_set];exact a.len,fun j d' z=>?_,fun j es z=>?_,fun d' v' z=>(a.gho d' v' z).weak av,fun j k dj dk q z1 z2 z3 z4=>?_,fun j q hP d' z=>?_⟩
   ·rcases QP z with ⟨rfl,w,_⟩ | ⟨ne,z⟩
    ·cases w
     refine ⟨.ref p,h1,?_⟩
     exact (h4.weak av).rep h2 ⟨h3.2,fun o=>(oi o).2 rfl⟩
    ·obtain ⟨u,z1,z2⟩:=a.val j d' z
     exact ⟨u,z1,z2.weak av⟩
   ·rcases QP z with ⟨_,w,_⟩ | ⟨ne,z⟩
    ·cases w
    ·obtain ⟨q,zs,z1,z2,z3,z4⟩:=a.own j es z
     exact ⟨q,zs,z1,z2,z3,z4.weak av⟩
   ·rcases QP z1 with ⟨_,w,_⟩ | ⟨_,z1⟩
    ·cases w
    rcases QP z2 with ⟨_,w,_⟩ | ⟨_,z2⟩
    ·cases w
    exact a.inj j k dj dk q z1 z2 z3 z4
   ·rcases QP z with ⟨_,w,_⟩ | ⟨_,z⟩
    ·cases w
    ·exact a.pin j q hP d' z
theorem Qpi (i:Nat) (h:PS X st (tS X.K E fr F)):PS X st (tS X.K E fr fun δ=>F (thaw i δ)):=h.imp fun D σ H q=>by
 obtain ⟨c,δ,hK,ab,q⟩:=q
 exact ⟨c,_,hK,⟨ab.toAbs.thaw i,ab.pi⟩,q⟩
def sSet (i:Nat) (f:Fn):Sm:=fun δ=>(f δ).bind fun d=>.ok (.nx (δ.set i (.val d)))
def sOwn (i:Nat) (f:Fn):Sm:=fun δ=>(f δ).bind fun d=>.ok (.nx (δ.set i (.own d)))
theorem Qq (i:Nat) {x:Str} {pos':Pos} (hN:X.N.Nodup) (he:PE X e (tX X.K E .S fe)) (hi:X.N[i]? = some x:=by rfl) (hx:Loc X.env.scope x:=by first | exact Or.inl rfl | exact Or.inr rfl) (hs:swapsWith e (some (.Name x pos')) pos.line X.env=pure false:=by rfl)
  (hf:X.fn x=true\/X.env.scope.names.lookup x=some .local:=by first | exact .inl rfl | exact .inr rfl):PS X (.Assign [.Name x pos'] e pos) (tS X.K E fr (sSet i fe)):=(QlQ hN hi hx he hs hf).imp fun D σ H q=>by
 obtain ⟨c,δ,hK,ab,q⟩:=q
 exact ⟨c,δ,hK,ab,(Res.bind q).imp fun d _ k v H1 e1 r1=>k _ H1 (ab.set_val e1 r1)⟩
theorem Ql8 (i:Nat) {x:Str} {pos':Pos} (hN:X.N.Nodup) (he:PE X e (tX X.K E .F fe)) (hi:X.N[i]? = some x:=by rfl) (hx:Loc X.env.scope x:=by first | exact Or.inl rfl | exact Or.inr rfl) (hs:swapsWith e (some (.Name x pos')) pos.line X.env=pure false:=by rfl)
  (hf:X.fn x=true\/X.env.scope.names.lookup x=some .local:=by first | exact .inl rfl | exact .inr rfl) (hpi:fr.pin≠some i:=by decide):PS X (.Assign [.Name x pos'] e pos) (tS X.K E fr (sOwn i fe)):=(QlQ hN hi hx he hs hf).imp fun D σ H q=>by
 obtain ⟨c,δ,hK,ab,q⟩:=q
 refine ⟨c,δ,hK,ab,(Res.bind q).imp fun d _ k v H1 e1 r1=>?_⟩
 obtain ⟨p,xs,rfl,h1,h2,h3⟩:=r1
 exact k _ H1 (ab.set_own e1 h1 h2 h3 (ab.ne hpi))
def tG (K:PySem.W.Frag) (E:XK) (g:D->DS->Ou DS):TG:=fun v σ H Q=>∃ c δ d,c.K=K/\Abs c σ δ H/\Rep c.K (Av c σ δ) H d v/\Res K E c.H₀ (g d δ) fun δ'=>∀ σ' H',Same H H'->Abs c σ' δ' H'->Q σ' H'
def gNm (i:Nat):D->DS->Ou DS:=fun d δ=>.ok (δ.set i (.val d))
theorem Qbo (i:Nat) {x:Str} (hN:X.N.Nodup) (hi:X.N[i]? = some x:=by rfl) (hx:Loc X.env.scope x:=by first | exact Or.inl rfl | exact Or.inr rfl) (hf:X.fn x=true\/X.env.scope.names.lookup x=some .local:=by first | exact .inl rfl | exact .inr rfl):PG X (.Name x pos) (tG X.K E (gNm i)):=(QjP hN hi hx hf).imp fun v σ H Q q=>by
 obtain ⟨c,δ,d,hK,ab,r,q⟩:=q
 exact q _ H (Same.refl H) (ab.set_val (Same.refl H) r)
def forL (g:D->DS->Ou DS) (body:Sm):List D->DS->Ou Fl
 | [],δ=>.ok (.nx δ)
 | x::xs,δ=>(g x δ).bind fun δ1=>(body δ1).bind fun r=>match r with
  | .nx δ2=>forL g body xs δ2
  | .ct δ2=>forL g body xs δ2
  | .bk δ2=>.ok (.nx δ2)
  | .rt d=>.ok (.rt d)
def sFor (fl:Fn) (g:D->DS->Ou DS) (body:Sm):Sm:=fun δ=>(fl δ).bind fun d=>match d with
 | .lst ds=>forL g body ds δ
 | .frl ds=>forL g body ds δ
 | _=>.bad
theorem Abs.drop {c:Cn} {σ:St} {δ:DS} {H:Hp} {g:List (D×V)} (a:Abs { c with G:=g } σ δ H) (hg:∀ z∈c.G,z∈g):Abs c σ δ H :=
 ⟨a.same,a.fr,a.len,a.val,a.own,fun d v h=>a.gho d v (hg _ h),a.inj,a.pin⟩
theorem Qos {c:Cn} {g:D->DS->Ou DS} {body:Sm} {tg:TG} {tb:TS} {D:Ends} {K:PySem.W.Frag} {gh:List (DL.D×V)} (htg:∀ v σ H Q,tG K E g v σ H Q->tg v σ H Q) (htb:∀ D σ H,tS K E fr body D σ H->tb D σ H) (hK:c.K=K) (hg:∀ z∈c.G,z∈gh)
  {d:DL.D} {ds:List DL.D} {v:V} {σ:St} {δ:DS} {H:Hp} (ab:Abs { c with G:=gh } σ δ H) (r:Rep c.K (Av c σ δ) H d v) (h:Res K E c.H₀ (forL g body (d::ds) δ) (EndP c fr D)) (hp:c.P.map (·.1)=fr.pin:=by assumption) :
  tg v σ H fun σ2 H2=>tb { D with nx:=fun σ' H'=>∃ δ',Abs { c with G:=gh } σ' δ' H'/\Res K E c.H₀ (forL g body ds δ') (EndP c fr D),ct:=fun σ' H'=>∃ δ',Abs { c with G:=gh } σ' δ' H'/\Res K E c.H₀ (forL g body ds δ') (EndP c fr D),bk:=D.nx } σ2 H2:=by
 refine htg _ _ _ _ ⟨{ c with G:=gh },δ,d,hK,ab,r,(Res.bind h).imp fun δ1 _ k σ2 H2 _ ab2=>htb _ _ _ ⟨{ c with G:=gh },δ1,hK,⟨ab2,hp⟩,(Res.bind k).imp fun r _ k=>?_⟩⟩
 cases r with
 | nx δ2=>exact fun σ' H' ab'=>⟨δ2,ab',k⟩
 | ct δ2=>exact fun σ' H' ab'=>⟨δ2,ab',k⟩
 | bk δ2=>exact fun σ' H' ab'=>k σ' H' (ab'.drop hg)
 | rt z=>exact k
theorem Qh2 {c:Cn} {g:D->DS->Ou DS} {body:Sm} {J:It} {tg:TG} {tb:TS} {D:Ends} {K:PySem.W.Frag} {gh:List (DL.D×V)} (htg:∀ v σ H Q,tG K E g v σ H Q->tg v σ H Q) (htb:∀ D σ H,tS K E fr body D σ H->tb D σ H) (hK:c.K=K) (hg:∀ z∈c.G,z∈gh)
  {ds:List DL.D} {σ:St} {δ:DS} {H:Hp} (ab:Abs { c with G:=gh } σ δ H) (h:Res K E c.H₀ (forL g body ds δ) (EndP c fr D))
  (go:∀ (i:Nat) σ δ H d,Abs { c with G:=gh } σ δ H->ds[i]? = some d->J.go i H/\∀ x H',J.yld i H x H'->H'=H/\Rep c.K (Av c σ δ) H d x)
  (stop:∀ σ δ H,Abs { c with G:=gh } σ δ H->J.stop ds.length H) (hp:c.P.map (·.1)=fr.pin:=by assumption) :
  ∃ W:Nat->Nat->St->Hp->Prop,(∃ m,W 0 m σ H)/\∀ i m σ H,W i m σ H ->
   (J.stop i H/\D.nx σ H)\/(J.go i H/\∃ N:St->Hp->Prop,(∀ σ' H',N σ' H'->∃ m',m' < m/\W (i + 1) m' σ' H')/\∀ x H',J.yld i H x H'->tg x σ H' fun σ2 H2=>tb { D with nx:=N,ct:=N,bk:=D.nx } σ2 H2):=by
 refine ⟨fun i m σ H=>m=ds.length - i/\i<=ds.length/\∃ δ,Abs { c with G:=gh } σ δ H/\Res K E c.H₀ (forL g body (ds.drop i) δ) (EndP c fr D),⟨ds.length,by simp,Nat.zero_le _,δ,ab,by simpa using h⟩,?_⟩
 rintro i m σ H ⟨rfl,hi,δ,ab,h⟩
 by_cases hlt:i < ds.length
 ·have hd:ds[i]? = some ds[i]:=by simp [hlt]
  obtain ⟨g1,g2⟩:=go i σ δ H _ ab hd
  rw [List.drop_eq_getElem_cons hlt] at h
  refine .inr ⟨g1,_,fun σ' H' p'=>⟨ds.length - (i + 1),by lia,rfl,hlt,p'⟩,fun x H' y=>?_⟩
  obtain ⟨rfl,r⟩:=g2 x H' y
  exact Qos htg htb hK hg ab r h
 ·have e:i=ds.length:=by lia
  subst e
  rw [List.drop_length] at h
  exact .inl ⟨stop σ δ H ab,h σ H (ab.drop hg)⟩
theorem Qlz {c:Cn} {g:D->DS->Ou DS} {D:Ends} {K:PySem.W.Frag} {σ:St} {δ:DS} {H:Hp} {a:Addr} {d:DL.D} {ds:List DL.D} (hK:c.K=K) (ab:Abs c σ δ H) (r:Rep c.K (Av c σ δ) H d (.ref a))
  (all:∀ B H,Rep c.K B H d (.ref a)->∃ xs,SqL K H a xs/\Reps c.K B H ds xs) (h:Res K E c.H₀ (forL g F ds δ) (EndP c fr D)) (hp:c.P.map (·.1)=fr.pin:=by assumption) :
  ∃ W:Nat->Nat->St->Hp->Prop,(∃ m,W 0 m σ H)/\∀ i m σ H,W i m σ H ->
   ((Itl K a).stop i H/\D.nx σ H)\/((Itl K a).go i H/\∃ N:St->Hp->Prop,(∀ σ' H',N σ' H'->∃ m',m' < m/\W (i + 1) m' σ' H')/\∀ x H',(Itl K a).yld i H x H'->tG K E g x σ H' fun σ2 H2=>tS K E fr F { D with nx:=N,ct:=N,bk:=D.nx } σ2 H2):=by
 have ab':Abs { c with G:=(d,.ref a)::c.G } σ δ H:=by
  refine ⟨ab.same,ab.fr,ab.len,ab.val,ab.own,fun d' v' hm=>?_,ab.inj,ab.pin⟩
  rcases List.mem_cons.mp hm with e | hm
  ·cases e;exact r
  ·exact ab.gho d' v' hm
 refine Qh2 (gh:=(d,.ref a)::c.G) (fun _ _ _ _ z=>z) (fun _ _ _ z=>z) hK (fun _ z=>List.mem_cons_of_mem _ z) ab' h (fun i σ δ H d z hd=>?_) fun σ δ H z=>?_
 ·obtain ⟨ys,w1,w2⟩:=all _ _ (z.gho _ _ List.mem_cons_self)
  obtain ⟨u,w3,w4⟩:=w2.get i d hd
  refine ⟨⟨ys,u,w1,w3⟩,fun x H' y=>⟨y.1,?_⟩⟩
  have w5:=y.2 ys w1
  rw [w3] at w5;cases w5
  exact w4
 ·obtain ⟨ys,w1,w2⟩:=all _ _ (z.gho _ _ List.mem_cons_self)
  exact ⟨ys,w1,Nat.le_of_eq w2.length⟩
theorem QjZ {tg iter:Expr} {body:List Stmt} {fl:Fn} {g:D->DS->Ou DS} (hp:PassesOwn (model X.prog X.w) X.A X.env X.xe) (hc:X.calm=true) (hi:PE X iter (tX X.K E .S fl)) (hg:PG X tg (tG X.K E g)) (hb:PSs X body (tS X.K E fr F))
  (hs:∀ x,foldedSetIterable iter X.env x=pure x:=by intro _;rfl):PS X (.For tg iter body [] pos) (tS X.K E fr (sFor fl g F)):=(Qkb hp hc (QjL hi) hg hb hs).imp fun D σ H q=>by
 obtain ⟨c,δ,hK,ab,q⟩:=q
 have hp:=ab.pi
 refine ⟨c,δ,hK,ab,(Res.bind q).imp fun d hd0 k v H1 e1 r1=>?_⟩
 have r1':Rep c.K (Av c σ δ) H1 d v:=r1
 cases d <;> first | exact k.elim | skip
 ·rename_i ds
  have r2:=r1'
  simp only [Rep] at r2
  obtain ⟨a,xs,rfl,hb,h1,h2⟩:=r2
  refine ⟨a,rfl,⟨xs,.of h1⟩,Qlz hK (ab.grow e1) r1' (fun B H z=>?_) k⟩
  simp only [Rep] at z
  obtain ⟨b,ys,e,_,w1,w2⟩:=z
  cases e
  exact ⟨ys,.of w1,w2⟩
 ·rename_i ds
  have r2:=r1'
  simp only [Rep] at r2
  obtain ⟨a,xs,rfl,h1,h2⟩:=r2
  refine ⟨a,rfl,⟨xs,by rw [← hK];exact h1.sq⟩,Qlz hK (ab.grow e1) r1' (fun B H z=>?_) k⟩
  simp only [Rep] at z
  obtain ⟨b,ys,e,w1,w2⟩:=z
  cases e
  exact ⟨ys,by rw [← hK];exact w1.sq,w2⟩
def rng (lo:Int) (n:Nat):List D:=(List.range n).map fun (k:Nat)=>D.int (lo + (k:Int))
theorem QjI {lo:Int} {n i:Nat} {d:D} (h:(rng lo n)[i]? = some d):i < n/\d=.int (lo + (i:Int)):=by
 unfold rng at h
 rw [List.getElem?_map] at h
 cases e:(List.range n)[i]? with
 | none=>rw [e] at h;cases h
 | some k =>
  rw [e] at h
  have e2:=List.getElem?_eq_some_iff.mp e
  obtain ⟨hl,e3⟩:=e2
  simp at e3 hl
  subst e3
  exact ⟨hl,(Option.some.inj h).symm⟩
theorem Qe9 (lo:Int) (n:Nat):(rng lo n).length=n:=by simp [rng]
def rOk (i:Int):Bool:=decide (-(2 ^ 62)<=i/\i < 2 ^ 62)
def sRng (fs:List Fn) (g:D->DS->Ou DS) (body:Sm):Sm:=fun δ=>(QaF fs δ).bind fun ds=>match ds with
 | [.int j]=>if rOk j=true then forL g body (rng 0 j.toNat) δ else .bad
 | [.int i,.int j]=>if rOk i=true/\rOk j=true then forL g body (rng i (j - i).toNat) δ else .bad
 | _=>.bad
theorem QpP {c:Cn} {g:D->DS->Ou DS} {D:Ends} {K:PySem.W.Frag} {σ:St} {δ:DS} {H:Hp} {lo:Int} {n:Nat} (hK:c.K=K) (ab:Abs c σ δ H) (h:Res K E c.H₀ (forL g F (rng lo n) δ) (EndP c fr D)) (hp:c.P.map (·.1)=fr.pin:=by assumption) :
  ∃ W:Nat->Nat->St->Hp->Prop,(∃ m,W 0 m σ H)/\∀ i m σ H,W i m σ H ->
   ((Itr lo n).stop i H/\D.nx σ H)\/((Itr lo n).go i H/\∃ N:St->Hp->Prop,(∀ σ' H',N σ' H'->∃ m',m' < m/\W (i + 1) m' σ' H')/\∀ x H',(Itr lo n).yld i H x H'->tG K E g x σ H' fun σ2 H2=>tS K E fr F { D with nx:=N,ct:=N,bk:=D.nx } σ2 H2):=by
 refine Qh2 (gh:=c.G) (fun _ _ _ _ z=>z) (fun _ _ _ z=>z) hK (fun _ z=>z) ab h (fun i σ δ H d z hd=>?_) fun σ δ H z=>?_
 ·obtain ⟨h1,rfl⟩:=QjI hd
  exact ⟨h1,fun x H' y=>⟨y.1,by rw [y.2];simp [Rep]⟩⟩
 ·show n<=_
  rw [Qe9];exact Nat.le_refl _
def QbK (gc:DS->Ou Bool) (body:Sm):Nat->Sm
 | 0,_=>.bad
 | n + 1,δ=>(gc δ).bind fun b=>if b=true then (body δ).bind fun r=>match r with
   | .nx δ2=>QbK gc body n δ2
   | .ct δ2=>QbK gc body n δ2
   | .bk δ2=>.ok (.nx δ2)
   | .rt d=>.ok (.rt d)
  else .ok (.nx δ)
theorem Qk4 (n:Nat) {t:Expr} {body:List Stmt} (hp:PassesOwn (model X.prog X.w) X.A X.env X.xe) (hc:PT X t (tT X.K E ga)) (hb:PSs X body (tS X.K E fr F)):PS X (.While t body [] pos) (tS X.K E fr (QbK ga F n)):=(Qn3 hp hc hb).imp fun D σ H q=>by
 obtain ⟨c,δ,hK,ab,q⟩:=q
 have hp:=ab.pi
 refine ⟨fun m σ H=>∃ δ,Abs c σ δ H/\Res X.K E c.H₀ (QbK ga F m δ) (EndP c fr D),⟨n,δ,ab.toAbs,q⟩,?_⟩
 rintro m σ H ⟨δ,ab,q⟩
 cases m with
 | zero=>exact q.elim
 | succ m =>
  refine ⟨c,δ,hK,ab,(Res.bind q).imp fun z _ k H1 e1=>?_⟩
  cases z with
  | true =>
   refine ⟨fun σ' H'=>∃ δ',Abs c σ' δ' H'/\Res X.K E c.H₀ (QbK ga F m δ') (EndP c fr D),fun σ' H' z=>⟨m,Nat.lt_succ_self m,z⟩,c,δ,hK,⟨ab.grow e1,hp⟩,(Res.bind k).imp fun r _ k=>?_⟩
   cases r with
   | nx δ2=>exact fun σ' H' ab'=>⟨δ2,ab',k⟩
   | ct δ2=>exact fun σ' H' ab'=>⟨δ2,ab',k⟩
   | bk δ2=>exact k
   | rt d=>exact k
  | false=>exact k σ H1 (ab.grow e1)
end
end DL
namespace DL
open PySem PySem.Spec PyProof.Rows L2
section
variable {X:Cx} {E:XK} {m:Md} {a b e:Expr} {fa fb fe:Fn} {pos:Pos} {es:List Expr} {fs:List Fn} {fr:Rm} {F G:Sm} {ga gb:DS->Ou Bool} {st:Stmt}
def gI (C:Int->Int->Bool) (g:Int->Int->D):D->D->Ou D
 | .int i,.int j=>if C i j=true then .ok (g i j) else .bad
 | _,_=>.bad
def gI0 (g:Int->Int->D):D->D->Ou D
 | .int i,.int j=>.ok (g i j)
 | _,_=>.bad
theorem od_I {f:Value->Value->Sem Value} {C':Int->Int->Prop} {C:Int->Int->Bool} {g:Int->Int->D} (h:OpR X f (rI C' fun i j=>toV (g i j))) (hC:∀ i j,C i j=true->C' i j) (hs:∀ i j,isS (g i j)=true):OpD X f (gI C g):=by
 refine ⟨_,h,fun B H dx dy x y Q rx ry=>?_⟩
 cases dx <;> cases dy <;> simp only [gI]
 rename_i i j
 simp only [Rep] at rx ry
 subst rx;subst ry
 by_cases hc:C i j=true
 ·rw [if_pos hc]
  exact ⟨hs i j,fun q=>⟨i,j,rfl,rfl,hC i j hc,q⟩⟩
 ·rw [if_neg hc];trivial
theorem Qlt {f:Value->Value->Sem Value} {g:Int->Int->D} (h:OpR X f (rI0 fun i j=>toV (g i j))) (hs:∀ i j,isS (g i j)=true):OpD X f (gI0 g):=by
 refine ⟨_,h,fun B H dx dy x y Q rx ry=>?_⟩
 cases dx <;> cases dy <;> simp only [gI0]
 rename_i i j
 simp only [Rep] at rx ry
 subst rx;subst ry
 exact ⟨hs i j,fun q=>⟨i,j,rfl,rfl,q⟩⟩
def gSub:=gI0 fun i j=>.int (i - j)
def cMul (i j:Int):Bool:=decide ((-(2 ^ 64) < i/\i < 2 ^ 64)\/(-(2 ^ 64) < j/\j < 2 ^ 64))
def gMul:=gI cMul fun i j=>.int (i * j)
def cDiv (_ j:Int):Bool:=decide (0 < j/\j < 2 ^ 64)
def gDiv:=gI cDiv fun i j=>.int (i / j)
def cMod (_ j:Int):Bool:=decide (0 < j)
def gMod:=gI cMod fun i j=>.int (i % j)
def cPow (i j:Int):Bool:=decide (0<=j/\j<=1000000/\i.natAbs < 2 ^ 64)
def gPow:=gI cPow fun i j=>.int (i ^ j.toNat)
def gShl:=gI cPow fun i j=>.int (i * 2 ^ j.toNat)
def cShr (_ j:Int):Bool:=decide (0<=j)
def gShr:=gI cShr fun i j=>.int (i / 2 ^ j.toNat)
def gAnd:=gI0 fun i j=>.int (Builtin.bitAnd i j)
def gXor:=gI0 fun i j=>.int (Builtin.bitXor i j)
theorem Qcn:OpD X (binaryOp .Sub) gSub:=Qlt QqN fun _ _=>rfl
theorem Qfx:OpD X (binaryOp .Mult) gMul:=od_I Qq7 (fun i j h=>by have z:=of_decide_eq_true h;exact z) fun _ _=>rfl
theorem Qpq {j:Int} (h0:0 < j) (h:j < 2 ^ 64):j.natAbs.log2 < 9000:=by
 have h1:j.natAbs≠0:=by lia
 have h2:j.natAbs < 2 ^ 64:=by lia
 have:=(Nat.log2_lt h1).mpr h2
 lia
theorem QmT:OpR X (binaryOp .FloorDiv) (rI (fun _ j=>0 < j/\j < 2 ^ 64) fun i j=>.int (i / j)):=opI fun i j _ _ _ _ _ hc q=>by
 have h1:(0:Int) < j:=hc.1
 exact floordiv_int (by lia) (by rw [Int.fdiv_eq_ediv_of_nonneg i (by lia)];exact q) (.inl (PyProof.noPylong_of_log2 (Qpq hc.1 hc.2)))
theorem Qb8:OpD X (binaryOp .FloorDiv) gDiv:=od_I QmT (fun _ _ h=>of_decide_eq_true h) fun _ _=>rfl
theorem QbI:OpD X (binaryOp .Mod) gMod:=od_I QqD (fun _ _ h=>of_decide_eq_true h) fun _ _=>rfl
theorem QhY:OpD X (binaryOp .Pow) gPow:=od_I Qq5 (fun i j h=>by have z:=of_decide_eq_true h;exact z) fun _ _=>rfl
theorem QqZ:OpD X (binaryOp .LShift) gShl:=od_I QqR (fun i j h=>by have z:=of_decide_eq_true h;exact z) fun _ _=>rfl
theorem Qq3:OpD X (binaryOp .BitXor) gXor:=Qlt Qp8 fun _ _=>rfl
def gLt:=gI0 fun i j=>.bl (decide (i < j))
def gLe:=gI0 fun i j=>.bl (decide (i<=j))
def gGt:=gI0 fun i j=>.bl (decide (j < i))
def gGe:=gI0 fun i j=>.bl (decide (j<=i))
theorem Qhq:OpD X (compareOp .Lt) gLt:=Qlt op_lt fun _ _=>rfl
theorem Qoq:OpD X (compareOp .LtE) gLe:=Qlt op_le fun _ _=>rfl
theorem od_gt:OpD X (compareOp .Gt) gGt:=Qlt op_gt fun _ _=>rfl
def f1 (g:D->Ou D) (fa:Fn):Fn:=fun δ=>(fa δ).bind g
def gNeg:D->Ou D
 | .int i=>.ok (.int (-i))
 | _=>.bad
theorem xneg (ha:PE X a (tX X.K E .W fa)) (hm:notF m=true:=by rfl):PE X (.UnaryOp .USub a pos) (tX X.K E m (f1 gNeg fa)):=(pe_un Qqn ha).imp fun σ H Q q=>by
 obtain ⟨c,δ,hK,ab,q⟩:=q
 refine ⟨c,δ,hK,ab,(Res.bind q).imp fun d _ k v H1 e1 r1=>?_⟩
 have r1':Rep c.K c.B H1 d v:=r1
 cases d <;> first | exact k.elim | skip
 simp only [Rep] at r1'
 subst r1'
 exact ⟨_,rfl,k _ H1 e1 (Post.ofS hm rfl)⟩
def gIsN:D->Ou D
 | .non=>.ok (.bl true)
 | _=>.ok (.bl false)
def QfO:D->Ou D
 | .non=>.ok (.bl false)
 | _=>.ok (.bl true)
theorem QjX {K:PySem.W.Frag} {B:Addr->Prop} {H:Hp} {d:D} {v:V} (r:Rep K B H d v):gIsN d=.ok (.bl (decide (v=.non)))/\QfO d=.ok (.bl (!decide (v=.non))):=by
 cases d <;> simp only [Rep] at r <;> first | (subst r;exact ⟨rfl,rfl⟩) | (obtain ⟨a,_,rfl,_⟩:=r;exact ⟨rfl,rfl⟩) | (obtain ⟨a,_,_,rfl,_⟩:=r;exact ⟨rfl,rfl⟩) | (obtain ⟨a,_,_,_,rfl,_⟩:=r;exact ⟨rfl,rfl⟩)
theorem xisN {j p} (ha:PE X a (tX X.K E .W fa)) (hm:notF m=true:=by rfl):PE X (.Compare a [.Is] [.Constant .none j p] pos) (tX X.K E m (f1 gIsN fa)):=(QqJ (Qn5 ha)).imp fun σ H Q q=>by
 obtain ⟨c,δ,hK,ab,q⟩:=q
 refine ⟨c,δ,hK,ab,(Res.bind q).imp fun d _ k v H1 e1 r1=>?_⟩
 rw [(QjX (show Rep c.K c.B H1 d v from r1)).1] at k
 exact k _ H1 e1 (Post.ofS hm rfl)
theorem QlH {j p} (ha:PE X a (tX X.K E .W fa)):PT X (.Compare a [.Is] [.Constant .none j p] pos) (tT X.K E (fAsB (f1 gIsN fa))):=(Qor (Qn5 ha)).imp fun σ H Q q=>by
 obtain ⟨c,δ,hK,ab,q⟩:=q
 refine ⟨c,δ,hK,ab,(Res.bind (Res.bind q)).imp fun d _ k v H1 e1 r1=>?_⟩
 rw [(QjX (show Rep c.K c.B H1 d v from r1)).1] at k
 exact ⟨_,rfl,k H1 e1⟩
theorem QmM {j p} (ha:PE X a (tX X.K E .W fa)):PT X (.Compare a [.IsNot] [.Constant .none j p] pos) (tT X.K E (fAsB (f1 QfO fa))):=(Qor (Qo3 ha)).imp fun σ H Q q=>by
 obtain ⟨c,δ,hK,ab,q⟩:=q
 refine ⟨c,δ,hK,ab,(Res.bind (Res.bind q)).imp fun d _ k v H1 e1 r1=>?_⟩
 rw [(QjX (show Rep c.K c.B H1 d v from r1)).2] at k
 exact ⟨_,rfl,k H1 e1⟩
def fChn (g g':D->D->Ou D) (fa fb fc:Fn):Fn:=fun δ=>(fa δ).bind fun x=>(fb δ).bind fun y=>(g x y).bind fun z=>(asB z).bind fun k=>if k=true then (fc δ).bind fun w=>g' y w else .ok (.bl false)
theorem Qqd {r r':R2} {g g':D->D->Ou D} {fc:Fn} {σ:St} {H:Hp} {Q:VK} (hr:∀ (B:Addr->Prop) (H:Hp) (dx dy:D) (x y:V) (Q:VK),Rep X.K B H dx x->Rep X.K B H dy y->match g dx dy with
  | .ok d=>isS d=true/\(Q (toV d) H->r x y H Q)
  | .ex _=>False
  | .bad=>True) (hr':∀ (B:Addr->Prop) (H:Hp) (dx dy:D) (x y:V) (Q:VK),Rep X.K B H dx x->Rep X.K B H dy y->match g' dx dy with
  | .ok d=>isS d=true/\(Q (toV d) H->r' x y H Q)
  | .ex _=>False
  | .bad=>True) (hm:notF m=true) (h:tX X.K E m (fChn g g' fa fb fc) σ H Q):QnH r r' (tX X.K E .W fa) (tX X.K E .W fb) (tX X.K E .W fc) σ H Q:=by
 obtain ⟨c,δ,hK,ab,h⟩:=h
 refine ⟨c,δ,hK,ab,(Res.bind h).imp fun dx _ k x H1 e1 r1=>?_⟩
 refine ⟨c,δ,hK,ab.grow e1,(Res.bind k).imp fun dy _ k y H2 e2 r2=>?_⟩
 have r1':Rep X.K c.B H2 dx x:=by
  have z:Rep c.K c.B H1 dx x:=r1
  rw [hK] at z;exact z.same e2
 have r2':Rep X.K c.B H2 dy y:=by
  have z:Rep c.K c.B H2 dy y:=r2
  rw [hK] at z;exact z
 have q:=hr c.B H2 dx dy x y (fun z H3=>∃ k,z=.bl k/\(if k=true then tX X.K E .W fc σ H3 fun w' H4=>r' y w' H4 Q else Q (.bl false) H3)) r1' r2'
 cases e:g dx dy with
 | ex z=>rw [e] at q;exact q.elim
 | bad=>rw [e] at k;exact k.elim
 | ok d =>
  rw [e] at q k
  refine q.2 ?_
  simp only [Qad] at k
  cases d <;> first | exact k.elim | skip
  rename_i z
  refine ⟨z,rfl,?_⟩
  cases z with
  | false=>exact k _ H2 (e1.trans e2) (Post.ofS hm rfl)
  | true =>
   refine ⟨c,δ,hK,(ab.grow e1).grow e2,(Res.bind (show Res X.K E c.H₀ ((fc δ).bind fun w=>g' dy w) _ from k)).imp fun dw _ k w H3 e3 r3=>?_⟩
   have r3':Rep X.K c.B H3 dw w:=by
    have z:Rep c.K c.B H3 dw w:=r3
    rw [hK] at z;exact z
   have q':=hr' c.B H3 dy dw y w Q (r2'.same e3) r3'
   cases e':g' dy dw with
   | ex z=>rw [e'] at q';exact q'.elim
   | bad=>rw [e'] at k;exact k.elim
   | ok d =>
    rw [e'] at q' k
    exact q'.2 (k (toV d) H3 ((e1.trans e2).trans e3) (Post.ofS hm q'.1))
theorem xchn {op op':CmpOp} {g g':D->D->Ou D} {c:Expr} {fc:Fn} (ho:OpD X (compareOp op) g) (ho':OpD X (compareOp op') g') (ha:PE X a (tX X.K E .W fa)) (hb:PE X b (tX X.K E .W fb)) (hc:PE X c (tX X.K E .W fc)) (hk:lastMarks [op,op'] [b,c]=false:=by rfl) (hm:notF m=true:=by rfl) :
  PE X (.Compare a [op,op'] [b,c] pos) (tX X.K E m (fChn g g' fa fb fc)):=by
 obtain ⟨r,h1,h2⟩:=ho
 obtain ⟨r',h1',h2'⟩:=ho'
 exact (QnC h1 h1' ha hb hc hk).imp fun σ H Q q=>Qqd h2 h2' hm q
end
end DL
namespace DL
open PySem PySem.Spec PyProof.Rows L2
def zipO (f:D->D->Option Bool):List D->List D->Option (List Bool)
 | x::xs,y::ys=>(f x y).bind fun b=>(zipO f xs ys).bind fun bs=>some (b::bs)
 | _,_=>some []
def eqT (f:D->D->Option Bool) (xs ys:List D):Option Bool:=(zipO f xs ys).bind fun bs=>some (bs.all id && xs.length == ys.length)
def eqL (f:D->D->Option Bool) (xs ys:List D):Option Bool:=if xs.length=ys.length then (zipO f xs ys).bind fun bs=>some (bs.all id) else some false
def rk:D->Nat
 | .tup _=>1
 | .lst _=>2
 | .frl _=>2
 | .dic _ _=>3
 | .obj _=>3
 | .dip _ _=>3
 | .exc _ _ _=>3
 | _=>0
def its:D->List D
 | .tup xs=>xs
 | .lst xs=>xs
 | .frl xs=>xs
 | _=>[]
def eqF (f:D->D->Option Bool) (x y:D):Option Bool :=
 match rk x,rk y with
 | 0,0=>some (eqV (toV x) (toV y))
 | 1,1=>eqT f (its x) (its y)
 | 2,2=>eqL f (its x) (its y)
 | 3,_=>none
 | _,3=>none
 | _,_=>some false
def eqD:Nat->D->D->Option Bool
 | 0=>fun _ _=>none
 | n + 1=>eqF (eqD n)
theorem QfX {f:D->D->Option Bool}:∀ {xs ys:List D} {bs:List Bool},zipO f xs ys=some bs->bs.length=min xs.length ys.length
 | [],ys,bs,h=>by
  have:bs=[]:=by simpa [zipO] using h.symm
  subst this;simp
 | x::xs,[],bs,h=>by
  have:bs=[]:=by simpa [zipO] using h.symm
  subst this;simp
 | x::xs,y::ys,bs,h=>by
  simp only [zipO] at h
  cases e:f x y with
  | none=>rw [e] at h;cases h
  | some b =>
   rw [e] at h
   cases e2:zipO f xs ys with
   | none=>rw [e2] at h;cases h
   | some bs' =>
    rw [e2] at h
    cases h
    have:=QfX e2
    simp only [List.length_cons,this]
    lia
theorem QhJ {f:D->D->Option Bool}:∀ {xs ys:List D} {bs:List Bool},zipO f xs ys=some bs->∀ (j:Nat) (x y:D),xs[j]? = some x->ys[j]? = some y->∃ b,bs[j]? = some b/\f x y=some b
 | [],ys,bs,h,j,x,y,hx,hy=>by simp at hx
 | x::xs,[],bs,h,j,_,y,hx,hy=>by simp at hy
 | x::xs,y::ys,bs,h,j,x',y',hx,hy=>by
  simp only [zipO] at h
  cases e:f x y with
  | none=>rw [e] at h;cases h
  | some b =>
   rw [e] at h
   cases e2:zipO f xs ys with
   | none=>rw [e2] at h;cases h
   | some bs' =>
    rw [e2] at h
    cases h
    cases j with
    | zero =>
     simp at hx hy
     subst hx;subst hy
     exact ⟨b,rfl,e⟩
    | succ j =>
     obtain ⟨b',h1,h2⟩:=QhJ e2 j x' y' (by simpa using hx) (by simpa using hy)
     exact ⟨b',by simpa using h1,h2⟩
theorem QjB {bs:List Bool} {n:Nat} (h:bs.length=n):(List.range n).all (fun j=>bs.getD j true)=bs.all id:=by
 subst h
 rw [Bool.eq_iff_iff]
 simp only [List.all_eq_true,List.mem_range,id]
 constructor
 ·intro h b hb
  obtain ⟨j,hj,rfl⟩:=List.getElem_of_mem hb
  have:=h j hj
  simpa [List.getD,hj] using this
 ·intro h j hj
  have:=h bs[j] (List.getElem_mem hj)
  simpa [List.getD,hj] using this
section
variable {X:Cx} {pins:List (Addr×Obj)} {σ:St} {H:Hp} {s:Shared} {B:Addr->Prop} {A:Around}
structure Eq3 (A:Around) (s:Shared) (u v:Value) (b:Bool):Prop where
 rc:SeqAt.RcAt A s u v b
 ne:SeqAt.RcNeAt A s u v (!b)
 eq:SeqAt.EqAt A s u v b
theorem rc_sc {x y:V} {u v:Value} (rx:L2.RelV x u) (ry:L2.RelV y v) (fx:QcY x=true) (fy:QcY y=true):SeqAt.RcAt A s u v (eqV x y):=by
 cases x with
 | non =>
  cases rx
  cases y with
  | non=>cases ry;exact .none_none
  | bl b=>cases ry;exact .none_bool b
  | int b=>obtain ⟨tb,rfl⟩:=ry;exact .none_int b tb
  | str b=>obtain ⟨tb,rfl⟩:=ry;exact .none_str b tb
  | _=>exact absurd (show false=true from fy) Bool.false_ne_true
 | bl a =>
  cases rx
  cases y with
  | non=>cases ry;exact .bool_none a
  | bl b=>cases ry;exact .bool_bool a b
  | int b=>obtain ⟨tb,rfl⟩:=ry;exact .bool_int a b tb
  | str b=>obtain ⟨tb,rfl⟩:=ry;exact .bool_str a b tb
  | _=>exact absurd (show false=true from fy) Bool.false_ne_true
 | int a =>
  obtain ⟨ta,rfl⟩:=rx
  cases y with
  | non=>cases ry;exact .int_none a ta
  | bl b=>cases ry;exact .int_bool a ta b
  | int b=>obtain ⟨tb,rfl⟩:=ry;exact .int_int a ta b tb
  | str b=>obtain ⟨tb,rfl⟩:=ry;exact .int_str a ta b tb
  | _=>exact absurd (show false=true from fy) Bool.false_ne_true
 | str a =>
  obtain ⟨ta,rfl⟩:=rx
  cases y with
  | non=>cases ry;exact .str_none a ta
  | bl b=>cases ry;exact .str_bool a ta b
  | int b=>obtain ⟨tb,rfl⟩:=ry;exact .str_int a ta b tb
  | str b=>obtain ⟨tb,rfl⟩:=ry;exact .str_str a ta b tb
  | _=>exact absurd (show false=true from fy) Bool.false_ne_true
 | _=>exact absurd (show false=true from fx) Bool.false_ne_true
theorem Qp6 {x y:V} {u v:Value} (rx:L2.RelV x u) (ry:L2.RelV y v) (fx:QcY x=true) (fy:QcY y=true):SeqAt.RcNeAt A s u v (!eqV x y):=by
 cases x with
 | non =>
  cases rx
  cases y with
  | non=>cases ry;exact .none_none
  | bl b=>cases ry;exact .none_bool b
  | int b=>obtain ⟨tb,rfl⟩:=ry;exact .none_int b tb
  | str b=>obtain ⟨tb,rfl⟩:=ry;exact .none_str b tb
  | _=>exact absurd (show false=true from fy) Bool.false_ne_true
 | bl a =>
  cases rx
  cases y with
  | non=>cases ry;exact .bool_none a
  | bl b=>cases ry;exact .bool_bool a b
  | int b=>obtain ⟨tb,rfl⟩:=ry;exact .bool_int a b tb
  | str b=>obtain ⟨tb,rfl⟩:=ry;exact .bool_str a b tb
  | _=>exact absurd (show false=true from fy) Bool.false_ne_true
 | int a =>
  obtain ⟨ta,rfl⟩:=rx
  cases y with
  | non=>cases ry;exact .int_none a ta
  | bl b=>cases ry;exact .int_bool a ta b
  | int b=>obtain ⟨tb,rfl⟩:=ry;exact .int_int a ta b tb
  | str b=>obtain ⟨tb,rfl⟩:=ry;exact .int_str a ta b tb
  | _=>exact absurd (show false=true from fy) Bool.false_ne_true
 | str a =>
  obtain ⟨ta,rfl⟩:=rx
  cases y with
  | non=>cases ry;exact .str_none a ta
  | bl b=>cases ry;exact .str_bool a ta b
  | int b=>obtain ⟨tb,rfl⟩:=ry;exact .str_int a ta b tb
  | str b=>obtain ⟨tb,rfl⟩:=ry;exact .str_str a ta b tb
  | _=>exact absurd (show false=true from fy) Bool.false_ne_true
 | _=>exact absurd (show false=true from fx) Bool.false_ne_true
theorem QqC {x y:V} {u v:Value} (rx:L2.RelV x u) (ry:L2.RelV y v) (fx:QcY x=true) (fy:QcY y=true):Eq3 A s u v (eqV x y):=⟨rc_sc rx ry fx fy,Qp6 rx ry fx fy,QqV rx ry fx fy⟩
theorem Qhu {l:Addr} {items:Array Value} {y:V} {v:Value} (hl:s.heap.IsTuple l items) (hu:A.units < cLine) (ry:L2.RelV y v) (fy:QcY y=true):Eq3 A s (.ref l) v false/\Eq3 A s v (.ref l) false:=by
 cases y <;> first | exact absurd (show false=true from fy) Bool.false_ne_true | skip
 all_goals simp only [L2.RelV] at ry
 all_goals first | subst ry | (obtain ⟨t',rfl⟩:=ry)
 ·exact ⟨⟨.tuple_none hl hu,.tuple_none hl hu,.tuple_none hl hu⟩,.none_tuple hl hu,.none_tuple hl hu,.none_tuple hl hu⟩
 ·exact ⟨⟨.tuple_bool _ hl hu,.tuple_bool _ hl hu,.tuple_bool _ hl hu⟩,.bool_tuple _ hl hu,.bool_tuple _ hl hu,.bool_tuple _ hl hu⟩
 ·exact ⟨⟨.tuple_int _ _ hl hu,.tuple_int _ _ hl hu,.tuple_int _ _ hl hu⟩,.int_tuple _ _ hl hu,.int_tuple _ _ hl hu,.int_tuple _ _ hl hu⟩
 ·exact ⟨⟨.tuple_str _ _ hl hu,.tuple_str _ _ hl hu,.tuple_str _ _ hl hu⟩,.str_tuple _ _ hl hu,.str_tuple _ _ hl hu,.str_tuple _ _ hl hu⟩
theorem QiC {l:Addr} {items:Array Value} {y:V} {v:Value} (hl:s.heap.IsList l items) (hu:A.units < cLine) (ry:L2.RelV y v) (fy:QcY y=true):Eq3 A s (.ref l) v false/\Eq3 A s v (.ref l) false:=by
 cases y <;> first | exact absurd (show false=true from fy) Bool.false_ne_true | skip
 all_goals simp only [L2.RelV] at ry
 all_goals first | subst ry | (obtain ⟨t',rfl⟩:=ry)
 ·exact ⟨⟨.list_none hl hu,.list_none hl hu,.list_none hl hu⟩,.none_list hl hu,.none_list hl hu,.none_list hl hu⟩
 ·exact ⟨⟨.list_bool _ hl hu,.list_bool _ hl hu,.list_bool _ hl hu⟩,.bool_list _ hl hu,.bool_list _ hl hu,.bool_list _ hl hu⟩
 ·exact ⟨⟨.list_int _ _ hl hu,.list_int _ _ hl hu,.list_int _ _ hl hu⟩,.int_list _ _ hl hu,.int_list _ _ hl hu,.int_list _ _ hl hu⟩
 ·exact ⟨⟨.list_str _ _ hl hu,.list_str _ _ hl hu,.list_str _ _ hl hu⟩,.str_list _ _ hl hu,.str_list _ _ hl hu,.str_list _ _ hl hu⟩
theorem rk0 {K:PySem.W.Frag} {d:D} {x:V} (h:rk d=0) (r:Rep K B H d x):x=toV d/\QcY x=true:=by
 cases d <;> simp [rk] at h <;> simp only [Rep] at r <;> subst r <;> exact ⟨rfl,rfl⟩
theorem rk1 {K:PySem.W.Frag} {d:D} {x:V} (h:rk d=1) (r:Rep K B H d x):∃ a xs,x=.ref a/\SqT K H a xs/\Reps K B H (its d) xs:=by
 cases d <;> simp [rk] at h
 simpa only [Rep,its] using r
theorem rk2 {K:PySem.W.Frag} {d:D} {x:V} (h:rk d=2) (r:Rep K B H d x):∃ a xs,x=.ref a/\SqL K H a xs/\Reps K B H (its d) xs:=by
 cases d <;> simp [rk] at h <;> simp only [Rep] at r
 ·obtain ⟨a,xs,e,_,h1,h2⟩:=r;exact ⟨a,xs,e,.of h1,h2⟩
 ·obtain ⟨a,xs,e,h1,h2⟩:=r;exact ⟨a,xs,e,h1.sq,h2⟩
theorem QmI (d:D):rk d=0\/rk d=1\/rk d=2\/rk d=3:=by cases d <;> simp [rk]
theorem Qk8 {f:D->D->Option Bool} {dxs dys:List D} {xs ys:List V} {us vs:List Value} {bs:List Bool} (hz:zipO f dxs dys=some bs) (rx:Reps X.K B H dxs xs) (ry:Reps X.K B H dys ys) (ru:Vals xs us) (rv:Vals ys vs)
  (ih:∀ dx dy x y u v b,Rep X.K B H dx x->Rep X.K B H dy y->L2.RelV x u->L2.RelV y v->f dx dy=some b->SeqAt.EqAt A s u v b) :
  ∀ j (h1:j < us.toArray.size) (h2:j < vs.toArray.size),SeqAt.EqAt A s us.toArray[j] vs.toArray[j] (bs.getD j true):=by
 intro j h1 h2
 have hl1:=rx.length;have hl2:=ry.length;have hl3:=ru.length;have hl4:=rv.length
 have h1':j < us.length:=by simpa using h1
 have h2':j < vs.length:=by simpa using h2
 have k1:dxs[j]? = some (dxs[j]'(by lia)):=List.getElem?_eq_getElem (by lia)
 have k2:dys[j]? = some (dys[j]'(by lia)):=List.getElem?_eq_getElem (by lia)
 obtain ⟨b,e1,e2⟩:=QhJ hz j _ _ k1 k2
 obtain ⟨x,g1,g2⟩:=rx.get j _ k1
 obtain ⟨y,g3,g4⟩:=ry.get j _ k2
 obtain ⟨u,g5,g6⟩:=ru.get g1
 obtain ⟨v,g7,g8⟩:=rv.get g3
 have eu:us.toArray[j]=u:=by
  have:=List.getElem?_eq_getElem h1'
  rw [g5] at this
  simpa using (Option.some.inj this).symm
 have ev:vs.toArray[j]=v:=by
  have:=List.getElem?_eq_getElem h2'
  rw [g7] at this
  simpa using (Option.some.inj this).symm
 have eb:bs.getD j true=b:=by simp [List.getD,e1]
 rw [eu,ev,eb]
 exact ih _ _ x y u v b g2 g4 g6 g8 e2
theorem Qgx (I : Inv X pins σ H s) : ∀ (n : Nat) (dx dy : D) (x : V) (b : Bool), Rep X.K B H dx x → Rep X.K B H dy x → eqD n dx dy = some b → b = true
  | 0, _, _, _, _, _, _, e => nomatch e
  | n + 1, dx, dy, x, b, rx, ry, e => by
    have go : ∀ (dxs dys : List D) (xs : List V) (bs : List Bool), Reps X.K B H dxs xs → Reps X.K B H dys xs → zipO (eqD n) dxs dys = some bs → bs.all id = true := by
      intro dxs dys xs bs r1 r2 hz
      have hl := QfX hz
      have l1 := r1.length; have l2 := r2.length
      rw [List.all_eq_true]
      intro b hb
      obtain ⟨j, hj, rfl⟩ := List.getElem_of_mem hb
      have k1 : dxs[j]? = some (dxs[j]'(by lia)) := List.getElem?_eq_getElem (by lia)
      have k2 : dys[j]? = some (dys[j]'(by lia)) := List.getElem?_eq_getElem (by lia)
      obtain ⟨b', e1, e2⟩ := QhJ hz j _ _ k1 k2
      obtain ⟨v, g1, g2⟩ := r1.get j _ k1
      obtain ⟨v', g3, g4⟩ := r2.get j _ k2
      rw [g1] at g3; cases g3
      have := Qgx I n _ _ _ _ g2 g4 e2
      subst this
      rw [List.getElem?_eq_getElem hj] at e1
      simpa using Option.some.inj e1
    have e' : eqF (eqD n) dx dy = some b := e
    unfold eqF at e'
    rcases QmI dx with hx | hx | hx | hx <;> rcases QmI dy with hy | hy | hy | hy <;> rw [hx, hy] at e' <;> simp only at e'
    all_goals try cases e'
    · obtain ⟨h1, h2⟩ := rk0 hx rx
      obtain ⟨h3, _⟩ := rk0 hy ry
      rw [← h1, ← h3]
      cases x <;> simp [eqV, QcY] at h2 ⊢
    all_goals first
      | (obtain ⟨_, h2⟩ := rk0 hx rx
         first | (obtain ⟨a, xs, rfl, _⟩ := rk1 hy ry; simp [QcY] at h2) | (obtain ⟨a, xs, rfl, _⟩ := rk2 hy ry; simp [QcY] at h2))
      | (obtain ⟨_, h2⟩ := rk0 hy ry
         first | (obtain ⟨a, xs, rfl, _⟩ := rk1 hx rx; simp [QcY] at h2) | (obtain ⟨a, xs, rfl, _⟩ := rk2 hx rx; simp [QcY] at h2))
      | skip
    · obtain ⟨a, xs, rfl, h1, h2⟩ := rk1 hx rx
      obtain ⟨a', xs', z, h3, h4⟩ := rk1 hy ry
      cases z
      have := I.tuple_inj h1 h3
      subst this
      unfold eqT at e'
      cases ez : zipO (eqD n) (its dx) (its dy) with
      | none => rw [ez] at e'; cases e'
      | some bs =>
        rw [ez] at e'
        cases e'
        have l1 := h2.length; have l2 := h4.length
        rw [go _ _ _ _ h2 h4 ez]
        simp; lia
    · obtain ⟨a, xs, rfl, h1, h2⟩ := rk1 hx rx
      obtain ⟨a', xs', z, h3, h4⟩ := rk2 hy ry
      cases z
      obtain ⟨_, _, p1, _⟩ := I.tuple h1
      obtain ⟨_, _, p2, _⟩ := I.list h3
      exact absurd rfl (SeqAt.ne_of_list_tuple p2.isList p1)
    · obtain ⟨a, xs, rfl, h1, h2⟩ := rk2 hx rx
      obtain ⟨a', xs', z, h3, h4⟩ := rk1 hy ry
      cases z
      obtain ⟨_, _, p1, _⟩ := I.tuple h3
      obtain ⟨_, _, p2, _⟩ := I.list h1
      exact absurd rfl (SeqAt.ne_of_list_tuple p2.isList p1)
    · obtain ⟨a, xs, rfl, h1, h2⟩ := rk2 hx rx
      obtain ⟨a', xs', z, h3, h4⟩ := rk2 hy ry
      cases z
      have := I.list_inj h1 h3
      subst this
      have l1 := h2.length; have l2 := h4.length
      unfold eqL at e'
      rw [if_pos (by lia)] at e'
      cases ez : zipO (eqD n) (its dx) (its dy) with
      | none => rw [ez] at e'; cases e'
      | some bs =>
        rw [ez] at e'
        cases e'
        exact go _ _ _ _ h2 h4 ez
theorem QpZ (I:Inv X pins σ H s):∀ (n:Nat) (A:Around) (dx dy:D) (x y:V) (u v:Value) (b:Bool),A.units + n < cLine->Rep X.K B H dx x->Rep X.K B H dy y->L2.RelV x u->L2.RelV y v->eqD n dx dy=some b->Eq3 A s u v b
 | 0,_,_,_,_,_,_,_,_,_,_,_,_,_,e=>nomatch e
 | n + 1,A,dx,dy,x,y,u,v,b,hu,rx,ry,ru,rv,e=>by
  have hu0:A.units < cLine:=by lia
  have ih:=fun dx dy x y u v b=>fun h1 h2 h3 h4 h5=>(QpZ I n A.in1 dx dy x y u v b (by show A.units + 1 + n < cLine;lia) h1 h2 h3 h4 h5).eq
  have e0:=e
  have e':eqF (eqD n) dx dy=some b:=e
  unfold eqF at e'
  rcases QmI dx with hx | hx | hx | hx <;> rcases QmI dy with hy | hy | hy | hy <;> rw [hx,hy] at e' <;> simp only at e'
  all_goals try cases e'
  ·obtain ⟨h1,h2⟩:=rk0 hx rx
   obtain ⟨h3,h4⟩:=rk0 hy ry
   rw [← h1,← h3]
   exact QqC ru rv h2 h4
  ·obtain ⟨h1,h2⟩:=rk0 hx rx
   obtain ⟨a,xs,rfl,h3,h4⟩:=rk1 hy ry
   obtain rfl:v=Value.ref a:=rv
   obtain ⟨_,_,p,_⟩:=I.tuple h3
   exact (Qhu p hu0 ru h2).2
  ·obtain ⟨h1,h2⟩:=rk0 hx rx
   obtain ⟨a,xs,rfl,h3,h4⟩:=rk2 hy ry
   obtain rfl:v=Value.ref a:=rv
   obtain ⟨_,_,p,_⟩:=I.list h3
   exact (QiC p.isList hu0 ru h2).2
  ·obtain ⟨h1,h2⟩:=rk0 hy ry
   obtain ⟨a,xs,rfl,h3,h4⟩:=rk1 hx rx
   obtain rfl:u=Value.ref a:=ru
   obtain ⟨_,_,p,_⟩:=I.tuple h3
   exact (Qhu p hu0 rv h2).1
  ·obtain ⟨a,xs,rfl,h1,h2⟩:=rk1 hx rx
   obtain ⟨a',ys,rfl,h3,h4⟩:=rk1 hy ry
   obtain rfl:u=Value.ref a:=ru
   obtain rfl:v=Value.ref a':=rv
   obtain ⟨us,r1,p1,_⟩:=I.tuple h1
   obtain ⟨vs,r2,p2,_⟩:=I.tuple h3
   unfold eqT at e'
   cases ez:zipO (eqD n) (its dx) (its dy) with
   | none=>rw [ez] at e';cases e'
   | some bs =>
    rw [ez] at e'
    have eb:=Option.some.inj e'
    have hit:=Qk8 (A:=A.in1) (s:=s) ez h2 h4 r1 r2 ih
    have hl:=QfX ez
    have l1:=h2.length;have l2:=h4.length;have l3:=r1.length;have l4:=r2.length
    have el:bs.length=min us.toArray.size vs.toArray.size:=by simp;lia
    have es:(us.toArray.size == vs.toArray.size)=((its dx).length == (its dy).length):=by
     rw [Bool.eq_iff_iff];simp;lia
    have h5:=SeqAt.RcAt.tuples p1 p2 hu0 hit
    have h6:=SeqAt.RcNeAt.tuples p1 p2 hu0 hit
    rw [QjB el,es,eb] at h5 h6
    refine ⟨h5,h6,?_⟩
    by_cases ha:a=a'
    ·subst ha
     rw [Qgx I (n + 1) dx dy (.ref a) b rx ry e0]
     exact .same _
    ·exact .of_refs ha h5
  ·obtain ⟨a,xs,rfl,h1,h2⟩:=rk1 hx rx
   obtain ⟨a',ys,rfl,h3,h4⟩:=rk2 hy ry
   obtain rfl:u=Value.ref a:=ru
   obtain rfl:v=Value.ref a':=rv
   obtain ⟨us,r1,p1,_⟩:=I.tuple h1
   obtain ⟨vs,r2,p2,_⟩:=I.list h3
   exact ⟨.tuple_list p1 p2.isList hu0,.tuple_list p1 p2.isList hu0,.tuple_list p1 p2.isList hu0⟩
  ·obtain ⟨h1,h2⟩:=rk0 hy ry
   obtain ⟨a,xs,rfl,h3,h4⟩:=rk2 hx rx
   obtain rfl:u=Value.ref a:=ru
   obtain ⟨_,_,p,_⟩:=I.list h3
   exact (QiC p.isList hu0 rv h2).1
  ·obtain ⟨a,xs,rfl,h1,h2⟩:=rk2 hx rx
   obtain ⟨a',ys,rfl,h3,h4⟩:=rk1 hy ry
   obtain rfl:u=Value.ref a:=ru
   obtain rfl:v=Value.ref a':=rv
   obtain ⟨us,r1,p1,_⟩:=I.list h1
   obtain ⟨vs,r2,p2,_⟩:=I.tuple h3
   exact ⟨.list_tuple p1.isList p2 hu0,.list_tuple p1.isList p2 hu0,.list_tuple p1.isList p2 hu0⟩
  ·obtain ⟨a,xs,rfl,h1,h2⟩:=rk2 hx rx
   obtain ⟨a',ys,rfl,h3,h4⟩:=rk2 hy ry
   obtain rfl:u=Value.ref a:=ru
   obtain rfl:v=Value.ref a':=rv
   obtain ⟨us,r1,p1,_⟩:=I.list h1
   obtain ⟨vs,r2,p2,_⟩:=I.list h3
   have l1:=h2.length;have l2:=h4.length;have l3:=r1.length;have l4:=r2.length
   have key:SeqAt.RcAt A s (.ref a) (.ref a') b/\SeqAt.RcNeAt A s (.ref a) (.ref a') (!b):=by
    unfold eqL at e'
    by_cases hl:(its dx).length=(its dy).length
    ·rw [if_pos hl] at e'
     cases ez:zipO (eqD n) (its dx) (its dy) with
     | none=>rw [ez] at e';cases e'
     | some bs =>
      rw [ez] at e'
      have eb:=Option.some.inj e'
      have hit:=Qk8 (A:=A.in1) (s:=s) ez h2 h4 r1 r2 ih
      have hlz:=QfX ez
      have el:bs.length=us.toArray.size:=by simp;lia
      have esz:us.toArray.size=vs.toArray.size:=by simp;lia
      have h5:=SeqAt.RcAt.lists p1.isList p2.isList esz hu0 hit
      have h6:=SeqAt.RcNeAt.lists p1.isList p2.isList esz hu0 hit
      rw [QjB el,eb] at h5 h6
      exact ⟨h5,h6⟩
    ·rw [if_neg hl] at e'
     cases e'
     have esz:(us.toArray.size != vs.toArray.size)=true:=by simp;lia
     exact ⟨.lists_lengths p1.isList p2.isList esz hu0,.lists_lengths p1.isList p2.isList esz hu0⟩
   refine ⟨key.1,key.2,?_⟩
   by_cases ha:a=a'
   ·subst ha
    rw [Qgx I (n + 1) dx dy (.ref a) b rx ry e0]
    exact .same _
   ·exact .of_refs ha key.1
end
section
variable {X:Cx}
def gEq (x y:D):Ou D:=match eqD 60 x y with
 | some b=>.ok (.bl b)
 | none=>.bad
def gNe (x y:D):Ou D:=match eqD 60 x y with
 | some b=>.ok (.bl (!b))
 | none=>.bad
def rEqD (K:PySem.W.Frag) (neg:Bool):R2:=fun x y H Q=>∃ (B:Addr->Prop) (dx dy:D) (b:Bool),Rep K B H dx x/\Rep K B H dy y/\eqD 60 dx dy=some b/\Q (.bl (if neg then !b else b)) H
theorem Qp9 (hu:X.A.units + 64 < cLine):OpR X (compareOp .Eq) (rEqD X.K false):=by
 intro pins s σ H x y v u Q I rx ry h
 obtain ⟨B,dx,dy,b,h1,h2,h3,q⟩:=h
 exact EqBoolInt.of_rc (QpZ I 60 X.A dx dy x y v u b (by lia) h1 h2 rx ry h3).rc ⟨.bl b,H,I,rfl,q⟩
theorem QbN (hu:X.A.units + 64 < cLine):OpD X (compareOp .Eq) gEq:=by
 refine ⟨_,Qp9 hu,fun B H dx dy x y Q rx ry=>?_⟩
 unfold gEq
 cases e:eqD 60 dx dy with
 | none=>trivial
 | some b=>exact ⟨rfl,fun q=>⟨B,dx,dy,b,rx,ry,e,q⟩⟩
end
end DL
namespace DL
open PySem PySem.Spec PyProof.Rows L2
structure Src (K:PySem.W.Frag) (mg:Str->Option Value) (x:Str) (st:Stmt) (ps:List Str):Prop where
 ex:∃ f fd,Fun K x x st f fd/\Binds K fd ps []/\mg x=some (.ref f)
def spD (K:PySem.W.Frag) (fr:Bool) (n:Nat) (mm:List D->Ou D):Sp:=fun vs H Q _=>∃ (B:Addr->Prop) (ds:List D),ds.length=n/\Reps K B H ds vs /\
 Res K E0 H (mm ds) fun d=>∀ v H',Same H H'->RtP K (fun a=>B a\/H a=none) H fr d v H'->Q v H'
structure Df (P:Program) (w:World) (K:PySem.W.Frag) (mg:Str->Option Value) (base:Heap) (x:Str) (k:Nat) (ps:List Str) (fr:Bool) (mm:List D->Ou D):Prop where
 ex:∃ f fd,FnOk P w K mg base CX0 k f fd ps (spD K fr ps.length mm)/\Binds K fd ps []/\PySem.W.keepIn K (.ref f)=true/\mg x=some (.ref f)
section
variable {P:Program} {w:World} {K:PySem.W.Frag} {mg:Str->Option Value} {base:Heap}
theorem Df.mono {x:Str} {j k:Nat} {ps:List Str} {fr:Bool} {mm:List D->Ou D} (h:Df P w K mg base x j ps fr mm) (hj:j<=k):Df P w K mg base x k ps fr mm:=by
 obtain ⟨f,fd,h1,h2⟩:=h.ex
 exact ⟨f,fd,h1.mono hj,h2⟩
def Q6 (n:Nat) (ds:List D):DS:=ds.map Sl.val++List.replicate (n - ds.length) Sl.un
def runD (fr:Bool) (n:Nat) (F:Sm) (ds:List D):Ou D:=(F (Q6 n ds)).bind fun r=>match r with
 | .rt d=>.ok d
 | .nx _=>(match fr with
  | true=>.bad
  | false=>.ok .non)
 | _=>.bad
theorem Qe7 {N:List Str} {B:Addr->Prop} {H:Hp} {ds:List D} {vs:List V} (r:Reps K B H ds vs) (hl:ds.length<=N.length):Abs { K:=K,B:=fun a=>B a\/H a=none,H₀:=H,G:=[] } (start N vs) (Q6 N.length ds) H:=by
 have hv:=r.length
 have no:∀ (i:Nat) (z:D),(Q6 N.length ds)[i]? = some (Sl.own z)->False:=fun i z h=>by
  unfold Q6 at h
  rw [List.getElem?_append] at h
  split at h
  ·rw [List.getElem?_map] at h
   cases e:ds[i]? with
   | none=>rw [e] at h;cases h
   | some d=>rw [e] at h;cases h
  ·rw [List.getElem?_replicate] at h
   split at h <;> cases h
 have nown:∀ q,¬ Own (start N vs) (Q6 N.length ds) q:=fun q ⟨i,z,h,_⟩=>no i z h
 refine ⟨Same.refl H,fun a h=>.inr h,?_,fun i d h=>?_,fun i z h=>(no i z h).elim,fun d v h=>(nomatch h),fun i j di dj p h=>(no i di h).elim,fun i p hP=>(nomatch hP)⟩
 ·unfold Q6 L2.start
  simp [hv]
 ·unfold Q6 at h
  rw [List.getElem?_append] at h
  split at h
  ·rename_i hi
   rw [List.getElem?_map] at h
   cases e:ds[i]? with
   | none=>rw [e] at h;cases h
   | some d' =>
    rw [e] at h
    cases h
    obtain ⟨v,h1,h2⟩:=r.get i d e
    refine ⟨v,?_,h2.weak fun a z=>⟨.inl z,nown a⟩⟩
    unfold L2.start
    rw [List.getElem?_append_left (by rw [List.length_map];exact (List.getElem?_eq_some_iff.mp h1).1),List.getElem?_map,h1]
    rfl
  ·rw [List.getElem?_replicate] at h
   split at h <;> cases h
theorem QqL {N ps:List Str} {st:Stmt} {x:Str} {k:Nat} {fr:Bool} {F:Sm} {f:Addr} {fd:FuncData} (Fn:Fun K x x st f fd) (sc:FnScope N ps (Qb st)) (hn:ps.length<=N.length)
  (hbody:∀ (f:Addr) (cdv:Value) (A:Around) (outer:List Env) (s:Shared) (H:Hp) (E:XK),Room k (A.deeper (envOfC x (Qb st) s.heap.objs.size f cdv)) ->
   PSs (cxOf CX0 P w K mg base N x (Qb st) f cdv A outer s H E).nox (Qi st) (tS K E0 fr F)):FnOk P w K mg base CX0 (k + 1) f fd ps (spD K fr ps.length (runD fr N.length F)):=by
 refine Fn.ok sc (fun vs H Q E h=>?_) (fun cdv A outer s H vs Q E hr h=>⟨_,hbody f cdv A outer s H E hr,?_⟩)
 ·obtain ⟨B,ds,hl,r,_⟩:=h
  rw [r.length];exact hl
 ·obtain ⟨B,ds,hl,r,h⟩:=h
  refine ⟨_,Q6 N.length ds,rfl,⟨Qe7 r (by rw [hl];exact hn),rfl⟩,(Res.bind h).imp fun z _ k=>?_⟩
  cases z with
  | rt d=>exact k
  | nx δ =>
   cases fr with
   | true=>exact k.elim
   | false=>exact fun σ' H' ab=>k .non H' ab.same (by show Rep _ _ _ _ _;simp [Rep])
  | bk δ=>exact k.elim
  | ct δ=>exact k.elim
theorem Qak {N ps:List Str} {st:Stmt} {x qual:Str} {k:Nat} {fr:Bool} {F:Sm} {f:Addr} {fd:FuncData} (Fn:Fun K x qual st f fd) (sc:FnScope N ps (Qb st)) (hn:ps.length<=N.length)
  (hbody:∀ (f:Addr) (cdv:Value) (A:Around) (outer:List Env) (s:Shared) (H:Hp) (E:XK),Room k (A.deeper (envOfC qual (Qb st) s.heap.objs.size f cdv)) ->
   PSs (cxOf CX0 P w K mg base N qual (Qb st) f cdv A outer s H E).nox (Qi st) (tS K E0 fr F)):FnOk P w K mg base CX0 (k + 1) f fd ps (spD K fr ps.length (runD fr N.length F)):=by
 refine Fn.ok sc (fun vs H Q E h=>?_) (fun cdv A outer s H vs Q E hr h=>⟨_,hbody f cdv A outer s H E hr,?_⟩)
 ·obtain ⟨B,ds,hl,r,_⟩:=h
  rw [r.length];exact hl
 ·obtain ⟨B,ds,hl,r,h⟩:=h
  refine ⟨_,Q6 N.length ds,rfl,⟨Qe7 r (by rw [hl];exact hn),rfl⟩,(Res.bind h).imp fun z _ k=>?_⟩
  cases z with
  | rt d=>exact k
  | nx δ =>
   cases fr with
   | true=>exact k.elim
   | false=>exact fun σ' H' ab=>k .non H' ab.same (by show Rep _ _ _ _ _;simp [Rep])
  | bk δ=>exact k.elim
  | ct δ=>exact k.elim
theorem Qac {N ps:List Str} {st:Stmt} {x:Str} {k:Nat} {fr:Bool} {F:Sm} (S:Src K mg x st ps) (sc:FnScope N ps (Qb st)) (hn:ps.length<=N.length)
  (hbody:∀ (f:Addr) (cdv:Value) (A:Around) (outer:List Env) (s:Shared) (H:Hp) (E:XK),Room k (A.deeper (envOfC x (Qb st) s.heap.objs.size f cdv)) ->
   PSs (cxOf CX0 P w K mg base N x (Qb st) f cdv A outer s H E).nox (Qi st) (tS K E0 fr F)):Df P w K mg base x (k + 1) ps fr (runD fr N.length F):=by
 obtain ⟨f,fd,Fn,b,hm⟩:=S.ex
 exact ⟨f,fd,QqL Fn sc hn hbody,b,Fn.kp,hm⟩
end
section
variable {X:Cx} {m:Md} {e:Expr} {es:List Expr} {fs:List Fn} {p pos:Pos} {x:Str} {ps:List Str} {k:Nat} {mm:List D->Ou D}
def Qg (mm:List D->Ou D) (fs:List Fn):Fn:=fun δ=>(QaF fs δ).bind mm
theorem Qc8 {α:Type} {K:PySem.W.Frag} {E:XK} {H H':Hp} {o:Ou α} {q:α->Prop} (h:Res K E H o q) (e:Same H H'):Res K E H' o q:=by
 cases o with
 | ok a=>exact h
 | ex z =>
  obtain ⟨C,hc,h⟩:=h
  exact ⟨C,hc,fun H2 e2=>h H2 (e.trans e2)⟩
 | bad=>exact h
theorem Qm (h:Df X.prog X.w X.K X.mg X.base x k ps false mm) (hr:Room k X.A) (ha:PA X (e::es) (tXA X.K E0 m fs)) (hl:fs.length=ps.length:=by rfl) (hg:Gl X x:=by rfl) (hdb:(x == ("__debug__":Str))=false:=by decide)
  (he:starEach (e::es) X.env=(false,eval e X.env)::starEach es X.env:=by rfl) (hpl:(backTo pos (starEach es X.env)).any (·.1)=false:=by rfl) (hm:notF m=true:=by rfl):PE X (.Call (.Name x p) (e::es) [] pos) (tX X.K E0 m (Qg mm fs)):=by
 obtain ⟨f,fd,h1,h2,h3,h4⟩:=h.ex
 refine (Qhn h1 hr hg h4 h3 h2 .nil Qii ha hdb he hpl).imp fun σ H Q q=>?_
 obtain ⟨c,δ,hK,ab,q⟩:=q
 refine ⟨c,δ,hK,ab,(Res.bind q).imp fun ds hds k vs H1 e1 r1=>?_⟩
 refine ⟨BOf c σ δ m,ds,by rw [QaN hds];exact hl,by rw [List.append_nil,← hK];exact r1,(Qc8 k (ab.same.trans e1)).imp fun d _ k v H' e2 r2=>k v H' (e1.trans e2) ?_⟩
 have ab1:=ab.grow e1
 rw [← hK] at r2
 have r3:Rep c.K (BOf c σ δ m) H' d v:=Rep.weak r2 fun a z=>by
  rcases z with z | z
  ·exact z
  ·have:=ab1.av_new z
   cases m with
   | W=>exact this.1
   | S=>exact this
   | F=>simp [notF] at hm
 cases m with
 | W=>exact r3
 | S=>exact r3
 | F=>simp [notF] at hm
theorem Qgt (h:Df X.prog X.w X.K X.mg X.base x k ps true mm) (hr:Room k X.A) (ha:PA X (e::es) (tXA X.K E0 .S fs)) (hl:fs.length=ps.length:=by rfl) (hg:Gl X x:=by rfl) (hdb:(x == ("__debug__":Str))=false:=by decide)
  (he:starEach (e::es) X.env=(false,eval e X.env)::starEach es X.env:=by rfl) (hpl:(backTo pos (starEach es X.env)).any (·.1)=false:=by rfl):PE X (.Call (.Name x p) (e::es) [] pos) (tX X.K E0 .F (Qg mm fs)):=by
 obtain ⟨f,fd,h1,h2,h3,h4⟩:=h.ex
 refine (Qhn h1 hr hg h4 h3 h2 .nil Qii ha hdb he hpl).imp fun σ H Q q=>?_
 obtain ⟨c,δ,hK,ab,q⟩:=q
 refine ⟨c,δ,hK,ab,(Res.bind q).imp fun ds hds k vs H1 e1 r1=>?_⟩
 refine ⟨Av c σ δ,ds,by rw [QaN hds];exact hl,by rw [List.append_nil,← hK];exact r1,(Qc8 k (ab.same.trans e1)).imp fun d _ k v H' e2 r2=>k v H' (e1.trans e2) ?_⟩
 have ab1:=ab.grow e1
 rw [← hK] at r2
 obtain ⟨q,xs,rfl,z1,z2,z3⟩:=r2
 exact ⟨q,xs,rfl,e1.free z1,z2,z3.weak fun a z=>⟨z.1.elim id fun w=>ab1.av_new w,z.2⟩⟩
theorem xglob {E:XK} {d:D} {u:Value} (hm:X.mg x=some u) (hr:RelV (toV d) u) (hs:isS d=true:=by rfl) (hg:Gl X x:=by rfl) (hf:notF m=true:=by rfl) (hdb:(x == ("__debug__":Str))=false:=by decide):PE X (.Name x pos) (tX X.K E m (fC d)) :=
 (Qpl hg hm hr hdb).imp fun _ _ _ q=>rd_c hf hs q
end
end DL
namespace DL
open PySem PySem.Spec PyProof.Rows L2
section
variable {X:Cx} {E:XK} {m:Md} {a b e:Expr} {fa fb fe:Fn} {pos p:Pos} {es:List Expr} {fs:List Fn} {fr:Rm} {F G:Sm} {ga gb:DS->Ou Bool} {st:Stmt} {x:Str}
def Qms (X:Cx) (f:Value) (g:List D->Ou D):Prop :=
 ∃ r,CallR X f r/\∀ (B:Addr->Prop) (H:Hp) (ds:List D) (vs:List V) (Q:VK),Reps X.K B H ds vs->(∀ d,g ds=.ok d->isS d=true/\(Q (toV d) H->r vs H Q))/\∀ z,g ds≠.ex z
theorem rd_cb {r:List V->Hp->VK->Prop} {g:List D->Ou D} {σ:St} {H:Hp} {Q:VK} (hr:∀ (B:Addr->Prop) (H:Hp) (ds:List D) (vs:List V) (Q:VK),Reps X.K B H ds vs->(∀ d,g ds=.ok d->isS d=true/\(Q (toV d) H->r vs H Q))/\∀ z,g ds≠.ex z) (hm:notF m=true) (h:tX X.K E m (Qg g fs) σ H Q):tCB r (tXA X.K E .W fs) σ H Q:=by
 obtain ⟨c,δ,hK,ab,h⟩:=h
 refine ⟨c,δ,hK,ab,(Res.bind h).imp fun ds _ k vs H1 e1 r1=>?_⟩
 have r1':Reps X.K c.B H1 ds vs:=by rw [← hK];exact r1
 have q:=hr c.B H1 ds vs Q r1'
 cases e:g ds with
 | ok d =>
  rw [e] at k
  exact (q.1 d e).2 (k (toV d) H1 e1 (Post.ofS hm (q.1 d e).1))
 | ex z=>exact (q.2 z e).elim
 | bad=>rw [e] at k;exact k.elim
theorem xb {id:String} {g:List D->Ou D} (hc:Qms X (.builtin id) g) (hm:X.mg x=none) (ha:PA X (e::es) (tXA X.K E .W fs)) (hg:Gl X x:=by rfl) (hv:bootBuiltins x=some (.builtin id):=by decide +kernel) (hn:x≠"__name__":=by decide) (hdb:(x == ("__debug__":Str))=false:=by decide)
  (he:starEach (e::es) X.env=(false,eval e X.env)::starEach es X.env:=by rfl) (hpl:(backTo pos (starEach es X.env)).any (·.1)=false:=by rfl) (hf:notF m=true:=by rfl):PE X (.Call (.Name x p) (e::es) [] pos) (tX X.K E m (Qg g fs)):=by
 obtain ⟨r,h1,h2⟩:=hc
 exact (Qhr h1 hg hm hv ha hn hdb he hpl).imp fun σ H Q q=>rd_cb h2 hf q
def gLen:List D->Ou D
 | [.tup ds]=>.ok (.int (ds.length:Nat))
 | [.lst ds]=>.ok (.int (ds.length:Nat))
 | [.frl ds]=>.ok (.int (ds.length:Nat))
 | [.dic _ ds]=>.ok (.int (ds.length:Nat))
 | [.str z]=>if z.length<=sizeLine then .ok (.int (z.length:Nat)) else .bad
 | _=>.bad
theorem Reps.one' {K:PySem.W.Frag} {B:Addr->Prop} {H:Hp} {d:D} {vs:List V} (r:Reps K B H [d] vs):∃ v,vs=[v]/\Rep K B H d v:=by
 simp only [Reps] at r
 obtain ⟨v,r',rfl,h1,rfl⟩:=r
 exact ⟨v,rfl,h1⟩
theorem Reps.two' {K:PySem.W.Frag} {B:Addr->Prop} {H:Hp} {d d':D} {vs:List V} (r:Reps K B H [d,d'] vs):∃ v v',vs=[v,v']/\Rep K B H d v/\Rep K B H d' v':=by
 simp only [Reps] at r
 obtain ⟨v,r',rfl,h1,v',r'',rfl,h2,rfl⟩:=r
 exact ⟨v,v',rfl,h1,h2⟩
theorem Qm5:CallR X (.builtin "len") (fun xs H Q=>∃ a kvs,xs=[V.ref a]/\Rd H a (.dK kvs)/\Q (.int kvs.length) H):=by
 intro pins s σ H xs us Q I r h
 obtain ⟨a,kvs,rfl,ha,q⟩:=h
 obtain ⟨u,rfl,ru⟩:=QgP r
 cases ru
 exact d_len I ha fun t s' I'=>⟨.int kvs.length,H,I',⟨t,rfl⟩,q⟩
theorem QdQ:Qms X (.builtin "len") gLen:=by
 refine ⟨_,CallR.or Qkw (CallR.or Qkq Qm5),fun B H ds vs Q r=>⟨fun d h=>?_,fun z h=>?_⟩⟩
 ·unfold gLen at h
  split at h
  ·cases h
   obtain ⟨v,rfl,r2⟩:=r.one'
   simp only [Rep] at r2
   obtain ⟨a,xs,rfl,h1,h2⟩:=r2
   exact ⟨rfl,fun q=>.inl ⟨a,xs,rfl,.inr h1,by rw [h2.length];exact q⟩⟩
  ·cases h
   obtain ⟨v,rfl,r2⟩:=r.one'
   simp only [Rep] at r2
   obtain ⟨a,xs,rfl,_,h1,h2⟩:=r2
   exact ⟨rfl,fun q=>.inl ⟨a,xs,rfl,.inl (.of h1),by rw [h2.length];exact q⟩⟩
  ·cases h
   obtain ⟨v,rfl,r2⟩:=r.one'
   simp only [Rep] at r2
   obtain ⟨a,xs,rfl,h1,h2⟩:=r2
   exact ⟨rfl,fun q=>.inl ⟨a,xs,rfl,.inl h1.sq,by rw [h2.length];exact q⟩⟩
  ·cases h
   obtain ⟨v,rfl,r2⟩:=r.one'
   simp only [Rep] at r2
   obtain ⟨a,kvs,rfl,_,h1,_,h2⟩:=r2
   have hl:=h2.length
   rw [List.length_map] at hl
   exact ⟨rfl,fun q=>.inr (.inr ⟨a,kvs,rfl,h1,by rw [hl];exact q⟩)⟩
  ·split at h
   ·rename_i z hl
    cases h
    obtain ⟨v,rfl,r2⟩:=r.one'
    simp only [Rep] at r2
    subst r2
    exact ⟨rfl,fun q=>.inr (.inl ⟨_,rfl,hl,q⟩)⟩
   ·cases h
  ·cases h
 ·unfold gLen at h
  split at h <;> first | cases h | (split at h <;> cases h)
def gMin:List D->Ou D
 | [.int i,.int j]=>.ok (.int (if j < i then j else i))
 | _=>.bad
def gMax:List D->Ou D
 | [.int i,.int j]=>.ok (.int (if j > i then j else i))
 | _=>.bad
theorem Qnw (hc:X.calm=true:=by rfl):Qms X (.builtin "min") gMin:=by
 refine ⟨_,Qnb hc,fun B H ds vs Q r=>⟨fun d h=>?_,fun z h=>?_⟩⟩
 ·unfold gMin at h
  split at h
  ·cases h
   obtain ⟨v,v',rfl,r1,r2⟩:=r.two'
   simp only [Rep] at r1 r2
   subst r1;subst r2
   exact ⟨rfl,fun q=>⟨_,_,rfl,q⟩⟩
  ·cases h
 ·unfold gMin at h
  split at h <;> cases h
theorem Qmc (hc:X.calm=true:=by rfl):Qms X (.builtin "max") gMax:=by
 refine ⟨_,QmZ hc,fun B H ds vs Q r=>⟨fun d h=>?_,fun z h=>?_⟩⟩
 ·unfold gMax at h
  split at h
  ·cases h
   obtain ⟨v,v',rfl,r1,r2⟩:=r.two'
   simp only [Rep] at r1 r2
   subst r1;subst r2
   exact ⟨rfl,fun q=>⟨_,_,rfl,q⟩⟩
  ·cases h
 ·unfold gMax at h
  split at h <;> cases h
def QpW (t T:String):Option Bool:=if (Value.type t == Value.type T)=true then some true else if PySem.W.kitMeta T=true then (PySem.fastBuiltinMro t).map (·.contains (.type T)) else none
inductive TyV (K:PySem.W.Frag) (H:Hp):V->String->Prop where
 | non:TyV K H .non "NoneType"
 | bl (x:Bool):TyV K H (.bl x) "bool"
 | int (i:Int):TyV K H (.int i) "int"
 | str (x:Str):TyV K H (.str x) "str"
 | lst {a:Addr} {xs:List V} (e:SqL K H a xs):TyV K H (.ref a) "list"
 | tup {a:Addr} {xs:List V} (e:SqT K H a xs):TyV K H (.ref a) "tuple"
theorem QnV:CallR X (.builtin "isinstance") (fun vs H Q=>∃ v t T k,vs=[v,.ty T]/\TyV X.K H v t/\QpW t T=some k/\Q (.bl k) H):=by
 intro pins s σ H xs us Q I r h
 obtain ⟨v,t,T,k,rfl,ty,hk,q⟩:=h
 obtain ⟨u,w',rfl,ru,rw'⟩:=Qmo r
 obtain rfl:w'=Value.type T:=rw'
 have e:PySem.W.kitOne X.K (.type t) (.type T)=some k:=hk
 have fin:∀ tk,EP X pins σ Q (.bool k) { s with toks:=tk }:=fun tk=>⟨.bl k,H,I.tok tk,rfl,q⟩
 cases ty with
 | non=>cases (show u=Value.none from ru);exact PySem.W.kia_one PySem.W.kitx_none I.kIn True.intro e (fun z=>nomatch z) fin
 | bl y=>cases (show u=Value.bool y from ru);exact PySem.W.kia_one PySem.W.kitx_bool I.kIn True.intro e (fun z=>nomatch z) fin
 | int i=>obtain ⟨t,z⟩:=(show ∃ t,u=Value.int i t from ru);cases z;exact PySem.W.kia_one PySem.W.kitx_int I.kIn True.intro e (fun z=>nomatch z) fin
 | str y=>obtain ⟨t,z⟩:=(show ∃ t,u=Value.str y t from ru);cases z;exact PySem.W.kia_one PySem.W.kitx_str I.kIn True.intro e (fun z=>nomatch z) fin
 | @lst a xs ea =>
  cases (show u=Value.ref a from ru)
  obtain ⟨its,_,⟨o,n,h1,h2,_⟩,_⟩:=I.list ea
  exact PySem.W.kia_one PySem.W.kitx_list I.kIn ⟨o,h1,h2⟩ e (fun z=>nomatch z) fin
 | @tup a xs ea =>
  cases (show u=Value.ref a from ru)
  obtain ⟨its,_,⟨o,h1,h2,_⟩,_⟩:=I.tuple ea
  exact PySem.W.kia_one PySem.W.kitx_tuple I.kIn ⟨o,h1,h2⟩ e (fun z=>nomatch z) fin
def tyN:D->String
 | .non=>"NoneType"
 | .bl _=>"bool"
 | .int _=>"int"
 | .str _=>"str"
 | .tup _=>"tuple"
 | .lst _=>"list"
 | .frl _=>"list"
 | .dic _ _=>"dict"
 | .obj _=>"object"
 | .dip _ _=>"dict"
 | .exc _ _ _=>"object"
def isT (t T:String):Bool:=t == T || (t == "bool" && T == "int")
def gIs (T:String):D->Ou D
 | .obj _=>.bad
 | .dic _ _=>.bad
 | .dip _ _=>.bad
 | .exc _ _ _=>.bad
 | d=>.ok (.bl (isT (tyN d) T))
theorem ty_of {K:PySem.W.Frag} {B:Addr->Prop} {H:Hp} {d:D} {v:V} (r:Rep K B H d v) (hd:rk d≠3):TyV K H v (tyN d)/\tyN d∈["NoneType","bool","int","str","tuple","list"]:=by
 cases d <;> simp only [Rep] at r
 ·subst r;exact ⟨.non,by decide⟩
 ·subst r;exact ⟨.bl _,by simp [tyN]⟩
 ·subst r;exact ⟨.int _,by simp [tyN]⟩
 ·subst r;exact ⟨.str _,by simp [tyN]⟩
 ·obtain ⟨a,xs,rfl,h1,_⟩:=r;exact ⟨.tup h1,by simp [tyN]⟩
 ·obtain ⟨a,xs,rfl,_,h1,_⟩:=r;exact ⟨.lst (.of h1),by simp [tyN]⟩
 ·obtain ⟨a,xs,rfl,h1,_⟩:=r;exact ⟨.lst h1.sq,by simp [tyN]⟩
 ·exact absurd rfl hd
 ·exact absurd rfl hd
 ·exact absurd rfl hd
 ·exact absurd rfl hd
theorem xis {T:String} {tx:Str} {p2:Pos} (z1:X.mg "isinstance" = none) (z2:X.mg tx=none) (ha:PE X a (tX X.K E .W fa)) (hb:bootBuiltins tx=some (.type T):=by decide +kernel)
  (hT:∀ t∈["NoneType","bool","int","str","tuple","list"],QpW t T=some (isT t T):=by decide +kernel) (hg1:Gl X "isinstance":=by rfl) (hg2:Gl X tx:=by rfl) (hn:tx≠"__name__":=by decide) (hdb:(tx == ("__debug__":Str))=false:=by decide)
  (he:starEach [a,.Name tx p2] X.env=(false,eval a X.env)::starEach [.Name tx p2] X.env:=by rfl) (he2:starEach [.Name tx p2] X.env=(false,eval (.Name tx p2) X.env)::starEach [] X.env:=by rfl) (hpl:(backTo pos (starEach [.Name tx p2] X.env)).any (·.1)=false:=by rfl) (hf:notF m=true:=by rfl) :
  PE X (.Call (.Name "isinstance" p) [a,.Name tx p2] [] pos) (tX X.K E m (f1 (gIs T) fa)):=by
 have hty:PE X (.Name tx p2) (tC (.ty T)):=Qpe hg2 z2 hb rfl hn hdb
 refine (Qhr QnV hg1 z1 (by decide +kernel) (Qdq ha (Qdq hty pa_nil he2) he) (by decide) (by decide) he hpl).imp fun σ H Q q=>?_
 obtain ⟨c,δ,hK,ab,q⟩:=q
 refine ⟨c,δ,hK,ab,(Res.bind q).imp fun d _ k v H1 e1 r1=>?_⟩
 have r1':Rep X.K c.B H1 d v:=by rw [← hK];exact r1
 by_cases hd:rk d=3
 ·cases d <;> first | exact k.elim | (simp [rk] at hd)
 ·have hg:gIs T d=.ok (.bl (isT (tyN d) T)):=by
   cases d <;> first | rfl | exact absurd rfl hd
  rw [hg] at k
  obtain ⟨t1,t2⟩:=ty_of r1' hd
  exact ⟨v,tyN d,T,_,rfl,t1,hT _ t2,k _ H1 e1 (Post.ofS hf rfl)⟩
def QnE:D->Ou D
 | .int i=>.ok (.int (Builtin.Int.intBits i:Nat))
 | _=>.bad
theorem Qpd:MtR X "int.bit_length" (fun x xs H Q=>∃ i,x=.int i/\xs=[]/\Q (.int (Builtin.Int.intBits i:Nat)) H):=by
 intro pins s σ H x xs v us Q I rx rs h
 obtain ⟨i,rfl,rfl,q⟩:=h
 obtain ⟨t,rfl⟩:=rx
 cases rs
 exact call_int_bit_length ⟨.int _,H,I.tok _,⟨_,rfl⟩,q⟩
theorem xbits {apos cpos:Pos} (ha:PE X a (tX X.K E .W fa)) (hbase:attributeBase a "bit_length" X.env (eval a X.env)=eval a X.env:=by rfl) (hline:(apos.endLine == cpos.line)=true:=by rfl) (hf:notF m=true:=by rfl):PE X (.Call (.Attribute a "bit_length" apos) [] [] cpos) (tX X.K E m (f1 QnE fa)) :=
 (Qra PySem.F.plainAttrs_int PySem.F.slot_int_bit_length PySem.F.type_int_bit_length Qpd ha hbase hline).imp fun σ H Q q=>by
 obtain ⟨c,δ,hK,ab,q⟩:=q
 refine ⟨c,δ,hK,ab,(Res.bind q).imp fun d _ k v H1 e1 r1=>?_⟩
 have r1':Rep c.K c.B H1 d v:=r1
 cases d <;> first | exact k.elim | skip
 simp only [Rep] at r1'
 subst r1'
 exact ⟨rfl,_,rfl,rfl,k _ H1 e1 (Post.ofS hf rfl)⟩
theorem QmL {tg:Expr} {body:List Stmt} {g:D->DS->Ou DS} (hp:PassesOwn (model X.prog X.w) X.A X.env X.xe) (hc:X.calm=true) (hm:X.mg "range" = none) (ha:PA X [a] (tXA X.K E .W [fa])) (hg:PG X tg (tG X.K E g)) (hb:PSs X body (tS X.K E fr F))
  (hgl:Gl X "range":=by rfl) (hse:starEach [a] X.env=[(false,eval a X.env)]:=by rfl) (hs:∀ x,foldedSetIterable (.Call (.Name "range" p) [a] [] pos) X.env x=pure x:=by intro _;rfl) {fpos:Pos} :
  PS X (.For tg (.Call (.Name "range" p) [a] [] pos) body [] fpos) (tS X.K E fr (sRng [fa] g F)):=(Qkb hp hc (Qjt hgl hm ha hse) hg hb hs).imp fun D σ H q=>by
 obtain ⟨c,δ,hK,ab,q⟩:=q
 refine ⟨c,δ,hK,ab,(Res.bind q).imp fun ds hds k vs H1 e1 r1=>?_⟩
 have hl:ds.length=1:=QaN hds
 obtain ⟨d,rfl⟩:∃ d,ds=[d]:=by
  cases ds with
  | nil=>cases hl
  | cons d r =>
   cases r with
   | nil=>exact ⟨d,rfl⟩
   | cons d' r=>simp at hl
 obtain ⟨v,rfl,r2⟩:=r1.one'
 cases d <;> first | exact k.elim | skip
 simp only [Rep] at r2
 subst r2
 rename_i j
 by_cases hj:rOk j=true
 ·simp only [hj,if_true] at k
  have hj':=of_decide_eq_true hj
  exact ⟨j,rfl,hj'.1,hj'.2,QpP hK (ab.grow e1) k ab.pi⟩
 ·simp only [if_neg hj] at k
  exact k.elim
def QkQ:Option Fn->DS->Ou (Option Int)
 | none,_=>.ok none
 | some f,δ=>(f δ).bind fun d=>match d with
  | .int i=>.ok (some i)
  | _=>.bad
def tP (K:PySem.W.Frag) (E:XK) (f:Option Fn):TO:=fun σ H Q=>∃ c δ,c.K=K/\Abs c σ δ H/\Res K E c.H₀ (QkQ f δ) fun i=>∀ H',Same H H'->Q i H'
theorem PO.imp {e:Option Expr} {t t':TO} (h:PO X e t) (hi:∀ σ H Q,t' σ H Q->t σ H Q):PO X e t':=fun pins s σ H Q I q=>h pins s σ H Q I (hi _ _ _ q)
theorem Qk6:PO X none (tP X.K E none):=PO.imp QoX fun σ H Q q=>by
 obtain ⟨c,δ,hK,ab,q⟩:=q
 exact q H (Same.refl H)
theorem Qf4 (h:PE X e (tX X.K E .W fe)):PO X (some e) (tP X.K E (some fe)):=PO.imp (Qps h) fun σ H Q q=>by
 obtain ⟨c,δ,hK,ab,q⟩:=q
 refine ⟨c,δ,hK,ab,(Res.bind q).imp fun d _ k v H1 e1 r1=>?_⟩
 have r1':Rep c.K c.B H1 d v:=r1
 cases d <;> first | exact k.elim | skip
 simp only [Rep] at r1'
 exact ⟨_,r1',k H1 e1⟩
def cutD (xs:List D) (lo hi:Option Int):List D:=(xs.drop (HT.sIx xs.length 0 lo)).take (HT.sIx xs.length xs.length hi - HT.sIx xs.length 0 lo)
def fSl (f:Fn) (lo hi:Option Fn):Fn:=fun δ=>(f δ).bind fun d=>(QkQ lo δ).bind fun l=>(QkQ hi δ).bind fun u=>match d with
 | .lst ds=>.ok (.lst (cutD ds l u))
 | .frl ds=>.ok (.lst (cutD ds l u))
 | _=>.bad
theorem Reps.cut {K:PySem.W.Frag} {B:Addr->Prop} {H:Hp} {ds:List D} {vs:List V} (lo hi:Option Int) (r:Reps K B H ds vs):Reps K B H (cutD ds lo hi) (cutV vs lo hi):=by
 unfold cutD cutV
 rw [r.length]
 exact Reps.take _ (Reps.drop _ r)
theorem xsl {lo hi:Option Expr} {flo fhi:Option Fn} {p2:Pos} (he:PE X e (tX X.K E .S fe)) (hl:PO X lo (tP X.K E flo)) (hu:PO X hi (tP X.K E fhi)):PE X (.Subscript e (.Slice lo hi none p2) pos) (tX X.K E .F (fSl fe flo fhi)):=(QoD Qpj he hl hu).imp fun σ H Q q=>by
 obtain ⟨c,δ,hK,ab,q⟩:=q
 refine ⟨c,δ,hK,ab,(Res.bind q).imp fun d hd k v H1 e1 r1=>?_⟩
 refine ⟨c,δ,hK,ab.grow e1,(Res.bind k).imp fun l _ k H2 e2=>?_⟩
 refine ⟨c,δ,hK,(ab.grow e1).grow e2,(Res.bind k).imp fun u _ k H3 e3=>?_⟩
 have r1':Rep c.K (Av c σ δ) H3 d v:=Rep.same (Rep.same (show Rep c.K (Av c σ δ) H1 d v from r1) e2) e3
 have e13:=(e1.trans e2).trans e3
 cases d <;> first | exact k.elim | skip
 ·rename_i ds
  simp only [Rep] at r1'
  obtain ⟨a,xs,rfl,_,h1,h2⟩:=r1'
  exact ⟨a,xs,rfl,.of h1,fun p hp=>k (.ref p) _ (e13.trans (QD hp _)) ⟨p,_,rfl,e13.free hp,QH,_,rfl,(Reps.off (Reps.cut l u h2) hp).same (QD hp _)⟩⟩
 ·rename_i ds
  simp only [Rep] at r1'
  obtain ⟨a,xs,rfl,h1,h2⟩:=r1'
  exact ⟨a,xs,rfl,by rw [← hK];exact h1.sq,fun p hp=>k (.ref p) _ (e13.trans (QD hp _)) ⟨p,_,rfl,e13.free hp,QH,_,rfl,(Reps.off (Reps.cut l u h2) hp).same (QD hp _)⟩⟩
theorem Qpo:OpR X (binaryOp .Add) (fun x y H Q=>∃ a b xs ys,x=.ref a/\y=.ref b/\SqL X.K H a xs/\SqL X.K H b ys/\xs.length + ys.length<=sizeLine/\∀ p,H p=none->Q (.ref p) (upd H p (.lst (xs++ys)))):=by
 intro pins s σ H x y v u Q I rx ry h
 obtain ⟨a,b,xs,ys,rfl,rfl,h1,h2,hz,q⟩:=h
 cases rx
 cases ry
 obtain ⟨us,r1,⟨⟨cls,dd,data,sl⟩,n,ho,hc,hdn,hd⟩,_⟩:=I.list h1
 obtain ⟨ws,r2,⟨⟨cls2,dd2,data2,sl2⟩,n2,ho2,hc2,hdn2,hd2⟩,_⟩:=I.list h2
 simp only at hc hd hc2 hd2
 subst hc hd hc2 hd2
 have l1:=r1.length
 have l2:=r2.length
 have ea:us.toArray++ws.toArray=(us++ws).toArray:=by simp
 refine concat_meets ⟨_,ho,rfl⟩ ⟨_,ho2,rfl⟩ noFill_list_add seq_list_add PySem.F.slot_list_add PySem.F.entry_list_add (PySem.F.args_list_add_2 _ _) (list_addW a b us.toArray ws.toArray n n2 dd dd2 sl sl2 (by rw [List.size_toArray,List.size_toArray];lia)) ⟨ho,ho2,?_⟩
 rw [ea]
 exact ⟨.ref _,_,I.lnew (t':=s.toks) (r1.append r2) (by rw [List.length_append];lia),rfl,q _ I.fresh⟩
def gCat:D->D->Ou D
 | .lst xs,.lst ys=>if xs.length + ys.length<=sizeLine then .ok (.lst (xs++ys)) else .bad
 | .frl xs,.lst ys=>if xs.length + ys.length<=sizeLine then .ok (.lst (xs++ys)) else .bad
 | _,_=>.bad
theorem xcat (ha:PE X a (tX X.K E .S fa)) (hb:PE X b (tX X.K E .S fb)):PE X (.BinOp a .Add b pos) (tX X.K E .F (f2 gCat fa fb)):=(Qny Qpo ha hb).imp fun σ H Q q=>by
 obtain ⟨c,δ,hK,ab,q⟩:=q
 refine ⟨c,δ,hK,ab,(Res.bind q).imp fun dx hx0 k x H1 e1 r1=>?_⟩
 refine ⟨c,δ,hK,ab.grow e1,(Res.bind k).imp fun dy hy0 k2 y H2 e2 r2=>?_⟩
 have r1':Rep c.K (Av c σ δ) H2 dx x:=Rep.same (show Rep c.K (Av c σ δ) H1 dx x from r1) e2
 have r2':Rep c.K (Av c σ δ) H2 dy y:=r2
 cases dx <;> first | (cases dy <;> exact k2.elim) | skip
 ·rename_i xs
  cases dy <;> first | exact k2.elim | skip
  rename_i ys
  simp only [Rep] at r1' r2'
  obtain ⟨a,vs,rfl,_,h1,h2⟩:=r1'
  obtain ⟨b,us,rfl,_,h3,h4⟩:=r2'
  unfold gCat at k2
  by_cases hl:xs.length + ys.length<=sizeLine
  ·simp only [if_pos hl] at k2
   exact ⟨a,b,vs,us,rfl,rfl,.of h1,.of h3,by rw [h2.length,h4.length];exact hl,fun p hp=>k2 (.ref p) _ ((e1.trans e2).trans (QD hp _)) ⟨p,_,rfl,(e1.trans e2).free hp,QH,_,rfl,(Reps.off (Reps.append h2 h4) hp).same (QD hp _)⟩⟩
  ·simp only [if_neg hl] at k2
   exact k2.elim
 ·rename_i xs
  cases dy <;> first | exact k2.elim | skip
  rename_i ys
  simp only [Rep] at r1' r2'
  obtain ⟨a,vs,rfl,h1,h2⟩:=r1'
  obtain ⟨b,us,rfl,_,h3,h4⟩:=r2'
  unfold gCat at k2
  by_cases hl:xs.length + ys.length<=sizeLine
  ·simp only [if_pos hl] at k2
   exact ⟨a,b,vs,us,rfl,rfl,(by rw [← hK];exact h1.sq),.of h3,by rw [h2.length,h4.length];exact hl,fun p hp=>k2 (.ref p) _ ((e1.trans e2).trans (QD hp _)) ⟨p,_,rfl,(e1.trans e2).free hp,QH,_,rfl,(Reps.off (Reps.append h2 h4) hp).same (QD hp _)⟩⟩
  ·simp only [if_neg hl] at k2
   exact k2.elim
def sApp (i:Nat) (f:Fn):Sm:=fun δ=>match δ[i]? with
 | some (.own (.lst ds))=>(f δ).bind fun d=>if ds.length < sizeLine then .ok (.nx (δ.set i (.own (.lst (ds++[d]))))) else .bad
 | _=>.bad
theorem QlE (i:Nat) {px apos cpos:Pos} (he:PE X e (tX X.K E .S fe)) (hN:X.N[i]? = some x:=by rfl) (hv:Vis X.env.scope x:=by first | exact Or.inl rfl | exact Or.inr (Or.inl rfl) | exact Or.inr (Or.inr rfl)) (hd:(x == ("__debug__":Str))=false:=by decide) (hcd:(x == ("__classdict__":Str))=false:=by decide)
  (hst:starEach [e] X.env=(false,eval e X.env)::starEach [] X.env:=by rfl) (hs:swapsWith (.Call (.Attribute (.Name x px) "append" apos) [e] [] cpos) none pos.line X.env=pure false:=by rfl) (hb:attributeBase (.Name x px) "append" X.env (eval (.Name x px) X.env)=eval (.Name x px) X.env:=by rfl) (h1:(apos.endLine == cpos.line)=true:=by rfl)
  (h2:(backTo cpos (starEach ([]:List Expr) X.env)).any (·.1)=false:=by rfl)
  (hfew:((backTo cpos (starEach [e] X.env)).all (fun x=>!x.1) && (backToKw cpos (keywordEach [] X.env)).all (fun x=>x.1.isSome) && decide (([e]:List Expr).length + ([]:List Keyword).length + (if ([]:List Keyword).isEmpty then 0 else 1) < 30))=true:=by rfl) :
  PS X (.Expr (.Call (.Attribute (.Name x px) "append" apos) [e] [] cpos) pos) (tS X.K E fr (sApp i fe)) :=
 (QpK (pe_bm PySem.F.plainAttrs_list PySem.F.slot_list_append PySem.F.type_list_append Qjs (pv i hN hv hd hcd) (Qdq he pa_nil hst) hb hfew h1 hst h2) hs).imp fun D σ H q=>by
 obtain ⟨c,δ,hK,ab,q⟩:=q
 unfold sApp at q
 cases e0:δ[i]? with
 | none=>rw [e0] at q;exact q.elim
 | some s =>
  rw [e0] at q
  cases s with
  | un=>exact q.elim
  | val d=>exact q.elim
  | own d =>
   cases d <;> first | exact q.elim | skip
   rename_i ds
   obtain ⟨p,o,g1,g2,g3,xs,rfl,g4⟩:=ab.own i _ e0
   refine ⟨.ref p,g1,.inl ⟨rfl,xs,.of g2⟩,c,δ,hK,ab,(Res.bind q).imp fun d _ k v H1 e1 r1=>?_⟩
   by_cases hl:ds.length < sizeLine
   ·simp only [if_pos hl] at k
    have z2:=e1 _ _ g2
    exact ⟨p,xs,v,rfl,rfl,z2,by rw [g4.length];exact hl,k σ _ ((ab.grow e1).mut e0 g1 ⟨_,rfl,Reps.append (g4.same e1) (Reps.one r1)⟩)⟩
   ·simp only [if_neg hl] at k
    exact k.elim
def gNm2 (i j:Nat):D->DS->Ou DS:=fun d δ=>match d with
 | .tup [x,y]=>.ok ((δ.set i (.val x)).set j (.val y))
 | _=>.bad
theorem xg_2 (i j:Nat) {y:Str} {px py:Pos} {k2:_} (hN:X.N.Nodup) (hc:X.calm=true:=by rfl) (hi:X.N[i]? = some x:=by rfl) (hj:X.N[j]? = some y:=by rfl) (hx:Loc X.env.scope x:=by first | exact Or.inl rfl | exact Or.inr rfl) (hy:Loc X.env.scope y:=by first | exact Or.inl rfl | exact Or.inr rfl)
  (hfx:X.fn x=true\/X.env.scope.names.lookup x=some .local:=by first | exact .inl rfl | exact .inr rfl) (hfy:X.fn y=true\/X.env.scope.names.lookup y=some .local:=by first | exact .inl rfl | exact .inr rfl)
  (h1:(assignEach [.Name x px,.Name y py] X.env).map (·.2)=assign (.Name x px) X.env::(assignEach [.Name y py] X.env).map (·.2):=by rfl) (h2:(assignEach [.Name y py] X.env).map (·.2)=assign (.Name y py) X.env::(assignEach [] X.env).map (·.2):=by rfl)
  (hn:(assignEach [.Name x px,.Name y py] X.env).length=2:=by rfl) (hst:(assignEach [.Name x px,.Name y py] X.env).findIdx? (·.1)=none:=by rfl):PG X (.Tuple [.Name x px,.Name y py] k2 pos) (tG X.K E (gNm2 i j)) :=
 (Qqa hc (QkJ (QjP hN hi hx hfx) (QkJ (QjP hN hj hy hfy) Qpw h2) h1) hn hst).imp fun v σ H Q q=>by
 obtain ⟨c,δ,d,hK,ab,r,q⟩:=q
 unfold gNm2 at q
 split at q
 ·rename_i d1 d2
  simp only [Rep] at r
  obtain ⟨a,xs,rfl,h1,h2⟩:=r
  obtain ⟨v1,v2,rfl,r1,r2⟩:=h2.two'
  refine ⟨a,[v1,v2],rfl,by rw [← hK];exact h1,rfl,v1,[v2],rfl,v2,[],rfl,rfl,?_⟩
  have ab1:=ab.set_val (i:=i) (Same.refl H) r1
  exact q _ H (Same.refl H) (ab1.set_val (i:=j) (Same.refl H) (r2.weak fun a z=>⟨z.1,fun o=>z.2 (QgM o)⟩))
 ·exact q.elim
end
end DL
namespace DL
open PySem PySem.Spec PyProof.Rows L2
def QaE (g:D->DS->Ou DS) (gc:DS->Ou Bool) (fe:Fn):List D->DS->Ou (List D)
 | [],_=>.ok []
 | x::xs,δ=>(g x δ).bind fun δ1=>(gc δ1).bind fun b=>if b=true then (fe δ1).bind fun y=>(QaE g gc fe xs δ1).bind fun ys=>.ok (y::ys) else QaE g gc fe xs δ1
def slIn:Option Sl->Sl
 | some (.val d)=>.val d
 | _=>.un
def dsIn (k:Nat) (ix:List Nat) (δ:DS):DS:=List.replicate k .un++ix.map fun i=>slIn δ[i]?
def fYes:DS->Ou Bool:=fun _=>.ok true
def QbT (fi:DS->Ou (List D)) (g:D->DS->Ou DS) (gc:DS->Ou Bool) (fe:Fn) (k:Nat) (ix:List Nat):Fn:=fun δ=>(fi δ).bind fun ds=>if ds.length<=sizeLine then (QaE g gc fe ds (dsIn k ix δ)).bind fun ys=>.ok (.lst ys) else .bad
def Qd8 (f:Fn):DS->Ou (List D):=fun δ=>(f δ).bind fun d=>match d with
 | .lst ds=>.ok ds
 | .frl ds=>.ok ds
 | _=>.bad
def QjH (f:Fn):DS->Ou (List D):=fun δ=>(f δ).bind fun d=>match d with
 | .tup ds=>.ok ds
 | _=>.bad
def QgB (fs:List Fn):DS->Ou (List D):=fun δ=>(QaF fs δ).bind fun ds=>match ds with
 | [.int j]=>if rOk j=true then .ok (rng 0 j.toNat) else .bad
 | [.int i,.int j]=>if rOk i=true/\rOk j=true then .ok (rng i (j - i).toNat) else .bad
 | _=>.bad
section
variable {c:Cn} {σ:St} {δ:DS} {H H1:Hp}
theorem Abs.off {p:Addr} {ys zs:List V} (a:Abs c σ δ H) (hp:H p=some (.lst ys)) (h0:c.H₀ p=none) (hB:¬ c.B p):Abs c σ δ (upd H p (.lst zs)):=by
 have hne:∀ q,Av c σ δ q->q≠p:=fun q z e=>by subst e;exact hB z.1
 have st:Stay c.K (Av c σ δ) H (upd H p (.lst zs)):=⟨fun q ys z=>by
   rcases z with (z | ⟨o,z⟩) | z
   ·exact .inl (.inl (by rw [Qt (Qf6 z hp (by intro w;cases w))];exact z))
   ·exact .inl (.inr ⟨o,by rw [Qt (Qf6 z hp (by intro w;cases w))];exact z⟩)
   ·exact .inr z,fun q ys z=>by
   rcases z with ⟨o,z⟩ | z
   ·exact .inl ⟨o,by rw [Qt (Qf6 z hp (by intro w;cases w))];exact z⟩
   ·exact .inr z,fun q o z w=>by rw [Qt (hne q z)];exact w⟩
 refine ⟨fun b o z=>?_,fun b z=>a.fr b ?_,a.len,fun j d z=>?_,fun j d z=>?_,fun d v z=>Rep.mono (fun _ _ w _=>w) st d v (a.gho d v z),a.inj,a.pin⟩
 ·rw [Qt (QaD z h0)];exact a.same b o z
 ·by_cases hb:b=p
  ·subst hb;rw [QH] at z;cases z
  ·rw [Qt hb] at z;exact z
 ·obtain ⟨v,z1,z2⟩:=a.val j d z
  exact ⟨v,z1,Rep.mono (fun _ _ w _=>w) st d v z2⟩
 ·obtain ⟨q,o,z1,z2,z3,z4⟩:=a.own j d z
  refine ⟨q,o,z1,?_,z3,RepO.mono (fun _ _ w _=>w) st z4⟩
  rw [Qt fun e=>by subst e;exact hB z3.2]
  exact z2
theorem Abs.block {p:Addr} {k:Nat} {ix:List Nat} (a:Abs c σ δ H) (hp:H p=none) :
  Abs { K:=c.K,B:=fun q=>Av c σ δ q/\q≠p,H₀:=H,G:=[] } (σin k ix σ) (dsIn k ix δ) (upd H p (.lst [])):=by
 have no:∀ (i:Nat) (z:D),(dsIn k ix δ)[i]? = some (Sl.own z)->False:=fun i z h=>by
  unfold dsIn at h
  rw [List.getElem?_append] at h
  split at h
  ·rw [List.getElem?_replicate] at h
   split at h <;> cases h
  ·rw [List.getElem?_map] at h
   cases e:ix[i - (List.replicate k Sl.un).length]? with
   | none=>rw [e] at h;cases h
   | some j =>
    rw [e] at h
    have h':slIn δ[j]? = Sl.own z:=Option.some.inj h
    unfold slIn at h'
    split at h' <;> cases h'
 have nown:∀ q,¬ Own (σin k ix σ) (dsIn k ix δ) q:=fun q ⟨i,z,h,_⟩=>no i z h
 refine ⟨QD hp _,fun b hb=>?_,?_,fun i d h=>?_,fun i z h=>(no i z h).elim,fun d v h=>(nomatch h),fun i j di dj q h=>(no i di h).elim,fun i q hP=>(nomatch hP)⟩
 ·by_cases e:b=p
  ·subst e;rw [QH] at hb;cases hb
  ·rw [Qt e] at hb
   exact ⟨a.av_new hb,e⟩
 ·unfold dsIn σin;simp
 ·unfold dsIn at h
  rw [List.getElem?_append] at h
  split at h
  ·rw [List.getElem?_replicate] at h
   split at h <;> cases h
  ·rename_i hik
   rw [List.length_replicate] at hik h
   rw [List.getElem?_map] at h
   cases e:ix[i - k]? with
   | none=>rw [e] at h;cases h
   | some j =>
    rw [e] at h
    have h':slIn δ[j]? = Sl.val d:=Option.some.inj h
    have hj:δ[j]? = some (Sl.val d):=by
     unfold slIn at h'
     split at h'
     ·cases h';assumption
     ·cases h'
    obtain ⟨v,z1,z2⟩:=a.val j d hj
    refine ⟨v,?_,?_⟩
    ·unfold σin
     rw [List.getElem?_append_right (by rw [List.length_replicate];lia),List.length_replicate,List.getElem?_map,e]
     show some ((σ[j]?).join)=_
     rw [z1];rfl
    ·refine Rep.mono (fun q o w1 w2=>⟨⟨w1,QaD w2 hp⟩,nown q⟩) (.of_same (QD hp _)) d v z2
structure SrcI (J:It) (K:PySem.W.Frag) (B:Addr->Prop) (H1:Hp) (ds:List D):Prop where
 go:∀ (i:Nat) (H':Hp),Same H1 H'->i < ds.length->J.go i H'
 yld:∀ (i:Nat) (H':Hp) (x:V) (H'':Hp) (d:D),Same H1 H'->ds[i]? = some d->J.yld i H' x H''->H''=H'/\Rep K B H1 d x
 stop:∀ H':Hp,Same H1 H'->J.stop ds.length H'
theorem Qnu {K:PySem.W.Frag} {J:It} {ds:List DL.D} {g:DL.D->DS->Ou DS} {gc:DS->Ou Bool} {fe:Fn} {k:Nat} {ix:List Nat} {Q:VK} (hK:c.K=K) (ab:Abs c σ δ H1) (src:SrcI J c.K (Av c σ δ) H1 ds) (hl:ds.length<=sizeLine)
  (kq:Res K E0 c.H₀ (QaE g gc fe ds (dsIn k ix δ)) fun es=>∀ D xs H',H1 D=none->Same H1 H'->H' D=some (.lst xs)->Reps c.K (fun a=>Av c σ δ a/\a≠D) H' es xs->Q (.ref D) H') :
  ∀ D,H1 D=none->∃ W:Nat->Nat->St->List V->Hp->Prop,(∃ m,W 0 m (σin k ix σ) [] (upd H1 D (.lst []))) /\
   ∀ i m σ ys H,W i m σ ys H->H D=some (.lst ys)/\((J.stop i H/\Q (.ref D) H)\/(J.go i H/\ys.length < sizeLine/\∃ N:St->List V->Hp->Prop,(∀ σ' ys' H',N σ' ys' H'->∃ m',m' < m/\W (i + 1) m' σ' ys' H') /\
    ∀ x H',J.yld i H x H'->tG K E0 g x σ H' fun σ2 H2=>tT K E0 gc σ2 H2 fun b H3=>if b=true then tX K E0 .S fe σ2 H3 fun y H4=>H4 D=some (.lst ys)/\N σ2 (ys++[y]) (upd H4 D (.lst (ys++[y]))) else N σ2 ys H3)):=by
 intro D hD
 let c':Cn:={ K:=c.K,B:=fun q=>Av c σ δ q/\q≠D,H₀:=H1,G:=[] }
 have hB':¬ c'.B D:=fun z=>z.2 rfl
 refine ⟨fun i m σ' ys H'=>∃ δ' es,Abs c' σ' δ' H'/\H' D=some (.lst ys)/\Reps c.K c'.B H' es ys/\m=ds.length - i/\i<=ds.length/\es.length<=i /\
  Res K E0 c.H₀ (QaE g gc fe (ds.drop i) δ') fun rest=>∀ xs H'',Same H1 H''->H'' D=some (.lst xs)->Reps c.K c'.B H'' (es++rest) xs->Q (.ref D) H'',
  ⟨ds.length,dsIn k ix δ,[],ab.block hD,QH,by simp [Reps],by simp,Nat.zero_le _,Nat.zero_le _,?_⟩,?_⟩
 ·exact kq.imp fun es _ z xs H'' e1 e2 e3=>z D xs H'' hD e1 e2 e3
 ·rintro i m σ' ys H' ⟨δ',es,ab',hDy,hr,rfl,hi,hes,q⟩
  refine ⟨hDy,?_⟩
  by_cases hlt:i < ds.length
  ·refine .inr ⟨src.go i H' ab'.same hlt,?_,fun σ' ys' H'=>∃ δ' es,Abs c' σ' δ' H'/\H' D=some (.lst ys')/\Reps c.K c'.B H' es ys'/\ds.length - (i + 1)=ds.length - (i + 1)/\i + 1<=ds.length/\es.length<=i + 1 /\
    Res K E0 c.H₀ (QaE g gc fe (ds.drop (i + 1)) δ') fun rest=>∀ xs H'',Same H1 H''->H'' D=some (.lst xs)->Reps c.K c'.B H'' (es++rest) xs->Q (.ref D) H'',fun σ' ys' H' n=>⟨ds.length - (i + 1),by lia,n⟩,fun x H2 y=>?_⟩
   ·have:=hr.length;lia
   have hd:ds[i]? = some ds[i]:=by simp [hlt]
   obtain ⟨rfl,rx⟩:=src.yld i H' x H2 _ ab'.same hd y
   rw [List.drop_eq_getElem_cons hlt] at q
   have rx':Rep c'.K (Av c' σ' δ') H2 ds[i] x:=Rep.mono (fun a o w1 w2=>⟨⟨w1,QaD w2 hD⟩,fun ow=>by
    obtain ⟨_,_,z⟩:=Own.is ab' ow
    have w3:=(show c'.H₀ a=some o from w2).symm.trans z
    cases w3⟩) (.of_same ab'.same) _ x rx
   refine ⟨c',δ',ds[i],hK,ab',rx',(Qc8 (Res.bind q) ab.same).imp fun δ2 _ k2 σ2 H3 e3 ab2=>?_⟩
   refine ⟨c',δ2,hK,ab2,(Qc8 (Res.bind k2) ab.same).imp fun b _ k3 H4 e4=>?_⟩
   cases b with
   | false=>exact ⟨δ2,es,ab2.grow e4,e4 _ _ (e3 _ _ hDy),(hr.same e3).same e4,rfl,hlt,by lia,k3⟩
   | true =>
    have k3':Res K E0 c.H₀ ((fe δ2).bind fun y=>(QaE g gc fe (ds.drop (i + 1)) δ2).bind fun ys=>.ok (y::ys)) _:=k3
    refine ⟨c',δ2,hK,ab2.grow e4,(Qc8 (Res.bind k3') ab.same).imp fun dy _ k4 y H5 e5 r5=>?_⟩
    have hD5:=e5 _ _ (e4 _ _ (e3 _ _ hDy))
    have r5':Rep c.K c'.B H5 dy y:=Rep.weak (show Rep c'.K (Av c' σ2 δ2) H5 dy y from r5) fun a z=>z.1
    have st:Stay c.K c'.B H5 (upd H5 D (.lst (ys++[y]))):=⟨fun q ys z=>by
      rcases z with (z | ⟨o,z⟩) | z
      ·exact .inl (.inl (by rw [Qt (Qf6 z hD5 (by intro w;cases w))];exact z))
      ·exact .inl (.inr ⟨o,by rw [Qt (Qf6 z hD5 (by intro w;cases w))];exact z⟩)
      ·exact .inr z,fun q ys z=>by
      rcases z with ⟨o,z⟩ | z
      ·exact .inl ⟨o,by rw [Qt (Qf6 z hD5 (by intro w;cases w))];exact z⟩
      ·exact .inr z,fun q o z w=>by rw [Qt z.2];exact w⟩
    refine ⟨hD5,δ2,es++[dy],((ab2.grow e4).grow e5).off hD5 hD hB',QH,Reps.mono (fun _ _ w _=>w) st _ _ (Reps.append (((hr.same e3).same e4).same e5) (Reps.one r5')),rfl,hlt,by simp;lia,(Res.bind k4).imp fun rest _ k5 xs H'' s1 s2 s3=>k5 xs H'' s1 s2 ?_⟩
    rw [List.append_assoc] at s3
    exact s3
  ·have e:i=ds.length:=by lia
   subst e
   rw [List.drop_length] at q
   exact .inl ⟨src.stop H' ab'.same,q ys H' ab'.same hDy (by rw [List.append_nil];exact hr)⟩
end
section
variable {X:Cx} {iter elt tg:Expr} {ifs:List Expr} {scope:Scope} {N':List Str} {k:Nat} {ix:List Nat} {pos:Pos} {g:D->DS->Ou DS} {gc:DS->Ou Bool} {fe fl:Fn} {fs:List Fn} {a b:Expr} {p:Pos}
theorem Qfz:PCs X [] (tT X.K E0 fYes):=fun pins s σ H Q I q=>QpF pins s σ H Q I (by
 obtain ⟨c,δ,hK,ab,q⟩:=q
 exact q H (Same.refl H))
theorem QdF {wi:TI} {fi:DS->Ou (List D)} {σ:St} {H:Hp} {Q:VK} (q:tX X.K E0 .F (QbT fi g gc fe k ix) σ H Q)
  (hw:∀ (c:Cn) (δ:DS) (R:It->Hp->Prop),c.K=X.K->Abs c σ δ H->Res X.K E0 c.H₀ (fi δ) (fun ds=>∀ J H1,Same H H1->SrcI J c.K (Av c σ δ) H1 ds->R J H1)->wi σ H R) :
  QkG wi (tG X.K E0 g) (tT X.K E0 gc) (tX X.K E0 .S fe) k ix σ H Q:=by
 obtain ⟨c,δ,hK,ab,q⟩:=q
 refine hw c δ _ hK ab ((Res.bind q).imp fun ds _ kq J H1 e1 src=>?_)
 by_cases hl:ds.length<=sizeLine
 ·rw [if_pos hl] at kq
  refine Qnu hK (ab.grow e1) src hl ((Res.bind kq).imp fun es _ z D xs H' hD e2 h1 h2=>z (.ref D) H' (e1.trans e2) ⟨D,_,rfl,e1.free hD,h1,xs,rfl,h2⟩)
 ·rw [if_neg hl] at kq
  exact kq.elim
theorem srcL {c:Cn} {σ:St} {δ:DS} {H1:Hp} {p:Addr} {xs:List V} {ds:List D} (h1:SqL c.K H1 p xs) (h2:Reps c.K (Av c σ δ) H1 ds xs):SrcI (Itl c.K p) c.K (Av c σ δ) H1 ds :=
 ⟨fun i H' e hi=>⟨xs,xs[i]'(by rw [h2.length];exact hi),e.seq h1,List.getElem?_eq_getElem _⟩,fun i H' x H'' d e hd y=>⟨y.1,by
  obtain ⟨v,z1,z2⟩:=h2.get i d hd
  have:=y.2 xs (e.seq h1)
  rw [z1] at this;cases this
  exact z2⟩,fun H' e=>⟨xs,e.seq h1,by rw [h2.length];exact Nat.le_refl _⟩⟩
theorem Qj0 (S:CNames X scope N' k ix) (hi:PE X iter (tX X.K E0 .S fl))
  (hb:∀ C s2 H2 fp pins,PG (blk X N' scope C s2 H2 fp pins) tg (tG X.K E0 g)/\PCs (blk X N' scope C s2 H2 fp pins) ifs (tT X.K E0 gc)/\PE (blk X N' scope C s2 H2 fp pins) elt (tX X.K E0 .S fe))
  (hc:X.calm=true:=by rfl) (hs:∀ x,foldedSetIterable iter X.env x=pure x:=by intro _;rfl):CompR X (.ListComp elt [⟨tg,iter,ifs,0⟩] scope pos) (tX X.K E0 .F (QbT (Qd8 fl) g gc fe k ix)) :=
 (Qh6 hc S (QjL hi) hb hs).imp fun σ H Q q=>QdF q fun c δ R hK ab kq=>by
  refine ⟨c,δ,hK,ab,(Res.bind kq).imp fun d _ z v H1 e1 r1=>?_⟩
  have r1':Rep c.K (Av c σ δ) H1 d v:=r1
  cases d <;> first | exact z.elim | skip
  ·simp only [Rep] at r1'
   obtain ⟨p,xs,rfl,_,h1,h2⟩:=r1'
   exact ⟨p,rfl,⟨xs,by rw [← hK];exact .of h1⟩,by rw [← hK];exact z _ H1 e1 (srcL (.of h1) h2)⟩
  ·simp only [Rep] at r1'
   obtain ⟨p,xs,rfl,h1,h2⟩:=r1'
   exact ⟨p,rfl,⟨xs,by rw [← hK];exact h1.sq⟩,by rw [← hK];exact z _ H1 e1 (srcL h1.sq h2)⟩
theorem srcR {K:PySem.W.Frag} {B:Addr->Prop} {H1:Hp} {lo:Int} {n:Nat}:SrcI (Itr lo n) K B H1 (rng lo n) :=
 ⟨fun i H' _ hi=>by rw [Qe9] at hi;exact hi,fun i H' x H'' d _ hd y=>by
  obtain ⟨h1,rfl⟩:=QjI hd
  exact ⟨y.1,by rw [y.2];simp [Rep]⟩,fun H' _=>by
  show n<=_
  rw [Qe9];exact Nat.le_refl _⟩
theorem Qpg (S:CNames X scope N' k ix) (hm:X.mg "range" = none) (ha:PA X [a] (tXA X.K E0 .W [fl]))
  (hb:∀ C s2 H2 fp pins,PG (blk X N' scope C s2 H2 fp pins) tg (tG X.K E0 g)/\PCs (blk X N' scope C s2 H2 fp pins) ifs (tT X.K E0 gc)/\PE (blk X N' scope C s2 H2 fp pins) elt (tX X.K E0 .S fe))
  (hc:X.calm=true:=by rfl) (hgl:Gl X "range":=by rfl) (hse:starEach [a] X.env=[(false,eval a X.env)]:=by rfl) {rp:Pos} (hs:∀ x,foldedSetIterable (.Call (.Name "range" p) [a] [] rp) X.env x=pure x:=by intro _;rfl) :
  CompR X (.ListComp elt [⟨tg,.Call (.Name "range" p) [a] [] rp,ifs,0⟩] scope pos) (tX X.K E0 .F (QbT (QgB [fl]) g gc fe k ix)) :=
 (Qh6 hc S (Qjt hgl hm ha hse) hb hs).imp fun σ H Q q=>QdF q fun c δ R hK ab kq=>by
  refine ⟨c,δ,hK,ab,(Res.bind kq).imp fun ds hds z vs H1 e1 r1=>?_⟩
  have hl:ds.length=1:=QaN hds
  obtain ⟨d,rfl⟩:∃ d,ds=[d]:=by
   match ds,hl with
   | [d],_=>exact ⟨d,rfl⟩
  obtain ⟨v,rfl,r2⟩:=r1.one'
  cases d <;> first | exact z.elim | skip
  simp only [Rep] at r2
  subst r2
  rename_i j
  by_cases hj:rOk j=true
  ·simp only [hj,if_true] at z
   have hj':=of_decide_eq_true hj
   exact ⟨j,rfl,hj'.1,hj'.2,z _ H1 e1 srcR⟩
  ·simp only [if_neg hj] at z
   exact z.elim
theorem Qpm (S:CNames X scope N' k ix) {fl2:Fn} (hm:X.mg "range" = none) (ha:PA X [a,b] (tXA X.K E0 .W [fl,fl2]))
  (hb:∀ C s2 H2 fp pins,PG (blk X N' scope C s2 H2 fp pins) tg (tG X.K E0 g)/\PCs (blk X N' scope C s2 H2 fp pins) ifs (tT X.K E0 gc)/\PE (blk X N' scope C s2 H2 fp pins) elt (tX X.K E0 .S fe))
  (hc:X.calm=true:=by rfl) (hgl:Gl X "range":=by rfl) (hse:starEach [a,b] X.env=[(false,eval a X.env),(false,eval b X.env)]:=by rfl) (hse2:starEach [b] X.env=[(false,eval b X.env)]:=by rfl) {rp:Pos} (hs:∀ x,foldedSetIterable (.Call (.Name "range" p) [a,b] [] rp) X.env x=pure x:=by intro _;rfl) :
  CompR X (.ListComp elt [⟨tg,.Call (.Name "range" p) [a,b] [] rp,ifs,0⟩] scope pos) (tX X.K E0 .F (QbT (QgB [fl,fl2]) g gc fe k ix)) :=
 (Qh6 hc S (Qng hgl hm ha hse hse2) hb hs).imp fun σ H Q q=>QdF q fun c δ R hK ab kq=>by
  refine ⟨c,δ,hK,ab,(Res.bind kq).imp fun ds hds z vs H1 e1 r1=>?_⟩
  have hl:ds.length=2:=QaN hds
  obtain ⟨d,d',rfl⟩:∃ d d',ds=[d,d']:=by
   match ds,hl with
   | [d,d'],_=>exact ⟨d,d',rfl⟩
  obtain ⟨v,v',rfl,r2,r3⟩:=r1.two'
  cases d <;> first | exact z.elim | skip
  cases d' <;> first | exact z.elim | skip
  simp only [Rep] at r2 r3
  subst r2;subst r3
  rename_i i j
  by_cases hj:rOk i=true/\rOk j=true
  ·simp only [if_pos hj] at z
   have h1:=of_decide_eq_true hj.1
   have h2:=of_decide_eq_true hj.2
   exact ⟨i,j,rfl,⟨h1.1,h1.2,h2.1,h2.2⟩,z _ H1 e1 srcR⟩
  ·simp only [if_neg hj] at z
   exact z.elim
theorem srcT {c:Cn} {σ:St} {δ:DS} {H1:Hp} {p:Addr} {xs:List V} {ds:List D} (h1:SqT c.K H1 p xs) (h2:Reps c.K (Av c σ δ) H1 ds xs):SrcI (Itt c.K p) c.K (Av c σ δ) H1 ds :=
 ⟨fun i H' e hi=>⟨xs,xs[i]'(by rw [h2.length];exact hi),Qeu e h1,List.getElem?_eq_getElem _⟩,fun i H' x H'' d e hd y=>⟨y.1,by
  obtain ⟨v,z1,z2⟩:=h2.get i d hd
  have:=y.2 xs (Qeu e h1)
  rw [z1] at this;cases this
  exact z2⟩,fun H' e=>⟨xs,Qeu e h1,by rw [h2.length];exact Nat.le_refl _⟩⟩
theorem Qqs (S:CNames X scope N' k ix) (hi:PE X iter (tX X.K E0 .S fl))
  (hb:∀ C s2 H2 fp pins,PG (blk X N' scope C s2 H2 fp pins) tg (tG X.K E0 g)/\PCs (blk X N' scope C s2 H2 fp pins) ifs (tT X.K E0 gc)/\PE (blk X N' scope C s2 H2 fp pins) elt (tX X.K E0 .S fe))
  (hc:X.calm=true:=by rfl) (hs:∀ x,foldedSetIterable iter X.env x=pure x:=by intro _;rfl):CompR X (.ListComp elt [⟨tg,iter,ifs,0⟩] scope pos) (tX X.K E0 .F (QbT (QjH fl) g gc fe k ix)) :=
 (Qh6 hc S (Qqy hi) hb hs).imp fun σ H Q q=>QdF q fun c δ R hK ab kq=>by
  refine ⟨c,δ,hK,ab,(Res.bind kq).imp fun d _ z v H1 e1 r1=>?_⟩
  have r1':Rep c.K (Av c σ δ) H1 d v:=r1
  cases d <;> first | exact z.elim | skip
  simp only [Rep] at r1'
  obtain ⟨p,xs,rfl,h1,h2⟩:=r1'
  exact ⟨p,rfl,⟨xs,by rw [← hK];exact h1⟩,by rw [← hK];exact z _ H1 e1 (srcT h1 h2)⟩
theorem QpE (i:Nat) {e:Expr} {x:Str} {pos':Pos} {fr:Rm} (hN:X.N.Nodup) (he:CompR X e (tX X.K E0 .F fe)) (hi:X.N[i]? = some x:=by rfl) (hx:Loc X.env.scope x:=by first | exact Or.inl rfl | exact Or.inr rfl) (hs:swapsWith e (some (.Name x pos')) pos.line X.env=pure true:=by rfl)
  (hf:X.fn x=true\/X.env.scope.names.lookup x=some .local:=by first | exact .inl rfl | exact .inr rfl):PS X (.Assign [.Name x pos'] e pos) (tS X.K E0 fr (sSet i fe)):=(he.ps i x pos' pos hN hi hx hs hf).imp fun D σ H q=>by
 obtain ⟨c,δ,hK,ab,q⟩:=q
 exact ⟨c,δ,hK,ab,(Res.bind q).imp fun d _ k v H1 e1 r1=>k _ H1 (ab.set_val e1 (Post.toS ab r1))⟩
end
end DL
namespace L2
open PySem PySem.Spec PyProof.Rows
structure Mk0 (K:PySem.W.Frag) (C:Addr):Prop where
 makes:PySem.W.makesIn K C=true
 init:PySem.W.findIn K (.ref C) "__init__" = some (some (.builtin "object.__init__"))
 kp:PySem.W.keepIn K (.ref C)=true
section
variable {X:Cx} {C:Addr} {x:Str} {p pos:Pos}
def QqQ (C:Addr):TE:=fun _ H Q=>∀ x dx,H x=none->H dx=none->dx≠x->Q (.ref x) (upd (upd H dx (.own x)) x (.ins C dx []))
theorem Qnt {pins:List (Addr×Obj)} {σ:St} {H:Hp} {s:Shared} {Q:VK} (M:Mk0 X.K C) (I:Inv X pins σ H s)
  (h:∀ x dx,H x=none->H dx=none->dx≠x->Q (.ref x) (upd (upd H dx (.own x)) x (.ins C dx []))):wpAny (model X.prog X.w) X.A (call (.ref C) []) (EP X pins σ Q) X.xe s:=by
 have hq:=h (s.heap.objs.size + 1) s.heap.objs.size (I.hok.fresh (Nat.le_succ _)) (I.hok.fresh (Nat.le_refl _)) (Nat.ne_of_lt (Nat.lt_succ_self _))
 have I2:=Inv.made (C:=C) I
 have Y:=PySem.W.makes_of (M:=model X.prog X.w) I.kIn M.makes
 refine wpAny_call (Qnk I.kIn M.makes M.init (fun self=>PySem.W.Looks.of_pure (PySem.W.oi_bind self)) ?_)
 have hx:((s.heap.push PySem.W.emptyDict).push (PySem.W.instObj C s.heap.objs.size)).get? (s.heap.objs.size + 1)=some (PySem.W.instObj C s.heap.objs.size):=by
  have:=Heap.get?_push_size (s.heap.push PySem.W.emptyDict) (o:=PySem.W.instObj C s.heap.objs.size) rfl
  rwa [Heap.size_push] at this
 have t1:PySem.W.Looks (model X.prog X.w) ((s.heap.push PySem.W.emptyDict).push (PySem.W.instObj C s.heap.objs.size)) (typeOf (.ref (s.heap.objs.size + 1))) (.ref C):=(PySem.W.Looks.ld hx).andThen .now
 have t2:PySem.W.Looks (model X.prog X.w) ((s.heap.push PySem.W.emptyDict).push (PySem.W.instObj C s.heap.objs.size)) (isInstance (.ref (s.heap.objs.size + 1)) (.type "object")) true:=t1.andThen (Y.top.keeps fun b o e=>Heap.get?_push_of_some _ (Heap.get?_push_of_some _ e))
 refine codeAny_call_builtin PySem.W.oi_plain PySem.W.entry_oi (@PySem.W.check_slot (model X.prog X.w) _ _ _ "object.__init__" "object" "__init__" (.ref (s.heap.objs.size + 1)) [] [] _ PySem.W.oi_kind PySem.W.oi_split t2 (PySem.W.oi_args (.ref (s.heap.objs.size + 1))) ?_)
 rw [PySem.W.oi_run]
 exact wpAny_pure (And.intro rfl ⟨V.ref (s.heap.objs.size + 1),_,I2,rfl,hq⟩)
theorem Qof (M:Mk0 X.K C) (hg:Gl X x) (hm:X.mg x=some (.ref C)) (hdb:(x == ("__debug__":Str))=false:=by decide):PE X (.Call (.Name x p) [] [] pos) (QqQ C):=by
 intro pins s σ H Q I h
 refine wpAny_Call_Name_kw (Qkp I hg hm ?_ hdb)
 exact PySem.W.callWith_K0 I.kIn M.kp (Qnt M I h)
end
end L2
namespace DL
open PySem PySem.Spec PyProof.Rows L2
section
variable {X:Cx} {E:XK} {m:Md} {x:Str} {p pos apos:Pos} {e o:Expr} {es:List Expr} {fs:List Fn} {fo:Fn} {k:Nat} {ps:List Str} {fr:Bool} {mt:Str}
structure ClsOk (K:PySem.W.Frag) (mg:Str->Option Value) (x:Str):Prop where
 ex:∃ C,Cls K C/\PySem.W.nsIn K mainGlobals x=some (some (.ref C))/\mg x=some (.ref C)
def Qgn (x:Str):Fn:=fun _=>.ok (.obj x)
theorem QlL {C:Addr} (M:Mk0 X.K C) (hn:PySem.W.nsIn X.K mainGlobals x=some (some (.ref C))) (hm:X.mg x=some (.ref C)) (hg:Gl X x:=by rfl) (hf:notF m=true:=by rfl) (hdb:(x == ("__debug__":Str))=false:=by decide) :
  PE X (.Call (.Name x p) [] [] pos) (tX X.K E m (Qgn x)):=(Qof M hg hm hdb).imp fun σ H Q q=>by
 obtain ⟨c,δ,hK,ab,q⟩:=q
 intro a dx ha hd hne
 have e1:Same H (upd (upd H dx (.own a)) a (.ins C dx [])):=(QD hd _).trans (QD (by rw [Qt (Ne.symm hne)];exact ha) _)
 refine q (.ref a) _ e1 ?_
 have r:∀ B:Addr->Prop,B a->Rep c.K B (upd (upd H dx (.own a)) a (.ins C dx [])) (.obj x) (.ref a):=fun B hB=>by
  simp only [Rep]
  exact ⟨a,C,dx,rfl,by rw [hK];exact hn,hB,QH⟩
 cases m with
 | W=>exact r _ (ab.fr a ha)
 | S=>exact r _ (ab.av_new ha)
 | F=>simp [notF] at hf
structure MDf (P:Program) (w:World) (K:PySem.W.Frag) (mg:Str->Option Value) (base:Heap) (c m:Str) (k:Nat) (ps:List Str) (fr:Bool) (mm:List D->Ou D):Prop where
 ex:∃ C f fd,Cls K C/\PySem.W.nsIn K mainGlobals c=some (some (.ref C))/\Meth K C m f/\FnOk P w K mg base CX0 k f fd ps (spD K fr ps.length mm)/\Binds K fd ps []
theorem MDf.mono {P:Program} {w:World} {K:PySem.W.Frag} {mg:Str->Option Value} {base:Heap} {c m:Str} {j k:Nat} {ps:List Str} {fr:Bool} {mm:List D->Ou D} (h:MDf P w K mg base c m j ps fr mm) (hj:j<=k):MDf P w K mg base c m k ps fr mm:=by
 obtain ⟨C,f,fd,h1,h2,h3,h4,h5⟩:=h.ex
 exact ⟨C,f,fd,h1,h2,h3,h4.mono hj,h5⟩
abbrev MTab:=List (Str×(List D->Ou D))
def tbM (tb:MTab):D->Option (List D->Ou D)
 | .obj c=>(tb.find? fun z=>z.1 == c).map (·.2)
 | _=>none
def Qa2 (tb:MTab) (fo:Fn) (fs:List Fn):Fn:=fun δ=>(fo δ).bind fun d=>match tbM tb d with
 | some mm=>(QaF fs δ).bind fun ds=>mm (d::ds)
 | none=>.bad
inductive MAll (P:Program) (w:World) (K:PySem.W.Frag) (mg:Str->Option Value) (base:Heap) (m:Str) (k:Nat) (n:Nat) (fr:Bool):MTab->Prop where
 | nil:MAll P w K mg base m k n fr []
 | cons {c:Str} {ps:List Str} {mm:List D->Ou D} {tb:MTab} (h:MDf P w K mg base c m k ps fr mm) (hn:ps.length=n) (r:MAll P w K mg base m k n fr tb):MAll P w K mg base m k n fr ((c,mm)::tb)
theorem MAll.at {P:Program} {w:World} {K:PySem.W.Frag} {mg:Str->Option Value} {base:Heap} {m:Str} {k n:Nat} {fr:Bool} {tb:MTab} (h:MAll P w K mg base m k n fr tb) {c:Str} {z:Str×(List D->Ou D)} (hz:(tb.find? fun z=>z.1 == c)=some z) :
  ∃ ps,MDf P w K mg base c m k ps fr z.2/\ps.length=n:=by
 induction h with
 | nil=>cases hz
 | @cons c' ps mm tb h hn r ih =>
  rw [List.find?_cons] at hz
  by_cases e:(c' == c)=true
  ·rw [e] at hz
   cases hz
   have:c'=c:=by simpa using e
   subst this
   exact ⟨ps,h,hn⟩
  ·have e':(c' == c)=false:=by simpa using e
   rw [e'] at hz
   exact ih hz
theorem QqH {K:PySem.W.Frag} {B:Addr->Prop} {H:Hp} {c:Str} {v:V} {C:Addr} (r:Rep K B H (.obj c) v) (hC:PySem.W.nsIn K mainGlobals c=some (some (.ref C))):∃ a dx,v=.ref a/\H a=some (.ins C dx []):=by
 simp only [Rep] at r
 obtain ⟨a,C',dx,rfl,h1,_,h2⟩:=r
 rw [hC] at h1
 cases h1
 exact ⟨a,dx,rfl,h2⟩
theorem Post.bOf' {c:Cn} {σ:St} {δ:DS} {H H':Hp} {d:D} {v:V} {m:Md} (hm:notF m=true) (r:Rep c.K (BOf c σ δ m) H' d v):Post c σ δ H m d v H':=by
 cases m with
 | W=>exact r
 | S=>exact r
 | F=>simp [notF] at hm
theorem Qgs {tb:MTab} {n:Nat} {fr:Bool} {σ:St} {H:Hp} {Q:VK} {c:Cn} {δ:DS} {cn:Str} {t:TA} (hb:MAll X.prog X.w X.K X.mg X.base mt k n fr tb) (hm:notF m=true) (hl:fs.length + 1=n) (hK:c.K=X.K) (ab:Abs c σ δ H) (e1:fo δ=.ok (.obj cn))
  {z:Str×(List D->Ou D)} (hz:(tb.find? fun z=>z.1 == cn)=some z) (hta:∀ σ H Q,tXA X.K E0 m fs σ H Q->t σ H Q)
  (q:Res X.K E0 c.H₀ ((QaF fs δ).bind fun ds=>z.2 (.obj cn::ds)) fun d=>∀ v H',Same H H'->RtP c.K (BOf c σ δ m) H fr d v H'->Q v H') :
  ∃ C f fd ps mm,Cls X.K C/\Meth X.K C mt f/\FnOk X.prog X.w X.K X.mg X.base CX0 k f fd ps (spD X.K fr ps.length mm)/\Binds X.K fd ps []/\Qn8 C mt (spD X.K fr ps.length mm) [] E0 (tX X.K E0 m fo) t σ H Q:=by
 obtain ⟨ps,h,hn⟩:=hb.at hz
 obtain ⟨C,f,fd,h1,h2,h3,h4,h5⟩:=h.ex
 refine ⟨C,f,fd,ps,z.2,h1,h3,h4,h5,c,δ,hK,ab,?_⟩
 rw [e1]
 intro v H1 s1 r1
 have r1':Rep c.K (BOf c σ δ m) H1 (.obj cn) v:=Post.bOf hm r1
 obtain ⟨a,dx,rfl,ha⟩:=QqH r1' (by rw [hK];exact h2)
 refine ⟨a,dx,[],rfl,ha,rfl,hta _ _ _ ⟨c,δ,hK,ab.grow s1,(Res.bind q).imp fun ds hds kq vs H2 e2 r2=>?_⟩⟩
 have ab2:=(ab.grow s1).grow e2
 refine ⟨BOf c σ δ m,.obj cn::ds,by rw [List.length_cons,QaN hds,hl,hn],?_,(Qc8 kq (ab2.same)).imp fun d _ kd v H' e3 r3=>kd v H' ((s1.trans e2).trans e3) ?_⟩
 ·simp only [Reps,List.append_nil]
  rw [← hK]
  exact ⟨.ref a,vs,rfl,r1'.same e2,r2⟩
 ·rw [← hK] at r3
  have up:∀ b,(BOf c σ δ m b\/H2 b=none)->BOf c σ δ m b:=fun b w=>by
   rcases w with w | w
   ·exact w
   ·have:=ab2.av_new w
    cases m with
    | W=>exact this.1
    | S=>exact this
    | F=>simp [notF] at hm
  cases fr with
  | false=>exact Rep.weak (show Rep _ _ _ _ _ from r3) up
  | true =>
   obtain ⟨p',xs,rfl,w1,w2,w3⟩:=r3
   exact ⟨p',xs,rfl,(s1.trans e2).free w1,w2,w3.weak fun b y=>⟨up b y.1,y.2⟩⟩
theorem RtP.post {c:Cn} {σ:St} {δ:DS} {H H':Hp} {d:D} {v:V} {m:Md} (hm:notF m=true) (r:RtP c.K (BOf c σ δ m) H false d v H'):Post c σ δ H m d v H':=Post.bOf' hm r
theorem RtP.postF {c:Cn} {σ:St} {δ:DS} {H H':Hp} {d:D} {v:V} (r:RtP c.K (BOf c σ δ .S) H true d v H'):Post c σ δ H .F d v H':=r
theorem QeE {tb:MTab} {δ:DS} {kq:D->Prop} {K:PySem.W.Frag} {H₀:Hp} {d:D} (e1:fo δ=.ok d) (q:Res K E0 H₀ (Qa2 tb fo fs δ) kq) :
  ∃ cn z,d=.obj cn/\(tb.find? fun z=>z.1 == cn)=some z/\Res K E0 H₀ ((QaF fs δ).bind fun ds=>z.2 (.obj cn::ds)) kq:=by
 unfold Qa2 at q
 rw [e1] at q
 have q':Res K E0 H₀ (match tbM tb d with
  | some mm=>(QaF fs δ).bind fun ds=>mm (d::ds)
  | none=>.bad) kq:=q
 cases d <;> first | exact q'.elim | skip
 rename_i cn
 cases e2:(tb.find? fun z=>z.1 == cn) with
 | none=>simp only [tbM,e2,Option.map_none] at q';exact q'.elim
 | some z =>
  simp only [tbM,e2,Option.map_some] at q'
  exact ⟨cn,z,rfl,e2,q'⟩
theorem Qe2 {pl:Sem Bool} {tb:MTab} {n:Nat} (hb:MAll X.prog X.w X.K X.mg X.base mt k n false tb) (hr:Room k X.A) (ho:PE X o (tX X.K E0 m fo)) (ha:PA X (e::es) (tXA X.K E0 m fs)) (hl:fs.length + 1=n:=by rfl) (hm:notF m=true:=by rfl)
  (hst:starEach (e::es) X.env=(false,eval e X.env)::starEach es X.env:=by rfl) (hpl:(backTo pos (starEach es X.env)).any (·.1)=false:=by rfl)
  (ht:eval (.Call (.Attribute o mt apos) (e::es) [] pos) X.env=(do
   let ov ← eval o X.env
   standAt apos.atName
   let (f,first) ← holding [ov] (getMethod ov mt pl)
   callWith pos f first (backTo pos (starEach (e::es) X.env)) (backToKw pos (keywordEach [] X.env))):=by rfl) :
  PE X (.Call (.Attribute o mt apos) (e::es) [] pos) (tX X.K E0 m (Qa2 tb fo fs)):=by
 intro pins s σ H Q I q
 obtain ⟨c,δ,hK,ab,q⟩:=q
 cases e1:fo δ with
 | bad=>unfold Qa2 at q;rw [e1] at q;exact q.elim
 | ex z =>
  unfold Qa2 at q;rw [e1] at q
  exact PySem.W.methodCall_KW (pl:=pl) (thn (ho pins s σ H (fun _ _=>False) I ⟨c,δ,hK,ab,by rw [e1];exact q⟩) fun u s1 ⟨_,_,_,_,w⟩=>w.elim) ht
 | ok d =>
  obtain ⟨cn,z,rfl,hz,q⟩:=QeE e1 q
  obtain ⟨C,f,fd,ps,mm,h1,h2,h3,h4,h5⟩:=Qgs (m:=m) (fs:=fs) hb hm hl hK ab e1 hz (fun _ _ _ z=>z) (q.imp fun d _ kd v H' e2 r2=>kd v H' e2 (RtP.post hm r2))
  exact Qmz ho h1 h2 h3 hr h4 .nil Qii ha hst hpl ht pins s σ H Q I h5
theorem QoM {pl:Sem Bool} {tb:MTab} {n:Nat} (hb:MAll X.prog X.w X.K X.mg X.base mt k n false tb) (hr:Room k X.A) (ho:PE X o (tX X.K E0 m fo)) (hl:0 + 1=n:=by rfl) (hm:notF m=true:=by rfl)
  (ht:eval (.Call (.Attribute o mt apos) [] [] pos) X.env=(do
   let ov ← eval o X.env
   standAt apos.atName
   let (f,first) ← holding [ov] (getMethod ov mt pl)
   callWith pos f first (backTo pos (starEach [] X.env)) (backToKw pos (keywordEach [] X.env))):=by rfl) :
  PE X (.Call (.Attribute o mt apos) [] [] pos) (tX X.K E0 m (Qa2 tb fo [])):=by
 intro pins s σ H Q I q
 obtain ⟨c,δ,hK,ab,q⟩:=q
 cases e1:fo δ with
 | bad=>unfold Qa2 at q;rw [e1] at q;exact q.elim
 | ex z =>
  unfold Qa2 at q;rw [e1] at q
  exact PySem.W.methodCall_KW (pl:=pl) (thn (ho pins s σ H (fun _ _=>False) I ⟨c,δ,hK,ab,by rw [e1];exact q⟩) fun u s1 ⟨_,_,_,_,w⟩=>w.elim) ht
 | ok d =>
  obtain ⟨cn,z,rfl,hz,q⟩:=QeE e1 q
  obtain ⟨C,f,fd,ps,mm,h1,h2,h3,h4,h5⟩:=Qgs (m:=m) (fs:=[]) hb hm hl hK ab e1 hz (fun _ _ _ w=>by
   obtain ⟨c,δ,hK,ab,w⟩:=w
   exact w [] _ (Same.refl _) (by simp [Reps])) (q.imp fun d _ kd v H' e2 r2=>kd v H' e2 (RtP.post hm r2))
  exact QoG ho h1 h2 h3 hr h4 .nil Qii ht pins s σ H Q I h5
theorem Qnx {pl:Sem Bool} {tb:MTab} {n:Nat} (hb:MAll X.prog X.w X.K X.mg X.base mt k n true tb) (hr:Room k X.A) (ho:PE X o (tX X.K E0 .S fo)) (ha:PA X (e::es) (tXA X.K E0 .S fs)) (hl:fs.length + 1=n:=by rfl)
  (hst:starEach (e::es) X.env=(false,eval e X.env)::starEach es X.env:=by rfl) (hpl:(backTo pos (starEach es X.env)).any (·.1)=false:=by rfl)
  (ht:eval (.Call (.Attribute o mt apos) (e::es) [] pos) X.env=(do
   let ov ← eval o X.env
   standAt apos.atName
   let (f,first) ← holding [ov] (getMethod ov mt pl)
   callWith pos f first (backTo pos (starEach (e::es) X.env)) (backToKw pos (keywordEach [] X.env))):=by rfl) :
  PE X (.Call (.Attribute o mt apos) (e::es) [] pos) (tX X.K E0 .F (Qa2 tb fo fs)):=by
 intro pins s σ H Q I q
 obtain ⟨c,δ,hK,ab,q⟩:=q
 cases e1:fo δ with
 | bad=>unfold Qa2 at q;rw [e1] at q;exact q.elim
 | ex z =>
  unfold Qa2 at q;rw [e1] at q
  exact PySem.W.methodCall_KW (pl:=pl) (thn (ho pins s σ H (fun _ _=>False) I ⟨c,δ,hK,ab,by rw [e1];exact q⟩) fun u s1 ⟨_,_,_,_,w⟩=>w.elim) ht
 | ok d =>
  obtain ⟨cn,z,rfl,hz,q⟩:=QeE e1 q
  obtain ⟨C,f,fd,ps,mm,h1,h2,h3,h4,h5⟩:=Qgs (m:=.S) (fs:=fs) hb rfl hl hK ab e1 hz (fun _ _ _ z=>z) (q.imp fun d _ kd v H' e2 r2=>kd v H' e2 (RtP.postF r2))
  exact Qmz ho h1 h2 h3 hr h4 .nil Qii ha hst hpl ht pins s σ H Q I h5
end
end DL
namespace DL
open PySem PySem.Spec PyProof.Rows L2
section
variable {X:Cx} {E:XK} {m:Md} {a b e:Expr} {fa fb fe:Fn} {pos p:Pos} {es:List Expr} {fs:List Fn} {fr:Rm} {F G:Sm} {st:Stmt} {x:Str}
def isBl (k:Bool):D->Bool
 | .bl k'=>k' == k
 | _=>false
def gIsB:D->D->Ou D
 | d,.bl k=>.ok (.bl (isBl k d))
 | _,_=>.bad
def gNotB:D->D->Ou D
 | d,.bl k=>.ok (.bl (!isBl k d))
 | _,_=>.bad
def Qe6:D->Ou D
 | .lst ds=>.ok (.lst ds)
 | .frl ds=>.ok (.lst ds)
 | .tup ds=>.ok (.lst ds)
 | _=>.bad
theorem QmK (hm:X.mg "list" = none) (ha:PE X e (tX X.K E .S fe)) (hg:Gl X "list":=by rfl) (he:starEach [e] X.env=(false,eval e X.env)::starEach [] X.env:=by rfl) (hpl:(backTo pos (starEach ([]:List Expr) X.env)).any (·.1)=false:=by rfl) :
  PE X (.Call (.Name "list" p) [e] [] pos) (tX X.K E .F (f1 Qe6 fe)) :=
 (Qjf QjQ hg hm (by decide +kernel) (Qdq ha pa_nil he) (by decide) (by decide) he hpl).imp fun σ H Q q=>by
 obtain ⟨c,δ,hK,ab,q⟩:=q
 refine ⟨c,δ,hK,ab,(Res.bind q).imp fun d _ k v H1 e1 r1=>?_⟩
 have r1':Rep c.K (Av c σ δ) H1 d v:=r1
 have fin:∀ {ds:List D} {xs:List V} (l:Addr),H1 l=none->Reps c.K (Av c σ δ) H1 ds xs->Post c σ δ H .F (.lst ds) (.ref l) (upd H1 l (.lst xs)):=fun l hl h2=>⟨l,_,rfl,e1.free hl,QH,_,rfl,(Reps.off h2 hl).same (QD hl _)⟩
 cases d <;> first | exact k.elim | skip
 ·simp only [Rep] at r1'
  obtain ⟨a,xs,rfl,h1,h2⟩:=r1'
  exact ⟨a,xs,rfl,.inr (by rw [← hK];exact h1),fun l hl=>k (.ref l) _ (e1.trans (QD hl _)) (fin l hl h2)⟩
 ·simp only [Rep] at r1'
  obtain ⟨a,xs,rfl,_,h1,h2⟩:=r1'
  exact ⟨a,xs,rfl,.inl (.of h1),fun l hl=>k (.ref l) _ (e1.trans (QD hl _)) (fin l hl h2)⟩
 ·simp only [Rep] at r1'
  obtain ⟨a,xs,rfl,h1,h2⟩:=r1'
  exact ⟨a,xs,rfl,.inl (by rw [← hK];exact h1.sq),fun l hl=>k (.ref l) _ (e1.trans (QD hl _)) (fin l hl h2)⟩
def sBad:Sm:=fun _=>.bad
theorem Qoe {exc cause:Option Expr}:PS X (.Raise exc cause pos) (tS X.K E fr sBad):=fun pins s σ H D I q=>by
 obtain ⟨c,δ,hK,ab,q⟩:=q
 exact q.elim
end
theorem QlW {P:Program} {w:World} {K:PySem.W.Frag} {mg:Str->Option Value} {base:Heap} {x:Str} {st:Stmt} {ps:List Str} {k:Nat} {fr:Bool} (S:Src K mg x st ps):Df P w K mg base x k ps fr (fun _=>.bad):=by
 obtain ⟨f,fd,Fn,b,hm⟩:=S.ex
 refine ⟨f,fd,⟨fun vs H Q E h=>?_,fun A outer s H args us vs Q E _ _ _ _ h=>?_⟩,b,Fn.kp,hm⟩
 ·obtain ⟨_,_,_,_,z⟩:=h;exact z.elim
 ·obtain ⟨_,_,_,_,z⟩:=h;exact z.elim
def relab (sc0 scope:Scope):List (Str×NameKind):=scope.names.map fun (n,k)=>if (k == .free && sc0.kind == .function && sc0.names.lookup n == some .cell) then (n,.cell) else (n,k)
def cnOk (sc0 scope:Scope) (N0 N':List Str) (k:Nat) (ix:List Nat):Bool :=
 scope.names.all (fun y=>y.2 != .cell) && (scope.kind == .function) && scope.names.all (fun y=>y.2 != .local || scope.names.lookup y.1 == some .local) &&
 scope.names.all (fun y=>y.2 != .free || (sc0.names.lookup y.1 == some .cell || sc0.names.lookup y.1 == some .free)) && N'.length == k + ix.length &&
 (List.range ix.length).all (fun j=>match ix[j]?,N'[k + j]? with
  | some i,some x=>N0[i]? == some x && (sc0.names.lookup x == some .cell || sc0.names.lookup x == some .free) && (relab sc0 scope).lookup x != some .local
  | _,_=>false)
theorem QeF {X:Cx} {scope:Scope} {N':List Str} {k:Nat} {ix:List Nat} (sc0:Scope) (N0:List Str) (h:cnOk sc0 scope N0 N' k ix=true) (hs:X.env.scope=sc0:=by rfl) (hN:X.N=N0:=by rfl):CNames X scope N' k ix:=by
 unfold cnOk at h
 simp only [Bool.and_eq_true] at h
 obtain ⟨⟨⟨⟨⟨h1,h2⟩,h3⟩,h4⟩,h5⟩,h6⟩:=h
 subst hs;subst hN
 refine ⟨fun y hy=>by simpa using List.all_eq_true.mp h1 y hy,by simpa using h2,fun y hy hk=>?_,fun y hy hk=>?_,by simpa using h5,fun j i x e1 e2=>?_⟩
 ·have:=List.all_eq_true.mp h3 y hy
  rw [hk] at this
  simpa using this
 ·have:=List.all_eq_true.mp h4 y hy
  rw [hk] at this
  have z:List.lookup y.fst X.env.scope.names=some NameKind.cell\/List.lookup y.fst X.env.scope.names=some NameKind.free:=by simpa using this
  exact z
 ·have:=List.all_eq_true.mp h6 j (List.mem_range.mpr (List.getElem?_eq_some_iff.mp e1).1)
  rw [e1,e2] at this
  simp only [Bool.and_eq_true,Bool.or_eq_true,beq_iff_eq,bne_iff_ne] at this
  exact ⟨this.1.1,this.1.2,this.2⟩
end DL
namespace DL
open PySem PySem.Spec PyProof.Rows L2
section
variable {K:PySem.W.Frag} {B:Addr->Prop} {H:Hp}
end
section
variable {X:Cx} {E:XK} {m:Md} {a b e o i:Expr} {fa fb fe fo fi:Fn} {pos p:Pos} {fr:Rm} {x:Str}
end
end DL
namespace DL
open PySem PySem.Spec PyProof.Rows L2
def ins (n:Int):List Int->List Int
 | []=>[n]
 | m::r=>if n<=m then n::m::r else m::ins n r
theorem QdJ:∀ {ns:List Int} {us:List Value},Vals (ns.map V.int) us->IntsAre us ns
 | [],us,r=>by cases r;exact .nil
 | n::ns,us,r=>by
  cases r with
  | cons h t =>
   obtain ⟨tk,rfl⟩:=h
   exact .cons n tk (QdJ t)
theorem QgA:∀ {us:List Value} {ns:List Int},IntsAre us ns->Vals (ns.map V.int) us
 | _,_,.nil=>.nil
 | _,_,.cons n t h=>.cons ⟨t,rfl⟩ (QgA h)
section
variable {X:Cx} {E:XK} {m:Md} {a b e o i:Expr} {fa fb fe fo fi:Fn} {pos p:Pos} {fr:Rm} {x:Str}
end
end DL
namespace Tim
open PySem PyProof.Rows
def R (ρ:Keyed->Int) (xs:Array Keyed) (i:Nat):Int:=(xs[i]?.map ρ).getD 0
def Up (ρ:Keyed->Int) (xs:Array Keyed) (lo hi:Nat):Prop:=∀ i j,lo<=i->i<=j->j < hi->R ρ xs i<=R ρ xs j
def Dn (ρ:Keyed->Int) (xs:Array Keyed) (lo hi:Nat):Prop:=∀ i j,lo<=i->i<=j->j < hi->R ρ xs j<=R ρ xs i
def Stays (xs ys:Array Keyed) (lo hi:Nat):Prop:=∀ i,i < lo\/hi<=i->ys[i]? = xs[i]?
theorem Stays.refl (xs:Array Keyed) (lo hi:Nat):Stays xs xs lo hi:=fun _ _=>rfl
theorem Stays.trans {xs ys zs:Array Keyed} {lo hi:Nat} (h:Stays xs ys lo hi) (k:Stays ys zs lo hi):Stays xs zs lo hi:=fun i hi=>(k i hi).trans (h i hi)
theorem R_of {ρ:Keyed->Int} {xs ys:Array Keyed} {i j:Nat} (h:xs[i]? = ys[j]?):R ρ xs i=R ρ ys j:=by unfold R;rw [h]
theorem QhG {ρ:Keyed->Int} {xs:Array Keyed} {i j:Nat} (hj:j<=xs.size) (k:Nat):R ρ (mirror xs i j ((j - i) / 2)) k=if i<=k/\k < j then R ρ xs (i + j - 1 - k) else R ρ xs k:=by
 have e:=getElem?_mirror_all (i:=i) hj k
 by_cases c:i<=k/\k < j
 ·rw [if_pos c] at e ⊢;exact R_of e
 ·rw [if_neg c] at e ⊢;exact R_of e
theorem QbY {ρ:Keyed->Int} {xs:Array Keyed} {i j:Nat} (hj:j<=xs.size) (he:∀ k,i<=k->k < j->R ρ xs k=R ρ xs (j - 1)) (k:Nat):R ρ (mirror xs i j ((j - i) / 2)) k=R ρ xs k:=by
 rw [QhG hj]
 by_cases c:i<=k/\k < j
 ·rw [if_pos c,he _ (by lia) (by lia),he k c.1 c.2]
 ·rw [if_neg c]
theorem Stays.mirror {xs:Array Keyed} {i j lo hi:Nat} (hj:j<=xs.size) (h1:lo<=i) (h2:j<=hi):Stays xs (mirror xs i j ((j - i) / 2)) lo hi:=fun k hk=>by
 rw [getElem?_mirror_all hj,if_neg (by lia)]
theorem QkP {ρ:Keyed->Int} {xs:Array Keyed} {src d:Nat} (hs:src < xs.size) (hd:d<=src) (k:Nat):R ρ (bubble xs src d) k=if k=src - d then R ρ xs src else if src - d < k/\k<=src then R ρ xs (k - 1) else R ρ xs k:=by
 have e:=getElem?_bubble hs d hd k
 by_cases c1:k=src - d
 ·rw [if_pos c1] at e ⊢;exact R_of e
 ·rw [if_neg c1] at e ⊢
  by_cases c2:src - d < k/\k<=src
  ·rw [if_pos c2] at e ⊢;exact R_of e
  ·rw [if_neg c2] at e ⊢;exact R_of e
theorem Stays.bubble {xs:Array Keyed} {src d lo hi:Nat} (hs:src < xs.size) (hd:d<=src) (h1:lo<=src - d) (h2:src < hi):Stays xs (bubble xs src d) lo hi:=fun k hk=>by
 rw [getElem?_bubble hs d hd,if_neg (by lia),if_neg (by lia)]
structure Bs (κ:SortKind) (a₀:Array Keyed) (st:SortSt):Prop where
 perm:(arrOf st).Perm a₀
 kind:kindOf st=κ
 fine:failedOf st=none
theorem Bs.size {κ:SortKind} {a₀:Array Keyed} {st:SortSt} (h:Bs κ a₀ st):(arrOf st).size=a₀.size:=h.perm.size_eq
theorem Bs.put {κ:SortKind} {a₀:Array Keyed} {st:SortSt} (h:Bs κ a₀ st) {xs:Array Keyed} (hp:xs.Perm (arrOf st)):Bs κ a₀ (setArr st xs):=⟨hp.trans h.perm,h.kind,h.fine⟩
theorem Bs.has {κ:SortKind} {a₀:Array Keyed} {st:SortSt} (h:Bs κ a₀ st) {i:Nat} (hi:i < a₀.size):∃ x,(arrOf st)[i]? = some x/\x∈a₀.toList:=by
 have hi':i < (arrOf st).size:=by rw [h.size];exact hi
 exact ⟨(arrOf st)[i],getElem?_pos _ i hi',(Array.perm_iff_toList_perm.mp h.perm).mem_iff.mp (by simp)⟩
section
variable {prog:Program} {w:World} {A:Around} {E:Value->Shared->Prop} {s:Shared} {κ:SortKind} {ρ:Keyed->Int} {a₀:Array Keyed}
def Told (prog:Program) (w:World) (A:Around) (s:Shared) (κ:SortKind) (ρ:Keyed->Int) (a₀:Array Keyed):Prop :=
 ∀ x,x∈a₀.toList->∀ y,y∈a₀.toList->∀ (E:Value->Shared->Prop) (Q:Bool->Shared->Prop),Q (decide (ρ x < ρ y)) s->wpAny (model prog w) A (keyLt' κ x.1 y.1) Q E s
theorem lt_ {st:SortSt} {x y:Keyed} {Q:Option Bool->SortSt->Prop} (T:Told prog w A s κ ρ a₀) (hk:kindOf st=κ) (hx:x∈a₀.toList) (hy:y∈a₀.toList) (h:Q (some (decide (ρ x < ρ y))) st) :
  wpS (model prog w) A E s (lt' x y) Q st:=by
 rw [lt'_eq]
 refine wpS_bind (wpS_get ?_)
 rw [hk]
 refine wpS_bind (wpS_lift (wpAny_attempt (T x hx y hy _ _ ⟨rfl,?_⟩)))
 exact wpS_pure h
theorem Qp1 {st:SortSt} {xs:Array Keyed} {i:Nat} {x:Keyed} {Q:Keyed->SortSt->Prop} (hx:xs[i]? = some x) (h:Q x st):wpS (model prog w) A E s (elem' xs i) Q st:=by
 rw [elem'_eq,hx]
 exact wpS_pure h
theorem Qk1 {st:SortSt} {i j:Nat} {Q:Option Bool->SortSt->Prop} (T:Told prog w A s κ ρ a₀) (hB:Bs κ a₀ st) (hi:i < a₀.size) (hj:j < a₀.size)
  (h:Q (some (decide (R ρ (arrOf st) i < R ρ (arrOf st) j))) st):wpS (model prog w) A E s (ltAt' i j) Q st:=by
 obtain ⟨x,ex,mx⟩:=hB.has hi
 obtain ⟨y,ey,my⟩:=hB.has hj
 rw [ltAt'_eq]
 refine wpS_bind (wpS_get (wpS_bind (Qp1 ex (wpS_bind (Qp1 ey (lt_ T hB.kind mx my ?_))))))
 have e1:R ρ (arrOf st) i=ρ x:=by unfold R;rw [ex];rfl
 have e2:R ρ (arrOf st) j=ρ y:=by unfold R;rw [ey];rfl
 rw [e1,e2] at h
 exact h
abbrev St1:=Option (Option Nat)×Nat
abbrev St2:=Option (Option Nat)×Nat×Nat
def upL (lo a m:Nat):StateT SortSt Sem St1:=forIn [a:m] ((none,a):St1) fun _ r=>do
 let x ← ltAt' (lo + r.snd) (lo + r.snd - 1)
 match x with
 | some b=>if b=true then pure (.done (none,r.snd)) else pure (.yield (none,r.snd + 1))
 | _=>pure (.done (some none,r.snd))
def endL (lo n m:Nat):StateT SortSt Sem (Option Nat):=do
 reverseSlice' lo (lo + n)
 let r ← upL lo n m
 match r.fst with
 | some z=>pure z
 | none=>pure (some r.snd)
def dnL (lo n m:Nat):StateT SortSt Sem St2:=forIn [n:m] ((none,n,0):St2) fun _ r=>do
 let x ← ltAt' (lo + r.snd.fst) (lo + r.snd.fst - 1)
 match x with
 | some b =>
  if b=true then
   if r.snd.snd > 0 then do
    reverseSlice' (lo + r.snd.fst - (r.snd.snd + 1)) (lo + r.snd.fst)
    pure (.yield (none,r.snd.fst + 1,0))
   else pure (.yield (none,r.snd.fst + 1,0))
  else do
   let y ← ltAt' (lo + r.snd.fst - 1) (lo + r.snd.fst)
   match y with
   | some c=>if c=true then pure (.done (none,r.snd.fst,r.snd.snd)) else pure (.yield (none,r.snd.fst + 1,r.snd.snd + 1))
   | _=>pure (.done (some none,r.snd.fst,r.snd.snd))
 | _=>pure (.done (some none,r.snd.fst,r.snd.snd))
def Qjm (lo n m:Nat):StateT SortSt Sem (Option Nat):=do
 liftM (rule "list.sort.descending-run")
 let r ← dnL lo (n + 1) m
 match r.fst with
 | some z=>pure z
 | none =>
  if r.snd.snd > 0 then do
   reverseSlice' (lo + r.snd.fst - (r.snd.snd + 1)) (lo + r.snd.fst)
   endL lo r.snd.fst m
  else endL lo r.snd.fst m
def runL (lo m:Nat):StateT SortSt Sem (Option Nat):=do
 let r ← upL lo 1 m
 match r.fst with
 | some z=>pure z
 | none =>
  if (r.snd == m)=true then pure (some r.snd)
  else if r.snd > 1 then do
   let x ← ltAt' lo (lo + r.snd - 1)
   match x with
   | some b=>if b=true then pure (some r.snd) else do
     reverseSlice' lo (lo + r.snd)
     Qjm lo r.snd m
   | _=>pure none
  else Qjm lo r.snd m
theorem Qqg (lo m:Nat):countRun' lo m=runL lo m:=by
 rw [countRun'_eq]
 unfold runL
 dsimp only
 congr 1
 funext r
 obtain ⟨z,n⟩:=r
 cases z with
 | some z=>rfl
 | none =>
  dsimp only
  by_cases c1:(n == m)=true
  ·rw [if_pos c1,if_pos c1]
  ·rw [if_neg c1,if_neg c1]
   by_cases c2:n > 1
   ·rw [if_pos c2,if_pos c2]
    congr 1
    funext x
    cases x with
    | none=>rfl
    | some b =>
     dsimp only
     cases b with
     | true=>rfl
     | false =>
      simp only [Bool.false_eq_true,if_false]
      congr 1
      funext u
      unfold Qjm
      congr 1
      funext v
      congr 1
      funext r
      obtain ⟨z,n',q⟩:=r
      cases z with
      | some z=>rfl
      | none =>
       dsimp only
       by_cases c3:q > 0
       ·rw [if_pos c3,if_pos c3]
        congr 1
        funext y
        unfold endL
        congr 1
        funext y'
        congr 1
        funext r
        obtain ⟨z,k⟩:=r
        cases z <;> rfl
       ·rw [if_neg c3,if_neg c3]
        unfold endL
        congr 1
        funext y'
        congr 1
        funext r
        obtain ⟨z,k⟩:=r
        cases z <;> rfl
   ·rw [if_neg c2,if_neg c2]
    unfold Qjm
    congr 1
    funext v
    congr 1
    funext r
    obtain ⟨z,n',q⟩:=r
    cases z with
    | some z=>rfl
    | none =>
     dsimp only
     by_cases c3:q > 0
     ·rw [if_pos c3,if_pos c3]
      congr 1
      funext y
      unfold endL
      congr 1
      funext y'
      congr 1
      funext r
      obtain ⟨z,k⟩:=r
      cases z <;> rfl
     ·rw [if_neg c3,if_neg c3]
      unfold endL
      congr 1
      funext y'
      congr 1
      funext r
      obtain ⟨z,k⟩:=r
      cases z <;> rfl
theorem rev_ {st:SortSt} {i j:Nat} {Q:Unit->SortSt->Prop} (h:Q () (setArr st (mirror (arrOf st) i j ((j - i) / 2)))):wpS (model prog w) A E s (reverseSlice' i j) Q st:=by
 rw [reverseSlice'_eq]
 exact wpS_modify h
theorem upL_ {st:SortSt} {lo a m:Nat} {Q:St1->SortSt->Prop} (T:Told prog w A s κ ρ a₀) (hB:Bs κ a₀ st) (hm:lo + m<=a₀.size) (h1:1<=a) (ha:a<=m) (hu:Up ρ (arrOf st) lo (lo + a))
  (h:∀ n,a<=n->n<=m->Up ρ (arrOf st) lo (lo + n)->(n=m\/R ρ (arrOf st) (lo + n) < R ρ (arrOf st) (lo + n - 1))->Q (none,n) st):wpS (model prog w) A E s (upL lo a m) Q st:=by
 unfold upL
 refine wpS_forRange (I:=fun x c st'=>st'=st/\c=(none,x)/\Up ρ (arrOf st) lo (lo + x)) ?_ ?_ ⟨rfl,rfl,hu⟩
 ·rintro x c st' hx1 hx2 ⟨rfl,rfl,hs⟩
  dsimp only
  refine wpS_bind (Qk1 T hB (by lia) (by lia) ?_)
  by_cases hl:R ρ (arrOf st') (lo + x) < R ρ (arrOf st') (lo + x - 1)
  ·rw [decide_eq_true hl]
   exact wpS_pure (h x hx1 (by lia) hs (.inr hl))
  ·rw [decide_eq_false hl]
   refine wpS_pure ⟨rfl,rfl,fun i j q1 q2 q3=>?_⟩
   by_cases c:j < lo + x
   ·exact hs i j q1 q2 c
   ·obtain rfl:j=lo + x:=by lia
    by_cases c2:i=lo + x
    ·rw [c2];exact Int.le_refl _
    ·have:=hs i (lo + x - 1) q1 (by lia) (by lia)
     lia
 ·rintro c st' ⟨rfl,rfl,hs⟩
  rw [Nat.max_eq_right ha] at hs ⊢
  exact h m ha (Nat.le_refl _) hs (.inl rfl)
theorem Qp3 {st:SortSt} {lo n m:Nat} {Q:Option Nat->SortSt->Prop} (T:Told prog w A s κ ρ a₀) (hB:Bs κ a₀ st) (hm:lo + m<=a₀.size) (h1:1<=n) (hn:n<=m) (hd:Dn ρ (arrOf st) lo (lo + n))
  (h:∀ k st',Bs κ a₀ st'->Stays (arrOf st) (arrOf st') lo (lo + m)->pendingOf st'=pendingOf st->1<=k->k<=m->Up ρ (arrOf st') lo (lo + k)->Q (some k) st'):wpS (model prog w) A E s (endL lo n m) Q st:=by
 unfold endL
 have hz:lo + n<=(arrOf st).size:=by rw [hB.size];lia
 refine wpS_bind (rev_ ?_)
 have hB':Bs κ a₀ (setArr st (mirror (arrOf st) lo (lo + n) ((lo + n - lo) / 2))):=hB.put (mirror_perm _ _ _ _)
 refine wpS_bind (upL_ T hB' hm h1 hn (fun i j q1 q2 q3=>?_) fun k k1 k2 k3 _=>wpS_pure (h k _ hB' (Stays.mirror hz (Nat.le_refl _) (by lia)) rfl (by lia) k2 k3))
 show R ρ (mirror (arrOf st) lo (lo + n) _) i<=R ρ (mirror (arrOf st) lo (lo + n) _) j
 rw [QhG hz,QhG hz,if_pos (by lia),if_pos (by lia)]
 exact hd _ _ (by lia) (by lia) (by lia)
theorem dnL_ {st:SortSt} {lo n m:Nat} {Q:St2->SortSt->Prop} (T:Told prog w A s κ ρ a₀) (hB:Bs κ a₀ st) (hm:lo + m<=a₀.size) (h1:1<=n) (hn:n<=m) (hd:Dn ρ (arrOf st) lo (lo + n))
  (h:∀ k q st',Bs κ a₀ st'->Stays (arrOf st) (arrOf st') lo (lo + m)->pendingOf st'=pendingOf st->n<=k->k<=m->Dn ρ (arrOf st') lo (lo + k)->q + 1<=k ->
   (∀ i,lo + k - (q + 1)<=i->i < lo + k->R ρ (arrOf st') i=R ρ (arrOf st') (lo + k - 1))->Q (none,k,q) st'):wpS (model prog w) A E s (dnL lo n m) Q st:=by
 unfold dnL
 refine wpS_forRange (I:=fun x c st'=>∃ q,c=(none,x,q)/\Bs κ a₀ st'/\Stays (arrOf st) (arrOf st') lo (lo + m)/\pendingOf st'=pendingOf st/\Dn ρ (arrOf st') lo (lo + x)/\q + 1<=x /\
   (∀ i,lo + x - (q + 1)<=i->i < lo + x->R ρ (arrOf st') i=R ρ (arrOf st') (lo + x - 1))) ?_ ?_ ⟨0,rfl,hB,Stays.refl _ _ _,rfl,hd,h1,fun i q1 q2=>by congr 1;lia⟩
 ·rintro x c st' hx1 hx2 ⟨q,rfl,hB',hst,hpe,hs,hq,he⟩
  dsimp only
  have hz:lo + x<=(arrOf st').size:=by rw [hB'.size];lia
  refine wpS_bind (Qk1 T hB' (by lia) (by lia) ?_)
  have more:∀ xs:Array Keyed,(∀ k,R ρ xs k=R ρ (arrOf st') k)->R ρ (arrOf st') (lo + x)<=R ρ (arrOf st') (lo + x - 1)->Dn ρ xs lo (lo + (x + 1)):=by
   intro xs hk hl i j q1 q2 q3
   rw [hk,hk]
   by_cases c:j < lo + x
   ·exact hs i j q1 q2 c
   ·obtain rfl:j=lo + x:=by lia
    by_cases c2:i=lo + x
    ·rw [c2];exact Int.le_refl _
    ·have:=hs i (lo + x - 1) q1 (by lia) (by lia)
     lia
  by_cases hl:R ρ (arrOf st') (lo + x) < R ρ (arrOf st') (lo + x - 1)
  ·rw [decide_eq_true hl]
   by_cases hq0:q > 0
   ·simp only [if_true]
    rw [if_pos hq0]
    refine wpS_bind (rev_ (wpS_pure ⟨0,rfl,hB'.put (mirror_perm _ _ _ _),hst.trans (Stays.mirror hz (by lia) (by lia)),hpe,more _ (QbY hz he) (Int.le_of_lt hl),by lia,fun i q1 q2=>by congr 1;lia⟩))
   ·simp only [if_true]
    rw [if_neg hq0]
    exact wpS_pure ⟨0,rfl,hB',hst,hpe,more _ (fun _=>rfl) (Int.le_of_lt hl),by lia,fun i q1 q2=>by congr 1;lia⟩
  ·rw [decide_eq_false hl]
   simp only [Bool.false_eq_true,if_false]
   refine wpS_bind (Qk1 T hB' (by lia) (by lia) ?_)
   by_cases hg:R ρ (arrOf st') (lo + x - 1) < R ρ (arrOf st') (lo + x)
   ·rw [decide_eq_true hg]
    exact wpS_pure (h x q st' hB' hst hpe hx1 (by lia) hs hq he)
   ·rw [decide_eq_false hg]
    have ee:R ρ (arrOf st') (lo + x)=R ρ (arrOf st') (lo + x - 1):=by lia
    refine wpS_pure ⟨q + 1,rfl,hB',hst,hpe,more _ (fun _=>rfl) (by lia),by lia,fun i q1 q2=>?_⟩
    rw [show lo + (x + 1) - 1=lo + x by lia]
    by_cases c:i=lo + x
    ·rw [c]
    ·rw [ee];exact he i (by lia) (by lia)
 ·rintro c st' ⟨q,rfl,hB',hst,hpe,hs,hq,he⟩
  rw [Nat.max_eq_right hn] at hs hq he ⊢
  exact h m q st' hB' hst hpe hn (Nat.le_refl _) hs hq he
theorem Qn1 {st:SortSt} {lo n m:Nat} {Q:Option Nat->SortSt->Prop} (T:Told prog w A s κ ρ a₀) (hB:Bs κ a₀ st) (hm:lo + m<=a₀.size) (hn:n + 1<=m) (hd:Dn ρ (arrOf st) lo (lo + (n + 1)))
  (h:∀ k st',Bs κ a₀ st'->Stays (arrOf st) (arrOf st') lo (lo + m)->pendingOf st'=pendingOf st->1<=k->k<=m->Up ρ (arrOf st') lo (lo + k)->Q (some k) st'):wpS (model prog w) A E s (Qjm lo n m) Q st:=by
 unfold Qjm
 refine wpS_bind (wpS_lift (wpAny_rule ⟨rfl,?_⟩))
 refine wpS_bind (dnL_ T hB hm (by lia) hn hd fun k q st' hB' hst hpe k1 k2 hs hq he=>?_)
 dsimp only
 have hz:lo + k<=(arrOf st').size:=by rw [hB'.size];lia
 by_cases hq0:q > 0
 ·rw [if_pos hq0]
  refine wpS_bind (rev_ (Qp3 T (hB'.put (mirror_perm _ _ _ _)) hm (by lia) k2 (fun i j q1 q2 q3=>?_) fun k' st'' b1 b2 b3=>h k' st'' b1 ((hst.trans (Stays.mirror hz (by lia) (by lia))).trans b2) (b3.trans hpe)))
  show R ρ (mirror (arrOf st') _ _ _) j<=R ρ (mirror (arrOf st') _ _ _) i
  rw [QbY hz he,QbY hz he]
  exact hs i j q1 q2 q3
 ·rw [if_neg hq0]
  exact Qp3 T hB' hm (by lia) k2 hs fun k' st'' b1 b2 b3=>h k' st'' b1 (hst.trans b2) (b3.trans hpe)
theorem run_ {st:SortSt} {lo m:Nat} {Q:Option Nat->SortSt->Prop} (T:Told prog w A s κ ρ a₀) (hB:Bs κ a₀ st) (hm:lo + m<=a₀.size) (h1:1<=m)
  (h:∀ k st',Bs κ a₀ st'->Stays (arrOf st) (arrOf st') lo (lo + m)->pendingOf st'=pendingOf st->1<=k->k<=m->Up ρ (arrOf st') lo (lo + k)->Q (some k) st'):wpS (model prog w) A E s (countRun' lo m) Q st:=by
 rw [Qqg]
 unfold runL
 refine wpS_bind (upL_ T hB hm (Nat.le_refl 1) h1 (fun i j q1 q2 q3=>by rw [show i=j by lia];exact Int.le_refl _) fun n n1 n2 hu hor=>?_)
 dsimp only
 by_cases c:n=m
 ·rw [if_pos (by simpa using c)]
  exact wpS_pure (h n st hB (Stays.refl _ _ _) rfl n1 n2 hu)
 ·rw [if_neg (by simpa using c)]
  have hl:=hor.resolve_left c
  by_cases c1:n > 1
  ·rw [if_pos c1]
   refine wpS_bind (Qk1 T hB (by lia) (by lia) ?_)
   by_cases hr:R ρ (arrOf st) lo < R ρ (arrOf st) (lo + n - 1)
   ·rw [decide_eq_true hr]
    exact wpS_pure (h n st hB (Stays.refl _ _ _) rfl n1 n2 hu)
   ·rw [decide_eq_false hr]
    have hz:lo + n<=(arrOf st).size:=by rw [hB.size];lia
    have all:∀ k,lo<=k->k < lo + n->R ρ (arrOf st) k=R ρ (arrOf st) (lo + n - 1):=by
     intro k k1 k2
     have a1:=hu lo k (Nat.le_refl _) k1 k2
     have a2:=hu k (lo + n - 1) k1 (by lia) (by lia)
     lia
    simp only [Bool.false_eq_true,if_false]
    refine wpS_bind (rev_ (Qn1 T (hB.put (mirror_perm _ _ _ _)) hm (by lia) (fun i j q1 q2 q3=>?_) fun k st' b1 b2=>h k st' b1 ((Stays.mirror hz (Nat.le_refl _) (by lia)).trans b2)))
    show R ρ (mirror (arrOf st) _ _ _) j<=R ρ (mirror (arrOf st) _ _ _) i
    rw [QbY hz all,QbY hz all]
    by_cases cj:j < lo + n
    ·rw [all i (by lia) (by lia),all j (by lia) cj];exact Int.le_refl _
    ·obtain rfl:j=lo + n:=by lia
     by_cases ci:i=lo + n
     ·rw [ci];exact Int.le_refl _
     ·rw [all i q1 (by lia)];exact Int.le_of_lt hl
  ·rw [if_neg c1]
   obtain rfl:n=1:=by lia
   refine Qn1 T hB hm (by lia) (fun i j q1 q2 q3=>?_) h
   by_cases ci:i=j
   ·rw [ci];exact Int.le_refl _
   ·obtain rfl:i=lo:=by lia
    obtain rfl:j=i + 1:=by lia
    exact Int.le_of_lt hl
theorem ins_ {st:SortSt} {lo n ok:Nat} {Q:Bool->SortSt->Prop} (T:Told prog w A s κ ρ a₀) (hB:Bs κ a₀ st) (hn:lo + n<=a₀.size) (hok:ok<=n) (hu:Up ρ (arrOf st) lo (lo + ok))
  (h:∀ st',Bs κ a₀ st'->Stays (arrOf st) (arrOf st') lo (lo + n)->pendingOf st'=pendingOf st->Up ρ (arrOf st') lo (lo + n)->Q true st'):wpS (model prog w) A E s (binarySort' lo n ok) Q st:=by
 rw [binarySort'_eq]
 refine wpS_bind (wpS_mono (wpS_forRange (I:=fun k c st'=>c=(none,())/\Bs κ a₀ st'/\Stays (arrOf st) (arrOf st') lo (lo + n)/\pendingOf st'=pendingOf st/\Up ρ (arrOf st') lo (lo + min k n))
  (Q:=fun c st'=>c=(none,())/\Bs κ a₀ st'/\Stays (arrOf st) (arrOf st') lo (lo + n)/\pendingOf st'=pendingOf st/\Up ρ (arrOf st') lo (lo + n)) ?_ ?_ ?_) ?_)
 ·rintro k c st' k1 k2 ⟨rfl,hB',hst,hpe,hs⟩
  rw [Nat.min_eq_left (by lia)] at hs
  refine wpS_bind (wpS_mono (wpS_forRange (I:=fun x c st''=>st''=st'/\∃ l r,c=(none,l,r)/\l<=r/\r<=k/\r - l<=k - x /\
    (∀ i,i < l->R ρ (arrOf st') (lo + i)<=R ρ (arrOf st') (lo + k))/\(∀ i,r<=i->i < k->R ρ (arrOf st') (lo + k) < R ρ (arrOf st') (lo + i)))
   (Q:=fun c st''=>st''=st'/\∃ l r,c=(none,l,r)/\l<=k /\
    (∀ i,i < l->R ρ (arrOf st') (lo + i)<=R ρ (arrOf st') (lo + k))/\(∀ i,l<=i->i < k->R ρ (arrOf st') (lo + k) < R ρ (arrOf st') (lo + i))) ?_ ?_ ?_) ?_)
  ·rintro x c st'' _ hx ⟨rfl,l,r,rfl,hlr,hrk,hm,h1,h2⟩
   dsimp only
   by_cases hge:l ≥ r
   ·rw [if_pos hge]
    obtain rfl:l=r:=by lia
    exact wpS_pure ⟨rfl,l,l,rfl,hrk,h1,h2⟩
   ·rw [if_neg hge]
    refine wpS_bind (Qk1 T hB' (by lia) (by lia) ?_)
    by_cases hl:R ρ (arrOf st'') (lo + k) < R ρ (arrOf st'') (lo + (l + r) / 2)
    ·rw [decide_eq_true hl]
     refine wpS_pure ⟨rfl,l,(l + r) / 2,rfl,by lia,by lia,by lia,h1,fun i q1 q2=>?_⟩
     exact Int.lt_of_lt_of_le hl (hs _ _ (by lia) (by lia) (by lia))
    ·rw [decide_eq_false hl]
     refine wpS_pure ⟨rfl,(l + r) / 2 + 1,r,rfl,by lia,by lia,by lia,fun i q1=>?_,h2⟩
     exact Int.le_trans (hs (lo + i) (lo + (l + r) / 2) (by lia) (by lia) (by lia)) (Int.not_lt.mp hl)
  ·rintro c st'' ⟨rfl,l,r,rfl,hlr,hrk,hm,h1,h2⟩
   obtain rfl:l=r:=by lia
   exact ⟨rfl,l,l,rfl,hrk,h1,h2⟩
  ·exact ⟨rfl,0,k,rfl,by lia,by lia,by lia,fun i hi=>by lia,fun i q1 q2=>by lia⟩
  ·rintro c st'' ⟨rfl,l,r,rfl,hlk,h1,h2⟩
   have hz:lo + k < (arrOf st'').size:=by rw [hB'.size];lia
   dsimp only
   rw [moveDown'_eq]
   refine wpS_bind (wpS_modify (wpS_pure ⟨rfl,hB'.put (bubble_perm _ _ _),hst.trans (Stays.bubble hz (by lia) (by lia) (by lia)),hpe,fun i j q1 q2 q3=>?_⟩))
   rw [Nat.min_eq_left (show k + 1<=n by lia)] at q3
   show R ρ (bubble (arrOf st'') (lo + k) (lo + k - (lo + l))) i<=R ρ (bubble (arrOf st'') (lo + k) (lo + k - (lo + l))) j
   rw [QkP hz (by lia),QkP hz (by lia),show lo + k - (lo + k - (lo + l))=lo + l by lia]
   have g1:∀ i,lo<=i->i < lo + l->R ρ (arrOf st'') i<=R ρ (arrOf st'') (lo + k):=fun i a b=>by
    have:=h1 (i - lo) (by lia)
    rwa [show lo + (i - lo)=i by lia] at this
   have g2:∀ i,lo + l<=i->i < lo + k->R ρ (arrOf st'') (lo + k) < R ρ (arrOf st'') i:=fun i a b=>by
    have:=h2 (i - lo) (by lia) (by lia)
    rwa [show lo + (i - lo)=i by lia] at this
   repeat' split
   all_goals first
    | (exfalso;lia)
    | exact Int.le_refl _
    | exact g1 _ (by lia) (by lia)
    | exact Int.le_of_lt (g2 _ (by lia) (by lia))
    | exact hs _ _ (by lia) (by lia) (by lia)
 ·rintro c st' ⟨hc,hB',hst,hpe,hs⟩
  refine ⟨hc,hB',hst,hpe,?_⟩
  rwa [show min (max (max ok 1) n) n=n by lia] at hs
 ·refine ⟨rfl,hB,Stays.refl _ _ _,rfl,fun i j q1 q2 q3=>?_⟩
  by_cases c:ok=0
  ·rw [show i=j by lia];exact Int.le_refl _
  ·exact hu i j q1 q2 (by lia)
 ·rintro c st' ⟨rfl,hB',hst,hpe,hs⟩
  exact wpS_pure (h st' hB' hst hpe hs)
end
section
variable {prog:Program} {w:World} {A:Around} {E:Value->Shared->Prop} {s:Shared} {κ:SortKind} {ρ:Keyed->Int} {a₀:Array Keyed}
theorem Qol {ρ:Keyed->Int} {a:Array Keyed} {j:Nat} {x:Keyed} (h:a[j]? = some x):R ρ a j=ρ x:=by unfold R;rw [h];rfl
theorem Qj5 {n:Nat} (h1:1<=n) (h2:n < 64):minRun' n n 0=n:=by
 obtain ⟨f,rfl⟩:∃ f,n=f + 1:=⟨n - 1,by lia⟩
 rw [minRun'_succ,if_pos h2]
inductive Runs (ρ:Keyed->Int) (a₀:Array Keyed) (st:SortSt):Nat->Nat->Prop
 | none (h:pendingOf st=#[]):Runs ρ a₀ st 0 0
 | one (x:Nat) (h:pendingOf st=#[(0,a₀.size,0)]) (hx:1<=x) (u:Up ρ (arrOf st) 0 a₀.size):Runs ρ a₀ st x a₀.size
def Qp2 (κ:SortKind) (ρ:Keyed->Int) (a₀:Array Keyed) (x:Nat):ForInStep (Option Unit×Nat)->SortSt->Prop
 | .done c',st'=>c'=(none,a₀.size)/\Bs κ a₀ st'/\∃ x,Runs ρ a₀ st' x a₀.size
 | .yield c',st'=>∃ lo,c'=(none,lo)/\Bs κ a₀ st'/\Runs ρ a₀ st' (x + 1) lo
theorem Qnp {st:SortSt} {Q:Unit->SortSt->Prop} (T:Told prog w A s κ ρ a₀) (hB:Bs κ a₀ st) (hp:pendingOf st=#[]) (h2:2<=a₀.size) (h128:a₀.size < 64)
  (h:∀ st',(arrOf st').Perm a₀->failedOf st'=none->Up ρ (arrOf st') 0 a₀.size->Q () st'):wpS (model prog w) A E s sortRuns' Q st:=by
 have hmr:minRun' a₀.size a₀.size 0=a₀.size:=Qj5 (by lia) h128
 rw [sortRuns'_eq]
 refine wpS_bind (wpS_get ?_)
 dsimp -zeta only
 rw [hB.size]
 refine wpS_bind (wpS_mono (wpS_forRange (I:=fun x c st'=>∃ lo,c=(none,lo)/\Bs κ a₀ st'/\Runs ρ a₀ st' x lo)
  (Q:=fun c st'=>c=(none,a₀.size)/\Bs κ a₀ st'/\∃ x,Runs ρ a₀ st' x a₀.size) ?_ ?_ ?_) ?_)
 ·rintro x c st' _ hx ⟨lo,rfl,hB',r⟩
  refine wpS_mono (Q:=Qp2 κ ρ a₀ x) ?_ fun r st' hr=>by cases r <;> exact hr
  generalize hmrE:minRun' a₀.size a₀.size 0=mr at *
  cases r with
  | none hpe =>
   dsimp -zeta only
   extract_lets -merge -underBinder lo'
   show wpS _ _ _ _ (if 0 ≥ a₀.size then _ else _) _ _
   rw [if_neg (by lia)]
   refine wpS_bind (run_ (lo:=0) (m:=a₀.size - 0) T hB' (by lia) (by lia) fun k st2 b1 b2 b3 k1 k2 k3=>?_)
   dsimp -zeta only
   extract_lets -merge -underBinder n jp
   have hj:∀ n st',Bs κ a₀ st'->pendingOf st'=#[]->n=a₀.size->Up ρ (arrOf st') 0 n->wpS (model prog w) A E s (jp () n) (Qp2 κ ρ a₀ 0) st':=by
    intro n st' hB' hpe n1 u
    subst n1
    refine wpS_bind (wpS_get ?_)
    have hb:(pendingOf st').back? = none:=by rw [hpe];rfl
    extract_lets -merge -underBinder jp2
    rw [hb]
    refine wpS_bind (wpS_modify (wpS_pure ⟨_,rfl,⟨hB'.perm,hB'.kind,hB'.fine⟩,?_⟩))
    show Runs ρ a₀ _ (0 + 1) (0 + a₀.size)
    rw [Nat.zero_add a₀.size]
    exact .one _ (by show (pendingOf st').push _=_;rw [hpe];rfl) (by lia) u
   clear_value jp
   by_cases c1:k < mr
   ·show wpS _ _ _ _ (if k < mr then _ else _) _ _
    rw [if_pos c1]
    refine wpS_bind (wpS_lift (wpAny_rule ⟨rfl,?_⟩))
    refine wpS_bind (ins_ (lo:=0) (n:=min (a₀.size - 0) mr) T b1 (by lia) (by lia) k3 fun st3 d1 d2 d3 d4=>?_)
    exact hj (min (a₀.size - 0) mr) st3 d1 (d3.trans (b3.trans hpe)) (by lia) (by simpa using d4)
   ·show wpS _ _ _ _ (if k < mr then _ else _) _ _
    rw [if_neg c1]
    exact hj k st2 b1 (b3.trans hpe) (by lia) (by simpa using k3)
  | one _ hpe hx u =>
   dsimp -zeta only
   extract_lets -merge -underBinder lo'
   show wpS _ _ _ _ (if a₀.size ≥ a₀.size then _ else _) _ _
   rw [if_pos (Nat.le_refl _)]
   exact wpS_pure ⟨rfl,hB',_,.one _ hpe hx u⟩
 ·rintro c st' ⟨lo,rfl,hB',r⟩
  rw [Nat.max_eq_right (Nat.zero_le _)] at r
  obtain ⟨y,hy⟩:∃ y,y=a₀.size:=⟨_,rfl⟩
  rw [← hy] at r
  cases r with
  | none _=>lia
  | one _ hpe hx u=>exact ⟨rfl,hB',y,.one _ hpe hx u⟩
 ·exact ⟨0,rfl,hB,.none hp⟩
 ·rintro c st' ⟨rfl,hB',x,r⟩
  dsimp only
  refine wpS_bind (wpS_mono (wpS_forRange (I:=fun y c st'=>c=(none,())/\Bs κ a₀ st'/\Runs ρ a₀ st' x a₀.size)
   (Q:=fun c st'=>c=(none,())/\Bs κ a₀ st'/\Up ρ (arrOf st') 0 a₀.size) ?_ ?_ ⟨rfl,hB',r⟩) ?_)
  ·rintro y c st'' _ _ ⟨rfl,hB'',q⟩
   refine wpS_bind (wpS_get ?_)
   generalize hz:a₀.size=z at q
   cases q with
   | none _=>lia
   | one _ hpe hx u =>
    have cs:(pendingOf st'').size<=1:=by rw [hpe];exact Nat.le_refl 1
    rw [if_pos cs]
    exact wpS_pure ⟨rfl,hB'',u⟩
  ·rintro c st'' ⟨rfl,hB'',q⟩
   refine ⟨rfl,hB'',?_⟩
   generalize hz:a₀.size=z at q
   cases q with
   | none _=>lia
   | one _ hpe hx u=>exact u
  ·rintro c st'' ⟨rfl,hB'',u⟩
   exact wpS_pure (h _ hB''.perm hB''.fine u)
end
section
variable {prog:Program} {w:World} {A:Around} {E:Value->Shared->Prop} {s:Shared} {κ:SortKind} {ρ:Keyed->Int}
def Qck (h:Heap) (a:Addr) (vs:List Value):Heap:=((h.update a (Obj.mapSeq fun _=>#[])).push (seqObj "tuple" vs.toArray 0)).push (seqObj "list" #[] 0)
theorem Qm8 {vs:List Value} {xs:Array Keyed} (hp:xs.Perm (pairsOf vs)) (hu:Up ρ xs 0 (pairsOf vs).size):(xs.map (·.2)).toList.Perm vs/\(xs.map (·.2)).toList.Pairwise fun x y=>ρ (x,x)<=ρ (y,y):=by
 have hl:xs.toList.Perm (vs.zip vs):=by rw [← pairsOf_toList];exact Array.perm_iff_toList_perm.mp hp
 have hm:∀ p,p∈xs.toList->p=(p.2,p.2):=fun p hq=>by
  have:=(mem_zip_self (hl.mem_iff.mp hq)).1
  exact Prod.ext this rfl
 constructor
 ·rw [Array.toList_map]
  have:=hl.map Prod.snd
  rwa [List.map_snd_zip (Nat.le_refl _)] at this
 ·rw [Array.toList_map,List.pairwise_map,List.pairwise_iff_getElem]
  intro i j hi hj hij
  have hi':i < xs.size:=by simpa using hi
  have hj':j < xs.size:=by simpa using hj
  have q:=hu i j (Nat.zero_le _) (Nat.le_of_lt hij) (by rw [← hp.size_eq];exact hj')
  rw [Qol (Array.getElem?_eq_getElem hi'),Qol (Array.getElem?_eq_getElem hj')] at q
  have e1:=hm _ (List.getElem_mem hi)
  have e2:=hm _ (List.getElem_mem hj)
  simp only [Array.getElem_toList] at e1 e2 ⊢
  rw [← e1,← e2]
  exact q
theorem QlO {a:Addr} {vs:List Value} {n:Nat} {P:PySem.Fin->Shared->Prop} (ho:s.heap.get? a=some (seqObj "list" vs.toArray n)) (hlen:vs.length < 64)
  (hkind:2<=vs.length->∀ Q:SortKind->Shared->Prop,Q κ { s with heap:=Qck s.heap a vs }->wpAny (model prog w) A (keyKind' vs.toArray) Q E { s with heap:=Qck s.heap a vs })
  (T:Told prog w A { s with heap:=Qck s.heap a vs } κ ρ (pairsOf vs))
  (h:∀ out:Array Value,out.toList.Perm vs->out.toList.Pairwise (fun x y=>ρ (x,x)<=ρ (y,y))->P (.done (.ret .none)) { s with heap:=sortedHeap s.heap a vs out }) :
  wpAny (model prog w) A (Builtin.«list.sort» ⟨[.ref a],[]⟩) P E s:=by
 have hz:=sizeLine_eq
 rw [list_sort_plain]
 have ha:a < s.heap.objs.size:=Heap.lt_size ho
 refine wpAny_bind (listItems_at ho rfl (wpAny_bind (listUpdate_at ho rfl ?_ (by rw [List.size_toArray];lia) (Nat.zero_le _))))
 obtain ⟨e1,ho1⟩:∃ e1,(s.heap.update a (Obj.mapSeq fun _=>#[])).get? a=some (seqObj "list" #[] e1):=⟨_,get?_update_seq ho (fun _=>#[])⟩
 refine wpAny_bind (seqEpoch_at ho1 rfl (wpAny_bind (wpAny_newTuple (wpAny_bind (wpAny_newList (wpAny_holding ?_) (Nat.zero_le _))) (by show vs.length<=_;lia))))
 have ho6:(Qck s.heap a vs).get? a=some (seqObj "list" #[] e1):=by
  unfold Qck
  rw [Heap.get?_push_ne _ _ _ (show a≠_ by rw [size_push',Heap.size_update];exact Nat.ne_of_lt (Nat.lt_succ_of_lt ha)),Heap.get?_push_ne _ _ _ (show a≠_ by rw [Heap.size_update];exact Nat.ne_of_lt ha)]
  exact ho1
 show wpAny (model prog w) A _ P E { s with heap:=Qck s.heap a vs }
 have fin:∀ st':SortSt,(arrOf st').Perm (pairsOf vs)->Up ρ (arrOf st') 0 (pairsOf vs).size->P (.done (.ret .none)) { s with heap:=sortedHeap s.heap a vs ((arrOf st').map (·.2)) }:=fun st' hp hs=>by
  obtain ⟨q1,q2⟩:=Qm8 hp hs
  exact h _ q1 q2
 have hsz:vs.toArray.size=vs.length:=List.size_toArray
 by_cases h2:vs.toArray.size < 2
 ·rw [if_pos h2,if_pos h2]
  refine wpAny_bind (wpAny_pure ?_)
  dsimp only
  rw [StateT.run_pure]
  refine wpAny_bind (wpAny_pure ?_)
  dsimp only
  refine wpAny_bind (seqEpoch_at ho6 rfl (wpAny_bind (listUpdate_at ho6 rfl ?_ (Nat.zero_le _) (by rw [Array.size_map];show (pairsOf vs).size<=_;rw [pairsOf_size];lia))))
  simp only [bne_self_eq_false,Bool.false_eq_true,if_false]
  refine wpAny_pure (fin (SortSt.mk' general' (vs.toArray.zip vs.toArray) #[] 7 none) (Array.Perm.refl _) fun i j _ q2 q3=>?_)
  rw [pairsOf_size] at q3
  rw [show i=j by lia]
  exact Int.le_refl _
 ·rw [if_neg h2,if_neg h2]
  refine wpAny_bind (hkind (by lia) _ ?_)
  refine wpAny_bind (wpAny_mono (Qnp (E:=E) (st:=SortSt.mk' κ (vs.toArray.zip vs.toArray) #[] 7 none) (Q:=fun _ st'=>(arrOf st').Perm (pairsOf vs)/\failedOf st'=none/\Up ρ (arrOf st') 0 (pairsOf vs).size) T ⟨Array.Perm.refl _,rfl,rfl⟩ rfl
   (by rw [pairsOf_size];lia) (by rw [pairsOf_size];exact hlen) fun st' b1 b2 b3=>⟨b1,b2,b3⟩) ?_ fun _ _ e=>e)
  rintro ⟨⟨⟩,st'⟩ s' ⟨rfl,hp,hf,hs⟩
  dsimp only
  refine wpAny_bind (seqEpoch_at ho6 rfl (wpAny_bind (listUpdate_at ho6 rfl ?_ (Nat.zero_le _) (by have e:=hp.size_eq;rw [pairsOf_size] at e;refine Nat.le_trans (Nat.le_of_eq ((Array.size_map ..).trans e)) ?_;lia))))
  rw [hf]
  simp only [bne_self_eq_false,Bool.false_eq_true,if_false]
  exact wpAny_pure (fin st' hp hs)
def QbM (h:Heap) (vs:List Value):Heap:=((h.push (seqObj "list" #[] 0)).update h.objs.size (Obj.mapSeq (·++vs.toArray))).push (seqObj "list" vs.toArray 0)
theorem QoV {l:Addr} {vs:List Value} {Q:Value->Shared->Prop} (hcol:∀ {A:Around} {Q:List Value->Shared->Prop},Q vs { s with heap:=(s.heap.push (seqObj "list" #[] 0)).update s.heap.objs.size (Obj.mapSeq (·++vs.toArray)) }->wpAny (model prog w) A (collect (.ref l)) Q E s) (hlen:vs.length < 64)
  (hkind:2<=vs.length->∀ Q:SortKind->Shared->Prop,Q κ { s with heap:=Qck (QbM s.heap vs) (s.heap.objs.size + 1) vs }->wpAny (model prog w) A.in1.in1 (keyKind' vs.toArray) Q E { s with heap:=Qck (QbM s.heap vs) (s.heap.objs.size + 1) vs })
  (T:Told prog w A.in1.in1 { s with heap:=Qck (QbM s.heap vs) (s.heap.objs.size + 1) vs } κ ρ (pairsOf vs))
  (h:∀ out:Array Value,out.toList.Perm vs->out.toList.Pairwise (fun x y=>ρ (x,x)<=ρ (y,y))->Q (.ref (s.heap.objs.size + 1)) { s with heap:=sortedAll s.heap vs out }) :
  wpAny (model prog w) A (call (.builtin "sorted") [.ref l]) Q E s:=by
 have hz:=sizeLine_eq
 refine Calls.call_function_entry kind_sorted plain_sorted entry_sorted (args_sorted1 _) ?_
 unfold Builtin.«sorted»
 refine wpAny_bind (m:=checkCount "sorted" 1 1 _) (wpAny_pure ?_)
 refine wpAny_bind (hcol (wpAny_bind (wpAny_newList ?_ (by lia))))
 have hsz:((s.heap.push (seqObj "list" #[] 0)).update s.heap.objs.size (Obj.mapSeq (·++vs.toArray))).objs.size=s.heap.objs.size + 1:=by
  rw [Heap.size_update,size_push']
 have hoL:(QbM s.heap vs).get? (s.heap.objs.size + 1)=some (seqObj "list" vs.toArray 0):=by
  unfold QbM
  rw [← hsz];exact Heap.get?_push_size _ rfl
 show wpAny _ _ _ _ _ { s with heap:=QbM s.heap vs }
 rw [hsz]
 refine wpAny_bind (wpAny_holding (wpAny_call_entry slot_list_sort ⟨_,hoL,rfl⟩ entry_list_sort (QlO hoL hlen hkind T fun out b1 b2=>⟨_,rfl,?_⟩) (args_list_sort _)))
 exact wpAny_pure ⟨_,rfl,h out b1 b2⟩
end
end Tim
namespace DL
open PySem PySem.Spec PyProof.Rows L2
section
variable {X:Cx} {E:XK} {m:Md} {a b e o i:Expr} {fa fb fe fo fi:Fn} {pos p:Pos} {fr:Rm} {x:Str}
end
end DL
namespace DL
open PySem PySem.Spec PyProof.Rows L2
def Itv (K:PySem.W.Frag) (a:Addr) (n:Nat):It :=
 ⟨fun i H=>∃ xs x,SqL K H a xs/\xs.length=n/\i < n/\xs[n - 1 - i]? = some x,fun i H x H'=>H'=H/\∀ xs,SqL K H a xs->xs[n - 1 - i]? = some x,fun i _=>i=n⟩
theorem QoB {P:Program} {w:World} {K:PySem.W.Frag} {tg:Expr} (a it:Addr) (n:Nat):Turn P w K tg (Itv K a n) [it] it (fun i h=>h.IsRevIter it a ((n:Int) - 1 - (i:Nat))) where
 mem:=by simp
 obj:=fun i h st b hb=>by
  have e:b=it:=by simpa using hb
  subst e
  obtain ⟨o,e,c,d⟩:=st
  exact ⟨o,e,fun v z=>by rw [d] at z;cases z⟩
 keep:=fun i h h' st k=>st.at fun o e=>k it (by simp) o e
 item:=by
  intro X hP hw hK hc i pins s σ H E I hf st hg
  subst hP hw hK
  obtain ⟨xs,x,hq,hn,hi,hx⟩:=hg
  obtain ⟨its,rv,p,hz⟩:=I.list hq
  obtain ⟨u,hu,ru⟩:=rv.get hx
  obtain ⟨f0,f1,f2,f3,f4,f5⟩:=hf it (by simp)
  have e1:(n:Int) - 1 - (i:Nat)=((n - 1 - i:Nat):Int):=by lia
  replace st:s.heap.IsRevIter it a _:=e1 ▸ st
  refine wpAny_pyNext_rev_item st p.isList (x:=u) (by simpa using hu) fun h' st' sb=>?_
  have I1:Inv X pins σ H { s with heap:=h' }:=I.turned (t':=s.toks) (fun b o hb e=>(sb.2 b hb).trans e) f0 f1 f3 f4 f5
  obtain ⟨o,e,c,d⟩:=id st'
  have e2:((n - 1 - i:Nat):Int) - 1=(n:Int) - 1 - ((i + 1:Nat):Int):=by lia
  exact ⟨u,rfl,Qlp (s:={ s with heap:=h' }) e c d (by decide) ⟨x,H,I1,ru,⟨rfl,fun ys hy=>by rw [I.list_inj hy hq];exact hx⟩,by rw [← e2];exact st',fun b hb=>(hf b hb).1⟩⟩
 done:=by
  intro X hP hw hK hc i pins s σ H E I hf st hg
  subst hP hw hK
  obtain rfl:i=n:=hg
  obtain ⟨f0,f1,f2,f3,f4,f5⟩:=hf it (by simp)
  have e1:(i:Int) - 1 - (i:Nat)=-1:=by lia
  replace st:s.heap.IsRevIter it a _:=e1 ▸ st
  exact wpAny_pyNext_rev_end (I.ok.hd hc) st fun h' eb=>⟨rfl,I.turned (t':=s.toks) (fun b o hb e=>eb b o hb e) f0 f1 f3 f4 f5⟩
 self:=fun _ _ _ _ _ st h=>wpAny_pyIter_revIter st h
def iRev (K:PySem.W.Frag) (ta:TA):TI:=fun σ H R=>ta σ H fun vs H1=>∃ a xs,vs=[.ref a]/\SqL K H1 a xs/\R (Itv K a xs.length) H1
section
variable {X:Cx} {E:XK} {tg:Expr} {e:Expr} {fl:Fn} {F:Sm} {fr:Rm} {p pos rp:Pos}
theorem QqP {ta:TA} (hg:Gl X "reversed") (hm:X.mg "reversed" = none) (ha:PA X [e] ta) (hs:starEach [e] X.env=[(false,eval e X.env)]:=by rfl):PI X tg (.Call (.Name "reversed" p) [e] [] pos) (iRev X.K ta):=by
 intro pins s σ H R I h
 refine Call_ (Qe0 I hg hm (by decide +kernel:bootBuiltins "reversed" = some (.type "reversed")) (PyProof.Rows.callWith_type1 (thn (ha pos pins s σ H _ I h) fun us s1 ⟨vs,H1,I1,r1,q1⟩=>?_) hs rfl))
 obtain ⟨a,xs,rfl,hq,q⟩:=q1
 obtain ⟨u,rfl,rx⟩:=QgP r1
 obtain rfl:u=Value.ref a:=rx
 obtain ⟨its,rv,pl,hz⟩:=I1.list hq
 have hl:=rv.length
 refine call_reversed_list pl.isList ?_
 have hst:(s1.heap.push (revObj a ((its.toArray.size:Int) - 1))).IsRevIter s1.heap.objs.size a ((xs.length:Int) - 1 - ((0:Nat):Int)):=by
  refine ⟨_,Heap.get?_push_size _ rfl,rfl,?_⟩
  have e1:(xs.length:Int) - 1 - ((0:Nat):Int)=(its.toArray.size:Int) - 1:=by simp only [List.size_toArray];lia
  rw [e1];rfl
 refine wpAny_pyIter_revIter hst ?_
 refine ⟨s1.heap.objs.size,[s1.heap.objs.size],_,_,H1,rfl,I1.kept (t':=s1.toks) fun b o e=>Heap.get?_push_of_some _ e,QoB a _ xs.length,hst,fun b hb=>?_,q⟩
 have e:b=s1.heap.objs.size:=by simpa using hb
 subst e
 exact I1.fpOk (Nat.le_refl _) (I1.hok.fresh (Nat.le_refl _))
def QoN (fl:Fn) (g:D->DS->Ou DS) (body:Sm):Sm:=fun δ=>(fl δ).bind fun d=>match d with
 | .lst ds=>forL g body ds.reverse δ
 | .frl ds=>forL g body ds.reverse δ
 | _=>.bad
theorem QpO {α:Type} {l:List α} {i:Nat} {x:α} (h:l.reverse[i]? = some x):i < l.length/\l[l.length - 1 - i]? = some x:=by
 have hi:i < l.length:=by
  have:=(List.getElem?_eq_some_iff.mp h).1
  rwa [List.length_reverse] at this
 rw [List.getElem?_reverse hi] at h
 exact ⟨hi,h⟩
theorem QmH {c:Cn} {g:D->DS->Ou DS} {D:Ends} {K:PySem.W.Frag} {σ:St} {δ:DS} {H:Hp} {a:Addr} {d:DL.D} {ds:List DL.D} (hK:c.K=K) (ab:Abs c σ δ H) (r:Rep c.K (Av c σ δ) H d (.ref a))
  (all:∀ B H,Rep c.K B H d (.ref a)->∃ xs,SqL K H a xs/\Reps c.K B H ds xs) (h:Res K E c.H₀ (forL g F ds.reverse δ) (EndP c fr D)) (hp:c.P.map (·.1)=fr.pin) :
  ∃ W:Nat->Nat->St->Hp->Prop,(∃ m,W 0 m σ H)/\∀ i m σ H,W i m σ H ->
   ((Itv K a ds.length).stop i H/\D.nx σ H)\/((Itv K a ds.length).go i H/\∃ N:St->Hp->Prop,(∀ σ' H',N σ' H'->∃ m',m' < m/\W (i + 1) m' σ' H')/\∀ x H',(Itv K a ds.length).yld i H x H'->tG K E g x σ H' fun σ2 H2=>tS K E fr F { D with nx:=N,ct:=N,bk:=D.nx } σ2 H2):=by
 have ab':Abs { c with G:=(d,.ref a)::c.G } σ δ H:=by
  refine ⟨ab.same,ab.fr,ab.len,ab.val,ab.own,fun d' v' hm=>?_,ab.inj,ab.pin⟩
  rcases List.mem_cons.mp hm with e | hm
  ·cases e;exact r
  ·exact ab.gho d' v' hm
 refine Qh2 (gh:=(d,.ref a)::c.G) (fun _ _ _ _ z=>z) (fun _ _ _ z=>z) hK (fun _ z=>List.mem_cons_of_mem _ z) ab' h (fun i σ δ H d z hd=>?_) fun σ δ H z=>?_
 ·obtain ⟨ys,w1,w2⟩:=all _ _ (z.gho _ _ List.mem_cons_self)
  obtain ⟨hi,hd'⟩:=QpO hd
  obtain ⟨u,w3,w4⟩:=w2.get _ d hd'
  refine ⟨⟨ys,u,w1,w2.length,hi,w3⟩,fun x H' y=>⟨y.1,?_⟩⟩
  have w5:=y.2 ys w1
  rw [w3] at w5;cases w5
  exact w4
 ·show ds.reverse.length=ds.length
  exact List.length_reverse
theorem QpR {body:List Stmt} {g:D->DS->Ou DS} (hp:PassesOwn (model X.prog X.w) X.A X.env X.xe) (hc:X.calm=true) (hm:X.mg "reversed" = none) (hi:PE X e (tX X.K E .S fl)) (hg:PG X tg (tG X.K E g)) (hb:PSs X body (tS X.K E fr F))
  (hgl:Gl X "reversed":=by rfl) (he:starEach [e] X.env=[(false,eval e X.env)]:=by rfl)
  (hs:∀ x,foldedSetIterable (.Call (.Name "reversed" p) [e] [] rp) X.env x=pure x:=by intro _;rfl):PS X (.For tg (.Call (.Name "reversed" p) [e] [] rp) body [] pos) (tS X.K E fr (QoN fl g F)) :=
 (Qkb hp hc (QqP hgl hm (Qdq hi pa_nil (by rw [he];rfl)) he) hg hb hs).imp fun D σ H q=>by
 obtain ⟨c,δ,hK,ab,q⟩:=q
 refine ⟨c,δ,hK,ab,(Res.bind q).imp fun d hd0 k v H1 e1 r1=>?_⟩
 have r1':Rep c.K (Av c σ δ) H1 d v:=r1
 cases d <;> first | exact k.elim | skip
 ·rename_i ds
  have r2:=r1'
  simp only [Rep] at r2
  obtain ⟨a,xs,rfl,hb,h1,h2⟩:=r2
  refine ⟨a,xs,rfl,.of h1,?_⟩
  rw [h2.length]
  refine QmH hK (ab.grow e1) r1' (fun B H z=>?_) k ab.pi
  simp only [Rep] at z
  obtain ⟨b,ys,e,_,w1,w2⟩:=z
  cases e
  exact ⟨ys,.of w1,w2⟩
 ·rename_i ds
  have r2:=r1'
  simp only [Rep] at r2
  obtain ⟨a,xs,rfl,h1,h2⟩:=r2
  refine ⟨a,xs,rfl,by rw [← hK];exact h1.sq,?_⟩
  rw [h2.length]
  refine QmH hK (ab.grow e1) r1' (fun B H z=>?_) k ab.pi
  simp only [Rep] at z
  obtain ⟨b,ys,e,w1,w2⟩:=z
  cases e
  exact ⟨ys,by rw [← hK];exact w1.sq,w2⟩
theorem Reps.three' {K:PySem.W.Frag} {B:Addr->Prop} {H:Hp} {a b c:D} {vs:List V} (r:Reps K B H [a,b,c] vs):∃ x y z,vs=[x,y,z]/\Rep K B H a x/\Rep K B H b y/\Rep K B H c z:=by
 simp only [Reps] at r
 obtain ⟨x,r1,rfl,h1,y,r2,rfl,h2,z,r3,rfl,h3,rfl⟩:=r
 exact ⟨x,y,z,rfl,h1,h2,h3⟩
def Its (lo st:Int) (n:Nat):It:=⟨fun i _=>i < n,fun i H x H'=>H'=H/\x=.int (lo + i * st),fun i _=>n<=i⟩
theorem Qna {P:Program} {w:World} {K:PySem.W.Frag} {tg:Expr} (it:Addr) (lo st:Int) (n:Nat):Turn P w K tg (Its lo st n) [it] it (fun i h=>IsRangeIter h it (lo + (i:Nat) * st) ((n:Int) - (i:Nat)) st) where
 mem:=by simp
 obj:=fun i h st b hb=>by
  have e:b=it:=by simpa using hb
  subst e
  exact ⟨_,st,fun v z=>by
   have z':Data.fields _=Data.cell v:=z
   cases z'⟩
 keep:=fun i h h' st k=>k it (by simp) _ st
 item:=by
  intro X hP hw hK hc i pins s σ H E I hf st' hg
  subst hP hw hK
  obtain ⟨f0,f1,f2,f3,f4,f5⟩:=hf it (by simp)
  have W:=Walks.range (prog:=X.prog) (w:=X.w) (I.ok.hd hc) it lo st n
  refine W.item i s _ _ hg st' fun v h' tk hv st' kk=>?_
  obtain ⟨t,rfl⟩:=hv
  have I1:Inv X pins σ H { s with heap:=h',toks:=tk }:=I.turned (fun b o hb e=>kk b o (by simpa using hb) e) f0 f1 f3 f4 f5
  exact ⟨_,rfl,Qlp (s:={ s with heap:=h',toks:=tk }) (n:="range_iterator") st' rfl rfl (by decide) ⟨.int (lo + i * st),H,I1,⟨t,rfl⟩,⟨rfl,rfl⟩,st',fun b hb=>(hf b hb).1⟩⟩
 done:=by
  intro X hP hw hK hc i pins s σ H E I hf st' hg
  subst hP hw hK
  obtain ⟨f0,f1,f2,f3,f4,f5⟩:=hf it (by simp)
  exact wpAny_pyNext_range_end (I.ok.hd hc) st' (by have:n<=i:=hg;lia) fun h' eb=>⟨rfl,I.turned (t':=s.toks) (fun b o hb e=>eb b o hb e) f0 f1 f3 f4 f5⟩
 self:=fun _ _ _ _ _ st h=>wpAny_pyIter_rangeiter st h
def rngS (lo st:Int) (n:Nat):List D:=(List.range n).map fun (k:Nat)=>D.int (lo + (k:Int) * st)
theorem Qf1 {lo st:Int} {n:Nat}:(rngS lo st n).length=n:=by simp [rngS]
theorem Qn7 {lo st:Int} {n i:Nat} {d:D} (h:(rngS lo st n)[i]? = some d):i < n/\d=.int (lo + (i:Int) * st):=by
 have hi:i < n:=by
  have:=(List.getElem?_eq_some_iff.mp h).1
  rwa [Qf1] at this
 refine ⟨hi,?_⟩
 unfold rngS at h
 rw [List.getElem?_map,List.getElem?_range hi] at h
 exact (Option.some.inj h).symm
end
end DL
namespace DL
open PySem PySem.Spec PyProof.Rows L2
section
variable {prog:Program} {w:World} {A:Around} {E:Value->Shared->Prop} {s:Shared} {I l S:Addr} {items:Array Value}
end
end DL
namespace DL
open PySem PySem.Spec PyProof.Rows L2
section
variable {X:Cx} {E:XK} {m:Md} {e:Expr} {fe:Fn} {p p2 pos pos2:Pos}
end
end DL
namespace DL
open PySem PySem.Spec PyProof.Rows L2
section
variable {X:Cx} {E:XK} {e:Expr} {fe:Fn} {fr:Rm} {x:Str} {pos:Pos}
end
end DL
namespace DL
open PySem PySem.Spec PyProof.Rows L2
section
variable {X:Cx} {E:XK} {m:Md} {e:Expr} {fe:Fn} {pos:Pos}
end
end DL
namespace DL
open PySem PySem.Spec PyProof.Rows L2
section
variable {X:Cx} {E:XK} {e:Expr} {fe:Fn} {fr:Rm} {x:Str} {p pos pos':Pos} {op:Operator} {g:D->D->Ou D}
def gAddI:D->D->Ou D
 | .int i,.int j=>.ok (.int (i + j))
 | _,_=>.bad
def gSubI:D->D->Ou D
 | .int i,.int j=>.ok (.int (i - j))
 | _,_=>.bad
def Qj1:D->Ou D
 | .lst ds=>.ok (.tup ds)
 | .frl ds=>.ok (.tup ds)
 | .tup ds=>.ok (.tup ds)
 | _=>.bad
theorem Qok (hm:X.mg "tuple" = none) (ha:PE X e (tX X.K E .S fe)) (hg:Gl X "tuple":=by rfl) (he:starEach [e] X.env=(false,eval e X.env)::starEach [] X.env:=by rfl) (hpl:(backTo pos (starEach ([]:List Expr) X.env)).any (·.1)=false:=by rfl) :
  PE X (.Call (.Name "tuple" p) [e] [] pos) (tX X.K E .S (f1 Qj1 fe)) :=
 (Qjf QiM hg hm (by decide +kernel) (Qdq ha pa_nil he) (by decide) (by decide) he hpl).imp fun σ H Q q=>by
 obtain ⟨c,δ,hK,ab,q⟩:=q
 refine ⟨c,δ,hK,ab,(Res.bind q).imp fun d _ k v H1 e1 r1=>?_⟩
 have r1':Rep c.K (Av c σ δ) H1 d v:=r1
 have fin:∀ {ds:List D} {xs:List V} (l:Addr),H1 l=none->Reps c.K (Av c σ δ) H1 ds xs->Post c σ δ H .S (.tup ds) (.ref l) (upd H1 l (.tup xs)):=fun l hl h2=>by
  show Rep c.K (Av c σ δ) _ _ _
  simp only [Rep]
  exact ⟨l,_,rfl,.inl (.inl QH),h2.same (QD hl _)⟩
 cases d <;> first | exact k.elim | skip
 ·have r2:=r1'
  simp only [Rep] at r2
  obtain ⟨a,xs,rfl,h1,h2⟩:=r2
  exact ⟨a,xs,rfl,.inr ⟨by rw [← hK];exact h1,k (.ref a) H1 e1 r1'⟩⟩
 ·simp only [Rep] at r1'
  obtain ⟨a,xs,rfl,_,h1,h2⟩:=r1'
  exact ⟨a,xs,rfl,.inl ⟨.of h1,fun l hl=>k (.ref l) _ (e1.trans (QD hl _)) (fin l hl h2)⟩⟩
 ·simp only [Rep] at r1'
  obtain ⟨a,xs,rfl,h1,h2⟩:=r1'
  exact ⟨a,xs,rfl,.inl ⟨by rw [← hK];exact h1.sq,fun l hl=>k (.ref l) _ (e1.trans (QD hl _)) (fin l hl h2)⟩⟩
end
end DL
namespace DL
open PySem PySem.Spec PyProof.Rows L2
section
variable {X:Cx} {E:XK} {e:Expr} {fe:Fn} {p p2 pos pos2:Pos}
end
end DL
namespace DL
open PySem PySem.Spec PyProof.Rows L2
section
variable {X:Cx} {E:XK} {fr:Rm} {x:Str} {pos:Pos}
end
end DL
namespace DL
open PySem PySem.Spec PyProof.Rows L2
section
variable {X:Cx}
inductive EqRow (A:Around) (s:Shared) (v:Value):List Value->List Bool->Prop
 | nil:EqRow A s v [] []
 | cons {u:Value} {b:Bool} {us:List Value} {bs:List Bool}:SeqAt.EqAt A s u v b->EqRow A s v us bs->EqRow A s v (u::us) (b::bs)
theorem EqRow.fn {A:Around} {s:Shared} {v:Value} {us:List Value} {bs:List Bool} (h:EqRow A s v us bs):∃ f:Value->Bool,(∀ u∈us,SeqAt.EqAt A s u v (f u))/\us.any f=bs.any id:=by
 classical
 refine ⟨fun u=>decide (∃ j:Nat,us[j]? = some u/\bs[j]? = some true),?_,?_⟩
 ·intro u hu
  show SeqAt.EqAt A s u v (decide (∃ j:Nat,us[j]? = some u/\bs[j]? = some true))
  by_cases hc:∃ j:Nat,us[j]? = some u/\bs[j]? = some true
  ·rw [decide_eq_true hc]
   obtain ⟨j,h1,h2⟩:=hc
   induction h generalizing j with
   | nil=>simp at h1
   | cons e t ih =>
    cases j with
    | zero=>simp at h1 h2;subst h1;subst h2;exact e
    | succ j =>
     refine ih ?_ j (by simpa using h1) (by simpa using h2)
     exact List.mem_of_getElem? (by simpa using h1)
  ·rw [decide_eq_false hc]
   obtain ⟨j,hj⟩:=List.getElem?_of_mem hu
   have hf:∀ j:Nat,us[j]? = some u->bs[j]?≠some true:=fun j h1 h2=>hc ⟨j,h1,h2⟩
   clear hc
   induction h generalizing j with
   | nil=>simp at hj
   | @cons u0 b us bs e t ih =>
    cases j with
    | zero =>
     simp at hj
     subst hj
     have:=hf 0 rfl
     have hb:b=false:=by
      cases b with
      | false=>rfl
      | true=>exact absurd rfl this
     subst hb
     exact e
    | succ j =>
     have hj':us[j]? = some u:=by simpa using hj
     exact ih (List.mem_of_getElem? hj') j hj' fun i h1=>by
      have:=hf (i + 1) (by simpa using h1)
      simpa using this
 ·rw [Bool.eq_iff_iff]
  simp only [List.any_eq_true,decide_eq_true_eq,id]
  constructor
  ·rintro ⟨u,_,j,_,h2⟩
   exact ⟨true,List.mem_of_getElem? h2,rfl⟩
  ·rintro ⟨b,hb,rfl⟩
   obtain ⟨j,hj⟩:=List.getElem?_of_mem hb
   have hl:us.length=bs.length:=by
    clear hb hj
    induction h with
    | nil=>rfl
    | cons _ _ ih=>simp [ih]
   have hj2:j < us.length:=by
    have:=(List.getElem?_eq_some_iff.mp hj).1
    lia
   exact ⟨us[j],List.getElem_mem hj2,j,List.getElem?_eq_getElem hj2,hj⟩
end
end DL
namespace DL
open PySem PySem.Spec PyProof.Rows L2
section
variable {X:Cx} {E:XK} {pos p2:Pos}
end
end DL
namespace DL
open PySem PySem.Spec PyProof.Rows L2
section
variable {X:Cx} {E:XK} {a b:Expr} {fa fb:Fn} {pos:Pos}
end
end DL
namespace DL
open PySem PySem.Spec PyProof.Rows L2
section
variable {X:Cx}
end
end DL
namespace DL
open PySem PySem.Spec PyProof.Rows L2
section
variable {X:Cx}
def Qp0 (i j:Int):Bool:=decide (i.natAbs < 2 ^ 2000/\j.natAbs < 2 ^ 2000)
def gMulB:=gI Qp0 fun i j=>.int (i * j)
end
end DL
namespace DL
open PySem PySem.Spec PyProof.Rows L2
section
variable {c:Cn} {σ:St} {δ:DS} {H1 H':Hp}
end
section
variable {X:Cx} {iter elt tg:Expr} {ifs:List Expr} {scope:Scope} {N':List Str} {ix:List Nat} {pos:Pos} {gc:DS->Ou Bool} {fe fl:Fn}
end
end DL
namespace DL
open PySem PySem.Spec PyProof.Rows L2
section
variable {X:Cx} {E:XK} {p pos:Pos}
end
end DL
namespace DL
open PySem PySem.Spec PyProof.Rows L2
section
variable {X:Cx} {E:XK} {pos p2:Pos}
theorem QkE {α:Type} (l:List α):∀ k,k<=l.length->((List.range k).filterMap fun i=>l[l.length - 1 - i]?)=(l.drop (l.length - k)).reverse
 | 0,_=>by simp
 | k + 1,h=>by
  have ih:=QkE l k (by lia)
  have hk:l.length - 1 - k < l.length:=by lia
  rw [List.range_succ,List.filterMap_append,ih]
  have e:l.drop (l.length - (k + 1))=l[l.length - 1 - k]::l.drop (l.length - k):=by
   have e1:l.length - (k + 1)=l.length - 1 - k:=by lia
   have e2:l.length - k=l.length - 1 - k + 1:=by lia
   rw [e1,e2]
   exact List.drop_eq_getElem_cons hk
  rw [e,List.reverse_cons]
  congr 1
  simp [List.getElem?_eq_getElem hk]
theorem QkM {α β:Type} {f g:α->Option β}:∀ {l:List α},(∀ x∈l,f x=g x)->l.filterMap f=l.filterMap g
 | [],_=>rfl
 | x::l,h=>by
  rw [List.filterMap_cons,List.filterMap_cons,h x List.mem_cons_self,QkM fun y hy=>h y (List.mem_cons_of_mem _ hy)]
theorem QhU (its:List Value):slicePick its.toArray none none (some (-1))=its.reverse.toArray:=by
 have hb:sliceBounds none none (some (-1)) its.toArray.size=((its.length:Int) - 1,-1,-1):=by
  simp [sliceBounds]
 unfold slicePick
 rw [hb]
 show ((sliceRange ((its.length:Int) - 1) (-1) (-1)).filterMap (its.toArray[·]?)).toArray=_
 congr 1
 unfold sliceRange
 have hc:(if (-1:Int) > 0 then (if (its.length:Int) - 1 < -1 then (-1 - ((its.length:Int) - 1) + -1 - 1) / -1 else 0) else (if (its.length:Int) - 1 > -1 then ((its.length:Int) - 1 - -1 - -1 - 1) / (- -1) else 0))=(its.length:Int):=by
  rw [if_neg (by lia)]
  by_cases h:(its.length:Int) - 1 > -1
  ·rw [if_pos h,show (- -1:Int)=1 by decide,Int.ediv_one];lia
  ·rw [if_neg h];lia
 simp only [hc,Int.toNat_natCast,List.filterMap_map]
 have e:=QkE its its.length (Nat.le_refl _)
 simp only [Nat.sub_self,List.drop_zero] at e
 rw [← e]
 refine QkM fun k hk=>?_
 have hk':=List.mem_range.mp hk
 have e2:((its.length:Int) - 1 + -1 * (k:Int)).toNat=its.length - 1 - k:=by lia
 simp only [Function.comp,e2,List.getElem?_toArray]
theorem QpH {pins:List (Addr×Obj)} {s:Shared} {σ:St} {H:Hp} {a sl:Addr} {xs:List V} {vs:Value} {Q:VK} (I:Inv X pins σ H s) (hx:SqL X.K H a xs) (hs:s.heap.IsSliceOf sl .none .none vs) (pk:IsPart vs (some (-1)))
  (q:∀ p,H p=none->Q (.ref p) (upd H p (.lst xs.reverse))) :
  ∃ T id,typeLookup (.type T) "__getitem__" = pure (some (.builtin id))/\s.TypeIs (.ref a) T/\wpAny (model X.prog X.w) X.A (getItem (.ref a) (.ref sl)) (EP X pins σ Q) X.xe s:=by
 obtain ⟨its,r,ht,hz⟩:=I.list hx
 have hlen:=r.length
 refine ⟨"list",_,slot_list_getitem.lookup,ht.isList.typeIs,?_⟩
 refine wpAny_getItem_list_slice ht.isList hs .none .none pk (by simp) ?_ (by rw [List.size_toArray] <;> lia)
 rw [QhU]
 refine ⟨.ref s.heap.objs.size,_,I.laid (t':=s.toks) (o:=.lst xs.reverse) (fun b ob q=>Heap.get?_push_of_some _ q) (Nat.le_refl _) ?_,rfl,q _ (I.hok.fresh (Nat.le_refl _))⟩
 exact ⟨by rw [List.length_reverse];exact hz,_,0,r.reverse,Heap.get?_push_size _ rfl⟩
def QoA (f:Fn):Fn:=fun δ=>(f δ).bind fun d=>match d with
 | .lst ds=>.ok (.lst ds.reverse)
 | _=>.bad
theorem xback {e st:Expr} {fe fst:Fn} (he:PE X e (tX X.K E .S fe)) (hst:PE X st (tX X.K E .W fst)) (hm:∀ δ,fst δ=.ok (.int (-1))):PE X (.Subscript e (.Slice none none (some st) p2) pos) (tX X.K E .F (QoA fe)):=by
 intro pins s σ H Q I q
 obtain ⟨c,δ,hK,ab,q⟩:=q
 refine Subscript_ (thn (he pins s σ H (fun v H1=>∃ d,Same H H1/\Rep c.K (Av c σ δ) H1 d v/\Res X.K E c.H₀ (match d with | .lst ds=>.ok (.lst ds.reverse) | _=>.bad:Ou D) fun d=>∀ v H',Same H H'->Post c σ δ H .F d v H'->Q v H') I ⟨c,δ,hK,ab,(Res.bind q).imp fun d hd k v H1 e1 r1=>⟨d,e1,r1,k⟩⟩) fun v s1 ⟨x1,H1,I1,r1,q1⟩=>?_)
 obtain ⟨d,e1,r,k⟩:=q1
 cases d <;> first | exact k.elim | skip
 rename_i ds
 simp only [Rep] at r
 obtain ⟨a,xs,rfl,_,h1,h2⟩:=r
 cases r1
 refine wpAny_Slice ?_
 rw [evalPart_none,evalPart_some]
 refine wpAny_pure (wpAny_pure ?_)
 refine thn (hst pins s1 σ H1 (fun v H2=>v=.int (-1)/\Same H1 H2) I1 ⟨c,δ,hK,ab.grow e1,?_⟩) fun vs s2 ⟨x2,H2,I2,r2,q2⟩=>?_
 ·rw [hm]
  intro v H2 e2 r
  have r':Rep c.K c.B H2 (.int (-1)) v:=r
  simp only [Rep] at r'
  exact ⟨r',e2⟩
 ·obtain ⟨rfl,e2⟩:=q2
  obtain ⟨t,rfl⟩:=r2
  have e12:=e1.trans e2
  have I4:Inv X pins σ H2 { s2 with heap:=s2.heap.push { cls:=.type "slice",data:=.fields #[.none,.none,.int (-1) t] } }:=I2.kept (t':=s2.toks) fun b ob q=>Heap.get?_push_of_some _ q
  obtain ⟨T,id,hT,ht,hg⟩:=QpH (Q:=Q) (sl:=s2.heap.objs.size) I4 (.of (e2 _ _ h1)) (Heap.IsSliceOf.new ..) (.int (-1) t) fun l' hp=>k (.ref l') _ (e12.trans (QD hp _)) ⟨l',_,rfl,e12.free hp,QH,_,rfl,(Reps.off (Reps.reverse (h2.same e2)) hp).same (QD hp _)⟩
  show wpAny (model X.prog X.w) X.A (subscriptTail e (.Slice none none (some st) p2) (.ref a) (.ref s2.heap.objs.size)) (EP X pins σ Q) X.xe _
  exact tail_any (ops:=[.ref a,.ref s2.heap.objs.size]) ht hT hg (by with_unfolding_all rfl)
end
section
open HT
variable {prog:Program} {w:World} {A:Around} {E:Value->Shared->Prop} {s:Shared}
end
section
variable {X:Cx} {E:XK} {pos p2:Pos} {e:Expr} {fe:Fn} {m:Md}
end
end DL
namespace Tim
open PySem PyProof.Rows
section
variable {α:Type}
structure Ord (lt:α->α->Bool):Prop where
 irr:∀ a,lt a a=false
 tr:∀ {a b c},lt a b=true->lt b c=true->lt a c=true
 neg:∀ {a b c},lt a b=false->lt b c=false->lt a c=false
def rank (lt:α->α->Bool) (ks:List α) (k:α):Nat:=ks.countP (lt · k)
theorem Qjh {lt:α->α->Bool} (O:Ord lt) {a b:α} (h:lt b a=false) (ks:List α):rank lt ks a<=rank lt ks b :=
 List.countP_mono_left fun x _ hx=>by
  cases e:lt x b with
  | true=>rfl
  | false=>rw [O.neg e h] at hx;cases hx
theorem Qmu {lt:α->α->Bool} (O:Ord lt) {a b:α} (h:lt a b=true):∀ {ks:List α},a∈ks->rank lt ks a < rank lt ks b
 | [],hm=>by cases hm
 | k::ks,hm=>by
  have hba:lt b a=false:=by
   cases e:lt b a with
   | false=>rfl
   | true=>have:=O.tr h e;rw [O.irr] at this;cases this
  have hr:=Qjh O hba ks
  unfold rank at hr ⊢
  simp only [List.countP_cons]
  rcases List.mem_cons.mp hm with rfl | hm
  ·rw [O.irr,h];simp only [Bool.false_eq_true,if_false,if_true];lia
  ·have:=Qmu O h hm
   unfold rank at this
   cases e:lt k a with
   | false=>simp only [Bool.false_eq_true,if_false];split <;> lia
   | true=>rw [O.tr e h];simp only [if_true];lia
theorem Qlo {lt:α->α->Bool} (O:Ord lt) {a b:α} {ks:List α} (ha:a∈ks):decide (((rank lt ks a:Nat):Int) < (rank lt ks b:Nat))=lt a b:=by
 cases e:lt a b with
 | true=>exact decide_eq_true (by have:=Qmu O e ha;lia)
 | false=>exact decide_eq_false (by have:=Qjh O e ks;lia)
def insB (lt:α->α->Bool) (x:α):List α->List α
 | []=>[x]
 | y::r=>if lt y x=true then y::insB lt x r else x::y::r
def srt (lt:α->α->Bool):List α->List α
 | []=>[]
 | x::r=>insB lt x (srt lt r)
theorem QgF (lt:α->α->Bool) (x:α):∀ r:List α,(insB lt x r).Perm (x::r)
 | []=>.refl _
 | y::r=>by
  unfold insB
  split
  ·exact ((QgF lt x r).cons y).trans (.swap x y r)
  ·exact .refl _
theorem srt_perm (lt:α->α->Bool):∀ r:List α,(srt lt r).Perm r
 | []=>.refl _
 | x::r=>(QgF lt x _).trans ((srt_perm lt r).cons x)
abbrev SB (lt:α->α->Bool) (r:List α):Prop:=r.Pairwise fun a b=>lt b a=false
theorem QgS {lt:α->α->Bool} (O:Ord lt) (x:α):∀ {r:List α},SB lt r->SB lt (insB lt x r)
 | [],_=>List.pairwise_singleton _ _
 | y::r,h=>by
  obtain ⟨h1,h2⟩:=List.pairwise_cons.mp h
  unfold insB
  split
  ·rename_i c
   refine List.pairwise_cons.mpr ⟨fun z hz=>?_,QgS O x h2⟩
   rcases List.mem_cons.mp ((QgF lt x r).mem_iff.mp hz) with rfl | hz
   ·cases e:lt z y with
    | false=>rfl
    | true=>have:=O.tr c e;rw [O.irr] at this;cases this
   ·exact h1 z hz
  ·rename_i c
   have c':lt y x=false:=by simpa using c
   refine List.pairwise_cons.mpr ⟨fun z hz=>?_,h⟩
   rcases List.mem_cons.mp hz with rfl | hz
   ·exact c'
   ·exact O.neg (h1 z hz) c'
theorem srt_sorted {lt:α->α->Bool} (O:Ord lt):∀ r:List α,SB lt (srt lt r)
 | []=>List.Pairwise.nil
 | x::r=>QgS O x (srt_sorted O r)
theorem Qk5 {lt:α->α->Bool} (O:Ord lt) (T:∀ {a b},lt a b=false->lt b a=false->a=b):∀ {r q:List α},r.Perm q->SB lt r->SB lt q->r=q
 | [],q,hp,_,_=>hp.nil_eq
 | x::r,[],hp,_,_=>by have:=hp.length_eq;simp at this
 | x::r,y::q,hp,hr,hq=>by
  obtain ⟨r1,r2⟩:=List.pairwise_cons.mp hr
  obtain ⟨q1,q2⟩:=List.pairwise_cons.mp hq
  have e:x=y:=by
   rcases List.mem_cons.mp (hp.mem_iff.mp (List.mem_cons_self ..)) with h | h
   ·exact h
   ·rcases List.mem_cons.mp (hp.mem_iff.mpr (List.mem_cons_self ..)) with h' | h'
    ·exact h'.symm
    ·exact T (q1 x h) (r1 y h')
  subst e
  rw [Qk5 O T hp.cons_inv r2 q2]
theorem srt_uniq {lt:α->α->Bool} (O:Ord lt) (T:∀ {a b},lt a b=false->lt b a=false->a=b) {r q:List α} (hp:r.Perm q) (hr:SB lt r):r=srt lt q:=Qk5 O T (hp.trans (srt_perm lt q).symm) hr (srt_sorted O q)
theorem perm_lift {β:Type} (f:α->β):∀ {out ys:List β},out.Perm ys->∀ {zs:List α},zs.map f=ys->∃ zs':List α,zs'.Perm zs/\zs'.map f=out:=by
 intro out ys h
 induction h with
 | nil=>intro zs e;exact ⟨zs,.refl _,e⟩
 | cons x _ ih =>
  intro zs e
  cases zs with
  | nil=>simp at e
  | cons z zs =>
   simp only [List.map_cons,List.cons.injEq] at e
   obtain ⟨zs',p,e'⟩:=ih e.2
   exact ⟨z::zs',p.cons z,by rw [List.map_cons,e',e.1]⟩
 | swap x y l =>
  intro zs e
  match zs,e with
  | [],e=>simp at e
  | [_],e=>simp at e
  | a::b::zs,e =>
   simp only [List.map_cons,List.cons.injEq] at e
   exact ⟨b::a::zs,.swap a b zs,by simp only [List.map_cons,e.1,e.2.1,e.2.2]⟩
 | trans _ _ ih1 ih2 =>
  intro zs e
  obtain ⟨z2,p2,e2⟩:=ih2 e
  obtain ⟨z1,p1,e1⟩:=ih1 e2
  exact ⟨z1,p1.trans p2,e1⟩
end
def plt (a b:Int×Int):Bool:=if a.1=b.1 then decide (a.2 < b.2) else decide (a.1 < b.1)
theorem plt_iff {a b:Int×Int}:plt a b=true ↔ a.1 < b.1\/(a.1=b.1/\a.2 < b.2):=by
 unfold plt
 split <;> simp <;> lia
theorem plt_false {a b:Int×Int}:plt a b=false ↔ b.1 < a.1\/(a.1=b.1/\b.2<=a.2):=by
 rw [← Bool.not_eq_true,plt_iff];lia
theorem plt_ord:Ord plt:=⟨fun a=>plt_false.mpr (by lia),fun h1 h2=>plt_iff.mpr (by have:=plt_iff.mp h1;have:=plt_iff.mp h2;lia),fun h1 h2=>plt_false.mpr (by have:=plt_false.mp h1;have:=plt_false.mp h2;lia)⟩
theorem plt_tot {a b:Int×Int} (h1:plt a b=false) (h2:plt b a=false):a=b:=by
 have:=plt_false.mp h1
 have:=plt_false.mp h2
 exact Prod.ext (by lia) (by lia)
end Tim
namespace DL
open PySem PySem.Spec PyProof.Rows L2
abbrev Qu (ps:List (Int×Int)):List (Int×Int):=Tim.srt Tim.plt ps
def QS (p:Int×Int):D:=.tup [.int p.1,.int p.2]
def Qew:List D->Option (List (Int×Int))
 | []=>some []
 | .tup [.int a,.int b]::r=>(Qew r).map ((a,b)::·)
 | _=>none
theorem QiB (ps:List (Int×Int)):Qew (ps.map QS)=some ps:=by
 induction ps with
 | nil=>rfl
 | cons n r ih=>simp only [List.map_cons,QS,Qew,ih];rfl
theorem Qjx:∀ {ds:List D} {ps:List (Int×Int)},Qew ds=some ps->ds=ps.map QS
 | [],ps,h=>by cases h;rfl
 | d::r,ps,h=>by
  unfold Qew at h
  split at h
  ·rename_i e;cases e
  ·rename_i a b r' e
   cases e
   cases e2:Qew r with
   | none=>rw [e2] at h;cases h
   | some q=>rw [e2] at h;cases h;rw [Qjx e2];rfl
  ·cases h
def QdN (d:D):Ou D:=if rk d=1\/rk d=2 then (match Qew (its d) with
  | some ps=>if ps.length < 64 then .ok (.lst ((Qu ps).map QS)) else .bad
  | none=>.bad) else .bad
theorem QhW {ps:List (Int×Int)} (h:ps.length < 64):QdN (.lst (ps.map QS))=.ok (.lst ((Qu ps).map QS)):=by
 simp [QdN,rk,its,QiB,h]
theorem Qmd {ps:List (Int×Int)} (h:ps.length < 64):QdN (.tup (ps.map QS))=.ok (.lst ((Qu ps).map QS)):=by
 simp [QdN,rk,its,QiB,h]
end DL
namespace DL
open PySem PySem.Spec PyProof.Rows L2
def QkK:D->D->Ou D
 | .tup xs,.tup ys=>if xs.length + ys.length<=sizeLine then .ok (.tup (xs++ys)) else .bad
 | _,_=>.bad
end DL
namespace DL
open PySem PySem.Spec PyProof.Rows L2
end DL
namespace Tim
open PySem PyProof.Rows
section
variable {α:Type}
theorem Qpv {prog:Program} {w:World} {A:Around} {s:Shared} {κ:SortKind} {vs:List Value} {k:Value->α} {lt:α->α->Bool} (O:Ord lt)
  (T:∀ x,x∈vs->∀ y,y∈vs->∀ (E:Value->Shared->Prop) (Q:Bool->Shared->Prop),Q (lt (k x) (k y)) s->wpAny (model prog w) A (keyLt' κ x y) Q E s) :
  Told prog w A s κ (fun p=>((rank lt (vs.map k) (k p.1):Nat):Int)) (pairsOf vs):=by
 intro x hx y hy E Q q
 rw [pairsOf_toList] at hx hy
 have e1:=mem_zip_self hx
 have e2:=mem_zip_self hy
 refine T _ e1.2 _ e2.2 E Q ?_
 rw [← Qlo O (List.mem_map_of_mem e1.2)]
 exact q
theorem Qqw {vs out:List Value} {k:Value->α} {lt:α->α->Bool} (O:Ord lt) (hp:out.Perm vs) (hs:out.Pairwise fun x y=>((rank lt (vs.map k) (k x):Nat):Int)<=((rank lt (vs.map k) (k y):Nat):Int)):(out.map k).Pairwise fun a b=>lt b a=false:=by
 rw [List.pairwise_map]
 refine List.pairwise_iff_forall_sublist.mpr fun {a b} hab=>?_
 have hb:b∈vs:=hp.mem_iff.mp (hab.subset (by simp))
 have:=List.pairwise_iff_forall_sublist.mp hs hab
 rw [← Qlo O (List.mem_map_of_mem hb)]
 exact decide_eq_false (by lia)
end
section
variable {prog:Program} {w:World} {A:Around} {E:Value->Shared->Prop} {s:Shared}
def TupAt (h:Heap) (v:Value) (p:Int×Int):Prop:=∃ a t u,v=.ref a/\IsTup h a #[.int p.1 t,.int p.2 u]
def pairOf (h:Heap):Value->Int×Int
 | .ref a=>match h.get? a with
  | some o=>match o.data with
   | .seq xs _=>(numOf (xs.getD 0 .none),numOf (xs.getD 1 .none))
   | _=>(0,0)
  | none=>(0,0)
 | _=>(0,0)
theorem TupAt.pair {h:Heap} {v:Value} {p:Int×Int} (t:TupAt h v p):pairOf h v=p:=by
 obtain ⟨a,t,u,rfl,o,ho,_,n,hd⟩:=t
 simp only [pairOf,ho,hd]
 rfl
theorem QpJ {x y:Value} {p q:Int×Int} {Q:Bool->Shared->Prop} (hx:TupAt s.heap x p) (hy:TupAt s.heap y q) (h:Q (plt p q) s):wpAny (model prog w) A (keyLt' (tuples' true) x y) Q E s:=by
 obtain ⟨a,t,u,rfl,o,ho,_,n,hd⟩:=hx
 obtain ⟨b,t',u',rfl,o',ho',_,n',hd'⟩:=hy
 refine PySem.W.kat_lt ho hd ho' hd' ?_
 show PySem.W.KatLex _ _ _ _ _ _ [(Value.int p.1 t,Value.int q.1 t'),(Value.int p.2 u,Value.int q.2 u')] 0 s
 refine PySem.W.kat_cons (wpAny_eqBool_int (PySem.W.kat_go (fun e=>?_) (fun e=>?_)))
 ·have e1:p.1=q.1:=by simpa using e
  refine PySem.W.kat_yes (PySem.W.kat_cons (wpAny_eqBool_int (PySem.W.kat_go (fun e'=>?_) (fun e'=>?_))))
  ·refine PySem.W.kat_yes (PySem.W.kat_nil ?_)
   have e2:p.2=q.2:=by simpa using e'
   have:plt p q=false:=plt_false.mpr (by lia)
   rw [this] at h
   exact h
  ·refine PySem.W.kat_no (PySem.W.kat_one _ _ (lt_int ?_))
   show Q (decide (p.2 < q.2)) s
   unfold plt at h
   rw [if_pos e1] at h
   exact h
 ·have e1:¬ p.1=q.1:=by simpa using e
  refine PySem.W.kat_no (oneLt_int ?_)
  unfold plt at h
  rw [if_neg e1] at h
  exact h
theorem collect_tuple {l:Addr} {vs:List Value} {Q:List Value->Shared->Prop} (hl:IsTup s.heap l vs.toArray)
  (h:Q vs { s with heap:=(s.heap.push (seqObj "list" #[] 0)).update s.heap.objs.size (Obj.mapSeq (·++vs.toArray)) }) (hsz:vs.length<=sizeLine) :
  wpAny (model prog w) A (collect (.ref l)) Q E s:=by
 obtain ⟨o,ho,hc,n,hd⟩:=id hl
 unfold collect
 refine wpAny_bind (wpAny_runValue (codeAny_builtin entry_proto_collect' ?_))
 show wpAny _ _ (do again (.builtin "list.__iadd__" ⟨[← newList [],.ref l],[]⟩)) _ _ s
 refine wpAny_bind (wpAny_newList (wpAny_pure ⟨Code.quiet_builtin _ (by decide +kernel),codeAny_builtin entry_list_iadd' ?_⟩))
 show wpAny _ _ (Builtin.List.listExtendWith (.ref s.heap.objs.size) (.ref l) (.ref s.heap.objs.size)) _ _ { s with heap:=s.heap.push (seqObj "list" #[] 0) }
 unfold Builtin.List.listExtendWith
 have ho':(s.heap.push (seqObj "list" #[] 0)).get? l=some o:=Heap.get?_push_of_some _ ho
 refine wpAny_bind (wpAny_typeOf (T:="tuple") ⟨o,ho',hc⟩ ?_)
 have ht:(Value.type "tuple" == Value.type "tuple")=true:=by rfl
 rw [if_pos (by rw [ht];simp)]
 refine wpAny_bind (listItems_at ho' hd ?_)
 refine wpAny_bind (listItems_at (xs:=#[]) (n:=0) (Heap.get?_push_size _ rfl) rfl ?_)
 rw [if_neg (by simp)]
 refine wpAny_bind (listUpdate_at (xs:=#[]) (n:=0) (Heap.get?_push_size _ rfl) rfl ?_ (Nat.zero_le _) (by show (#[]++vs.toArray).size<=sizeLine + 1;simp only [Array.size_append,List.size_toArray,List.length_nil];lia))
 refine wpAny_pure ?_
 show wpAny (model prog w) A (do
   let o ← load s.heap.objs.size
   match o.data with
   | .seq xs _=>pure xs.toList
   | _=>unsupported "internal:collect") Q E { s with heap:=(s.heap.push (seqObj "list" #[] 0)).update s.heap.objs.size (Obj.mapSeq (·++vs.toArray)) }
 refine wpAny_bind (wpAny_load (get?_update_seq (Heap.get?_push_size _ rfl) _) ?_)
 show wpAny _ _ (pure ((#[]:Array Value)++vs.toArray).toList) Q E _
 rw [show ((#[]:Array Value)++vs.toArray).toList=vs by simp]
 exact wpAny_pure h
def TupsAt (h:Heap):List Value->List (Int×Int)->Prop
 | [],[]=>True
 | v::vs,p::ps=>TupAt h v p/\TupsAt h vs ps
 | _,_=>False
theorem TupsAt.mem {h:Heap}:∀ {vs:List Value} {ps:List (Int×Int)},TupsAt h vs ps->∀ v,v∈vs->∃ p,TupAt h v p
 | [],[],_,v,hv=>by cases hv
 | [],_::_,t,_,_=>t.elim
 | _::_,[],t,_,_=>t.elim
 | x::vs,p::ps,t,v,hv=>by
  rcases List.mem_cons.mp hv with rfl | hv
  ·exact ⟨p,t.1⟩
  ·exact TupsAt.mem t.2 v hv
theorem TupsAt.kat {h:Heap}:∀ {vs:List Value} {ps:List (Int×Int)},TupsAt h vs ps->∃ fs,PySem.W.KatTups h vs fs/\fs.length=vs.length/\∀ f,f∈fs->∃ n t,f=Value.int n t
 | [],[],_=>⟨[],trivial,rfl,fun f hf=>by cases hf⟩
 | [],_::_,t=>t.elim
 | _::_,[],t=>t.elim
 | x::vs,p::ps,t=>by
  obtain ⟨⟨a,t1,u,rfl,o,ho,hc,n,hd⟩,t2⟩:=t
  obtain ⟨fs,k1,k2,k3⟩:=TupsAt.kat t2
  refine ⟨Value.int p.1 t1::fs,PySem.W.KatTups.cons ho hc hd rfl k1,by simp [k2],fun f hf=>?_⟩
  rcases List.mem_cons.mp hf with rfl | hf
  ·exact ⟨_,_,rfl⟩
  ·exact k3 f hf
theorem TupsAt.keep {h h':Heap} (k:∀ b o,h.get? b=some o->h'.get? b=some o):∀ {vs:List Value} {ps:List (Int×Int)},TupsAt h vs ps->TupsAt h' vs ps
 | [],[],_=>trivial
 | [],_::_,t=>t.elim
 | _::_,[],t=>t.elim
 | x::vs,p::ps,t=>by
  obtain ⟨⟨a,t1,u,rfl,o,ho,hc,n,hd⟩,t2⟩:=t
  exact ⟨⟨a,t1,u,rfl,o,k _ _ ho,hc,n,hd⟩,TupsAt.keep k t2⟩
theorem QlC {vs:List Value} {ps:List (Int×Int)} (t:TupsAt s.heap vs ps) (h2:2<=vs.length) (Q:SortKind->Shared->Prop) (q:Q (tuples' true) s):wpAny (model prog w) A (keyKind' vs.toArray) Q E s:=by
 obtain ⟨fs,k1,k2,k3⟩:=t.kat
 refine PySem.W.kat_kind (T:=Value.type "int") k1 (by lia) (fun v hv=>?_) rfl q
 obtain ⟨n,t,rfl⟩:=k3 v hv
 exact PySem.W.Looks.of_pure rfl
theorem Qh0 {h:Heap} {vs:List Value} {b:Addr} {o:Obj} (q:h.get? b=some o):(Qck (QbM h vs) (h.objs.size + 1) vs).get? b=some o:=by
 have hlt:b < h.objs.size:=Heap.lt_size q
 have hsz:((h.push (seqObj "list" #[] 0)).update h.objs.size (Obj.mapSeq (·++vs.toArray))).objs.size=h.objs.size + 1:=by rw [Heap.size_update,size_push']
 unfold Qck QbM
 rw [Heap.get?_push_ne _ _ _ (by rw [size_push',Heap.size_update,size_push',hsz];exact Nat.ne_of_lt (Nat.lt_succ_of_lt (Nat.lt_succ_of_lt (Nat.lt_succ_of_lt hlt)))),Heap.get?_push_ne _ _ _ (by rw [Heap.size_update,size_push',hsz];exact Nat.ne_of_lt (Nat.lt_succ_of_lt (Nat.lt_succ_of_lt hlt))),Heap.get?_update_ne _ _ _ _ (Nat.ne_of_lt (Nat.lt_succ_of_lt hlt)),
  Heap.get?_push_ne _ _ _ (by rw [hsz];exact Nat.ne_of_lt (Nat.lt_succ_of_lt hlt)),Heap.get?_update_ne _ _ _ _ (Nat.ne_of_lt hlt),Heap.get?_push_ne _ _ _ (Nat.ne_of_lt hlt)]
 exact q
theorem sorted_pairs {l:Addr} {vs:List Value} {ps:List (Int×Int)} {Q:Value->Shared->Prop} (hcol:∀ {A:Around} {Q:List Value->Shared->Prop},Q vs { s with heap:=(s.heap.push (seqObj "list" #[] 0)).update s.heap.objs.size (Obj.mapSeq (·++vs.toArray)) }->wpAny (model prog w) A (collect (.ref l)) Q E s)
  (t:TupsAt s.heap vs ps) (hlen:vs.length < 64)
  (h:∀ out:Array Value,out.toList.Perm vs->SB plt (out.toList.map (pairOf s.heap))->Q (.ref (s.heap.objs.size + 1)) { s with heap:=sortedAll s.heap vs out }):wpAny (model prog w) A (call (.builtin "sorted") [.ref l]) Q E s:=by
 have t':TupsAt (Qck (QbM s.heap vs) (s.heap.objs.size + 1) vs) vs ps:=t.keep fun b o q=>Qh0 q
 refine QoV (κ:=tuples' true) (ρ:=fun p=>((rank plt (vs.map (pairOf s.heap)) (pairOf s.heap p.1):Nat):Int)) hcol hlen (fun h2 Q q=>QlC t' h2 Q q) (Qpv plt_ord fun x hx y hy E Q q=>?_) fun out b1 b2=>h out b1 (Qqw plt_ord b1 b2)
 obtain ⟨p1,h1⟩:=t'.mem x hx
 obtain ⟨p2,h2⟩:=t'.mem y hy
 obtain ⟨p3,h3⟩:=t.mem x hx
 obtain ⟨p4,h4⟩:=t.mem y hy
 have e3:pairOf s.heap x=p1:=by
  obtain ⟨a,t1,u,rfl,o,ho,hc,n,hd⟩:=h3
  have:=(show TupAt (Qck (QbM s.heap vs) (s.heap.objs.size + 1) vs) (.ref a) p3 from ⟨a,t1,u,rfl,o,Qh0 ho,hc,n,hd⟩).pair
  rw [h1.pair] at this
  rw [(show TupAt s.heap (.ref a) p3 from ⟨a,t1,u,rfl,o,ho,hc,n,hd⟩).pair,this]
 have e4:pairOf s.heap y=p2:=by
  obtain ⟨a,t1,u,rfl,o,ho,hc,n,hd⟩:=h4
  have:=(show TupAt (Qck (QbM s.heap vs) (s.heap.objs.size + 1) vs) (.ref a) p4 from ⟨a,t1,u,rfl,o,Qh0 ho,hc,n,hd⟩).pair
  rw [h2.pair] at this
  rw [(show TupAt s.heap (.ref a) p4 from ⟨a,t1,u,rfl,o,ho,hc,n,hd⟩).pair,this]
 rw [e3,e4] at q
 exact QpJ h1 h2 q
end
end Tim
namespace DL
open PySem PySem.Spec PyProof.Rows L2
def PrV (K:PySem.W.Frag) (H:Hp) (v:V) (p:Int×Int):Prop:=∃ a,v=.ref a/\SqT K H a [.int p.1,.int p.2]
theorem Qpk {X:Cx} {pins:List (Addr×Obj)} {σ:St} {H:Hp} {s:Shared} (I:Inv X pins σ H s) {v:V} {u:Value} {p:Int×Int} (r:L2.RelV v u) (h:PrV X.K H v p):Tim.TupAt s.heap u p:=by
 obtain ⟨a,rfl,hq⟩:=h
 obtain ⟨its,r',pl,_⟩:=I.tuple hq
 obtain ⟨u1,u2,rfl,⟨t1,rfl⟩,t2,rfl⟩:=Qmo r'
 obtain rfl:u=Value.ref a:=r
 exact ⟨a,t1,t2,rfl,pl⟩
theorem QqB {X:Cx} {pins:List (Addr×Obj)} {σ:St} {H:Hp} {s:Shared} (I:Inv X pins σ H s) {vs:List V} {us:List Value} (r:Vals vs us):∀ {ps:List (Int×Int)},vs.length=ps.length->(∀ (i:Nat) v p,vs[i]? = some v->ps[i]? = some p->PrV X.K H v p) ->
  ∃ zs:List (V×Value×(Int×Int)),zs.map (·.1)=vs/\zs.map (·.2.1)=us/\zs.map (·.2.2)=ps/\∀ z∈zs,L2.RelV z.1 z.2.1/\PrV X.K H z.1 z.2.2/\Tim.TupAt s.heap z.2.1 z.2.2:=by
 induction r with
 | nil =>
  intro ps h g
  obtain rfl:ps=[]:=List.length_eq_zero_iff.mp h.symm
  exact ⟨[],rfl,rfl,rfl,fun z hz=>by cases hz⟩
 | @cons v u vs us r t ih =>
  intro ps h g
  cases ps with
  | nil=>simp at h
  | cons p ps =>
   obtain ⟨zs,e1,e2,e3,f⟩:=ih (ps:=ps) (by simpa using h) fun i v' p' h1 h2=>g (i + 1) v' p' h1 h2
   have h0:=g 0 v p rfl rfl
   refine ⟨(v,u,p)::zs,by simp [e1],by simp [e2],by simp [e3],fun z hz=>?_⟩
   rcases List.mem_cons.mp hz with rfl | hz
   ·exact ⟨r,h0,Qpk I r h0⟩
   ·exact f z hz
theorem Qmx {h:Heap}:∀ {zs:List (V×Value×(Int×Int))},(∀ z∈zs,Tim.TupAt h z.2.1 z.2.2)->Tim.TupsAt h (zs.map (·.2.1)) (zs.map (·.2.2))
 | [],_=>trivial
 | z::zs,f=>⟨f z (List.mem_cons_self ..),Qmx fun z' hz=>f z' (List.mem_cons_of_mem _ hz)⟩
theorem QkI:∀ {zs:List (V×Value×(Int×Int))},(∀ z∈zs,L2.RelV z.1 z.2.1)->Vals (zs.map (·.1)) (zs.map (·.2.1))
 | [],_=>.nil
 | z::zs,f=>.cons (f z (List.mem_cons_self ..)) (QkI fun z' hz=>f z' (List.mem_cons_of_mem _ hz))
section
variable {X:Cx} {E:XK} {m:Md} {a b e o i:Expr} {fa fb fe fo fi:Fn} {pos p:Pos} {fr:Rm} {x:Str}
theorem Qj9:CallR X (.builtin "sorted") (fun xs H Q=>∃ p vs ps,xs=[.ref p]/\(SqL X.K H p vs\/SqT X.K H p vs)/\vs.length=ps.length/\(∀ (i:Nat) v p,vs[i]? = some v->ps[i]? = some p->PrV X.K H v p)/\vs.length < 64 /\
  ∀ l,H l=none->∀ vs',vs'.length=(Qu ps).length->(∀ (i:Nat) v p,vs'[i]? = some v->(Qu ps)[i]? = some p->PrV X.K H v p)->Q (.ref l) (upd H l (.lst vs'))):=by
 intro pins s σ H xs us Q I r h
 obtain ⟨p,vs,ps,rfl,hq,hl,hp,h128,q⟩:=h
 obtain ⟨u,rfl,rx⟩:=QgP r
 cases rx
 have col:∃ its:List Value,Vals vs its/\vs.length<=sizeLine/\∀ {E:Value->Shared->Prop} {A:Around} {Q:List Value->Shared->Prop},Q its { s with heap:=(s.heap.push (seqObj "list" #[] 0)).update s.heap.objs.size (Obj.mapSeq (·++its.toArray)) }->wpAny (model X.prog X.w) A (collect (.ref p)) Q E s:=by
  rcases hq with hq | hq
  ·obtain ⟨its,r',pl,hz⟩:=I.list hq
   have hl':=r'.length
   exact ⟨its,r',hz,fun q=>collect_list pl.isList q (by lia)⟩
  ·obtain ⟨its,r',pl,hz⟩:=I.tuple hq
   have hl':=r'.length
   exact ⟨its,r',hz,fun q=>Tim.collect_tuple pl q (by lia)⟩
 obtain ⟨its,r',hz,col⟩:=col
 obtain ⟨zs,e1,e2,e3,f⟩:=QqB I r' hl hp
 have hl':=r'.length
 subst e1 e2 e3
 refine Tim.sorted_pairs col (Qmx fun z hz=>(f z hz).2.2) (by lia) fun out b1 b2=>?_
 obtain ⟨zs',p1,e⟩:=Tim.perm_lift (fun z:V×Value×(Int×Int)=>z.2.1) b1 rfl
 obtain ⟨c,hat⟩:=sortedAll_at s.heap (zs.map (·.2.1)) out
 have f':∀ z∈zs',L2.RelV z.1 z.2.1/\PrV X.K H z.1 z.2.2/\Tim.TupAt s.heap z.2.1 z.2.2:=fun z hz=>f z (p1.mem_iff.mp hz)
 have ek:out.toList.map (Tim.pairOf s.heap)=zs'.map (·.2.2):=by
  rw [← e,List.map_map]
  exact List.map_congr_left fun z hz=>(f' z hz).2.2.pair
 rw [ek] at b2
 have es:zs'.map (·.2.2)=Qu (zs.map (·.2.2)):=Tim.srt_uniq Tim.plt_ord Tim.plt_tot (p1.map (·.2.2)) b2
 have hln:(zs'.map (·.1)).length=(zs.map (·.1)).length:=by rw [List.length_map,List.length_map];exact p1.length_eq
 refine ⟨.ref (s.heap.objs.size + 1),_,I.laid (t':=s.toks) (fun b o'=>sortedAll_old) (Nat.le_succ _) (show ObjOk X.prog X.w _ _ _ (.lst (zs'.map (·.1))) from ⟨by rw [hln];exact hz,out.toList,c,by rw [← e];exact QkI fun z hz=>(f' z hz).1,hat⟩),rfl,q _ (I.hok.fresh (Nat.le_succ _)) _ ?_ ?_⟩
 ·rw [← es,List.length_map,List.length_map]
 ·intro i v p h1 h2
  rw [← es] at h2
  rw [List.getElem?_map] at h1 h2
  cases ez:zs'[i]? with
  | none=>rw [ez] at h1;cases h1
  | some z =>
   rw [ez] at h1 h2
   cases h1
   cases h2
   exact (f' z (List.mem_of_getElem? ez)).2.1
theorem Qhv {K:PySem.W.Frag} {B:Addr->Prop} {H:Hp}:∀ {ps:List (Int×Int)} {vs:List V},Reps K B H (ps.map QS) vs->vs.length=ps.length/\∀ (i:Nat) v p,vs[i]? = some v->ps[i]? = some p->PrV K H v p
 | [],vs,r=>by
  have:vs=[]:=by simpa [Reps] using r
  subst this
  exact ⟨rfl,fun i v p h=>by simp at h⟩
 | n::ns,vs,r=>by
  simp only [List.map_cons,Reps] at r
  obtain ⟨v,r',rfl,h1,h2⟩:=r
  obtain ⟨g1,g2⟩:=Qhv h2
  refine ⟨by simp [g1],fun i v' p e1 e2=>?_⟩
  cases i with
  | zero =>
   cases e1;cases e2
   simp only [QS,Rep,Reps] at h1
   obtain ⟨a,xs,rfl,hq,_,_,rfl,rfl,_,_,rfl,rfl,rfl⟩:=h1
   exact ⟨a,rfl,hq⟩
  | succ i=>exact g2 i v' p e1 e2
theorem QhE {K:PySem.W.Frag} {B:Addr->Prop} {H:Hp}:∀ {ps:List (Int×Int)} {vs:List V},vs.length=ps.length->(∀ (i:Nat) v p,vs[i]? = some v->ps[i]? = some p->PrV K H v p)->Reps K B H (ps.map QS) vs
 | [],[],_,_=>by simp [Reps]
 | [],_::_,h,_=>by simp at h
 | _::_,[],h,_=>by simp at h
 | p::ps,v::vs,h,g=>by
  simp only [List.map_cons,Reps]
  refine ⟨_,_,rfl,?_,QhE (by simpa using h) fun i v' p' e1 e2=>g (i + 1) v' p' e1 e2⟩
  obtain ⟨a,rfl,hq⟩:=g 0 v p rfl rfl
  simp only [QS,Rep,Reps]
  exact ⟨a,_,rfl,hq,_,_,rfl,rfl,_,_,rfl,rfl,rfl⟩
theorem PrV.same {K:PySem.W.Frag} {H H':Hp} {v:V} {p:Int×Int} (h:PrV K H v p) (e:Same H H'):PrV K H' v p:=by
 obtain ⟨a,rfl,h⟩:=h
 exact ⟨a,rfl,Qeu e h⟩
theorem QlB (hm:X.mg "sorted" = none) (ha:PE X e (tX X.K E m fe)) (hn:notF m=true:=by rfl) (hg:Gl X "sorted":=by rfl) (he:starEach [e] X.env=(false,eval e X.env)::starEach [] X.env:=by rfl) (hpl:(backTo pos (starEach ([]:List Expr) X.env)).any (·.1)=false:=by rfl) :
  PE X (.Call (.Name "sorted" p) [e] [] pos) (tX X.K E .F (f1 QdN fe)) :=
 (Qhr Qj9 hg hm (by decide +kernel) (Qdq ha pa_nil he) (by decide) (by decide) he hpl).imp fun σ H Q q=>by
 obtain ⟨c,δ,hK,ab,q⟩:=q
 refine ⟨c,δ,hK,ab,(Res.bind q).imp fun d _ k v H1 e1 r1=>?_⟩
 have r1':Rep c.K (BOf c σ δ m) H1 d v:=Post.bOf hn r1
 unfold QdN at k
 by_cases hr:rk d=1\/rk d=2
 ·rw [if_pos hr] at k
  cases ei:Qew (its d) with
  | none=>rw [ei] at k;exact k.elim
  | some ps =>
   rw [ei] at k
   by_cases h64:ps.length < 64
   ·simp only [if_pos h64] at k
    have sq:∃ a xs,v=V.ref a/\(SqL c.K H1 a xs\/SqT c.K H1 a xs)/\Reps c.K (BOf c σ δ m) H1 (its d) xs:=by
     rcases hr with hr | hr
     ·obtain ⟨a,xs,e,h1,h2⟩:=rk1 hr r1';exact ⟨a,xs,e,.inr h1,h2⟩
     ·obtain ⟨a,xs,e,h1,h2⟩:=rk2 hr r1';exact ⟨a,xs,e,.inl h1,h2⟩
    obtain ⟨a,xs,rfl,h1,h2⟩:=sq
    rw [Qjx ei] at h2
    obtain ⟨g1,g2⟩:=Qhv h2
    rw [hK] at h1 g2
    exact ⟨a,xs,ps,rfl,h1,g1,g2,by lia,fun l hl vs' l1 l2=>k (.ref l) _ (e1.trans (QD hl _)) ⟨l,_,rfl,e1.free hl,QH,_,rfl,QhE l1 fun i v p q1 q2=>by rw [hK];exact (l2 i v p q1 q2).same (QD hl _)⟩⟩
   ·simp only [if_neg h64] at k;exact k.elim
 ·rw [if_neg hr] at k;exact k.elim
end
end DL
namespace DL
open PySem PySem.Spec PyProof.Rows L2
section
variable {X:Cx} {E:XK} {pos:Pos}
def rCatU (K:PySem.W.Frag):V->V->Hp->VK->Prop:=fun x y H Q=>∃ a b xs ys,x=.ref a/\y=.ref b/\SqT K H a xs/\SqT K H b ys/\xs.length + ys.length<=sizeLine/\(xs=[]->Q (.ref b) H)/\(ys=[]->Q (.ref a) H)/\∀ p,H p=none->Q (.ref p) (upd H p (.tup (xs++ys)))
theorem Qpy:OpR X (binaryOp .Add) (rCatU X.K):=by
 intro pins s σ H x y v u Q I rx ry h
 obtain ⟨a,b,xs,ys,rfl,rfl,ha,hb,hz,q0,q1,q2⟩:=h
 by_cases hx:xs=[]
 ·subst hx
  cases rx
  cases ry
  obtain ⟨its,r1,p1,_⟩:=I.tuple ha
  obtain ⟨its2,r2,p2,_⟩:=I.tuple hb
  cases r1
  obtain ⟨⟨cls,dd,data,sl⟩,ho,hc,n,hd⟩:=id p1
  obtain ⟨⟨cls2,dd2,data2,sl2⟩,ho2,hc2,n2,hd2⟩:=id p2
  simp only at hc hd hc2 hd2
  subst hc hd hc2 hd2
  exact concat_meets ⟨_,ho,rfl⟩ ⟨_,ho2,rfl⟩ noFill_tuple_add seq_tuple_add PySem.F.slot_tuple_add PySem.F.entry_tuple_add (PySem.F.args_tuple_add_2 _ _)
   (tuple_addW0 a b #[] its2.toArray n n2 dd dd2 sl sl2 rfl) ⟨ho,ho2,.ref b,H,I,rfl,q0 rfl⟩
 ·exact Qo7 _ _ _ H _ _ _ _ Q I rx ry ⟨a,b,xs,ys,rfl,rfl,ha,hb,hx,hz,q1,fun _=>q2⟩
theorem xcatU {a b:Expr} {fa fb:Fn} (ha:PE X a (tX X.K E .S fa)) (hb:PE X b (tX X.K E .S fb)):PE X (.BinOp a .Add b pos) (tX X.K E .S (f2 QkK fa fb)):=(Qny Qpy ha hb).imp fun σ H Q q=>by
 obtain ⟨c,δ,hK,ab,q⟩:=q
 refine ⟨c,δ,hK,ab,(Res.bind q).imp fun dx hx0 k x H1 e1 r1=>?_⟩
 refine ⟨c,δ,hK,ab.grow e1,(Res.bind k).imp fun dy hy0 k2 y H2 e2 r2=>?_⟩
 have r1':Rep c.K (Av c σ δ) H2 dx x:=Rep.same (show Rep c.K (Av c σ δ) H1 dx x from r1) e2
 have r2':Rep c.K (Av c σ δ) H2 dy y:=r2
 obtain ⟨xs,rfl⟩:∃ xs,dx=.tup xs:=by
  cases dx <;> first | exact ⟨_,rfl⟩ | (cases dy <;> exact k2.elim)
 obtain ⟨ys,rfl⟩:∃ ys,dy=.tup ys:=by
  cases dy <;> first | exact ⟨_,rfl⟩ | exact k2.elim
 unfold QkK at k2
 by_cases hc:xs.length + ys.length<=sizeLine
 ·simp only [if_pos hc] at k2
  have r0:=r1'
  have r0':=r2'
  simp only [Rep] at r1' r2'
  obtain ⟨a1,us,rfl,h1,h2⟩:=r1'
  obtain ⟨b1,ws,rfl,h3,h4⟩:=r2'
  have e12:=e1.trans e2
  refine ⟨a1,b1,us,ws,rfl,rfl,by rw [← hK];exact h1,by rw [← hK];exact h3,by rw [h2.length,h4.length];exact hc,fun z=>?_,fun z=>?_,fun p hp=>?_⟩
  ·have hx:xs=[]:=by
    have:=h2.length
    rw [z] at this
    exact List.length_eq_zero_iff.mp this.symm
   subst hx
   exact k2 (.ref b1) H2 e12 r0'
  ·have hy:ys=[]:=by
    have:=h4.length
    rw [z] at this
    exact List.length_eq_zero_iff.mp this.symm
   subst hy
   refine k2 (.ref a1) H2 e12 ?_
   rw [List.append_nil]
   exact r0
  ·refine k2 (.ref p) _ (e12.trans (QD hp _)) ?_
   show Rep c.K (Av c σ δ) (upd H2 p (.tup (us++ws))) (.tup (xs++ys)) (.ref p)
   simp only [Rep]
   exact ⟨p,_,rfl,.inl (.inl QH),(Reps.append h2 h4).same (QD hp _)⟩
 ·simp only [if_neg hc] at k2
  exact k2.elim
end
end DL
namespace Tim
open PySem PyProof.Rows
section
variable {prog:Program} {w:World} {A:Around} {E:Value->Shared->Prop} {R:Result->Shared->Prop} {I S:Addr} {fp wr:List Addr} {n:Nat} {P:Nat->Value->Prop} {St:Nat->Heap->Prop} {h₀:Heap} {bt:Nat->Nat->Bool}
end
end Tim
namespace DL
open PySem PySem.Spec PyProof.Rows L2
section
variable {X:Cx} {E:XK} {m:Md} {a b e o i:Expr} {fa fb fe fo fi:Fn} {pos p:Pos} {fr:Rm} {x:Str}
end
end DL
namespace DL
open PySem PySem.Spec PyProof.Rows L2
section
variable {X:Cx} {E:XK} {tg:Expr} {e:Expr} {fl:Fn} {F:Sm} {fr:Rm} {p pos:Pos}
end
end DL
namespace PySem
end PySem
namespace PySem
namespace F
end F
section
variable {prog:Program} {w:World} {K:Type} [DecidableEq K] {knd:KeyKind prog w K} {A:Around} {E:Value->Shared->Prop} {s:Shared}
end
end PySem
namespace PySem
section
variable {prog:Program} {w:World} {K:Type} [DecidableEq K] {knd:KeyKind prog w K} {A:Around} {E:Value->Shared->Prop} {s:Shared}
end
end PySem
namespace DL
open PySem PySem.Spec PyProof.Rows L2
section
variable {X:Cx} {E:XK} {m:Md} {e:Expr} {fe:Fn} {p pos:Pos} {x:Str}
end
end DL
namespace Tim
open PySem PyProof.Rows
section
variable {prog:Program} {w:World} {A:Around} {E:Value->Shared->Prop} {s:Shared} {α:Type}
end
end Tim
namespace Tim
open PySem PyProof.Rows
section
variable {prog:Program} {w:World} {A:Around} {E:Value->Shared->Prop} {s:Shared}
def NmAt (h:Heap) (v:Value) (x:Str):Prop:=∃ a o xs n t,v=.ref a/\h.get? a=some o/\o.cls=.type "tuple"/\o.data=.seq xs n/\xs[0]? = some (.str x t)
theorem NmAt.keep {h h':Heap} {v:Value} {x:Str} (k:∀ b o,h.get? b=some o->h'.get? b=some o) (n:NmAt h v x):NmAt h' v x:=by
 obtain ⟨a,o,xs,n,t,rfl,ho,r⟩:=n
 exact ⟨a,o,xs,n,t,rfl,k _ _ ho,r⟩
end
end Tim
namespace DL
open PySem PySem.Spec PyProof.Rows L2
section
variable {X:Cx} {E:XK} {m:Md} {e:Expr} {fe:Fn} {p pos:Pos} {x:Str}
end
end DL
namespace Tim
open PySem PyProof.Rows
section
variable {α β:Type}
end
section
variable {prog:Program} {w:World} {A:Around} {E:Value->Shared->Prop} {s:Shared}
end
end Tim
namespace DL
open PySem PySem.Spec PyProof.Rows L2
section
variable {X:Cx} {E:XK} {m:Md} {e:Expr} {fe:Fn} {p pos:Pos} {x:Str}
end
end DL
namespace DL
open PySem PySem.Spec PyProof.Rows L2
section
variable {X:Cx} {E:XK} {p px pos apos cpos:Pos} {x:Str}
end
end DL
namespace DL
open PySem PySem.Spec PyProof.Rows L2
section
variable {X:Cx} {E:XK} {fr:Rm} {x y:Str} {pos:Pos} {ga:DS->Ou Bool} {fe:Fn}
end
end DL
namespace DL
open PySem PySem.Spec PyProof.Rows L2
section
variable {K:PySem.W.Frag} {B:Addr->Prop} {H:Hp}
end
section
variable {X:Cx} {E:XK} {m:Md} {e o:Expr} {fe fo:Fn} {pos p:Pos} {fr:Rm} {x:Str} {es:List Expr} {fs:List Fn}
end
end DL
namespace DL
open PySem PySem.Spec PyProof.Rows L2
section
variable {X:Cx} {E:XK} {fr:Bool} {x:Str} {pos:Pos} {F:Sm}
end
end DL
namespace Bt
theorem b2 (a b:Nat) (ha:a < 2) (hb:b < 2):(a ||| b)=(a ^^^ b) + (a &&& b):=by
 have h1:a=0\/a=1:=by lia
 have h2:b=0\/b=1:=by lia
 rcases h1 with rfl | rfl <;> rcases h2 with rfl | rfl <;> rfl
theorem or_xor_and:∀ (x y:Nat),(x ||| y)=(x ^^^ y) + (x &&& y):=by
 intro x
 induction x using Nat.strongRecOn with
 | _ x ih =>
  intro y
  by_cases hx:x=0
  ·subst hx;simp
  ·have h:=ih (x / 2) (by lia) (y / 2)
   have e1:(x ||| y) / 2=x / 2 ||| y / 2:=Nat.or_div_two
   have e2:(x ^^^ y) / 2=x / 2 ^^^ y / 2:=Nat.xor_div_two
   have e3:(x &&& y) / 2=x / 2 &&& y / 2:=Nat.and_div_two
   have m1:(x ||| y) % 2=x % 2 ||| y % 2:=Nat.or_mod_two_pow (n:=1)
   have m2:(x ^^^ y) % 2=x % 2 ^^^ y % 2:=Nat.xor_mod_two_pow (n:=1)
   have m3:(x &&& y) % 2=x % 2 &&& y % 2:=Nat.and_mod_two_pow (n:=1)
   rw [← e1,← e2,← e3] at h
   have b:=b2 (x % 2) (y % 2) (by lia) (by lia)
   rw [← m1,← m2,← m3] at b
   lia
theorem Qet {a b:Nat} (h:a ^^^ b=0):a=b:=by
 refine Nat.eq_of_testBit_eq fun i=>?_
 have:(a ^^^ b).testBit i=false:=by rw [h];simp
 rw [Nat.testBit_xor] at this
 simpa using this
def bits (z:Nat):Nat:=if z=0 then 0 else z.log2 + 1
theorem QoW (z:Nat):z < 2 ^ bits z:=by
 unfold bits
 by_cases h:z=0
 ·rw [if_pos h,h];simp
 ·rw [if_neg h];exact Nat.lt_log2_self
theorem bits_le {z k:Nat} (h:z < 2 ^ k):bits z<=k:=by
 unfold bits
 by_cases h0:z=0
 ·rw [if_pos h0];lia
 ·rw [if_neg h0]
  have:=(Nat.log2_lt h0).mpr h
  lia
theorem QkF {f l:Nat}:f / 2 ^ bits (f ^^^ l)=l / 2 ^ bits (f ^^^ l):=by
 refine Qet ?_
 rw [← Nat.xor_div_two_pow]
 exact Nat.div_eq_of_lt (QoW _)
theorem half {f l:Nat} (h:f<=l) (hz:f ^^^ l≠0):∃ m q,bits (f ^^^ l)=m + 1/\f / 2 ^ (m + 1)=q/\f < q * 2 ^ (m + 1) + 2 ^ m/\q * 2 ^ (m + 1) + 2 ^ m<=l:=by
 have hb:bits (f ^^^ l)=(f ^^^ l).log2 + 1:=by unfold bits;rw [if_neg hz]
 refine ⟨(f ^^^ l).log2,f / 2 ^ ((f ^^^ l).log2 + 1),hb,rfl,?_⟩
 have hs:=QkF (f:=f) (l:=l)
 rw [hb] at hs
 generalize hm:(f ^^^ l).log2=m at hs
 have hne:f / 2 ^ m≠l / 2 ^ m:=by
  intro e
  have:(f ^^^ l) / 2 ^ m=0:=by rw [Nat.xor_div_two_pow,e];simp
  have h1:2 ^ m<=f ^^^ l:=by rw [← hm];exact Nat.log2_self_le hz
  have:=Nat.div_pos h1 (Nat.two_pow_pos m)
  lia
 have hle:f / 2 ^ m<=l / 2 ^ m:=Nat.div_le_div_right h
 rw [Nat.pow_succ,← Nat.div_div_eq_div_mul,← Nat.div_div_eq_div_mul] at hs
 have e1:f / 2 ^ m=2 * (f / 2 ^ m / 2):=by lia
 have e2:l / 2 ^ m=2 * (f / 2 ^ m / 2) + 1:=by lia
 have p:=Nat.two_pow_pos m
 rw [Nat.pow_succ,← Nat.div_div_eq_div_mul]
 generalize f / 2 ^ m / 2=q at e1 e2
 have ea:q * (2 ^ m * 2)=(2 * q) * 2 ^ m:=by rw [Nat.mul_comm (2 ^ m) 2,← Nat.mul_assoc,Nat.mul_comm q 2]
 have h1:f < (f / 2 ^ m + 1) * 2 ^ m:=by
  have:=Nat.lt_succ_self (f / 2 ^ m)
  exact (Nat.div_lt_iff_lt_mul p).mp this
 have h2:(l / 2 ^ m) * 2 ^ m<=l:=Nat.div_mul_le_self l _
 rw [e1,Nat.add_mul,Nat.one_mul] at h1
 rw [e2,Nat.add_mul,Nat.one_mul] at h2
 lia
theorem block {f n:Nat} (hf:f < 2 ^ 30) (hn:n<=30):f / 2 ^ n * 2 ^ n + 2 ^ n<=2 ^ 30:=by
 have e:2 ^ 30=2 ^ (30 - n) * 2 ^ n:=by rw [← Nat.pow_add];congr 1;lia
 have h:f / 2 ^ n < 2 ^ (30 - n):=by
  rw [Nat.div_lt_iff_lt_mul (Nat.two_pow_pos n),← e];exact hf
 have h2:(f / 2 ^ n + 1) * 2 ^ n<=2 ^ (30 - n) * 2 ^ n:=Nat.mul_le_mul_right _ h
 rw [Nat.add_mul,Nat.one_mul,← e] at h2
 exact h2
end Bt
namespace DL
open PySem L2
section
variable {F G:Sm} {δ:DS} {fa fb fc:Fn} {g g':D->D->Ou D} {ga gb:DS->Ou Bool}
@[simp] theorem QpS:sSeq F G δ=(F δ).bind fun r=>match r with
 | .nx δ'=>G δ'
 | r=>.ok r:=rfl
@[simp] theorem e_next:Qf δ=.ok (.nx δ):=rfl
@[simp] theorem e_if:sIf ga F G δ=(ga δ).bind fun b=>if b=true then F δ else G δ:=rfl
@[simp] theorem e_ret:sRet fa δ=(fa δ).bind fun d=>.ok (.rt d):=rfl
@[simp] theorem e_drop:sDrop fa δ=(fa δ).bind fun _=>.ok (.nx δ):=rfl
@[simp] theorem e_set {i:Nat}:sSet i fa δ=(fa δ).bind fun d=>.ok (.nx (δ.set i (.val d))):=rfl
@[simp] theorem e_break:Qql δ=.ok (.bk δ):=rfl
@[simp] theorem e_cont:sCont δ=.ok (.ct δ):=rfl
@[simp] theorem e_f2:f2 g fa fb δ=(fa δ).bind fun x=>(fb δ).bind fun y=>g x y:=rfl
@[simp] theorem e_f1 {h:D->Ou D}:f1 h fa δ=(fa δ).bind h:=rfl
@[simp] theorem e_c {d:D}:fC d δ=.ok d:=rfl
@[simp] theorem e_asB:fAsB fa δ=(fa δ).bind asB:=rfl
@[simp] theorem e_tru:fTru fa δ=(fa δ).bind truD:=rfl
@[simp] theorem e_notT:Qey ga δ=(ga δ).bind fun b=>.ok (!b):=rfl
@[simp] theorem e_andT:QmQ ga gb δ=(ga δ).bind fun b=>if b=true then gb δ else .ok false:=rfl
@[simp] theorem e_orT:fOrT ga gb δ=(ga δ).bind fun b=>if b=true then .ok true else gb δ:=rfl
@[simp] theorem e_andV:Qjj fa fb δ=(fa δ).bind fun x=>(asB x).bind fun b=>if b=true then fb δ else .ok (.bl false):=rfl
@[simp] theorem e_orV:fOrV fa fb δ=(fa δ).bind fun x=>(asB x).bind fun b=>if b=true then .ok (.bl true) else fb δ:=rfl
@[simp] theorem e_notV:QoL fa δ=(fa δ).bind fun x=>(asB x).bind fun b=>.ok (.bl (!b)):=rfl
@[simp] theorem e_ife:fIfE ga fa fb δ=(ga δ).bind fun b=>if b=true then fa δ else fb δ:=rfl
@[simp] theorem e_chn:fChn g g' fa fb fc δ=(fa δ).bind fun x=>(fb δ).bind fun y=>(g x y).bind fun z=>(asB z).bind fun k=>if k=true then (fc δ).bind fun w=>g' y w else .ok (.bl false):=rfl
@[simp] theorem e_tup {fs:List Fn}:fTup fs δ=(QaF fs δ).bind fun ds=>.ok (.tup ds):=rfl
@[simp] theorem e_lst {fs:List Fn}:fLst fs δ=(QaF fs δ).bind fun ds=>.ok (.lst ds):=rfl
@[simp] theorem e_call {mm:List D->Ou D} {fs:List Fn}:Qg mm fs δ=(QaF fs δ).bind mm:=rfl
@[simp] theorem QoZ:QaF [] δ=.ok []:=rfl
@[simp] theorem e_args {f:Fn} {fs:List Fn}:QaF (f::fs) δ=(f δ).bind fun d=>(QaF fs δ).bind fun ds=>.ok (d::ds):=rfl
@[simp] theorem e_meth {tb:MTab} {fo:Fn} {fs:List Fn}:Qa2 tb fo fs δ=(fo δ).bind fun d=>match tbM tb d with
 | some mm=>(QaF fs δ).bind fun ds=>mm (d::ds)
 | none=>.bad:=rfl
@[simp] theorem e_make0 {c:PySem.Str}:Qgn c δ=.ok (.obj c):=rfl
@[simp] theorem Ql {c:PySem.Str} {f:List D->Ou D} {tb:MTab}:tbM ((c,f)::tb) (.obj c)=some f:=by simp [tbM]
theorem Qc {c c':PySem.Str} {f:List D->Ou D} {tb:MTab} (h:(c' == c)=false):tbM ((c',f)::tb) (.obj c)=tbM tb (.obj c):=by simp [tbM,h]
@[simp] theorem e_listL {ds:List D}:Qe6 (.lst ds)=.ok (.lst ds):=rfl
@[simp] theorem e_listF {ds:List D}:Qe6 (.frl ds)=.ok (.lst ds):=rfl
@[simp] theorem e_listT {ds:List D}:Qe6 (.tup ds)=.ok (.lst ds):=rfl
@[simp] theorem e_isBl {d:D} {k:Bool}:gIsB d (.bl k)=.ok (.bl (isBl k d)):=rfl
@[simp] theorem e_notBl {d:D} {k:Bool}:gNotB d (.bl k)=.ok (.bl (!isBl k d)):=rfl
@[simp] theorem e_isBl2 {k k':Bool}:isBl k (.bl k')=(k' == k):=rfl
@[simp] theorem e_isNn:gIsN .non=.ok (.bl true):=rfl
@[simp] theorem e_notNn:QfO .non=.ok (.bl false):=rfl
@[simp] theorem Qrb {i:Nat}:sOwn i fa δ=(fa δ).bind fun d=>.ok (.nx (δ.set i (.own d))):=rfl
@[simp] theorem e_asBb {b:Bool}:asB (.bl b)=.ok b:=rfl
@[simp] theorem e_truB {b:Bool}:truD (.bl b)=.ok b:=rfl
@[simp] theorem e_up:fUp fa δ=(fa δ).bind fun d=>if imm d=true then .ok d else .bad:=rfl
@[simp] theorem e_imm_i {i:Int}:imm (.int i)=true:=rfl
@[simp] theorem e_imm_b {i:Bool}:imm (.bl i)=true:=rfl
@[simp] theorem e_imm_s {i:Str}:imm (.str i)=true:=rfl
@[simp] theorem e_imm_n:imm .non=true:=rfl
@[simp] theorem e_imm_t {ds:List D}:imm (.tup ds)=imms ds:=by simp [imm]
@[simp] theorem e_imms0:imms []=true:=by simp [imms]
@[simp] theorem e_imms {d:D} {ds:List D}:imms (d::ds)=(imm d && imms ds):=by simp [imms]
@[simp] theorem e_add {i j:Int}:gAdd (.int i) (.int j)=.ok (.int (i + j)):=rfl
@[simp] theorem e_sub {i j:Int}:gSub (.int i) (.int j)=.ok (.int (i - j)):=rfl
@[simp] theorem e_mul {i j:Int}:gMul (.int i) (.int j)=if cMul i j=true then .ok (.int (i * j)) else .bad:=rfl
@[simp] theorem e_div {i j:Int}:gDiv (.int i) (.int j)=if cDiv i j=true then .ok (.int (i / j)) else .bad:=rfl
@[simp] theorem e_mod {i j:Int}:gMod (.int i) (.int j)=if cMod i j=true then .ok (.int (i % j)) else .bad:=rfl
@[simp] theorem e_pow {i j:Int}:gPow (.int i) (.int j)=if cPow i j=true then .ok (.int (i ^ j.toNat)) else .bad:=rfl
@[simp] theorem e_shl {i j:Int}:gShl (.int i) (.int j)=if cPow i j=true then .ok (.int (i * 2 ^ j.toNat)) else .bad:=rfl
@[simp] theorem e_shr {i j:Int}:gShr (.int i) (.int j)=if cShr i j=true then .ok (.int (i / 2 ^ j.toNat)) else .bad:=rfl
@[simp] theorem e_xor {i j:Int}:gXor (.int i) (.int j)=.ok (.int (Builtin.bitXor i j)):=rfl
@[simp] theorem e_and {i j:Int}:gAnd (.int i) (.int j)=.ok (.int (Builtin.bitAnd i j)):=rfl
@[simp] theorem e_lt {i j:Int}:gLt (.int i) (.int j)=.ok (.bl (decide (i < j))):=rfl
@[simp] theorem e_le {i j:Int}:gLe (.int i) (.int j)=.ok (.bl (decide (i<=j))):=rfl
@[simp] theorem e_gt {i j:Int}:gGt (.int i) (.int j)=.ok (.bl (decide (j < i))):=rfl
@[simp] theorem e_ge {i j:Int}:gGe (.int i) (.int j)=.ok (.bl (decide (j<=i))):=rfl
theorem QnX {x y:D}:gEq x y=match eqF (eqF (eqF (eqD 57))) x y with
 | some b=>.ok (.bl b)
 | none=>.bad:=rfl
theorem QqF {x y:D}:gNe x y=match eqF (eqF (eqF (eqD 57))) x y with
 | some b=>.ok (.bl (!b))
 | none=>.bad:=rfl
@[simp] theorem e_eqI {i j:Int}:gEq (.int i) (.int j)=.ok (.bl (decide (i=j))):=rfl
@[simp] theorem e_eqB {i j:Bool}:gEq (.bl i) (.bl j)=.ok (.bl (decide (i=j))):=rfl
@[simp] theorem e_neI {i j:Int}:gNe (.int i) (.int j)=.ok (.bl (!decide (i=j))):=rfl
@[simp] theorem e_neg {i:Int}:gNeg (.int i)=.ok (.int (-i)):=rfl
@[simp] theorem e_min {i j:Int}:gMin [.int i,.int j]=.ok (.int (if j < i then j else i)):=rfl
@[simp] theorem e_max {i j:Int}:gMax [.int i,.int j]=.ok (.int (if j > i then j else i)):=rfl
@[simp] theorem e_lenL {ds:List D}:gLen [.lst ds]=.ok (.int (ds.length:Nat)):=rfl
@[simp] theorem e_lenF {ds:List D}:gLen [.frl ds]=.ok (.int (ds.length:Nat)):=rfl
@[simp] theorem e_lenT {ds:List D}:gLen [.tup ds]=.ok (.int (ds.length:Nat)):=rfl
@[simp] theorem e_ixT {ds:List D} {i:Int}:gIx (.tup ds) (.int i)=match atI ds i with
 | some d=>.ok d
 | none=>.bad:=rfl
@[simp] theorem e_ixL {ds:List D} {i:Int}:gIx (.lst ds) (.int i)=match atI ds i with
 | some d=>.ok d
 | none=>.bad:=rfl
@[simp] theorem e_ixF {ds:List D} {i:Int}:gIx (.frl ds) (.int i)=match atI ds i with
 | some d=>.ok d
 | none=>.bad:=rfl
@[simp] theorem e_isI {i:Int} {T:String}:gIs T (.int i)=.ok (.bl (isT "int" T)):=rfl
@[simp] theorem e_isB {i:Bool} {T:String}:gIs T (.bl i)=.ok (.bl (isT "bool" T)):=rfl
@[simp] theorem e_isS {i:Str} {T:String}:gIs T (.str i)=.ok (.bl (isT "str" T)):=rfl
@[simp] theorem e_isN {T:String}:gIs T .non=.ok (.bl (isT "NoneType" T)):=rfl
@[simp] theorem e_isT {ds:List D} {T:String}:gIs T (.tup ds)=.ok (.bl (isT "tuple" T)):=rfl
@[simp] theorem e_isL {ds:List D} {T:String}:gIs T (.lst ds)=.ok (.bl (isT "list" T)):=rfl
@[simp] theorem e_isF {ds:List D} {T:String}:gIs T (.frl ds)=.ok (.bl (isT "list" T)):=rfl
@[simp] theorem e_run {n:Nat} {ds:List D}:runD false n F ds=(F (Q6 n ds)).bind fun r=>match r with
 | .rt d=>.ok d
 | .nx _=>.ok .non
 | _=>.bad:=by unfold runD;rfl
@[simp] theorem e_runF {n:Nat} {ds:List D}:runD true n F ds=(F (Q6 n ds)).bind fun r=>match r with
 | .rt d=>.ok d
 | _=>.bad:=by
 unfold runD
 congr 1
 funext r
 cases r <;> rfl
@[simp] theorem Qnq {α β γ:Type} {o:Ou α} {f:α->Ou β} {h:β->Ou γ}:(o.bind f).bind h=o.bind fun a=>(f a).bind h:=by
 cases o <;> rfl
@[simp] theorem ite_bl {p:Prop} [Decidable p] {q:Bool}:(if p then Ou.ok (D.bl q) else Ou.ok (D.bl false))=.ok (.bl (decide p && q)):=by
 by_cases h:p <;> simp [h]
@[simp] theorem ite_bl' {p:Prop} [Decidable p] {q:Bool}:(if p then Ou.ok (D.bl true) else Ou.ok (D.bl q))=.ok (.bl (decide p || q)):=by
 by_cases h:p <;> simp [h]
@[simp] theorem ite_b {p:Prop} [Decidable p] {q:Bool}:(if p then Ou.ok q else Ou.ok false)=.ok (decide p && q):=by
 by_cases h:p <;> simp [h]
@[simp] theorem ite_b' {p:Prop} [Decidable p] {q:Bool}:(if p then Ou.ok true else Ou.ok q)=.ok (decide p || q):=by
 by_cases h:p <;> simp [h]
@[simp] theorem cDiv_ok {i j:Int} (h:0 < j) (h2:j < 2 ^ 64):cDiv i j=true:=by simp [cDiv];lia
@[simp] theorem cMod_ok {i j:Int} (h:0 < j):cMod i j=true:=by simp [cMod];lia
@[simp] theorem Qqm {i j:Int} (h:-(2 ^ 64) < i) (h2:i < 2 ^ 64):cMul i j=true:=by simp [cMul];lia
@[simp] theorem Qqj {i j:Int} (h:-(2 ^ 64) < j) (h2:j < 2 ^ 64):cMul i j=true:=by simp [cMul];lia
theorem at_0 {α:Type} {x:α} {r:List α}:atI (x::r) 0=some x:=by
 unfold atI ixN
 simp
theorem Qgi {α:Type} {xs:List α} {k:Nat} (h:k < xs.length):atI xs (k:Int)=some xs[k]:=by
 unfold atI ixN
 have h1:(0:Int)<=(k:Int):=by lia
 have h2:(k:Int) < (xs.length:Int):=by lia
 simp [h1,h2,h]
theorem at_1 {α:Type} {x y:α} {r:List α}:atI (x::y::r) 1=some y:=Qgi (xs:=x::y::r) (k:=1) (by simp)
theorem at_2 {α:Type} {x y z:α} {r:List α}:atI (x::y::z::r) 2=some z:=Qgi (xs:=x::y::z::r) (k:=2) (by simp)
theorem at_3 {α:Type} {x y z u:α} {r:List α}:atI (x::y::z::u::r) 3=some u:=Qgi (xs:=x::y::z::u::r) (k:=3) (by simp)
theorem at_4 {α:Type} {x y z u v:α} {r:List α}:atI (x::y::z::u::v::r) 4=some v:=Qgi (xs:=x::y::z::u::v::r) (k:=4) (by simp)
def Goes (Inv:DS->Prop) (o:Ou Fl):Prop:=∃ δ2,(o=.ok (.nx δ2)\/o=.ok (.ct δ2))/\Inv δ2
theorem Goes.nx {Inv:DS->Prop} {δ:DS} (h:Inv δ):Goes Inv (.ok (.nx δ)):=⟨δ,.inl rfl,h⟩
theorem Goes.eq {Inv:DS->Prop} {o:Ou Fl} {δ2:DS} (e:o=.ok (.nx δ2)) (h:Inv δ2):Goes Inv o:=⟨δ2,.inl e,h⟩
theorem Goes.ct {Inv:DS->Prop} {δ:DS} (h:Inv δ):Goes Inv (.ok (.ct δ)):=⟨δ,.inr rfl,h⟩
theorem QhL {g:D->DS->Ou DS} {body:Sm} (Inv:Nat->DS->Prop):∀ (items:List D) (n:Nat) (_:∀ i d,items[i]? = some d->∀ δ,Inv (n + i) δ->Goes (Inv (n + i + 1)) ((g d δ).bind body)) (δ:DS),Inv n δ->∃ δ',forL g body items δ=.ok (.nx δ')/\Inv (n + items.length) δ'
 | [],n,_,δ,h=>⟨δ,rfl,h⟩
 | d::r,n,hs,δ,h=>by
  obtain ⟨δ2,h1,h2⟩:=hs 0 d rfl δ h
  obtain ⟨δ',h3,h4⟩:=QhL Inv r (n + 1) (fun i d hd δ hi=>by
   have e:n + 1 + i=n + (i + 1):=by lia
   rw [e] at hi ⊢
   exact hs (i + 1) d (by simpa using hd) δ hi) δ2 h2
  refine ⟨δ',?_,by
   rw [List.length_cons]
   have e:n + (r.length + 1)=n + 1 + r.length:=by lia
   rw [e];exact h4⟩
  cases e:g d δ with
  | ok δ1 =>
   simp only [forL,e,Qad] at h1 ⊢
   rcases h1 with h1 | h1 <;> rw [h1] <;> exact h3
  | ex z=>rw [e] at h1;rcases h1 with h1 | h1 <;> cases h1
  | bad=>rw [e] at h1;rcases h1 with h1 | h1 <;> cases h1
theorem Qqr {fl:Fn} {g:D->DS->Ou DS} {body:Sm} {δ:DS} {ds:List D} (h:fl δ=.ok (.lst ds)):sFor fl g body δ=forL g body ds δ:=by
 simp only [sFor,h,Qad]
@[simp] theorem e_nm {i:Nat} {d:D} {δ:DS}:gNm i d δ=.ok (δ.set i (.val d)):=rfl
theorem rng1 {g:D->DS->Ou DS} {F:Sm} {fs:List Fn} {δ:DS} {j:Int} (h:QaF fs δ=.ok [.int j]) (hj:rOk j=true):sRng fs g F δ=forL g F (rng 0 j.toNat) δ:=by
 simp only [sRng,h,Qad,hj,if_true]
end
end DL
namespace DL
open PySem L2
section
@[simp] theorem e_eqS {x y:Str}:gEq (.str x) (.str y)=.ok (.bl (decide (x=y))):=by
 simp [QnX,eqF,rk,toV,eqV];rfl
@[simp] theorem e_neS {x y:Str}:gNe (.str x) (.str y)=.ok (.bl (!decide (x=y))):=by
 simp [QqF,eqF,rk,toV,eqV];rfl
end
end DL
namespace DL
open PySem L2
section
@[simp high] theorem Qq6 {i j:Int}:gMin [.int i,.int j]=.ok (.int (min i j)):=by
 rw [e_min];congr 2;by_cases h:j < i <;> simp [h] <;> lia
@[simp high] theorem Qqu {i j:Int}:gMax [.int i,.int j]=.ok (.int (max i j)):=by
 rw [e_max];congr 2;by_cases h:j > i <;> simp [h] <;> lia
@[simp] theorem e_addI {i j:Int}:gAddI (.int i) (.int j)=.ok (.int (i + j)):=rfl
@[simp] theorem e_subI {i j:Int}:gSubI (.int i) (.int j)=.ok (.int (i - j)):=rfl
end
end DL
namespace DL
open PySem L2
theorem Qoh (ds:List D) (k:Nat) (h:k<=ds.length):cutD ds (some (k:Int)) none=ds.drop k:=by
 unfold cutD
 rw [HT.sIx_nat,HT.sIx_none,Nat.min_eq_left h,← List.length_drop]
 exact List.take_length
theorem Qon (ds:List D) (k:Nat) (h:k<=ds.length):cutD ds none (some (k:Int))=ds.take k:=by
 unfold cutD
 rw [HT.sIx_nat,HT.sIx_none,Nat.min_eq_left h]
 simp
theorem Qhw {ns:List Int} {k:Nat} (h:k < ns.length):atI (ns.map D.int) (k:Int)=some (.int ns[k]):=by
 rw [Qgi (by simpa using h)];simp
end DL
namespace DL
open PySem L2
theorem QgT {g:D->DS->Ou DS} {gc:DS->Ou Bool} {fe:Fn} (Inv:DS->Prop) (p:D->Bool) (f:D->D):∀ (items:List D),(∀ d∈items,∀ δ,Inv δ->∃ δ1,g d δ=.ok δ1/\gc δ1=.ok (p d)/\(p d=true->fe δ1=.ok (f d))/\Inv δ1) ->
  ∀ δ,Inv δ->QaE g gc fe items δ=.ok ((items.filter p).map f)
 | [],_,_,_=>rfl
 | d::r,h,δ,hI=>by
  obtain ⟨δ1,h1,h2,h3,h4⟩:=h d List.mem_cons_self δ hI
  have e:=QgT Inv p f r (fun d hd=>h d (List.mem_cons_of_mem _ hd)) δ1 h4
  cases hp:p d with
  | true=>simp [QaE,h1,h2,hp,h3 hp,e]
  | false=>simp [QaE,h1,h2,hp,e]
theorem Qn0 {g:D->DS->Ou DS} {fe:Fn} (Inv:DS->Prop) (f:D->D) (items:List D) (h:∀ d∈items,∀ δ,Inv δ->∃ δ1,g d δ=.ok δ1/\fe δ1=.ok (f d)/\Inv δ1) (δ:DS) (hI:Inv δ):QaE g fYes fe items δ=.ok (items.map f):=by
 have:=QgT (gc:=fYes) Inv (fun _=>true) f items (fun d hd δ hI=>by
  obtain ⟨δ1,h1,h2,h3⟩:=h d hd δ hI
  exact ⟨δ1,h1,rfl,fun _=>h2,h3⟩) δ hI
 rw [List.filter_eq_self.mpr (fun _ _=>rfl)] at this
 exact this
inductive Row2 {α:Type} (R:D->α->Prop):List D->List α->Prop
 | nil:Row2 R [] []
 | cons {d:D} {x:α} {ds:List D} {xs:List α}:R d x->Row2 R ds xs->Row2 R (d::ds) (x::xs)
section
variable {α:Type} {R:D->α->Prop}
theorem Row2.take {ds:List D} {xs:List α} (h:Row2 R ds xs):∀ n,Row2 R (ds.take n) (xs.take n):=by
 induction h with
 | nil=>intro n;simpa using Row2.nil
 | cons a t ih =>
  intro n
  cases n with
  | zero=>exact .nil
  | succ n=>exact .cons a (ih n)
theorem Row2.get {ds:List D} {xs:List α} (h:Row2 R ds xs) {k:Nat} {d:D} (e:ds[k]? = some d):∃ x,xs[k]? = some x/\R d x:=by
 induction h generalizing k with
 | nil=>simp at e
 | @cons d' x ds xs a t ih =>
  cases k with
  | zero=>simp at e;subst e;exact ⟨x,rfl,a⟩
  | succ k=>obtain ⟨x,h1,h2⟩:=ih (by simpa using e);exact ⟨x,by simpa using h1,h2⟩
end
theorem QmO {α:Type} {xs:List α} {x:α}:atI (xs++[x]) (-1)=some x:=by
 unfold atI ixN
 have h:-(((xs++[x]).length:Nat):Int)<=-1:=by simp;lia
 have e:((-1:Int) + ((xs++[x]).length:Nat)).toNat=xs.length:=by simp;lia
 rw [if_neg (by decide),if_pos h,e]
 simp
theorem Qmw (ds:List D):gEq (.lst ds) (.lst [])=.ok (.bl (decide (ds=[]))):=by
 cases ds with
 | nil=>rfl
 | cons d r=>simp [QnX,eqF,rk,its,eqL]
theorem QpB (ns:List Int) (lo hi:Option Int):∃ ms:List Int,cutD (ns.map D.int) lo hi=ms.map D.int/\ms.length<=ns.length:=by
 refine ⟨(ns.drop (HT.sIx ns.length 0 lo)).take (HT.sIx ns.length ns.length hi - HT.sIx ns.length 0 lo),?_,?_⟩
 ·unfold cutD
  rw [List.length_map,List.map_take,List.map_drop]
 ·rw [List.length_take,List.length_drop];lia
end DL
namespace DL
open PySem L2
theorem For.useP {g:D->DS->Ou DS} {body:Sm} {items:List D} {δ:DS} {α:Type} {k:Fl->Ou α} (P:Ou α->Prop) (Inv:Nat->DS->Prop) (h0:Inv 0 δ) (hs:∀ i d,items[i]? = some d->i < items.length->∀ δ,Inv i δ->Goes (Inv (i + 1)) ((g d δ).bind body))
  (hd:∀ δ,Inv items.length δ->P (k (.nx δ))):P ((forL g body items δ).bind k):=by
 obtain ⟨δ',e,q⟩:=QhL Inv items 0 (fun i d hd δ hi=>by
  rw [Nat.zero_add] at hi ⊢
  exact hs i d hd (List.getElem?_eq_some_iff.mp hd).1 δ hi) δ h0
 rw [e]
 rw [Nat.zero_add] at q
 exact hd δ' q
theorem Rng.useP {g:D->DS->Ou DS} {body:Sm} {fs:List Fn} {δ:DS} {j:Int} {α:Type} {k:Fl->Ou α} (P:Ou α->Prop) (h:QaF fs δ=.ok [.int j]) (hj:rOk j=true) (Inv:Nat->DS->Prop) (h0:Inv 0 δ)
  (hs:∀ n:Nat,(n:Int) < j->∀ δ,Inv n δ->Goes (Inv (n + 1)) ((g (.int (n:Int)) δ).bind body)) (hd:∀ δ,Inv j.toNat δ->P (k (.nx δ))):P ((sRng fs g body δ).bind k):=by
 rw [rng1 h hj]
 refine For.useP P Inv h0 (fun i d hm hi δ hI=>?_) (by rw [Qe9];exact hd)
 obtain ⟨h1,rfl⟩:=QjI hm
 have e:(0:Int) + (i:Int)=(i:Int):=by lia
 rw [e]
 exact hs i (by lia) δ hI
theorem snoc {α:Type}:∀ {xs:List α},xs≠[]->∃ r x,xs=r++[x]
 | [],h=>absurd rfl h
 | [x],_=>⟨[],x,rfl⟩
 | x::y::r,_=>by
  obtain ⟨r',z,e⟩:=snoc (xs:=y::r) (by simp)
  exact ⟨x::r',z,by rw [e];rfl⟩
end DL
namespace DL
open PySem L2
theorem Qgl {f f':D->D->Option Bool} (hf:∀ x y b,f x y=some b->f' x y=some b):∀ {xs ys:List D} {bs:List Bool},zipO f xs ys=some bs->zipO f' xs ys=some bs
 | [],_,_,h=>by simpa [zipO] using h
 | x::xs,[],_,h=>by simpa [zipO] using h
 | x::xs,y::ys,bs,h=>by
  simp only [zipO] at h ⊢
  cases e:f x y with
  | none=>rw [e] at h;cases h
  | some b =>
   rw [e] at h
   rw [hf x y b e]
   cases e2:zipO f xs ys with
   | none=>rw [e2] at h;cases h
   | some bs'=>rw [e2] at h;rw [Qgl hf e2];exact h
theorem Qnz {f f':D->D->Option Bool} (hf:∀ x y b,f x y=some b->f' x y=some b) {x y:D} {b:Bool} (h:eqF f x y=some b):eqF f' x y=some b:=by
 unfold eqF at h ⊢
 split at h <;> try exact h
 ·unfold eqT at h ⊢
  cases e:zipO f (its x) (its y) with
  | none=>rw [e] at h;cases h
  | some bs=>rw [e] at h;rw [Qgl hf e];exact h
 ·unfold eqL at h ⊢
  by_cases hl:(its x).length=(its y).length
  ·rw [if_pos hl] at h ⊢
   cases e:zipO f (its x) (its y) with
   | none=>rw [e] at h;cases h
   | some bs=>rw [e] at h;rw [Qgl hf e];exact h
  ·rw [if_neg hl] at h ⊢;exact h
theorem Qje:∀ (n:Nat) {x y:D} {b:Bool},eqD n x y=some b->eqD (n + 1) x y=some b
 | 0,_,_,_,h=>nomatch h
 | n + 1,_,_,_,h=>Qnz (f:=eqD n) (fun _ _ _ z=>Qje n z) h
theorem QkC {n m:Nat} (h:n<=m) {x y:D} {b:Bool} (e:eqD n x y=some b):eqD m x y=some b:=by
 induction h with
 | refl=>exact e
 | step _ ih=>exact Qje _ ih
def Self (n:Nat) (x:D):Prop:=eqD n x x=some true
theorem Self.mono {n m:Nat} {x:D} (h:Self n x) (hm:n<=m):Self m x:=QkC hm h
theorem Self.int (i:Int):Self 1 (.int i):=by show eqF _ _ _=_;simp [eqF,rk,toV,eqV]
theorem Self.str (i:Str):Self 1 (.str i):=by show eqF _ _ _=_;simp [eqF,rk,toV,eqV]
theorem Self.bl (i:Bool):Self 1 (.bl i):=by show eqF _ _ _=_;simp [eqF,rk,toV,eqV]
theorem Self.non:Self 1 .non:=rfl
theorem Qig {n:Nat}:∀ {xs:List D},(∀ x∈xs,Self n x)->zipO (eqD n) xs xs=some (xs.map fun _=>true)
 | [],_=>rfl
 | x::xs,h=>by
  have h1:eqD n x x=some true:=h x List.mem_cons_self
  simp [zipO,h1,Qig fun y hy=>h y (List.mem_cons_of_mem _ hy)]
theorem Self.tup {n:Nat} {xs:List D} (h:∀ x∈xs,Self n x):Self (n + 1) (.tup xs):=by
 show eqF (eqD n) _ _=_
 simp [eqF,rk,its,eqT,Qig h]
theorem Self.lst {n:Nat} {xs:List D} (h:∀ x∈xs,Self n x):Self (n + 1) (.lst xs):=by
 show eqF (eqD n) _ _=_
 simp [eqF,rk,its,eqL,Qig h]
theorem Self.eq {n:Nat} {x:D} (h:Self n x) (hn:n<=60):gEq x x=.ok (.bl true):=by
 have e:eqD 60 x x=some true:=QkC hn h
 unfold gEq
 rw [e]
end DL
namespace DL
open PySem L2
theorem QqT (c:Int) {m:Int} (h:0 < m):0<=c % m/\c % m < m:=⟨Int.emod_nonneg _ (by lia),Int.emod_lt_of_pos _ h⟩
end DL
namespace DL
open PySem L2
@[simp] theorem e_mulB {i j:Int}:gMulB (.int i) (.int j)=if Qp0 i j=true then .ok (.int (i * j)) else .bad:=rfl
end DL
namespace DL
theorem len1 {α:Type} {P:List α->Prop} (h:∀ a,P [a]):∀ us,us.length=1->P us
 | [a],_=>h a
theorem len2 {α:Type} {P:List α->Prop} (h:∀ a b,P [a,b]):∀ us,us.length=2->P us
 | [a,b],_=>h a b
theorem len3 {α:Type} {P:List α->Prop} (h:∀ a b c,P [a,b,c]):∀ us,us.length=3->P us
 | [a,b,c],_=>h a b c
theorem len4 {α:Type} {P:List α->Prop} (h:∀ a b c d,P [a,b,c,d]):∀ us,us.length=4->P us
 | [a,b,c,d],_=>h a b c d
theorem len5 {α:Type} {P:List α->Prop} (h:∀ a b c d e,P [a,b,c,d,e]):∀ us,us.length=5->P us
 | [a,b,c,d,e],_=>h a b c d e
end DL
namespace DL
section
variable {ga:DS->Ou Bool} {fa:Fn} {F G:Sm} {δ:DS} {b:Bool} {d:D} {i:Nat} {j w:Int}
theorem Qlf (h:ga δ=.ok b) (hb:b=false):sSeq (sIf ga F Qf) G δ=G δ:=by
 subst hb
 show ((ga δ).bind _).bind _=_
 rw [h];rfl
theorem Ql2 (h:ga δ=.ok b) (hb:b=true) (hd:fa δ=.ok d):sSeq (sIf ga (sSeq (sRet fa) Qf) Qf) G δ=.ok (.rt d):=by
 subst hb
 show ((ga δ).bind _).bind _=_
 rw [h]
 show (((fa δ).bind _).bind _).bind _=_
 rw [hd];rfl
theorem Qj3 (hd:fa δ=.ok d):sSeq (sSet i fa) G δ=G (δ.set i (.val d)):=by
 show ((fa δ).bind _).bind _=_
 rw [hd];rfl
theorem Qrc (hd:fa δ=.ok d):sSeq (sRet fa) G δ=.ok (.rt d):=by
 show ((fa δ).bind _).bind _=_
 rw [hd];rfl
theorem QlI {δ':DS} (h:F δ=.ok (.nx δ')):sSeq F G δ=G δ':=by
 show (F δ).bind _=_
 rw [h];rfl
theorem Qmr {g:D->DS->Ou DS} {x:D} {xs:List D} {δ1 δ2:DS} (h1:g x δ=.ok δ1) (h2:F δ1=.ok (.nx δ2)):forL g F (x::xs) δ=forL g F xs δ2:=by
 conv=>lhs;unfold forL
 rw [h1]
 show (F δ1).bind _=_
 rw [h2];rfl
theorem Qit {n:Nat} {ds:List D} (h:F (Q6 n ds)=.ok (.rt d)):runD false n F ds=.ok d:=by
 unfold runD
 rw [h];rfl
end
end DL
namespace Bt
theorem bits_le_iff {x y n:Nat}:bits (x ^^^ y)<=n ↔ x / 2 ^ n=y / 2 ^ n:=by
 constructor
 ·intro h
  have e:=QkF (f:=x) (l:=y)
  obtain ⟨d,rfl⟩:=Nat.exists_eq_add_of_le h
  rw [Nat.pow_add,← Nat.div_div_eq_div_mul,← Nat.div_div_eq_div_mul,e]
 ·intro h
  refine bits_le ?_
  have:(x ^^^ y) / 2 ^ n=0:=by rw [Nat.xor_div_two_pow,h];simp
  have p:=Nat.two_pow_pos n
  exact (Nat.div_eq_zero_iff_lt p).mp this
theorem Qgy {x y m n:Nat} (h:x / 2 ^ m=y / 2 ^ m) (hmn:m<=n):x / 2 ^ n=y / 2 ^ n:=by
 obtain ⟨d,rfl⟩:=Nat.exists_eq_add_of_le hmn
 rw [Nat.pow_add,← Nat.div_div_eq_div_mul,← Nat.div_div_eq_div_mul,h]
theorem in_block {x q i:Nat}:x / 2 ^ i=q ↔ q * 2 ^ i<=x/\x < q * 2 ^ i + 2 ^ i:=by
 have p:=Nat.two_pow_pos i
 rw [Nat.div_eq_iff p]
 have e:q * 2 ^ i + 2 ^ i - 1 + 1=q * 2 ^ i + 2 ^ i:=by lia
 constructor
 ·rintro ⟨h1,h2⟩;exact ⟨h1,by lia⟩
 ·rintro ⟨h1,h2⟩;exact ⟨h1,by lia⟩
theorem bits_blocks {q i r j x y a c:Nat} (hd:q * 2 ^ i + 2 ^ i<=r * 2 ^ j) (hx:x / 2 ^ i=q) (ha:a / 2 ^ i=q) (hy:y / 2 ^ j=r) (hc:c / 2 ^ j=r):bits (x ^^^ y)=bits (a ^^^ c):=by
 have key:∀ u v,u / 2 ^ i=q->v / 2 ^ j=r->∀ m,u / 2 ^ m=v / 2 ^ m->i<=m/\j<=m:=by
  intro u v hu hv m h
  have h1:=in_block.mp hu
  have h2:=in_block.mp hv
  constructor
  ·refine Nat.le_of_not_lt fun hm=>?_
   have:=Qgy h (Nat.le_of_lt hm)
   rw [hu] at this
   have:=in_block.mp this.symm
   lia
  ·refine Nat.le_of_not_lt fun hm=>?_
   have:=Qgy h (Nat.le_of_lt hm)
   rw [hv] at this
   have:=in_block.mp this
   lia
 have one:∀ u v u' v',u / 2 ^ i=q->v / 2 ^ j=r->u' / 2 ^ i=q->v' / 2 ^ j=r->bits (u ^^^ v)<=bits (u' ^^^ v'):=by
  intro u v u' v' hu hv hu' hv'
  have h:=bits_le_iff.mp (Nat.le_refl (bits (u' ^^^ v')))
  obtain ⟨h1,h2⟩:=key u' v' hu' hv' _ h
  refine bits_le_iff.mpr ?_
  rw [Qgy (hu.trans hu'.symm) h1,Qgy (hv.trans hv'.symm) h2]
  exact h
 exact Nat.le_antisymm (one x y a c hx hy ha hc) (one a c x y ha hc hx hy)
theorem bits_pos {x y:Nat} (h:x < y):0 < bits (x ^^^ y):=by
 refine Nat.pos_of_ne_zero fun e=>?_
 have:=bits_le_iff.mp (Nat.le_of_eq e)
 simp at this
 lia
theorem halves {q i r j n Q:Nat} (hd:q * 2 ^ i + 2 ^ i<=r * 2 ^ j) (hn:bits ((q * 2 ^ i) ^^^ (r * 2 ^ j))=n + 1) (hQ:q * 2 ^ i / 2 ^ (n + 1)=Q) :
  Q * 2 ^ (n + 1)<=q * 2 ^ i/\q * 2 ^ i + 2 ^ i<=Q * 2 ^ (n + 1) + 2 ^ n/\Q * 2 ^ (n + 1) + 2 ^ n<=r * 2 ^ j/\r * 2 ^ j + 2 ^ j<=Q * 2 ^ (n + 1) + 2 ^ (n + 1):=by
 have pi:=Nat.two_pow_pos i
 have pj:=Nat.two_pow_pos j
 have pn:=Nat.two_pow_pos n
 have hlt:q * 2 ^ i < r * 2 ^ j:=by lia
 have hz:(q * 2 ^ i) ^^^ (r * 2 ^ j)≠0:=fun e=>by
  have:=Qet e
  lia
 obtain ⟨m,Q',h1,h2,h3,h4⟩:=half (Nat.le_of_lt hlt) hz
 obtain rfl:m=n:=by lia
 obtain rfl:Q'=Q:=by rw [← h2,← hQ]
 have pr:∀ x y,x / 2 ^ i=q->y / 2 ^ j=r->x < Q' * 2 ^ (m + 1) + 2 ^ m/\Q' * 2 ^ (m + 1) + 2 ^ m<=y/\y < Q' * 2 ^ (m + 1) + 2 ^ (m + 1):=by
  intro x y hx hy
  have e:=bits_blocks hd hx (Nat.mul_div_cancel q pi) hy (Nat.mul_div_cancel r pj)
  have b1:=in_block.mp hx
  have b2:=in_block.mp hy
  have hxy:x < y:=by lia
  have hz2:x ^^^ y≠0:=fun e=>by
   have:=Qet e
   lia
  obtain ⟨m',Q2,g1,g2,g3,g4⟩:=half (Nat.le_of_lt hxy) hz2
  obtain rfl:m'=m:=by lia
  have hb:x / 2 ^ (m' + 1)=y / 2 ^ (m' + 1):=bits_le_iff.mp (Nat.le_of_eq g1)
  have hi:i<=m' + 1:=by
   refine Nat.le_of_not_lt fun hm=>?_
   have:=Qgy hb (Nat.le_of_lt hm)
   rw [hx] at this
   have:=in_block.mp this.symm
   lia
  have hQ2:Q2=Q':=by
   rw [← g2,← h2]
   exact Qgy (hx.trans (Nat.mul_div_cancel q pi).symm) hi
  subst hQ2
  rw [hb] at g2
  have:=in_block.mp g2
  exact ⟨g3,g4,this.2⟩
 have f1:(q * 2 ^ i + 2 ^ i - 1) / 2 ^ i=q:=in_block.mpr ⟨by lia,by lia⟩
 have f2:(r * 2 ^ j) / 2 ^ j=r:=Nat.mul_div_cancel r pj
 have f3:(r * 2 ^ j + 2 ^ j - 1) / 2 ^ j=r:=in_block.mpr ⟨by lia,by lia⟩
 have a1:=pr _ _ f1 f2
 have a2:=pr _ _ f1 f3
 have a3:=in_block.mp h2
 lia
end Bt
namespace Tr
open DL
abbrev all:Nat:=1073741824
inductive T
 | lf (a:Nat) (d:D)
 | nd (q k:Nat) (l r:T)
namespace T
def q:T->Nat
 | lf a _=>a
 | nd q _ _ _=>q
def e:T->Nat
 | lf _ _=>0
 | nd _ k _ _=>k + 1
def lo (t:T):Nat:=t.q * 2 ^ t.e
def sz (t:T):Nat:=2 ^ t.e
def ds:T->List (Nat×D)
 | lf a d=>[(a,d)]
 | nd _ _ l r=>l.ds++r.ds
end T
inductive Good:T->Prop
 | lf {a:Nat} {d:D}:a < all->Good (.lf a d)
 | nd {q k:Nat} {l r:T}:Good l->Good r->q * 2 ^ (k + 1)<=l.lo->l.lo + l.sz<=q * 2 ^ (k + 1) + 2 ^ k->q * 2 ^ (k + 1) + 2 ^ k<=r.lo->r.lo + r.sz<=q * 2 ^ (k + 1) + 2 ^ (k + 1)->q * 2 ^ (k + 1) + 2 ^ (k + 1)<=all->Good (.nd q k l r)
def mk (l r:T):T:=.nd (l.lo / 2 ^ Bt.bits (l.lo ^^^ r.lo)) (Bt.bits (l.lo ^^^ r.lo) - 1) l r
theorem Qd9 (t:T):0 < t.sz:=Nat.two_pow_pos _
theorem Good.up {t:T} (h:Good t):t.lo + t.sz<=all:=by
 cases h with
 | lf h=>simp [T.lo,T.sz,T.q,T.e];lia
 | nd _ _ _ _ _ _ h=>exact h
theorem Qhi {l r:T} (hl:Good l) (hr:Good r) (hd:l.lo + l.sz<=r.lo):Good (mk l r):=by
 have pl:=Qd9 l
 have pr:=Qd9 r
 have ul:=hl.up
 have ur:=hr.up
 have hpos:0 < Bt.bits (l.lo ^^^ r.lo):=Bt.bits_pos (by lia)
 obtain ⟨m,hm⟩:∃ m,Bt.bits (l.lo ^^^ r.lo)=m + 1:=⟨Bt.bits (l.lo ^^^ r.lo) - 1,by lia⟩
 have hh:=Bt.halves (q:=l.q) (i:=l.e) (r:=r.q) (j:=r.e) (n:=m) hd hm rfl
 have h30:(2:Nat) ^ 30=all:=by decide
 have hm30:m + 1<=30:=by
  rw [← hm]
  exact Bt.bits_le (Nat.xor_lt_two_pow (by rw [h30];lia) (by rw [h30];lia))
 have hb:=Bt.block (f:=l.lo) (n:=m + 1) (by rw [h30];lia) hm30
 rw [h30] at hb
 unfold mk
 rw [hm]
 exact .nd hl hr hh.1 hh.2.1 hh.2.2.1 hh.2.2.2 hb
theorem Qml {q k:Nat} {l r:T} (h:Good (.nd q k l r)):mk l r=.nd q k l r:=by
 cases h with
 | nd hl hr h1 h2 h3 h4 h5 =>
  have pl:=Qd9 l
  have pr:=Qd9 r
  have pk:=Nat.two_pow_pos k
  have e2:2 ^ (k + 1)=2 ^ k * 2:=Nat.pow_succ ..
  have b1:l.lo / 2 ^ (k + 1)=q:=Bt.in_block.mpr ⟨h1,by lia⟩
  have b2:r.lo / 2 ^ (k + 1)=q:=Bt.in_block.mpr ⟨by lia,by lia⟩
  have ek:q * 2 ^ (k + 1)=2 * q * 2 ^ k:=by rw [e2,Nat.mul_comm (2 ^ k) 2,← Nat.mul_assoc,Nat.mul_comm q 2]
  have b3:l.lo / 2 ^ k=2 * q:=Bt.in_block.mpr ⟨by lia,by lia⟩
  have b4:r.lo / 2 ^ k=2 * q + 1:=Bt.in_block.mpr ⟨by rw [Nat.add_mul];lia,by rw [Nat.add_mul];lia⟩
  have c1:Bt.bits (l.lo ^^^ r.lo)<=k + 1:=Bt.bits_le_iff.mpr (b1.trans b2.symm)
  have c2:¬ Bt.bits (l.lo ^^^ r.lo)<=k:=fun z=>by
   have:=Bt.bits_le_iff.mp z
   lia
  have c3:Bt.bits (l.lo ^^^ r.lo)=k + 1:=by lia
  unfold mk
  rw [c3,b1]
  rfl
theorem Q5 {t:T} (h:Good t):∀ p∈t.ds,t.lo<=p.1/\p.1 < t.lo + t.sz:=by
 induction h with
 | lf h=>intro p hp;simp [T.ds] at hp;subst hp;simp [T.lo,T.sz,T.q,T.e]
 | @nd q k l r hl hr h1 h2 h3 h4 h5 ihl ihr =>
  intro p hp
  have pk:=Nat.two_pow_pos k
  have e2:2 ^ (k + 1)=2 ^ k * 2:=Nat.pow_succ ..
  show q * 2 ^ (k + 1)<=p.1/\p.1 < q * 2 ^ (k + 1) + 2 ^ (k + 1)
  rcases List.mem_append.mp hp with hp | hp
  ·have:=ihl p hp;lia
  ·have:=ihr p hp;lia
theorem Qjn {t:T} (h:Good t):t.ds.Pairwise (fun a b=>a.1 < b.1):=by
 induction h with
 | lf h=>simp [T.ds]
 | nd hl hr h1 h2 h3 h4 h5 ihl ihr =>
  unfold T.ds
  rw [List.pairwise_append]
  refine ⟨ihl,ihr,fun a ha b hb=>?_⟩
  have:=Q5 hl a ha
  have:=Q5 hr b hb
  lia
theorem Qfo:∀ t:T,t.ds≠[]
 | .lf a d=>by simp [T.ds]
 | .nd q k l r=>by
  have:=Qfo l
  simp [T.ds,this]
def insK (a:Nat) (d:D):List (Nat×D)->List (Nat×D)
 | []=>[(a,d)]
 | p::r=>if a < p.1 then (a,d)::p::r else p::insK a d r
theorem Qho {a:Nat} {d:D}:∀ {r:List (Nat×D)},(∀ p∈r,a < p.1)->insK a d r=(a,d)::r
 | [],_=>rfl
 | p::r,h=>by simp [insK,h p List.mem_cons_self]
theorem Qi7 {a:Nat} {d:D}:∀ {r:List (Nat×D)},(∀ p∈r,p.1 < a)->insK a d r=r++[(a,d)]
 | [],_=>rfl
 | p::r,h=>by
  have h1:=h p List.mem_cons_self
  simp only [insK,List.cons_append]
  rw [if_neg (by lia),Qi7 fun p hp=>h p (List.mem_cons_of_mem _ hp)]
theorem QjD {a:Nat} {d:D}:∀ {l r:List (Nat×D)},(∀ p∈r,a < p.1)->insK a d (l++r)=insK a d l++r
 | [],r,h=>by rw [List.nil_append,Qho h];rfl
 | p::l,r,h=>by
  simp only [List.cons_append,insK]
  by_cases hc:a < p.1
  ·rw [if_pos hc,if_pos hc];rfl
  ·rw [if_neg hc,if_neg hc,QjD h];rfl
theorem Qia {a:Nat} {d:D}:∀ {l r:List (Nat×D)},(∀ p∈l,p.1 < a)->insK a d (l++r)=l++insK a d r
 | [],r,h=>rfl
 | p::l,r,h=>by
  have h1:=h p List.mem_cons_self
  simp only [List.cons_append,insK]
  rw [if_neg (by lia),Qia fun p hp=>h p (List.mem_cons_of_mem _ hp)]
def put (a:Nat) (d:D):T->Option T
 | .lf b e=>if a < b then some (mk (.lf a d) (.lf b e)) else if b < a then some (mk (.lf b e) (.lf a d)) else none
 | .nd q k l r=>if a < q * 2 ^ (k + 1) then some (mk (.lf a d) (.nd q k l r)) else if q * 2 ^ (k + 1) + 2 ^ (k + 1)<=a then some (mk (.nd q k l r) (.lf a d))
  else if a < q * 2 ^ (k + 1) + 2 ^ k then (put a d l).map fun l'=>mk l' r else (put a d r).map fun r'=>mk l r'
def Within (t:T) (Q n:Nat):Prop:=Q * 2 ^ n<=t.lo/\t.lo + t.sz<=Q * 2 ^ n + 2 ^ n
theorem Qe8 {l r:T} {Q n:Nat} (hd:l.lo + l.sz<=r.lo) (hl:Within l Q n) (hr:Within r Q n):Within (mk l r) Q n:=by
 have pl:=Qd9 l
 have pr:=Qd9 r
 obtain ⟨l1,l2⟩:=hl
 obtain ⟨r1,r2⟩:=hr
 have b1:l.lo / 2 ^ n=Q:=Bt.in_block.mpr ⟨l1,by lia⟩
 have b2:r.lo / 2 ^ n=Q:=Bt.in_block.mpr ⟨by lia,by lia⟩
 have hb:Bt.bits (l.lo ^^^ r.lo)<=n:=Bt.bits_le_iff.mpr (b1.trans b2.symm)
 have hpos:0 < Bt.bits (l.lo ^^^ r.lo):=Bt.bits_pos (by lia)
 show Q * 2 ^ n<=l.lo / 2 ^ Bt.bits (l.lo ^^^ r.lo) * 2 ^ (Bt.bits (l.lo ^^^ r.lo) - 1 + 1)/\l.lo / 2 ^ Bt.bits (l.lo ^^^ r.lo) * 2 ^ (Bt.bits (l.lo ^^^ r.lo) - 1 + 1) + 2 ^ (Bt.bits (l.lo ^^^ r.lo) - 1 + 1)<=Q * 2 ^ n + 2 ^ n
 have e:Bt.bits (l.lo ^^^ r.lo) - 1 + 1=Bt.bits (l.lo ^^^ r.lo):=by lia
 rw [e]
 generalize Bt.bits (l.lo ^^^ r.lo)=m at *
 obtain ⟨c,rfl⟩:=Nat.exists_eq_add_of_le hb
 have hq:l.lo / 2 ^ m / 2 ^ c=Q:=by rw [Nat.div_div_eq_div_mul,← Nat.pow_add];exact b1
 have hw:=Bt.in_block.mp hq
 have e1:Q * 2 ^ (m + c)=Q * 2 ^ c * 2 ^ m:=by rw [Nat.pow_add,Nat.mul_comm (2 ^ m),Nat.mul_assoc]
 have e2:2 ^ (m + c)=2 ^ c * 2 ^ m:=by rw [Nat.pow_add,Nat.mul_comm]
 have g1:Q * 2 ^ c * 2 ^ m<=l.lo / 2 ^ m * 2 ^ m:=Nat.mul_le_mul_right _ hw.1
 have g2:(l.lo / 2 ^ m + 1) * 2 ^ m<=(Q * 2 ^ c + 2 ^ c) * 2 ^ m:=Nat.mul_le_mul_right _ hw.2
 rw [Nat.add_mul,Nat.add_mul,Nat.one_mul] at g2
 rw [e1,e2]
 exact ⟨g1,g2⟩
structure PutOk (a:Nat) (d:D) (t t':T):Prop where
 eq:put a d t=some t'
 good:Good t'
 ds:t'.ds=insK a d t.ds
 win:∀ Q n,Within t Q n->a / 2 ^ n=Q->Within t' Q n
theorem QdI {a:Nat} {d:D} {Q n:Nat} (h:a / 2 ^ n=Q):Within (.lf a d) Q n:=by
 have:=Bt.in_block.mp h
 simp only [Within,T.lo,T.sz,T.q,T.e,Nat.pow_zero,Nat.mul_one]
 lia
theorem Ql9 {a:Nat} {d:D} (ha:a < all) {t:T} (h:Good t) (hn:∀ p∈t.ds,p.1≠a):∃ t',PutOk a d t t':=by
 have gl:Good (.lf a d):=.lf ha
 have la:(T.lf a d).lo=a:=by simp [T.lo,T.q,T.e]
 have sa:(T.lf a d).sz=1:=rfl
 induction h with
 | @lf b e hb =>
  have hne:b≠a:=hn (b,e) (by simp [T.ds])
  have lb:(T.lf b e).lo=b:=by simp [T.lo,T.q,T.e]
  have sb:(T.lf b e).sz=1:=rfl
  have gb:Good (.lf b e):=.lf hb
  by_cases h1:a < b
  ·have hd:(T.lf a d).lo + (T.lf a d).sz<=(T.lf b e).lo:=by lia
   exact ⟨mk (.lf a d) (.lf b e),by simp [put,h1],Qhi gl gb hd,by simp [mk,T.ds,insK,h1],fun Q n w1 w2=>Qe8 hd (QdI w2) w1⟩
  ·have h2:b < a:=by lia
   have hd:(T.lf b e).lo + (T.lf b e).sz<=(T.lf a d).lo:=by lia
   exact ⟨mk (.lf b e) (.lf a d),by simp [put,h1,h2],Qhi gb gl hd,by simp [mk,T.ds,insK,h1],fun Q n w1 w2=>Qe8 hd w1 (QdI w2)⟩
 | @nd q k l r hl hr h1 h2 h3 h4 h5 ihl ihr =>
  have G:Good (.nd q k l r):=.nd hl hr h1 h2 h3 h4 h5
  have tin:=Q5 G
  have L:(T.nd q k l r).lo=q * 2 ^ (k + 1):=rfl
  have S:(T.nd q k l r).sz=2 ^ (k + 1):=rfl
  have pk:=Nat.two_pow_pos k
  have e2:2 ^ (k + 1)=2 ^ k * 2:=Nat.pow_succ ..
  by_cases c1:a < q * 2 ^ (k + 1)
  ·have hd:(T.lf a d).lo + (T.lf a d).sz<=(T.nd q k l r).lo:=by lia
   refine ⟨mk (.lf a d) (.nd q k l r),by simp [put,c1],Qhi gl G hd,?_,fun Q n w1 w2=>Qe8 hd (QdI w2) w1⟩
   rw [Qho fun p hp=>by have:=tin p hp;lia]
   rfl
  ·by_cases c2:q * 2 ^ (k + 1) + 2 ^ (k + 1)<=a
   ·have hd:(T.nd q k l r).lo + (T.nd q k l r).sz<=(T.lf a d).lo:=by lia
    refine ⟨mk (.nd q k l r) (.lf a d),by simp [put,c1,c2],Qhi G gl hd,?_,fun Q n w1 w2=>Qe8 hd w1 (QdI w2)⟩
    rw [Qi7 fun p hp=>by have:=tin p hp;lia]
    rfl
   ·have ek:q * 2 ^ (k + 1)=2 * q * 2 ^ k:=by rw [e2,Nat.mul_comm (2 ^ k) 2,← Nat.mul_assoc,Nat.mul_comm q 2]
    by_cases c3:a < q * 2 ^ (k + 1) + 2 ^ k
    ·obtain ⟨l',P⟩:=ihl fun p hp=>hn p (List.mem_append_left _ hp)
     have wl:Within l' (2 * q) k:=P.win (2 * q) k ⟨by lia,by lia⟩ (Bt.in_block.mpr ⟨by lia,by lia⟩)
     have G':Good (.nd q k l' r):=.nd P.good hr (by have:=wl.1;lia) (by have:=wl.2;lia) h3 h4 h5
     have em:=Qml G'
     refine ⟨.nd q k l' r,?_,G',?_,fun Q n w1 _=>w1⟩
     ·simp [put,c1,c2,c3,P.eq,em]
     ·show l'.ds++r.ds=insK a d (l.ds++r.ds)
      rw [QjD fun p hp=>by have:=Q5 hr p hp;lia,P.ds]
    ·obtain ⟨r',P⟩:=ihr fun p hp=>hn p (List.mem_append_right _ hp)
     have eb:(2 * q + 1) * 2 ^ k=q * 2 ^ (k + 1) + 2 ^ k:=by rw [Nat.add_mul,Nat.one_mul,ek]
     have wr:Within r' (2 * q + 1) k:=P.win (2 * q + 1) k ⟨by lia,by lia⟩ (Bt.in_block.mpr ⟨by lia,by lia⟩)
     have G':Good (.nd q k l r'):=.nd hl P.good h1 h2 (by have:=wr.1;lia) (by have:=wr.2;lia) h5
     have em:=Qml G'
     refine ⟨.nd q k l r',?_,G',?_,fun Q n w1 _=>w1⟩
     ·simp [put,c1,c2,c3,P.eq,em]
     ·show l.ds++r'.ds=insK a d (l.ds++r.ds)
      rw [Qia fun p hp=>by have:=Q5 hl p hp;lia,P.ds]
theorem Qhj {a:Nat} {d:D}:∀ t:T,put a d t≠none->Good t->∀ p∈t.ds,p.1≠a
 | .lf b e,h,_=>fun p hp z=>by
  simp [T.ds] at hp
  subst hp
  simp at z
  subst z
  simp [put] at h
 | .nd q k l r,h,G=>fun p hp z=>by
  have tin:=Q5 G p hp
  have L:(T.nd q k l r).lo=q * 2 ^ (k + 1):=rfl
  have S:(T.nd q k l r).sz=2 ^ (k + 1):=rfl
  cases G with
  | nd hl hr h1 h2 h3 h4 h5 =>
   have n1:¬ a < q * 2 ^ (k + 1):=by lia
   have n2:¬ q * 2 ^ (k + 1) + 2 ^ (k + 1)<=a:=by lia
   simp only [put,if_neg n1,if_neg n2] at h
   rcases List.mem_append.mp hp with hp | hp
   ·have:=Q5 hl p hp
    rw [if_pos (by lia)] at h
    exact Qhj l (fun z=>h (by rw [z];rfl)) hl p hp z
   ·have:=Q5 hr p hp
    rw [if_neg (by lia)] at h
    exact Qhj r (fun z=>h (by rw [z];rfl)) hr p hp z
end Tr
namespace Tr
open DL
instance (t:T) (Q n:Nat):Decidable (Within t Q n):=by unfold Within;infer_instance
def insT (Q n:Nat):T->Option T
 | .lf a d=>if Within (.lf a d) Q n then some (.lf a d) else none
 | .nd q k l r=>if Within (.nd q k l r) Q n then some (.nd q k l r)
  else if q * 2 ^ (k + 1)<=Q * 2 ^ n/\Q * 2 ^ n + 2 ^ n<=q * 2 ^ (k + 1) + 2 ^ k then insT Q n l
  else if q * 2 ^ (k + 1) + 2 ^ k<=Q * 2 ^ n/\Q * 2 ^ n + 2 ^ n<=q * 2 ^ (k + 1) + 2 ^ (k + 1) then insT Q n r else none
def dsO:Option T->List (Nat×D)
 | some t=>t.ds
 | none=>[]
theorem Ql0 {P:Nat×D->Bool} {l:List (Nat×D)} (h:∀ p∈l,P p=true):l.filter P=l:=List.filter_eq_self.mpr h
theorem QcS {P:Nat×D->Bool} {l:List (Nat×D)} (h:∀ p∈l,P p=false):l.filter P=[]:=List.filter_eq_nil_iff.mpr fun p hp=>by simp [h p hp]
theorem Qmy {Q n:Nat} {t:T} (h:Good t):dsO (insT Q n t)=t.ds.filter (fun p=>decide (p.1 / 2 ^ n=Q))/\∀ s,insT Q n t=some s->Good s/\s.e<=t.e:=by
 induction h with
 | @lf a d ha =>
  unfold insT
  by_cases hw:Within (.lf a d) Q n
  ·rw [if_pos hw]
   have hb:a / 2 ^ n=Q:=by
    obtain ⟨h1,h2⟩:=hw
    simp only [T.lo,T.sz,T.q,T.e,Nat.pow_zero,Nat.mul_one] at h1 h2
    exact Bt.in_block.mpr ⟨h1,by lia⟩
   exact ⟨by simp [dsO,T.ds,hb],fun s hs=>by cases hs;exact ⟨.lf ha,Nat.le_refl _⟩⟩
  ·rw [if_neg hw]
   have hb:¬ a / 2 ^ n=Q:=fun z=>hw (QdI z)
   exact ⟨by simp [dsO,T.ds,hb],fun s hs=>by cases hs⟩
 | @nd q k l r hl hr h1 h2 h3 h4 h5 ihl ihr =>
  have G:Good (.nd q k l r):=.nd hl hr h1 h2 h3 h4 h5
  have tin:=Q5 G
  have L:(T.nd q k l r).lo=q * 2 ^ (k + 1):=rfl
  have S:(T.nd q k l r).sz=2 ^ (k + 1):=rfl
  have pk:=Nat.two_pow_pos k
  have pn:=Nat.two_pow_pos n
  have e2:2 ^ (k + 1)=2 ^ k * 2:=Nat.pow_succ ..
  have el:l.e<=k:=by
   refine Nat.le_of_not_lt fun z=>?_
   have:=Nat.pow_lt_pow_right (a:=2) (by decide) z
   have:l.sz=2 ^ l.e:=rfl
   lia
  have er:r.e<=k:=by
   refine Nat.le_of_not_lt fun z=>?_
   have:=Nat.pow_lt_pow_right (a:=2) (by decide) z
   have:r.sz=2 ^ r.e:=rfl
   lia
  have ek:q * 2 ^ (k + 1)=2 * q * 2 ^ k:=by rw [e2,Nat.mul_comm (2 ^ k) 2,← Nat.mul_assoc,Nat.mul_comm q 2]
  unfold insT
  by_cases hw:Within (.nd q k l r) Q n
  ·rw [if_pos hw]
   refine ⟨?_,fun s hs=>by cases hs;exact ⟨G,Nat.le_refl _⟩⟩
   refine (Ql0 fun p hp=>?_).symm
   have:=tin p hp
   obtain ⟨w1,w2⟩:=hw
   exact decide_eq_true (Bt.in_block.mpr ⟨by lia,by lia⟩)
  ·rw [if_neg hw]
   by_cases c1:q * 2 ^ (k + 1)<=Q * 2 ^ n/\Q * 2 ^ n + 2 ^ n<=q * 2 ^ (k + 1) + 2 ^ k
   ·rw [if_pos c1]
    refine ⟨?_,fun s hs=>?_⟩
    ·rw [ihl.1]
     show _=(l.ds++r.ds).filter _
     rw [List.filter_append,QcS (l:=r.ds) fun p hp=>?_,List.append_nil]
     have:=Q5 hr p hp
     refine decide_eq_false fun z=>?_
     have:=Bt.in_block.mp z
     lia
    ·have:=ihl.2 s hs
     exact ⟨this.1,by show s.e<=k + 1;lia⟩
   ·rw [if_neg c1]
    by_cases c2:q * 2 ^ (k + 1) + 2 ^ k<=Q * 2 ^ n/\Q * 2 ^ n + 2 ^ n<=q * 2 ^ (k + 1) + 2 ^ (k + 1)
    ·rw [if_pos c2]
     refine ⟨?_,fun s hs=>?_⟩
     ·rw [ihr.1]
      show _=(l.ds++r.ds).filter _
      rw [List.filter_append,QcS (l:=l.ds) fun p hp=>?_,List.nil_append]
      have:=Q5 hl p hp
      refine decide_eq_false fun z=>?_
      have:=Bt.in_block.mp z
      lia
     ·have:=ihr.2 s hs
      exact ⟨this.1,by show s.e<=k + 1;lia⟩
    ·rw [if_neg c2]
     refine ⟨(QcS fun p hp=>decide_eq_false fun z=>?_).symm,fun s hs=>by cases hs⟩
     have ht:=tin p hp
     have hp1:p.1 / 2 ^ (k + 1)=q:=Bt.in_block.mpr ⟨by lia,by lia⟩
     rcases Nat.lt_or_ge k n with hk | hk
     ·
      apply hw
      obtain ⟨c,rfl⟩:=Nat.exists_eq_add_of_le (show k + 1<=n from hk)
      have hq:q / 2 ^ c=Q:=by rw [← hp1,Nat.div_div_eq_div_mul,← Nat.pow_add];exact z
      have w:=Bt.in_block.mp hq
      have e3:Q * 2 ^ (k + 1 + c)=Q * 2 ^ c * 2 ^ (k + 1):=by rw [Nat.pow_add,Nat.mul_comm (2 ^ (k + 1)),Nat.mul_assoc]
      have e4:2 ^ (k + 1 + c)=2 ^ c * 2 ^ (k + 1):=by rw [Nat.pow_add,Nat.mul_comm]
      have g1:Q * 2 ^ c * 2 ^ (k + 1)<=q * 2 ^ (k + 1):=Nat.mul_le_mul_right _ w.1
      have g2:(q + 1) * 2 ^ (k + 1)<=(Q * 2 ^ c + 2 ^ c) * 2 ^ (k + 1):=Nat.mul_le_mul_right _ w.2
      rw [Nat.add_mul,Nat.add_mul,Nat.one_mul] at g2
      refine ⟨?_,?_⟩
      ·rw [e3,L];exact g1
      ·rw [e3,e4,L,S];exact g2
     ·
      obtain ⟨c,rfl⟩:=Nat.exists_eq_add_of_le hk
      have fit:∀ w,p.1 / 2 ^ (n + c)=w->w * 2 ^ (n + c)<=Q * 2 ^ n/\Q * 2 ^ n + 2 ^ n<=w * 2 ^ (n + c) + 2 ^ (n + c):=fun w hw'=>by
       have hq:Q / 2 ^ c=w:=by rw [← z,Nat.div_div_eq_div_mul,← Nat.pow_add];exact hw'
       have v:=Bt.in_block.mp hq
       have e3:w * 2 ^ (n + c)=w * 2 ^ c * 2 ^ n:=by rw [Nat.pow_add,Nat.mul_comm (2 ^ n),Nat.mul_assoc]
       have e4:2 ^ (n + c)=2 ^ c * 2 ^ n:=by rw [Nat.pow_add,Nat.mul_comm]
       have g1:w * 2 ^ c * 2 ^ n<=Q * 2 ^ n:=Nat.mul_le_mul_right _ v.1
       have g2:(Q + 1) * 2 ^ n<=(w * 2 ^ c + 2 ^ c) * 2 ^ n:=Nat.mul_le_mul_right _ v.2
       rw [Nat.add_mul,Nat.add_mul,Nat.one_mul] at g2
       rw [e3,e4]
       exact ⟨g1,g2⟩
      by_cases hm:p.1 < q * 2 ^ (n + c + 1) + 2 ^ (n + c)
      ·have f:=fit (2 * q) (Bt.in_block.mpr ⟨by lia,by lia⟩)
       exact c1 ⟨by lia,by lia⟩
      ·have eb:(2 * q + 1) * 2 ^ (n + c)=q * 2 ^ (n + c + 1) + 2 ^ (n + c):=by rw [Nat.add_mul,Nat.one_mul,ek]
       have f:=fit (2 * q + 1) (Bt.in_block.mpr ⟨by lia,by lia⟩)
       exact c2 ⟨by lia,by lia⟩
def cov:Nat->Nat->Nat->List (Nat×Nat)
 | 0,_,_=>[]
 | r + 1,lo,e=>if lo + 2 ^ r<=e then (lo / 2 ^ r,r)::cov r (lo + 2 ^ r) e else cov r lo e
theorem Qjv {lo mid e:Nat} (h1:lo<=mid) (h2:mid<=e):∀ {l:List (Nat×D)},l.Pairwise (fun a b=>a.1 < b.1)->l.filter (fun p=>decide (lo<=p.1/\p.1 < mid))++l.filter (fun p=>decide (mid<=p.1/\p.1 < e))=l.filter (fun p=>decide (lo<=p.1/\p.1 < e))
 | [],_=>rfl
 | p::l,h=>by
  obtain ⟨h3,h4⟩:=List.pairwise_cons.mp h
  have ih:=Qjv h1 h2 h4
  by_cases c1:lo<=p.1/\p.1 < mid
  ·have c2:¬ (mid<=p.1/\p.1 < e):=by lia
   have c3:lo<=p.1/\p.1 < e:=by lia
   rw [List.filter_cons_of_pos (by simpa using c1),List.filter_cons_of_neg (by simpa using c2),List.filter_cons_of_pos (by simpa using c3),List.cons_append,ih]
  ·by_cases c2:mid<=p.1/\p.1 < e
   ·have c3:lo<=p.1/\p.1 < e:=by lia
    have hn:l.filter (fun p=>decide (lo<=p.1/\p.1 < mid))=[]:=QcS fun x hx=>by
     have:=h3 x hx
     exact decide_eq_false (by lia)
    rw [List.filter_cons_of_neg (by simpa using c1),List.filter_cons_of_pos (by simpa using c2),List.filter_cons_of_pos (by simpa using c3),hn,List.nil_append]
    rw [hn,List.nil_append] at ih
    rw [ih]
   ·have c3:¬ (lo<=p.1/\p.1 < e):=by lia
    rw [List.filter_cons_of_neg (by simpa using c1),List.filter_cons_of_neg (by simpa using c2),List.filter_cons_of_neg (by simpa using c3),ih]
theorem Qmh {t:T} (h:Good t):∀ (r lo e:Nat),lo % 2 ^ r=0->lo<=e->e < lo + 2 ^ r->((cov r lo e).filterMap fun b=>insT b.1 b.2 t).flatMap T.ds=t.ds.filter (fun p=>decide (lo<=p.1/\p.1 < e))
 | 0,lo,e,_,h2,h3=>by
  have:lo=e:=by simp at h3;lia
  subst this
  exact (QcS fun p _=>decide_eq_false (by lia)).symm
 | r + 1,lo,e,h1,h2,h3=>by
  have p:=Nat.two_pow_pos r
  have e2:2 ^ (r + 1)=2 ^ r * 2:=Nat.pow_succ ..
  have hm:lo % 2 ^ r=0:=by
   have hd:2 ^ (r + 1) ∣ lo:=Nat.dvd_of_mod_eq_zero h1
   exact Nat.mod_eq_zero_of_dvd (Nat.dvd_trans ⟨2,e2⟩ hd)
  unfold cov
  by_cases hc:lo + 2 ^ r<=e
  ·rw [if_pos hc]
   have ih:=Qmh h r (lo + 2 ^ r) e (by rw [Nat.add_mod_right];exact hm) hc (by lia)
   have hb:lo / 2 ^ r * 2 ^ r=lo:=Nat.div_mul_cancel (Nat.dvd_of_mod_eq_zero hm)
   have hi:=(Qmy (Q:=lo / 2 ^ r) (n:=r) h).1
   have hf:t.ds.filter (fun p=>decide (p.1 / 2 ^ r=lo / 2 ^ r))=t.ds.filter (fun p=>decide (lo<=p.1/\p.1 < lo + 2 ^ r)):=by
    congr 1
    funext p
    congr 1
    rw [Bt.in_block,hb]
   rw [hf] at hi
   rw [← Qjv (show lo<=lo + 2 ^ r by lia) hc (Qjn h),← hi,← ih]
   cases e:insT (lo / 2 ^ r) r t with
   | none=>simp [e,dsO]
   | some s=>simp [e,dsO]
  ·rw [if_neg hc]
   exact Qmh h r lo e hm h2 (by lia)
theorem QnL {t:T} (h:Good t) {cs:List (Nat×Nat)}:∀ s∈cs.filterMap fun b=>insT b.1 b.2 t,Good s:=fun s hs=>by
 obtain ⟨b,_,hb⟩:=List.mem_filterMap.mp hs
 exact ((Qmy h).2 s hb).1
end Tr
namespace Tr
open DL
section
variable {τ:Type} (en:τ->D) (lone:Nat->D->τ) (join:τ->τ->τ)
def tv:T->τ
 | .lf a d=>lone a d
 | .nd _ _ l r=>join (tv l) (tv r)
def enc:T->D
 | .lf a d=>.tup [.int (a:Int),.int 1,en (lone a d),d]
 | .nd q k l r=>.tup [.int ((q * 2 ^ (k + 1):Nat):Int),.int ((2 ^ (k + 1):Nat):Int),en (join (tv lone join l) (tv lone join r)),enc l,enc r]
def encO:Option T->D
 | some t=>enc en lone join t
 | none=>.non
theorem QeL:∀ t:T,∃ r,enc en lone join t=.tup (.int (t.lo:Int)::.int (t.sz:Int)::en (tv lone join t)::r)
 | .lf a d=>⟨[d],by simp [enc,tv,T.lo,T.sz,T.q,T.e]⟩
 | .nd q k l r=>⟨_,rfl⟩
theorem Qq9 {l r:T} (h:l.lo < r.lo):enc en lone join (mk l r)=.tup [.int ((l.lo / 2 ^ Bt.bits (l.lo ^^^ r.lo) * 2 ^ Bt.bits (l.lo ^^^ r.lo):Nat):Int),.int ((2 ^ Bt.bits (l.lo ^^^ r.lo):Nat):Int),en (join (tv lone join l) (tv lone join r)),enc en lone join l,enc en lone join r]:=by
 have hp:=Bt.bits_pos h
 have e:Bt.bits (l.lo ^^^ r.lo) - 1 + 1=Bt.bits (l.lo ^^^ r.lo):=by lia
 show D.tup [.int ((l.lo / 2 ^ Bt.bits (l.lo ^^^ r.lo) * 2 ^ (Bt.bits (l.lo ^^^ r.lo) - 1 + 1):Nat):Int),.int ((2 ^ (Bt.bits (l.lo ^^^ r.lo) - 1 + 1):Nat):Int),_,_,_]=_
 rw [e]
theorem depth {t:T} (h:Good t):t.e<=30:=by
 refine Nat.le_of_not_lt fun z=>?_
 have u:=h.up
 have:(2:Nat) ^ 31<=2 ^ t.e:=Nat.pow_le_pow_right (by decide) z
 have h31:(2:Nat) ^ 31=2147483648:=by decide
 have:t.sz=2 ^ t.e:=rfl
 have:all=1073741824:=rfl
 lia
theorem QkB {q k:Nat} {l r:T} (G:Good (.nd q k l r)):Good l/\Good r/\l.e<=k/\r.e<=k/\l.lo + l.sz<=r.lo:=by
 cases G with
 | nd hl hr h1 h2 h3 h4 h5 =>
  have pk:=Nat.two_pow_pos k
  refine ⟨hl,hr,?_,?_,by lia⟩
  ·refine Nat.le_of_not_lt fun z=>?_
   have:=Nat.pow_lt_pow_right (a:=2) (by decide) z
   have:l.sz=2 ^ l.e:=rfl
   lia
  ·refine Nat.le_of_not_lt fun z=>?_
   have:=Nat.pow_lt_pow_right (a:=2) (by decide) z
   have:r.sz=2 ^ r.e:=rfl
   have:2 ^ (k + 1)=2 ^ k * 2:=Nat.pow_succ ..
   lia
end
end Tr
namespace Tr
open DL PySem
theorem Qgq {a:Nat} {d:D}:∀ l:List (Nat×D),(insK a d l).Perm ((a,d)::l)
 | []=>.refl _
 | p::l=>by
  simp only [insK]
  split
  ·exact .refl _
  ·exact ((Qgq l).cons p).trans (.swap ..)
def bkeys (al:List (Nat×D)):List L2.Key:=al.map fun p=>.inl (p.1:Int)
def dict (al:List (Nat×D)):D:=.dic (bkeys al) (al.map (·.2))
structure Book (al:List (Nat×D)) (o:Option T):Prop where
 good:match o with | some t=>Good t | none=>True
 perm:(dsO o).Perm al
theorem Book.sorted {al:List (Nat×D)} {o:Option T} (b:Book al o):(dsO o).Pairwise (fun x y=>x.1 < y.1):=by
 cases o with
 | none=>exact .nil
 | some t=>exact Qjn b.good
theorem Book.put {al:List (Nat×D)} {o:Option T} (b:Book al o) {a:Nat} {d:D} {t:T} (hg:Good t) (hd:t.ds=insK a d (dsO o)):Book (al++[(a,d)]) (some t):=by
 refine ⟨hg,?_⟩
 show t.ds.Perm _
 rw [hd]
 exact (Qgq _).trans ((b.perm.cons _).trans (List.perm_append_singleton ..).symm)
theorem Book.none_at {al:List (Nat×D)} {o:Option T} (b:Book al o) {a:Nat} (h:∀ p∈al,p.1≠a):∀ p∈dsO o,p.1≠a:=fun p hp=>h p (b.perm.mem_iff.mp hp)
end Tr
namespace Tr
open DL
theorem QkW {t:T} (h:Good t):∃ p r,t.ds=p::r/\t.lo<=p.1:=by
 cases e:t.ds with
 | nil=>exact absurd e (Qfo t)
 | cons p r=>exact ⟨p,r,rfl,(Q5 h p (by rw [e];exact List.mem_cons_self)).1⟩
theorem QkH {m:Nat}:∀ {a b a' b':List (Nat×D)},a++b=a'++b'->(∀ p∈a,p.1 < m)->(∀ p∈b,m<=p.1)->(∀ p∈a',p.1 < m)->(∀ p∈b',m<=p.1)->a=a'/\b=b'
 | [],b,[],b',h,_,_,_,_=>⟨rfl,by simpa using h⟩
 | [],b,x::a',b',h,_,hb,ha',_=>by
  have:x∈b:=by
   have h':b=x::(a'++b'):=by simpa using h
   rw [h'];exact List.mem_cons_self
  have:=hb x this
  have:=ha' x List.mem_cons_self
  lia
 | x::a,b,[],b',h,ha,_,_,hb'=>by
  have:x∈b':=by
   have h':x::(a++b)=b':=by simpa using h
   rw [← h'];exact List.mem_cons_self
  have:=hb' x this
  have:=ha x List.mem_cons_self
  lia
 | x::a,b,y::a',b',h,ha,hb,ha',hb'=>by
  have h1:x=y/\a++b=a'++b':=by simpa using h
  obtain ⟨rfl,h2⟩:=h1
  obtain ⟨e1,e2⟩:=QkH h2 (fun p hp=>ha p (List.mem_cons_of_mem _ hp)) hb (fun p hp=>ha' p (List.mem_cons_of_mem _ hp)) hb'
  exact ⟨by rw [e1],e2⟩
theorem QjU {q k q' k' x y:Nat} (h1:q * 2 ^ (k + 1)<=x) (h2:x < q * 2 ^ (k + 1) + 2 ^ k) (h3:q * 2 ^ (k + 1) + 2 ^ k<=y) (h4:y < q * 2 ^ (k + 1) + 2 ^ (k + 1))
  (g1:q' * 2 ^ (k' + 1)<=x) (g2:x < q' * 2 ^ (k' + 1) + 2 ^ k') (g3:q' * 2 ^ (k' + 1) + 2 ^ k'<=y) (g4:y < q' * 2 ^ (k' + 1) + 2 ^ (k' + 1)):q=q'/\k=k':=by
 have one:∀ {q k x y:Nat},q * 2 ^ (k + 1)<=x->x < q * 2 ^ (k + 1) + 2 ^ k->q * 2 ^ (k + 1) + 2 ^ k<=y->y < q * 2 ^ (k + 1) + 2 ^ (k + 1)->Bt.bits (x ^^^ y)=k + 1/\x / 2 ^ (k + 1)=q:=by
  intro q k x y h1 h2 h3 h4
  have pk:=Nat.two_pow_pos k
  have e2:2 ^ (k + 1)=2 ^ k * 2:=Nat.pow_succ ..
  have ek:q * 2 ^ (k + 1)=2 * q * 2 ^ k:=by rw [e2,Nat.mul_comm (2 ^ k) 2,← Nat.mul_assoc,Nat.mul_comm q 2]
  have b1:x / 2 ^ (k + 1)=q:=Bt.in_block.mpr ⟨h1,by lia⟩
  have b2:y / 2 ^ (k + 1)=q:=Bt.in_block.mpr ⟨by lia,h4⟩
  have b3:x / 2 ^ k=2 * q:=Bt.in_block.mpr ⟨by lia,by lia⟩
  have b4:y / 2 ^ k=2 * q + 1:=Bt.in_block.mpr ⟨by rw [Nat.add_mul];lia,by rw [Nat.add_mul];lia⟩
  have c1:Bt.bits (x ^^^ y)<=k + 1:=Bt.bits_le_iff.mpr (b1.trans b2.symm)
  have c2:¬ Bt.bits (x ^^^ y)<=k:=fun z=>by
   have:=Bt.bits_le_iff.mp z
   lia
  exact ⟨by lia,b1⟩
 obtain ⟨a1,a2⟩:=one h1 h2 h3 h4
 obtain ⟨a3,a4⟩:=one g1 g2 g3 g4
 obtain rfl:k=k':=by lia
 exact ⟨by rw [← a2,← a4],rfl⟩
theorem QhM:∀ {t t':T},Good t->Good t'->t.ds=t'.ds->t=t'
 | .lf a d,.lf b e,_,_,h=>by
  simp [T.ds] at h
  rw [h.1,h.2]
 | .lf a d,.nd q k l r,_,G',h=>by
  have hl:(T.nd q k l r).ds.length=1:=by rw [← h];rfl
  have e:(T.nd q k l r).ds=l.ds++r.ds:=rfl
  rw [e,List.length_append] at hl
  have:=List.length_pos_iff.mpr (Qfo l)
  have:=List.length_pos_iff.mpr (Qfo r)
  lia
 | .nd q k l r,.lf b e,G,_,h=>by
  have hl:(T.nd q k l r).ds.length=1:=by rw [h];rfl
  have e:(T.nd q k l r).ds=l.ds++r.ds:=rfl
  rw [e,List.length_append] at hl
  have:=List.length_pos_iff.mpr (Qfo l)
  have:=List.length_pos_iff.mpr (Qfo r)
  lia
 | .nd q k l r,.nd q' k' l' r',G,G',h=>by
  cases G with
  | nd hl hr h1 h2 h3 h4 h5 =>
   cases G' with
   | nd hl' hr' h1' h2' h3' h4' h5' =>
    have h:l.ds++r.ds=l'.ds++r'.ds:=h
    obtain ⟨x,rx,ex,_⟩:=QkW hl
    obtain ⟨x',rx',ex',_⟩:=QkW hl'
    have hx:x=x':=by
     rw [ex,ex'] at h
     simp only [List.cons_append,List.cons.injEq] at h
     exact h.1
    obtain ⟨ry,y,ey⟩:=snoc (Qfo r)
    obtain ⟨ry',y',ey'⟩:=snoc (Qfo r')
    have hy:y=y':=by
     rw [ey,ey',← List.append_assoc,← List.append_assoc] at h
     have:=(List.append_inj' h rfl).2
     simpa using this
    subst hx hy
    have a1:=Q5 hl x (by rw [ex];exact List.mem_cons_self)
    have a2:=Q5 hl' x (by rw [ex'];exact List.mem_cons_self)
    have b1:=Q5 hr y (by rw [ey];simp)
    have b2:=Q5 hr' y (by rw [ey'];simp)
    obtain ⟨rfl,rfl⟩:=QjU (q:=q) (k:=k) (q':=q') (k':=k') (x:=x.1) (y:=y.1) (by lia) (by lia) (by lia) (by lia) (by lia) (by lia) (by lia) (by lia)
    obtain ⟨e1,e2⟩:=QkH (m:=q * 2 ^ (k + 1) + 2 ^ k) h (fun p hp=>by have:=Q5 hl p hp;lia) (fun p hp=>by have:=Q5 hr p hp;lia) (fun p hp=>by have:=Q5 hl' p hp;lia) (fun p hp=>by have:=Q5 hr' p hp;lia)
    rw [QhM hl hl' e1,QhM hr hr' e2]
end Tr
namespace Tr
open DL
def QpY:Option T->Option T->Option T
 | none,r=>r
 | l,none=>l
 | some l,some r=>some (mk l r)
def out (a:Nat):T->Option (Option T)
 | .lf b _=>if a=b then some none else none
 | .nd q k l r=>if a < q * 2 ^ (k + 1)\/q * 2 ^ (k + 1) + 2 ^ (k + 1)<=a then none
  else if a < q * 2 ^ (k + 1) + 2 ^ k then (out a l).map fun l'=>QpY l' (some r) else (out a r).map fun r'=>QpY (some l) r'
def but (a:Nat) (l:List (Nat×D)):List (Nat×D):=l.filter fun p=>decide (p.1≠a)
structure OutOk (a:Nat) (t:T) (o:Option T):Prop where
 eq:out a t=some o
 good:∀ s,o=some s->Good s
 ds:dsO o=but a t.ds
 win:∀ s,o=some s->∀ Q n,Within t Q n->Within s Q n
end Tr
namespace DL
open PySem PySem.Spec PyProof.Rows L2
section
variable {X:Cx} {pins:List (Addr×Obj)} {σ:L2.St} {H H':Hp} {s:Shared} {a kS l q:Addr} {o:Obj} {g:Int->Int} {vs:List Value} {ns:List Int} {A:Around} {E:Value->Shared->Prop}
theorem Qhf (I:Inv X pins σ H s) (e:s.heap.get? a=some o) (h:∀ v,o.data≠.cell v):∀ x c,X.env.cells.lookup x=some c->c≠a:=fun x c z w=>by
 obtain ⟨v,ob,e1,e2⟩:=I.cell x c z
 rw [w,e] at e1;cases e1
 exact h v e2
theorem adopt {u:HO} (I:Inv X pins σ H s) (hn:H a=none) (h0:X.s₀.heap.objs.size<=a) (hL:a≠X.env.locals) (hc:∀ x c,X.env.cells.lookup x=some c->c≠a) (hp:∀ p∈X.pn++pins,p.1≠a)
  (new:ObjOk X.prog X.w (upd H a u) s.heap a u):Inv X pins σ (upd H a u) s:=by
 have ne:∀ {b v},H b=some v->b≠a:=fun {b v} e z=>by rw [z,hn] at e;cases e
 refine ⟨I.ok,I.os,I.bare,⟨I.base.keep,I.base.slot,fun b ob e n hx=>?_,I.base.there,fun b xs e=>?_,fun b ob v e=>?_,fun b ps e=>?_⟩,I.loc,I.cell,?_,fun x c e=>?_,fun p hq=>?_,fun b v e=>?_,I.len⟩
 ·rw [Qt (Nat.ne_of_lt (Nat.lt_of_lt_of_le (Heap.lt_size e) h0))]
  exact I.base.free b ob e n hx
 ·have:=I.base.tups b xs e
  rw [Qt (ne this)];exact this
 ·have:=I.base.frzs b ob v e
  rw [Qt (ne this)];exact this
 ·obtain ⟨more,this⟩:=I.base.tbls b ps e
  exact ⟨more,by rw [Qt (ne this)];exact this⟩
 ·rw [Qt (Ne.symm hL)];exact I.free
 ·rw [Qt (hc x c e)];exact I.freeC x c e
 ·obtain ⟨h1,h2,h3⟩:=I.pin p hq
  exact ⟨h1,by rw [Qt (hp p hq)];exact h2,h3⟩
 ·by_cases hb:b=a
  ·subst hb
   rw [QH] at e;cases e
   exact new
  ·rw [Qt hb] at e
   exact (I.hok b v e).stay (fun _ _ _ z=>z) (fun c z=>by rw [Qt (ne z)];exact z) fun c xs z=>by rw [Qt (ne z)];exact z
def KeyC (X:Cx) (A:Around) (pins:List (Addr×Obj)) (σ:L2.St) (H:Hp) (f:Value) (ns:List Int) (g:Int->Int):Prop :=
 ∀ (pl:List (Addr×Obj)) (s':Shared) (H':Hp) (i:Int) (t:Tok),i∈ns->Same H H'->Inv X (pins++pl) σ H' s' ->
  wpAny (model X.prog X.w) A (call f [.int i t]) (fun v s2=>(∃ t',v=.int (g i) t')/\∃ H2,Same H' H2/\Inv X (pins++pl) σ H2 s2) (fun _ _=>False) s'
theorem QmD:∀ {us:List Value} {ms:List Int},IntsAre us ms->∀ {j:Nat} {x:Value},us[j]? = some x->∃ n t,ms[j]? = some n/\x=.int n t
 | _,_,.nil,j,x,h=>by simp at h
 | _,_,.cons n t r,j,x,h=>by
  cases j with
  | zero=>simp only [List.getElem?_cons_zero,Option.some.injEq] at h ⊢;exact ⟨n,t,rfl,h.symm⟩
  | succ j=>simp only [List.getElem?_cons_succ] at h ⊢;exact QmD r h
theorem QnR {f:Value} {b:Bool} {e1:Nat} {Q:PySem.Fin->Shared->Prop} (I:Inv X (pins++[(kS,seqObj "list" #[] 0),(a,seqObj "list" #[] e1)]) σ H s) (hka:kS≠a)
  (hk0:X.s₀.heap.objs.size<=kS) (ha0:X.s₀.heap.objs.size<=a) (hpk:∀ p∈X.pn++pins,p.1≠kS) (hpa:∀ p∈X.pn++pins,p.1≠a) (hv:IntsAre vs ns) (h64:ns.length < 64) (key:KeyC X A pins σ H f ns g)
  (h:∀ s2 H2 out c,Same H H2->Inv X pins σ H2 s2->s2.heap.get? a=some (seqObj "list" out c)->H2 a=none->KskOut b (ns.map g) vs out.toList->Q (.done (.ret .none)) s2) :
  wpAny (model X.prog X.w) A (ksk_rest a f b vs.toArray e1 (.ref kS)) Q E s:=by
 have hlen:=hv.length
 unfold ksk_rest
 refine wpAny_bind (wpAny_rule ?_)
 first
  | rw [List.forIn_toArray]
  | (rw [← Array.forIn_toList];simp only [List.toList_toArray])
  | rw [← Array.forIn_toList]
 refine wpAny_bind (ksk_fold (fun i s2=>∃ H2 kA e,Same H H2/\Inv X (pins++[(kS,seqObj "list" kA e),(a,seqObj "list" #[] e1)]) σ H2 s2/\IntsAre kA.toList ((ns.map g).take i)) vs 0 s
  ⟨H,#[],0,.refl H,I,by simpa using IntsAre.nil⟩ ?step ?done)
 case step =>
  rintro j x s2 hx ⟨H2,kA,e,S2,I2,hk⟩
  rw [Nat.zero_add] at hk ⊢
  obtain ⟨n,t,hn,rfl⟩:=QmD hv hx
  have hj:j < ns.length:=(List.getElem?_eq_some_iff.mp hn).1
  have hz:kA.size<=64:=by
   have h1:=hk.length
   rw [Array.length_toList,List.length_take,List.length_map] at h1
   omega
  refine wpAny_bind (wpAny_attempt (wpAny_mono (key _ s2 H2 n t (List.mem_of_getElem? hn) S2 I2) (fun v s3 hw=>?_) fun _ _ hF=>hF.elim))
  obtain ⟨⟨t3,rfl⟩,H3,S3,I3⟩:=hw
  try dsimp only
  obtain ⟨nk,nkH,nkL,nkf,nkc⟩:=I3.pin (kS,seqObj "list" kA e) (by simp)
  obtain ⟨na,naH,naL,naf,nac⟩:=I3.pin (a,seqObj "list" #[] e1) (by simp)
  have s1:=Heap.SameBut.update s3.heap kS (Obj.mapSeq (·.push (.int (g n) t3)))
  obtain ⟨c2,hc2⟩:∃ c2,(s3.heap.update kS (Obj.mapSeq (·.push (.int (g n) t3)))).get? kS=some (seqObj "list" (kA.push (.int (g n) t3)) c2):=⟨_,get?_update_seq nk (·.push (.int (g n) t3))⟩
  have e2:(ns.map g).take (j + 1)=(ns.map g).take j++[g n]:=by rw [List.take_add_one,List.getElem?_map,hn];simp
  have I4:Inv X pins σ H3 s3:=I3.unpinned
  have I5:=I4.turned (t':=s3.toks) (h':=s3.heap.update kS (Obj.mapSeq (·.push (.int (g n) t3)))) (it:=kS) (fun b o hb q=>(s1.2 b hb).trans q) nkH nkL (.inr hk0) (Qhf I4 nk nkc) hpk
  refine wpAny_bind (listUpdate_at nk rfl ?_ (by rw [sizeLine_eq];omega) (Nat.le_trans (Nat.le_of_eq (Array.size_push ..)) (by rw [sizeLine_eq];omega)))
  refine wpAny_pure ⟨rfl,H3,kA.push (.int (g n) t3),c2,S2.trans S3,?_,?_⟩
  ·refine I5.pins_of fun p hp=>?_
   rcases List.mem_append.mp hp with hp | hp
   ·exact I5.pin p (List.mem_append_right _ hp)
   ·rcases List.mem_cons.mp hp with rfl | hp
    ·exact ⟨hc2,nkH,nkL,nkf,fun v z=>by cases z⟩
    ·rw [List.mem_singleton.mp hp]
     exact ⟨(s1.2 a hka.symm).trans na,naH,naL,naf,nac⟩
  ·rw [Array.toList_push,e2]
   exact ksk_snoc hk
 case done =>
  rintro s2 ⟨H2,kA,e,S2,I2,hk⟩
  have hk':IntsAre kA.toList (ns.map g):=by
   have e3:(ns.map g).take (0 + vs.length)=ns.map g:=List.take_of_length_le (by rw [List.length_map];omega)
   rw [e3] at hk
   exact hk
  obtain ⟨nk,nkH,nkL,nkf,nkc⟩:=I2.pin (kS,seqObj "list" kA e) (by simp)
  obtain ⟨na,naH,naL,naf,nac⟩:=I2.pin (a,seqObj "list" #[] e1) (by simp)
  have I4:Inv X pins σ H2 s2:=I2.unpinned
  obtain ⟨m,hns,_⟩:=id I4.loc
  have mem:∀ {b:Addr} {o:Obj},(b,o)∈(Att.ledger s2.heap X.env.locals kS).filter (fun p=>decide (p.1≠a)) ↔ (b≠X.env.locals/\b≠kS/\s2.heap.get? b=some o)/\b≠a:=fun {b o}=>by
   rw [List.mem_filter,Att.mem_ledger,decide_eq_true_iff]
  have N:News (Att.noObjs s2.heap) X.env.locals s2.heap ((Att.ledger s2.heap X.env.locals kS).filter (fun p=>decide (p.1≠a))++[(kS,seqObj "list" kA e),(a,seqObj "list" #[] e1)]):=by
   rintro ⟨b,o⟩ hp
   rcases List.mem_append.mp hp with hp | hp
   ·obtain ⟨⟨h1,h2,h3⟩,h4⟩:=mem.mp hp
    exact ⟨h3,h1,Att.noObjs_get _ _⟩
   ·rcases List.mem_cons.mp hp with z | hp
    ·cases z
     exact ⟨nk,nkL,Att.noObjs_get _ _⟩
    ·cases List.mem_singleton.mp hp
     exact ⟨na,naL,Att.noObjs_get _ _⟩
  refine wpAny_bind (listItems_at nk rfl ?_)
  refine ksk_end_ (b:=b) (vs:=vs) (Att.fr_all hns) N hka (fun ⟨b,o⟩ hp=>(mem.mp hp).1.2.1) (fun ⟨b,o⟩ hp=>(mem.mp hp).2) hk' (by rw [List.length_map];omega) (by omega) fun h3 tk out c F3 N3 hout=>?_
  have kp:∀ b o,b≠X.env.locals->b ∉ [kS,a]->s2.heap.get? b=some o->h3.get? b=some o:=fun b o n1 n2 z=>by
   have n3:b≠kS/\b≠a:=by simpa using n2
   exact (N3 (b,o) (List.mem_cons_of_mem _ (mem.mpr ⟨⟨n1,n3.1,z⟩,n3.2⟩))).1
  have nsl:∀ m',s2.heap.Ns X.env.locals m'->h3.Ns X.env.locals m':=fun m' z=>by
   rw [z.eq_nsMap,← hns.eq_nsMap]
   exact F3.ns
  have nt:∀ {b v},H2 b=some v->b≠X.env.locals/\b ∉ [kS,a]:=fun {b v} z=>by
   refine ⟨fun w=>?_,fun w=>?_⟩
   ·rw [w,I4.free] at z;cases z
   ·rcases List.mem_cons.mp w with w | w
    ·rw [w,nkH] at z;cases z
    ·rw [List.mem_singleton.mp w,naH] at z;cases z
  refine h _ H2 out c S2 (I4.step (g':=s2.gens) (d':=s2.drawn) (t':=tk) (h':=h3) (H':=H2) (ch:=[kS,a]) (fun b hb=>?_) (fun b o n1 _ n2 z _=>kp b o n1 n2 z) (fun b o n1 _ n2 z _=>⟨o.slots,kp b o n1 n2 z⟩) (fun _ _ _ _ z=>z)
   (fun b o n2 z=>?_) (fun _ _ z=>z) (fun _ _ _ z=>z) (fun b ps z=>⟨#[],by rw [z];simp⟩) nsl (fun b v z=>?_) I4.bare) (N3 (a,seqObj "list" out c) (List.mem_cons_self ..)).1 naH hout
  ·rcases List.mem_cons.mp hb with w | w
   ·rw [w];exact ⟨.inr hk0,nkL,Qhf I4 nk nkc,hpk⟩
   ·rw [List.mem_singleton.mp w];exact ⟨.inr ha0,naL,Qhf I4 na nac,hpa⟩
  ·by_cases w:b=X.env.locals
   ·subst w
    obtain ⟨o',_,_,z',_⟩:=F3.ns
    exact ⟨o',z'⟩
   ·exact ⟨o,kp b o w n2 z⟩
  ·refine (I4.hok b v z).stay (fun b' u w y=>?_) (fun _ w=>w) fun _ _ w=>w
   have:=nt z
   rcases w with w | w
   ·rw [w] at y ⊢;exact kp b u this.1 this.2 y
   ·exact kp b' u (nt w).1 (nt w).2 y
def vInt:Value->Int
 | .int n _=>n
 | _=>0
theorem Qlh:∀ {us:List Value} {ms:List Int},IntsAre us ms->us.map vInt=ms
 | _,_,.nil=>rfl
 | _,_,.cons n t r=>by rw [List.map_cons,Qlh r];rfl
theorem QkU:∀ {us:List Value} {ms:List Int},IntsAre us ms->∀ v∈us,∃ n t,v=Value.int n t
 | _,_,.nil,v,h=>by cases h
 | _,_,.cons n t r,v,h=>by
  rcases List.mem_cons.mp h with rfl | h
  ·exact ⟨n,t,rfl⟩
  ·exact QkU r v h
theorem Qmn:∀ {us:List Value},(∀ v∈us,∃ n t,v=Value.int n t)->IntsAre us (us.map vInt)
 | [],_=>.nil
 | u::us,h=>by
  obtain ⟨n,t,rfl⟩:=h u (List.mem_cons_self ..)
  exact .cons n t (Qmn fun v hv=>h v (List.mem_cons_of_mem _ hv))
theorem QkN {us:List Value} (p:us.Perm vs) (hv:IntsAre vs ns):∃ ms,IntsAre us ms/\ms.Perm ns :=
 ⟨us.map vInt,Qmn fun v h=>QkU hv v (p.mem_iff.mp h),by rw [← Qlh hv];exact p.map vInt⟩
theorem Ql3 {Q:Value->Shared->Prop} (I:Inv X pins σ H s) (hl:s.heap.IsList l vs.toArray) (hv:IntsAre vs ns) (h64:ns.length < 64) (key:KeyC X X.A.in1.in1 pins σ H (.ref q) ns g)
  (h:∀ (D:Addr) (H2:Hp) (s2:Shared) (out:List Int),Same H H2->H D=none->H2 D=none->Inv X pins σ (upd H2 D (.lst (out.map V.int))) s2->out.Perm ns->Q (.ref D) s2) :
  wpAny (model X.prog X.w) X.A (call (.builtin "sorted") [.ref l] [(Str.ofString "key",.ref q)]) Q E s:=by
 have hlen:=hv.length
 have hz:vs.length<=sizeLine:=by rw [sizeLine_eq];omega
 refine call_function_entry_kw kind_sorted plain_sorted entry_sorted (ksk_s1 _ _) ?_
 unfold Builtin.«sorted»
 refine wpAny_bind (m:=checkCount "sorted" 1 1 _) (wpAny_pure (wpAny_bind (collect_list hl ?_ hz)))
 refine wpAny_bind (wpAny_newList ?_ hz)
 have hsz:((s.heap.push (seqObj "list" #[] 0)).update s.heap.objs.size (Obj.mapSeq (·++vs.toArray))).objs.size=s.heap.objs.size + 1:=(Heap.size_update ..).trans (size_push' ..)
 generalize hg1:(s.heap.push (seqObj "list" #[] 0)).update s.heap.objs.size (Obj.mapSeq (·++vs.toArray))=g1 at hsz ⊢
 have k1:∀ b o,s.heap.get? b=some o->g1.get? b=some o:=fun b o z=>by
  have hlt:b < s.heap.objs.size:=Heap.lt_size z
  rw [← hg1,Heap.get?_update_ne _ _ _ _ (Nat.ne_of_lt hlt),Heap.get?_push_ne _ _ _ (Nat.ne_of_lt hlt)];exact z
 show wpAny _ _ _ _ _ { s with heap:=g1.push (seqObj "list" vs.toArray 0) }
 have ho2:(g1.push (seqObj "list" vs.toArray 0)).get? g1.objs.size=some (seqObj "list" vs.toArray 0):=Heap.get?_push_size _ rfl
 have z2:(g1.push (seqObj "list" vs.toArray 0)).objs.size=s.heap.objs.size + 2:=by rw [size_push',hsz]
 have k2:∀ b o,s.heap.get? b=some o->(g1.push (seqObj "list" vs.toArray 0)).get? b=some o:=fun b o z=>Heap.get?_push_of_some _ (k1 b o z)
 rw [hsz] at ho2 ⊢
 generalize g1.push (seqObj "list" vs.toArray 0)=g2 at ho2 z2 k2 ⊢
 refine wpAny_bind (wpAny_holding (wpAny_call_entry_kw slot_list_sort ⟨_,ho2,rfl⟩ entry_list_sort ?body (ksk_l1 _ _)))
 case body =>
  rw [ksk_t1]
  unfold ksk_tree
  have s1:=Heap.SameBut.update g2 (s.heap.objs.size + 1) (Obj.mapSeq fun _=>(#[]:Array Value))
  obtain ⟨e1,ho3⟩:∃ e1,(g2.update (s.heap.objs.size + 1) (Obj.mapSeq fun _=>(#[]:Array Value))).get? (s.heap.objs.size + 1)=some (seqObj "list" #[] e1):=⟨_,get?_update_seq ho2 fun _=>#[]⟩
  have z3:(g2.update (s.heap.objs.size + 1) (Obj.mapSeq fun _=>(#[]:Array Value))).objs.size=s.heap.objs.size + 2:=(Heap.size_update ..).trans z2
  have k3:∀ b o,s.heap.get? b=some o->(g2.update (s.heap.objs.size + 1) (Obj.mapSeq fun _=>(#[]:Array Value))).get? b=some o:=fun b o z =>
   (s1.2 b (Nat.ne_of_lt (Nat.lt_succ_of_lt (Heap.lt_size z)))).trans (k2 b o z)
  refine wpAny_bind (listItems_at ho2 rfl (wpAny_bind (listUpdate_at ho2 rfl ?_ (by rw [List.size_toArray];exact hz) (Nat.zero_le _))))
  generalize g2.update (s.heap.objs.size + 1) (Obj.mapSeq fun _=>(#[]:Array Value))=g3 at ho3 z3 k3 ⊢
  refine wpAny_bind (seqEpoch_at ho3 rfl (wpAny_bind (wpAny_newTuple ?_ (by show vs.length<=_;exact hz))))
  refine wpAny_bind (wpAny_newList ?_ (Nat.zero_le _))
  refine wpAny_holding ?_
  have ho5:((g3.push (seqObj "tuple" vs.toArray 0)).push (seqObj "list" #[] 0)).get? (g3.push (seqObj "tuple" vs.toArray 0)).objs.size=some (seqObj "list" #[] 0):=Heap.get?_push_size _ rfl
  have ho4:((g3.push (seqObj "tuple" vs.toArray 0)).push (seqObj "list" #[] 0)).get? (s.heap.objs.size + 1)=some (seqObj "list" #[] e1):=Heap.get?_push_of_some _ (Heap.get?_push_of_some _ ho3)
  have k4:∀ b o,s.heap.get? b=some o->((g3.push (seqObj "tuple" vs.toArray 0)).push (seqObj "list" #[] 0)).get? b=some o:=fun b o z=>Heap.get?_push_of_some _ (Heap.get?_push_of_some _ (k3 b o z))
  have z4:(g3.push (seqObj "tuple" vs.toArray 0)).objs.size=s.heap.objs.size + 3:=by rw [size_push',z3]
  show wpAny _ _ (ksk_rest _ _ _ _ _ (.ref (g3.push (seqObj "tuple" vs.toArray 0)).objs.size)) _ _ { s with heap:=(g3.push (seqObj "tuple" vs.toArray 0)).push (seqObj "list" #[] 0) }
  rw [z4] at ho5 ⊢
  generalize (g3.push (seqObj "tuple" vs.toArray 0)).push (seqObj "list" #[] 0)=g4 at ho5 ho4 k4 ⊢
  have I4:Inv X pins σ H { s with heap:=g4 }:=I.kept (t':=s.toks) k4
  have nw:∀ {d:Nat},s.heap.objs.size<=d->H d=none/\d≠X.env.locals/\d ∉ X.fs:=fun hd=>⟨I.hok.fresh hd,Nat.ne_of_gt (Nat.lt_of_lt_of_le I.lt hd),I.nofs hd⟩
  have np:∀ {d:Nat},s.heap.objs.size<=d->∀ p∈X.pn++pins,p.1≠d:=fun hd p hp=>Nat.ne_of_lt (Nat.lt_of_lt_of_le (Heap.lt_size (I.pin p hp).1) hd)
  have I5:Inv X (pins++[(s.heap.objs.size + 3,seqObj "list" #[] 0),(s.heap.objs.size + 1,seqObj "list" #[] e1)]) σ H { s with heap:=g4 }:=I4.pins_of fun p hp=>by
   rcases List.mem_append.mp hp with hp | hp
   ·exact I4.pin p (List.mem_append_right _ hp)
   ·rcases List.mem_cons.mp hp with rfl | hp
    ·exact ⟨ho5,(nw (Nat.le_add_right _ _)).1,(nw (Nat.le_add_right _ _)).2.1,(nw (Nat.le_add_right _ _)).2.2,fun v z=>by cases z⟩
    ·rw [List.mem_singleton.mp hp]
     exact ⟨ho4,(nw (Nat.le_add_right _ _)).1,(nw (Nat.le_add_right _ _)).2.1,(nw (Nat.le_add_right _ _)).2.2,fun v z=>by cases z⟩
  refine QnR (a:=s.heap.objs.size + 1) (kS:=s.heap.objs.size + 3) I5 (Nat.ne_of_gt (Nat.add_lt_add_left (by decide:1 < 3) _)) (Nat.le_trans I.sz (Nat.le_add_right _ _)) (Nat.le_trans I.sz (Nat.le_add_right _ _)) (np (Nat.le_add_right _ _)) (np (Nat.le_add_right _ _)) hv h64 key
   fun s2 H2 out c S2 I2 e2 n2 hout=>⟨_,rfl,?_⟩
  obtain ⟨ps,p1,p2,_⟩:=hout
  have pp:out.toList.Perm vs:=by
   rw [p2]
   refine (p1.map Prod.snd).trans ?_
   rw [List.map_snd_zip (by rw [List.length_map];omega)]
  obtain ⟨ms,m1,m2⟩:=QkN pp hv
  refine wpAny_pure ⟨_,rfl,h _ H2 s2 ms S2 (nw (Nat.le_add_right _ _)).1 n2 (adopt I2 n2 (Nat.le_trans I.sz (Nat.le_add_right _ _)) (nw (Nat.le_add_right _ _)).2.1 (Qhf I2 e2 fun v z=>by cases z) (np (Nat.le_add_right _ _)) ?_) m2⟩
  exact ⟨by rw [List.length_map,m2.length_eq,sizeLine_eq];omega,out.toList,c,QgA m1,e2⟩
end
end DL
namespace DL
open PySem PySem.Spec PyProof.Rows L2
def QmF (X:Cx) (A:Around) (p y:Str) (qual:Str) (sc:Scope) (f:Addr) (cd:Value) (c:Addr) (s:Shared) (H:Hp):Cx where
 prog:=X.prog
 w:=X.w
 K:=X.K
 mg:=X.mg
 base:=X.base
 A:=A.deeper (PySem.W.envX qual sc s.heap.objs.size f cd [(y,c)])
 N:=[p,y]
 s₀:=s
 H₀:=H
 env:=PySem.W.envX qual sc s.heap.objs.size f cd [(y,c)]
 outer:=X.stack
 stack:=PySem.W.envX qual sc s.heap.objs.size f cd [(y,c)]::X.stack
 ex:=[]
 fn:=fun _=>false
 calm:=true
 pn:=[]
 xe:=fun _ _=>False
def QfF (c:Addr) (qual:Str):Heap->Prop:=fun h=>h.CodeRec (.ref c) qual
def Tab (P:Addr) (lp:Pos) (qual:Str) (H:Hp):Prop :=
 ∃ ps,H P=some (.tbl ps)/\TriplesOk ps.toList/\(codeAmong lp ps.toList=none\/∃ c,codeAmong lp ps.toList=some (.ref c)/\H c=some (.ext (QfF c qual)))
structure LamB (mg:Str->Option Value) (base:Heap) (c P:Addr):Prop where
 code:PySem.W.CodeHd base c P
 blt:base.BuiltinsAt mg P
 ne:mainGlobals≠P
def SameT (P:Addr) (H H':Hp):Prop:=∀ b o,b≠P->H b=some o->H' b=some o
structure LamSc (p y:Str) (sc:Scope):Prop where
 kind:sc.kind=.function
 co:sc.isCoroutine=false
 gen:sc.isGenerator=false
 nocell:∀ x∈sc.names,x.2≠.cell
 loc:sc.names.lookup p=some .local
 free:sc.names.lookup y=some .free
 only:∀ x∈sc.names,x.2=.free->x.1=y
section
variable {X:Cx} {A:Around} {pins:List (Addr×Obj)} {σ:L2.St} {H:Hp} {s:Shared} {p y qual:Str} {sc:Scope} {f c:Addr} {cd:Value}
theorem QmS {i:Int} {t:Tok} {v:V} {u:Value} {h1:Heap} {tk:Nat} (S:LamSc p y sc) (I:Inv X pins σ H s) (hd:A.handled=none) (hA:A.frames=some X.stack) (hc:X.env.cells.lookup y=some c)
  (hu:s.heap.IsCell c (some u)) (r:RelV v u) (hns:h1.Ns s.heap.objs.size (fun x=>([(p,Value.int i t)]:List (Str×Value)).reverse.lookup x)) (hk:∀ b o,s.heap.get? b=some o->h1.get? b=some o) :
  Inv (QmF X A p y qual sc f cd c s H) [] [some (.int i),some v] H { s with heap:=h1,toks:=tk }:=by
 have one:∀ {x:Str} {c':Addr},([(y,c)]:List (Str×Addr)).lookup x=some c'->x=y/\c'=c:=fun {x c'} e=>by
  rw [List.lookup_cons] at e
  cases hb:x == y with
  | true=>rw [hb] at e;cases e;exact ⟨eq_of_beq hb,rfl⟩
  | false=>rw [hb] at e;cases e
 have cell:h1.IsCell c (some u):=let ⟨o,e1,e2⟩:=hu;⟨o,hk _ _ e1,e2⟩
 have noA:∀ b:Addr,b ∉ ([]:List Addr):=fun b z=>nomatch z
 have ly:([(y,c)]:List (Str×Addr)).lookup y=some c:=by rw [List.lookup_cons,beq_self_eq_true]
 refine ⟨⟨I.ok.mod,S.kind,rfl,rfl,Nat.le_refl _,fun a b c' e1 e2=>(one e1).1.trans (one e2).1.symm,fun x hx=>?_,fun x c' e=>absurd e Bool.false_ne_true,fun _=>hd,Around.frames_deeper hA,.inr ⟨rfl,rfl⟩,fun b z=>absurd z (noA b),fun b o e=>I.bs b o e,
  Nat.le_trans I.ok.bsz I.sz,fun b _ _=>noA b,fun b z=>absurd z (noA b),I.stack,I.stkFree⟩,rfl,I.bare,Un.kept hk,⟨_,hns,fun j x v' e1 e2 e3=>?_⟩,fun x c' e=>?_,I.hok.fresh (Nat.le_refl _),fun x c' e=>?_,(fun q hq=>by cases hq),I.hok.kept hk,rfl⟩
 ·have hx':sc.names.lookup x=some .cell\/sc.names.lookup x=some .free:=hx
  rcases hx' with z | z
  ·exact absurd rfl (S.nocell _ (PySem.mem_of_lookup z))
  ·have:x=y:=S.only _ (PySem.mem_of_lookup z) rfl
   subst this
   exact ⟨c,ly⟩
 ·have e1':([p,y]:List Str)[j]? = some x:=e1
  match j,e1',e2 with
  | 0,e1',e2 =>
   cases e1'
   cases e2
   exact ⟨.int i t,⟨t,rfl⟩,.inl ⟨S.loc,by simp⟩⟩
  | 1,e1',e2 =>
   cases e1'
   cases e2
   exact ⟨u,r,.inr ⟨.inr S.free,c,ly,cell⟩⟩
 ·obtain ⟨rfl,rfl⟩:=one e
  exact ⟨_,cell⟩
 ·obtain ⟨rfl,rfl⟩:=one e
  exact I.freeC _ _ hc
theorem Qpx {name:Str} {params:Arguments} {body:Expr} {mv ctv:Value} {c':Addr} {ns:List Int} {iy:Nat} {v:V} {d:D} {B:Addr->Prop} {fb:Fn} {g:Int->Int} (S:LamSc p y sc) (hd:A.handled=none) (hA:A.frames=some X.stack) (hroom:A.depth < recursionLimit)
  (hf:(f,PySem.W.kla_obj name qual params body sc [(y,c)] mv c' ctv)∈pins) (hco:H c'=some (.ext (QfF c' qual)))
  (hc:X.env.cells.lookup y=some c) (hyN:X.N[iy]? = some y) (hyk:X.env.scope.names.lookup y=some .cell) (hσ:σ[iy]? = some (some v)) (hrep:Rep X.K B H d v)
  (hbind:∀ u:Value,bindArgs (PySem.W.kla_fn name qual params body sc [(y,c)] mv (.ref c') ctv) ⟨[u],[]⟩=pure [(p,u)])
  (hb:∀ (s':Shared) (H':Hp),PE (QmF X A p y qual sc f (.ref c') c s' H') body (tX X.K E0 .W fb)) (hg:∀ i∈ns,fb [.val (.int i),.val d]=.ok (.int (g i))) :
  KeyC X A pins σ H (.ref f) ns g:=by
 intro pl s' H' i t hi hS I
 have pf:=(I.pin _ (List.mem_append_right _ (List.mem_append_left _ hf))).1
 have pc:s'.heap.CodeRec (.ref c') qual:=(I.hok c' _ (hS _ _ hco)).1
 obtain ⟨m,hm,hl⟩:=id I.loc
 obtain ⟨u,ru,hlk⟩:=hl iy y v hyN hσ (.inr (.inl hyk))
 have hcell:s'.heap.IsCell c (some u):=by
  rcases hlk with ⟨z,_⟩ | ⟨_,c2,z,w⟩
  ·have z':X.env.scope.names.lookup y=some .local:=z
   rw [hyk] at z';cases z'
  ·rw [hc] at z;cases z
   exact w
 refine wpAny_call (PySem.W.kla_callFunE hroom pf rfl S.co S.gen rfl pc ?_)
 rw [hbind]
 refine wpAny_pure (wpAny_newFunctionEnv S.nocell (fun x hx=>by rw [List.mem_singleton.mp hx];exact S.loc) (fun h1 hns hsb=>?_) S.kind)
 have hk1:∀ b o,s'.heap.get? b=some o->h1.get? b=some o:=fun b o e=>hsb.extBut b o (Nat.ne_of_lt (Heap.lt_size e)) (Heap.get?_push_of_some _ e)
 refine ⟨I.nolimit.keeps hk1,PySem.W.kla_codeExpr ?_⟩
 have J:=QmS (A:=A) (p:=p) (qual:=qual) (sc:=sc) (f:=f) (cd:=.ref c') (tk:=s'.toks + 1) S I hd hA hc hcell ru hns hk1
 have hr:Reps X.K B H' [.int i,d] [.int i,v]:=⟨.int i,[v],rfl,rfl,v,[],rfl,hrep.same hS,rfl⟩
 have ab:=Qe7 (N:=[p,y]) hr (Nat.le_refl _)
 refine wpAny_mono (hb s' H' [] _ _ H' (fun v2 H2=>v2=.int (g i)/\Same H' H2) J ⟨_,_,rfl,ab,?_⟩) (fun u2 s2 h2=>?_) fun _ _ h2=>h2.elim
 ·show Res X.K E0 _ (fb [.val (.int i),.val d]) _
  rw [hg i hi]
  intro v2 H2 e2 q2
  exact ⟨q2,e2⟩
 ·obtain ⟨v2,H2,J2,r2,rfl,e2⟩:=h2
  obtain ⟨t2,rfl⟩:=r2
  exact ⟨⟨t2,rfl⟩,H2,e2,I.call' J2.os J2.base J2.hok J2.bare fun b z=>nomatch z⟩
theorem Qpz {c':Addr} {h:Heap} (x:h.CodeRec (.ref c') qual):ObjOk X.prog X.w H h c' (.ext (QfF c' qual)):=by
 obtain ⟨c2,o,vs,t,e,g1,g2⟩:=id x
 cases e
 refine ⟨x,⟨o,g1⟩,fun h1 h2 x1 k=>?_⟩
 obtain ⟨c2,o',vs',t',e,y1,y2⟩:=x1
 cases e
 exact ⟨c',o',vs',t',rfl,k o' y1,y2⟩
theorem Qog {M:Model} {A':Around} {E:Value->Shared->Prop} {Q:Value->Shared->Prop} {c0 P:Addr} {params:Arguments} {body:Expr} {lp:Pos} {cl:List (Str×Addr)} (L:LamB X.mg X.base c0 P) (hcode:X.env.code=.ref c0) (hT:Tab P lp (X.env.qual++"<lambda>") H) (I:Inv X pins σ H s)
  (hcl:closureFor sc X.env=pure cl) (hdef:defaultsOf params X.env=([],[]))
  (h:∀ (f c':Addr) (ctv mv:Value) (H1:Hp) (s1:Shared),SameT P H H1->Tab P lp (X.env.qual++"<lambda>") H1->H1 c'=some (.ext (QfF c' (X.env.qual++"<lambda>")))->Inv X pins σ H1 s1->s.heap.objs.size<=f->H1 f=none ->
   s1.heap.get? f=some (PySem.W.kla_obj "<lambda>" (X.env.qual++"<lambda>") params body sc cl mv c' ctv)->Q (.ref f) s1) :
  wpAny M A' (eval (.Lambda params body sc lp) X.env) Q E s:=by
 obtain ⟨ps,hP,ht,hn⟩:=hT
 have hPo:s.heap.get? P=some (PySem.W.tabObj ps):=I.hok P _ hP
 have hbs:s.heap.BuiltinsAt X.mg P:=let ⟨bm,o,b1,b2,b3,b4,b5,b6⟩:=L.blt;⟨bm,o,b1,b2,b3,b4,I.bk _ _ b5,b6⟩
 have hgs:s.heap.Ns mainGlobals X.mg:=let ⟨o,es,ep,e,r⟩:=I.ok.mod.glob;⟨o,es,ep,I.bk _ _ e,r⟩
 have hC:=L.code.keeps I.bk
 refine PySem.W.kla_eval hdef ?_
 rcases hn with hn | ⟨c',hn,hc'⟩
 ·refine PySem.W.kla_makeFunction (mg:=X.mg) hcl I.ok.glob hgs hcode hC hPo ht hn L.ne hbs fun c' ctv h' tk hx hge hlt hrec htb=>?_
  have neP:∀ {b v},H b=some v->(∀ qs,v≠.tbl qs)->b≠P:=fun {b v} e z w=>by rw [w,hP] at e;cases e;exact z _ rfl
  have nec:∀ {b v},H b=some v->b≠c':=fun {b v} e=>Nat.ne_of_lt (Nat.lt_of_lt_of_le (I.hok.lt e) hge)
  have hPc:P≠c':=nec hP
  have e1:upd (upd H P (.tbl (ps++#[rawInt lp.line,rawInt lp.col,.ref c']))) c' (.ext (QfF c' (X.env.qual++"<lambda>"))) P=some (.tbl (ps++#[rawInt lp.line,rawInt lp.col,.ref c'])):=by rw [Qt hPc,QH]
  have oth:∀ {b:Addr},b≠P->b≠c'->upd (upd H P (.tbl (ps++#[rawInt lp.line,rawInt lp.col,.ref c']))) c' (.ext (QfF c' (X.env.qual++"<lambda>"))) b=H b:=fun {b} h1 h2=>by rw [Qt h2,Qt h1]
  have ltc:∀ {b o},s.heap.get? b=some o->b≠c':=fun {b o} e=>Nat.ne_of_lt (Nat.lt_of_lt_of_le (Heap.lt_size e) hge)
  have nP:∀ {b},H b=none->b≠P:=fun {b} e w=>by rw [w,hP] at e;cases e
  have J:Inv X pins σ (upd (upd H P (.tbl (ps++#[rawInt lp.line,rawInt lp.col,.ref c']))) c' (.ext (QfF c' (X.env.qual++"<lambda>")))) { s with heap:=h',toks:=tk }:=by
   refine I.step (g':=s.gens) (d':=s.drawn) (ch:=[]) (fun _ z=>nomatch z) (fun b o _ _ _ e n=>hx b o (nP n) e) (fun b o _ _ _ e n=>⟨o.slots,hx b o (nP n) e⟩) (fun b o _ e n=>by rw [oth (nP n) (ltc e)];exact n)
    (fun b o _ e=>?_) (fun b xs e=>by rw [oth (neP e fun _ z=>by cases z) (nec e)];exact e) (fun b o v e=>by rw [oth (neP e fun _ z=>by cases z) (nec e)];exact e) (fun b qs e=>?_) (fun m hm=>hm.extBut hx (nP I.free)) (fun b v e=>?_) I.bare
   ·by_cases hb:b=P
    ·exact ⟨_,by rw [hb];exact htb⟩
    ·exact ⟨o,hx b o hb e⟩
   ·by_cases hb:b=P
    ·subst hb
     rw [hP] at e;cases e
     exact ⟨_,e1⟩
    ·exact ⟨#[],by rw [oth hb (nec e),e];simp⟩
   ·by_cases hbc:b=c'
    ·subst hbc
     rw [QH] at e;cases e
     exact Qpz hrec
    ·by_cases hb:b=P
     ·subst hb
      rw [e1] at e;cases e
      exact htb
     ·rw [oth hb hbc] at e
      refine (I.hok b v e).stay (fun b' o w z=>hx b' o ?_ z) (fun b' w=>by rw [oth (neP w fun _ z=>by cases z) (nec w)];exact w) fun b' xs w=>by rw [oth (neP w fun _ z=>by cases z) (nec w)];exact w
      rcases w with rfl | w
      ·exact hb
      ·exact neP w fun _ z=>by cases z
  have J2:=J.kept (t':=tk) (h':=h'.push (PySem.W.kla_obj "<lambda>" (X.env.qual++"<lambda>") params body sc cl ((X.mg "__name__").getD .none) c' ctv)) fun b u e=>Heap.get?_push_of_some _ e
  refine h _ c' ctv _ _ _ (fun b o hb e=>by rw [oth hb (nec e)];exact e) ⟨_,e1,?_,.inr ⟨c',?_,QH⟩⟩ QH J2 (Nat.le_trans hge (Nat.le_of_lt hlt)) (J.hok.fresh (Nat.le_refl _)) (Heap.get?_push_size _ rfl)
  ·rw [Array.toList_append]
   exact TriplesOk_snoc _ _ _ _ ht
  ·rw [Array.toList_append]
   exact codeAmong_snoc _ ht hn
 ·refine PySem.W.kla_makeFunctionHit (mg:=X.mg) hcl I.ok.glob hgs hcode hC hPo ht hn hbs fun ctv h' tk hk hsz=>?_
  have J:=I.kept (t':=tk) (h':=h'.push { cls:=.type "function",data:=.func (PySem.W.kla_fn "<lambda>" (X.env.qual++"<lambda>") params body sc cl ((X.mg "__name__").getD .none) (.ref c') ctv) }) fun b u e=>Heap.get?_push_of_some _ (hk b u e)
  exact h _ c' ctv _ H _ (fun b o _ e=>e) ⟨ps,hP,ht,.inr ⟨c',hn,hc'⟩⟩ hc' J hsz (I.hok.fresh hsz) (Heap.get?_push_size _ rfl)
theorem Tab.same {P:Addr} {lp:Pos} {H H':Hp} (h:Tab P lp qual H) (e:Same H H'):Tab P lp qual H':=by
 obtain ⟨ps,h1,h2,h3⟩:=h
 refine ⟨ps,e _ _ h1,h2,h3.imp id ?_⟩
 rintro ⟨c,h4,h5⟩
 exact ⟨c,h4,e _ _ h5⟩
theorem Tab.ne {P a:Addr} {lp:Pos} {o:HO} (h:Tab P lp qual H) (e:H a=some o) (n:∀ ps,o≠.tbl ps):a≠P:=fun z=>by
 obtain ⟨ps,h1,_⟩:=h
 rw [z,h1] at e;cases e
 exact n _ rfl
theorem stayT {K:PySem.W.Frag} {B:Addr->Prop} {P:Addr} {lp:Pos} {H H':Hp} (h:Tab P lp qual H) (e:SameT P H H') (hB:¬ B P):Stay K B H H' where
 tup:=fun a xs z=>by
  rcases z with (z | ⟨o,z⟩) | z
  ·exact .inl (.inl (e _ _ (h.ne z fun _ w=>by cases w) z))
  ·exact .inl (.inr ⟨o,e _ _ (h.ne z fun _ w=>by cases w) z⟩)
  ·exact .inr z
 frz:=fun a xs z=>by
  rcases z with ⟨o,z⟩ | z
  ·exact .inl ⟨o,e _ _ (h.ne z fun _ w=>by cases w) z⟩
  ·exact .inr z
 keep:=fun a o z w=>e _ _ (fun q=>hB (q ▸ z)) w
theorem repT {K:PySem.W.Frag} {B:Addr->Prop} {P:Addr} {lp:Pos} {H H':Hp} {d:D} {v:V} (h:Tab P lp qual H) (e:SameT P H H') (hB:¬ B P) (r:Rep K B H d v):Rep K B H' d v:=Rep.mono (fun _ _ z _=>z) (stayT h e hB) d v r
theorem sqT {K:PySem.W.Frag} {P a:Addr} {lp:Pos} {H H':Hp} {xs:List V} (h:Tab P lp qual H) (e:SameT P H H') (r:SqL K H a xs):SqL K H' a xs:=by
 rcases r with (r | ⟨o,r⟩) | r
 ·exact .inl (.inl (e _ _ (h.ne r fun _ w=>by cases w) r))
 ·exact .inl (.inr ⟨o,e _ _ (h.ne r fun _ w=>by cases w) r⟩)
 ·exact .inr r
theorem Qle:∀ {K:PySem.W.Frag} {B:Addr->Prop} {H:Hp} {ns:List Int} {xs:List V},Reps K B H (ns.map D.int) xs->xs=ns.map V.int
 | _,_,_,[],xs,r=>by simpa [Reps] using r
 | K,B,H,n::ns,xs,r=>by
  simp only [List.map_cons,Reps] at r
  obtain ⟨v,r1,rfl,h1,h2⟩:=r
  rw [Qle h2]
  simp only [Rep] at h1
  rw [h1];rfl
def tO (K:PySem.W.Frag) (P:Addr) (lp:Pos) (q:Str) (iy:Nat) (fl fb:Fn):TE:=fun σ H Q=>∃ (c:Cn) (δ:DS) (d:D) (ns:List Int) (g:Int->Int),c.K=K/\Abs c σ δ H/\δ[iy]? = some (.val d)/\¬ c.B P/\Tab P lp q H/\fl δ=.ok (.lst (ns.map D.int)) /\
 ns.length < 64/\(∀ i∈ns,fb [.val (.int i),.val d]=.ok (.int (g i)))/\∀ (l:Addr) (H':Hp) (out:List Int),SameT P H H'->Tab P lp q H'->H l=none->H' l=some (.lst (out.map V.int))->out.Perm ns->Q (.ref l) H'
theorem Qri {kk:Nat} {c0 P:Addr} {params:Arguments} {body lc:Expr} {lp p1 pos kp:Pos} {iy:Nat} {fl fb:Fn} (L:LamB X.mg X.base c0 P) (hcode:X.env.code=.ref c0) (S:LamSc p y sc) (hr:Room (kk + 3) X.A)
  (hyN:X.N[iy]? = some y) (hyk:X.env.scope.names.lookup y=some .cell) (hc:∃ c,X.env.cells.lookup y=some c/\closureFor sc X.env=pure [(y,c)]) (hdef:defaultsOf params X.env=([],[]))
  (hbind:∀ (c c':Addr) (mv ctv u:Value),bindArgs (PySem.W.kla_fn "<lambda>" (X.env.qual++"<lambda>") params body sc [(y,c)] mv (.ref c') ctv) ⟨[u],[]⟩=pure [(p,u)])
  (ha:PA X [lc] (tXA X.K E0 .S [fl])) (hb:∀ (f c c':Addr) (s':Shared) (H':Hp),Room kk (QmF X X.A.in1.in1 p y (X.env.qual++"<lambda>") sc f (.ref c') c s' H').A->PE (QmF X X.A.in1.in1 p y (X.env.qual++"<lambda>") sc f (.ref c') c s' H') body (tX X.K E0 .W fb))
  (hm:X.mg "sorted" = none) (hgl:Gl X "sorted":=by rfl) (he:starEach [lc] X.env=(false,eval lc X.env)::starEach [] X.env:=by rfl) :
  PE X (.Call (.Name "sorted" p1) [lc] [⟨some "key",.Lambda params body sc lp,kp⟩] pos) (tO X.K P lp (X.env.qual++"<lambda>") iy fl fb):=by
 intro pins s σ H Q I ⟨c,δ,d,ns,g,hK,ab,hδ,hB,hT,hfl,h64,hg,q⟩
 obtain ⟨ca,hca,hcl⟩:=hc
 obtain ⟨v,hσ,hrep⟩:=ab.val iy d hδ
 have hA:¬ Av c σ δ P:=fun z=>hB z.1
 refine wpAny_Call_Name_kw (Qe0 I hgl hm rfl ?_ (by decide) (by decide))
 refine callWith_kw (thn (ha pos pins s σ H (fun vs H1=>∃ a,vs=[.ref a]/\SqL X.K H1 a (ns.map V.int)/\Same H H1) I ⟨c,δ,hK,ab,?_⟩) fun us s1 ⟨vs,H1,I1,r,hvs⟩=>?_) (by rw [he];rfl) (by rw [he];rfl)
 ·show Res _ _ _ (QaF [fl] δ) _
  have:QaF [fl] δ=.ok [.lst (ns.map D.int)]:=by simp [QaF,hfl]
  rw [this]
  intro vs H1 e1 r1
  simp only [Reps] at r1
  obtain ⟨v1,r2,rfl,r3,r4⟩:=r1
  simp only [Rep] at r3
  obtain ⟨a,xs,rfl,_,h1,h2⟩:=r3
  have:=Qle h2
  subst this
  subst r4
  exact ⟨a,rfl,.of h1,e1⟩
 ·obtain ⟨a,rfl,hq,e1⟩:=hvs
  obtain ⟨u,rfl,ru⟩:=QgP r
  obtain rfl:u=Value.ref a:=ru
  refine kws_cons (Qog L hcode (hT.same e1) I1 hcl hdef fun f c' ctv mv H2 s2 e2 T2 hc2 I2 hsz hf2 ho2=>kws_nil ?_)
  show wpAny _ _ (call (.builtin "sorted") [.ref a] [(Str.ofString "key",.ref f)]) _ _ _
  obtain ⟨its,r',pl,hz⟩:=I2.list (sqT (hT.same e1) e2 hq)
  have hI:=QdJ r'
  have I3:Inv X (pins++[(f,PySem.W.kla_obj "<lambda>" (X.env.qual++"<lambda>") params body sc [(y,ca)] mv c' ctv)]) σ H2 s2:=I2.pins_of fun z hp=>by
   rcases List.mem_append.mp hp with hp | hp
   ·exact I2.pin z (List.mem_append_right _ hp)
   ·rw [List.mem_singleton.mp hp]
    exact ⟨ho2,hf2,Nat.ne_of_gt (Nat.lt_of_lt_of_le I1.lt hsz),I1.nofs hsz,fun w x=>by cases x⟩
  have hrep2:Rep X.K (Av c σ δ) H2 d v:=by rw [← hK];exact repT (hT.same e1) e2 hA (hrep.same e1)
  refine Ql3 I3 pl.isList hI h64 (Qpx S hr.hd I.ok.frames hr.in1.in1.depth (List.mem_append_right _ (List.mem_singleton.mpr rfl)) hc2 hca hyN hyk hσ hrep2 (fun u=>hbind _ _ _ _ u) (fun s' H'=>hb f ca c' s' H' (hr.in1.in1.deeper _)) hg) fun l H4 s4 out e4 n0 n4 I4 p4=>?_
  have e5:Same H2 (upd H4 l (.lst (out.map V.int))):=fun b o z=>by
   rw [Qt (fun w=>by rw [w,n0] at z;cases z)];exact e4 b o z
  have e6:SameT P H (upd H4 l (.lst (out.map V.int))):=fun b o n z=>e5 b o (e2 b o n (e1 b o z))
  refine ⟨.ref l,_,I4.unpinned,rfl,q l _ out e6 (T2.same e5) ?_ QH p4⟩
  cases w:H l with
  | none=>rfl
  | some o =>
   have:l≠P:=fun z=>by
    obtain ⟨ps,h1,_⟩:=T2
    rw [← z,n0] at h1;cases h1
   have:=e2 l o this (e1 l o w)
   rw [n0] at this;cases this
end
end DL
namespace DL
open PySem PySem.Spec PyProof.Rows L2
structure LP where
 P:Addr
 lp:Pos
 q:Str
def LP.T (Λ:LP) (H:Hp):Prop:=Tab Λ.P Λ.lp Λ.q H
def cnL (K:PySem.W.Frag) (Λ:LP) (H₀:Hp):Cn:={ K:=K,B:=fun a=>a≠Λ.P,H₀:=H₀,G:=[] }
def EndL (K:PySem.W.Frag) (Λ:LP) (He:Hp) (D:Ends):Fl->Prop
 | .nx δ'=>∀ H₀ σ' H',Λ.T H₀->SameT Λ.P He H₀->Abs (cnL K Λ H₀) σ' δ' H'->D.nx σ' H'
 | .rt d=>∀ v H',Λ.T H'->SameT Λ.P He H'->Rep K (fun a=>a≠Λ.P) H' d v->D.rt v H'
 | _=>False
def tL (K:PySem.W.Frag) (Λ:LP) (He:Hp) (F:Sm):TS:=fun D σ H=>∃ H₀ δ,Λ.T H₀/\SameT Λ.P He H₀/\Abs (cnL K Λ H₀) σ δ H/\Res K E0 H₀ (F δ) (EndL K Λ He D)
def QgJ (δ:DS):Bool:=δ.all fun s=>match s with
 | .own _=>false
 | _=>true
section
variable {X:Cx} {Λ:LP} {He H H1 H2:Hp} {P:Addr} {F G:Sm} {st:Stmt} {sts:List Stmt} {K:PySem.W.Frag}
theorem SameT.refl:SameT P H H:=fun _ _ _ e=>e
theorem SameT.next (a:SameT P H H1) (b:Same H1 H2):SameT P H H2:=fun c o n e=>b c o (a c o n e)
theorem SameT.trans (a:SameT P H H1) (b:SameT P H1 H2):SameT P H H2:=fun c o n e=>b c o n (a c o n e)
theorem LP.T.grow (t:Λ.T H) (e:Same H H1):Λ.T H1:=Tab.same t e
theorem LP.T.at_ (t:Λ.T H):H Λ.P≠none:=by
 obtain ⟨ps,h,_⟩:=t
 rw [h];simp
theorem res0 {α:Type} {o:Ou α} {k:α->Prop} (h:Res K E0 H o k):Res K E0 H1 o k:=by
 cases o with
 | ok a=>exact h
 | ex e=>exact (let ⟨_,_,g⟩:=h;g H (Same.refl H)).elim
 | bad=>exact h
theorem QlV {δ:DS} (h:QgJ δ=true) {i:Nat} {d:D} (e:δ[i]? = some (Sl.own d)):False:=by
 have:=List.all_eq_true.mp h _ (List.mem_of_getElem? e)
 cases this
theorem Qmj {δ:DS} {σ:St} {a:Addr} (h:QgJ δ=true):¬ Own σ δ a:=fun ⟨i,d,e,_⟩=>QlV h e
theorem QnA {H₀:Hp} {σ:St} {δ:DS} (ab:Abs (cnL K Λ H₀) σ δ H) (hn:QgJ δ=true) (t:Λ.T H) (e:SameT Λ.P H H1) (t1:Λ.T H1):Abs (cnL K Λ H1) σ δ H1 where
 same:=Same.refl _
 fr:=fun a h z=>t1.at_ (z ▸ h)
 len:=ab.len
 val:=fun i d h=>by
  obtain ⟨v,h1,h2⟩:=ab.val i d h
  exact ⟨v,h1,repT t e (fun z=>z.1 rfl) h2⟩
 own:=fun i d h=>(QlV hn h).elim
 gho:=fun d v h=>by cases h
 inj:=fun i j di dj p h=>(QlV hn h).elim
 pin:=fun i p hP=>(nomatch hP)
theorem Qq1 {c:Cn} {σ:St} {δ:DS} {k:Nat} (ab:Abs c σ δ H):Abs c σ (δ.set k .un) H:=by
 have back:∀ {i:Nat} {s:Sl},(δ.set k .un)[i]? = some s->s≠.un->δ[i]? = some s:=fun {i s} e n=>by
  by_cases hk:k=i
  ·subst hk
   by_cases hl:k < δ.length
   ·rw [List.getElem?_set_self hl] at e;cases e;exact (n rfl).elim
   ·rw [List.getElem?_eq_none (by rw [List.length_set];omega)] at e;cases e
  ·rw [List.getElem?_set_ne hk] at e;exact e
 have ow:∀ {a},Own σ (δ.set k .un) a->Own σ δ a:=fun ⟨i,d,e,z⟩=>⟨i,d,back e (by simp),z⟩
 have av:∀ {a},Av c σ δ a->Av c σ (δ.set k .un) a:=fun z=>⟨z.1,fun w=>z.2 (ow w)⟩
 refine ⟨ab.same,ab.fr,by rw [List.length_set];exact ab.len,fun i d h=>?_,fun i d h=>?_,fun d v h=>(ab.gho d v h).weak fun _=>av,fun i j di dj p h1 h2=>ab.inj i j di dj p (back h1 (by simp)) (back h2 (by simp)),fun i p hP d h=>ab.pin i p hP d (back h (by simp))⟩
 ·obtain ⟨v,h1,h2⟩:=ab.val i d (back h (by simp))
  exact ⟨v,h1,h2.weak fun _=>av⟩
 ·obtain ⟨p,xs,h1,h2,h3,h4⟩:=ab.own i d (back h (by simp))
  exact ⟨p,xs,h1,h2,h3,h4.weak fun _=>av⟩
theorem QjF (h:PS X st (tS X.K E0 false F)):PS X st (tL X.K Λ He F):=h.imp fun D σ H ⟨H₀,δ,t,e,ab,q⟩=>⟨cnL X.K Λ H₀,δ,rfl,⟨ab,rfl⟩,q.imp fun r _ k=>by
 cases r with
 | nx δ'=>exact fun σ' H' ab'=>k H₀ σ' H' t e ab'
 | rt d=>exact fun v H' e' r'=>k v H' (t.grow e') (e.next e') r'
 | bk δ'=>exact k.elim
 | ct δ'=>exact k.elim⟩
theorem QnP (h:PSs X sts (tS X.K E0 false F)):PSs X sts (tL X.K Λ He F):=h.imp fun D σ H ⟨H₀,δ,t,e,ab,q⟩=>⟨cnL X.K Λ H₀,δ,rfl,⟨ab,rfl⟩,q.imp fun r _ k=>by
 cases r with
 | nx δ'=>exact fun σ' H' ab'=>k H₀ σ' H' t e ab'
 | rt d=>exact fun v H' e' r'=>k v H' (t.grow e') (e.next e') r'
 | bk δ'=>exact k.elim
 | ct δ'=>exact k.elim⟩
theorem Qc3 (h1:PS X st (tL X.K Λ He F)) (h2:PSs X sts (tL X.K Λ He G)):PSs X (st::sts) (tL X.K Λ He (sSeq F G)):=(QhP h1 h2).imp fun D σ H ⟨H₀,δ,t,e,ab,q⟩ =>
 ⟨H₀,δ,t,e,ab,(Res.bind q).imp fun r _ k=>by
  cases r with
  | nx δ'=>exact fun H₀' σ' H' t' e' ab'=>⟨H₀',δ',t',e',ab',res0 k⟩
  | rt d=>exact k
  | bk δ'=>exact k.elim
  | ct δ'=>exact k.elim⟩
end
def spL (K:PySem.W.Frag) (Λ:LP) (n:Nat) (mm:List D->Ou D):Sp:=fun vs H Q _=>∃ ds:List D,ds.length=n/\Reps K (fun a=>a≠Λ.P) H ds vs/\Λ.T H /\
 Res K E0 H (mm ds) fun d=>∀ v H',Λ.T H'->SameT Λ.P H H'->Rep K (fun a=>a≠Λ.P) H' d v->Q v H'
def spO (K:PySem.W.Frag) (Λ:LP) (n:Nat) (mo:List D->Ou (List Int)):Sp:=fun vs H Q _=>∃ (ds:List D) (ns:List Int),ds.length=n/\Reps K (fun a=>a≠Λ.P) H ds vs/\Λ.T H/\mo ds=.ok ns /\
 ∀ (l:Addr) (H':Hp) (out:List Int),SameT Λ.P H H'->Λ.T H'->H l=none->H' l=some (.lst (out.map V.int))->out.Perm ns->Q (.ref l) H'
def isI:Ou D->Bool
 | .ok (.int _)=>true
 | _=>false
def theI:Ou D->Int
 | .ok (.int i)=>i
 | _=>0
def Qb9:List D->Option (List Int)
 | []=>some []
 | .int i::r=>(Qb9 r).map (i::·)
 | _::_=>none
theorem QjA:∀ {xs:List D} {ns:List Int},Qb9 xs=some ns->xs=ns.map D.int
 | [],ns,h=>by cases h;rfl
 | .int i::r,ns,h=>by
  simp only [Qb9,Option.map_eq_some_iff] at h
  obtain ⟨ms,h1,rfl⟩:=h
  rw [List.map_cons,← QjA h1]
 | .non::_,_,h=>by simp [Qb9] at h
 | .bl _::_,_,h=>by simp [Qb9] at h
 | .str _::_,_,h=>by simp [Qb9] at h
 | .tup _::_,_,h=>by simp [Qb9] at h
 | .lst _::_,_,h=>by simp [Qb9] at h
 | .frl _::_,_,h=>by simp [Qb9] at h
 | .dic _ _::_,_,h=>by simp [Qb9] at h
 | .obj _::_,_,h=>by simp [Qb9] at h
 | .dip _ _::_,_,h=>by simp [Qb9] at h
def mOrd (n iy:Nat) (fl fb:Fn) (ds:List D):Ou (List Int):=match fl (Q6 n ds),ds[iy]? with
 | .ok (.lst xs),some d=>(match Qb9 xs with
  | some ns=>if ns.length < 64/\ns.all (fun i=>isI (fb [.val (.int i),.val d]))=true then .ok ns else .bad
  | none=>.bad)
 | _,_=>.bad
section
variable {P:Program} {w:World} {K:PySem.W.Frag} {mg:Str->Option Value} {base:Heap} {Λ:LP}
theorem QhK {N:List Str} {H:Hp} {ds:List D} {vs:List V} (t:Λ.T H) (r:Reps K (fun a=>a≠Λ.P) H ds vs) (hl:ds.length<=N.length):Abs (cnL K Λ H) (start N vs) (Q6 N.length ds) H:=by
 have e:(fun a=>a≠Λ.P\/H a=none)=fun a=>a≠Λ.P:=funext fun a=>propext ⟨fun z=>z.elim id fun z w=>t.at_ (w ▸ z),.inl⟩
 have:=Qe7 (N:=N) r hl
 unfold cnL
 rw [← e]
 exact this
theorem QnJ {N ps:List Str} {st:Stmt} {x:Str} {k:Nat} {F:Sm} {f:Addr} {fd:FuncData} (Fn:Fun K x x st f fd) (sc:FnScope N ps (Qb st)) (hn:ps.length<=N.length)
  (hbody:∀ (f:Addr) (cdv:Value) (A:Around) (outer:List Env) (s:Shared) (H:Hp) (E:XK),Room k (A.deeper (envOfC x (Qb st) s.heap.objs.size f cdv)) ->
   PSs (cxOf CX0 P w K mg base N x (Qb st) f cdv A outer s H E).nox (Qi st) (tL K Λ H F)):FnOk P w K mg base CX0 (k + 1) f fd ps (spL K Λ ps.length (runD false N.length F)):=by
 refine Fn.ok sc (fun vs H Q E h=>?_) (fun cdv A outer s H vs Q E hr h=>⟨_,hbody f cdv A outer s H E hr,?_⟩)
 ·obtain ⟨ds,hl,r,_⟩:=h
  rw [r.length];exact hl
 ·obtain ⟨ds,hl,r,t,h⟩:=h
  refine ⟨H,Q6 N.length ds,t,SameT.refl,QhK t r (by rw [hl];exact hn),(Res.bind h).imp fun z _ k=>?_⟩
  cases z with
  | rt d=>exact k
  | nx δ=>exact fun H₀ σ' H' t' e' ab=>k .non H' (t'.grow ab.same) (e'.next ab.same) (by simp [Rep])
  | bk δ=>exact k.elim
  | ct δ=>exact k.elim
end
structure DfL (P:Program) (w:World) (K:PySem.W.Frag) (mg:Str->Option Value) (base:Heap) (Λ:LP) (x:Str) (k:Nat) (ps:List Str) (mm:List D->Ou D):Prop where
 ex:∃ f fd,FnOk P w K mg base CX0 k f fd ps (spL K Λ ps.length mm)/\Binds K fd ps []/\PySem.W.keepIn K (.ref f)=true/\mg x=some (.ref f)
structure DfO (P:Program) (w:World) (K:PySem.W.Frag) (mg:Str->Option Value) (base:Heap) (Λ:LP) (x:Str) (k:Nat) (ps:List Str) (mo:List D->Ou (List Int)):Prop where
 ex:∃ f fd,FnOk P w K mg base CX0 k f fd ps (spO K Λ ps.length mo)/\Binds K fd ps []/\PySem.W.keepIn K (.ref f)=true/\mg x=some (.ref f)
section
variable {P:Program} {w:World} {K:PySem.W.Frag} {mg:Str->Option Value} {base:Heap} {Λ:LP}
theorem DfL.mono {x:Str} {j k:Nat} {ps:List Str} {mm:List D->Ou D} (h:DfL P w K mg base Λ x j ps mm) (hj:j<=k):DfL P w K mg base Λ x k ps mm:=by
 obtain ⟨f,fd,h1,h2⟩:=h.ex
 exact ⟨f,fd,h1.mono hj,h2⟩
theorem DfO.mono {x:Str} {j k:Nat} {ps:List Str} {mo:List D->Ou (List Int)} (h:DfO P w K mg base Λ x j ps mo) (hj:j<=k):DfO P w K mg base Λ x k ps mo:=by
 obtain ⟨f,fd,h1,h2⟩:=h.ex
 exact ⟨f,fd,h1.mono hj,h2⟩
theorem Qrg {N ps:List Str} {st:Stmt} {x:Str} {k:Nat} {F:Sm} (S:Src K mg x st ps) (sc:FnScope N ps (Qb st)) (hn:ps.length<=N.length)
  (hbody:∀ (f:Addr) (cdv:Value) (A:Around) (outer:List Env) (s:Shared) (H:Hp) (E:XK),Room k (A.deeper (envOfC x (Qb st) s.heap.objs.size f cdv)) ->
   PSs (cxOf CX0 P w K mg base N x (Qb st) f cdv A outer s H E).nox (Qi st) (tL K Λ H F)):DfL P w K mg base Λ x (k + 1) ps (runD false N.length F):=by
 obtain ⟨f,fd,Fn,b,hm⟩:=S.ex
 exact ⟨f,fd,QnJ Fn sc hn hbody,b,Fn.kp,hm⟩
theorem Qqo {N ps:List Str} {st:Stmt} {x:Str} {k iy:Nat} {fl fb:Fn} {c0:Addr} {e:Expr} {pos:Pos} (S:Src K mg x st ps) (sc:FnScope N ps (Qb st)) (hn:ps.length<=N.length) (hcd:∀ f fd,mg x=some (.ref f)->(∃ oc od sl,K.lookup f=some ⟨oc,od,.func fd,sl⟩)->fd.code=.ref c0)
  (hb:Qi st=[.Return (some e) pos])
  (hbody:∀ (f:Addr) (A:Around) (outer:List Env) (s:Shared) (H:Hp) (E:XK),Room k (A.deeper (envOfC x (Qb st) s.heap.objs.size f (.ref c0))) ->
   PE (cxOf CX0 P w K mg base N x (Qb st) f (.ref c0) A outer s H E).nox e (tO K Λ.P Λ.lp Λ.q iy fl fb)):DfO P w K mg base Λ x (k + 1) ps (mOrd N.length iy fl fb):=by
 obtain ⟨f,fd,Fn,b,hm⟩:=S.ex
 refine ⟨f,fd,?_,b,Fn.kp,hm⟩
 have hc:=hcd f fd hm
 obtain ⟨oc,od,kV,doc,pm,an,cdv,ct,osl,rfl,lk,hci⟩:=Fn.ex
 have hc2:cdv=.ref c0:=hc ⟨_,_,_,lk⟩
 subst hc2
 refine QpX lk hci sc (fun vs H Q E h=>?_) fun A outer s H vs Q E hr h=>?_
 ·obtain ⟨ds,ns,hl,r,_⟩:=h
  rw [r.length];exact hl
 ·obtain ⟨ds,ns,hl,r,t,hmo,q⟩:=h
  rw [hb]
  refine ⟨_,(QhP (Qka (hbody f A outer s H E hr)) pss_nil).nox,?_⟩
  have ab:=QhK (N:=N) t r (by rw [hl];exact hn)
  unfold mOrd at hmo
  split at hmo
  ·rename_i xs d hfl hd
   split at hmo
   ·rename_i ns' hns
    split at hmo
    ·rename_i hcond
     cases hmo
     have:=QjA hns
     subst this
     obtain ⟨h64,hall⟩:=hcond
     have hd':(Q6 N.length ds)[iy]? = some (Sl.val d):=by
      have hi:iy < ds.length:=(List.getElem?_eq_some_iff.mp hd).1
      unfold Q6
      rw [List.getElem?_append_left (by rw [List.length_map];exact hi),List.getElem?_map,hd];rfl
     refine ⟨cnL K Λ H,Q6 N.length ds,d,ns,fun i=>theI (fb [.val (.int i),.val d]),rfl,ab,hd',fun z=>z rfl,t,hfl,h64,fun i hi=>?_,q⟩
     have:=List.all_eq_true.mp hall i hi
     cases hfb:fb [.val (.int i),.val d] with
     | ok z =>
      rw [hfb] at this
      cases z <;> first | (show Ou.ok _=Ou.ok (D.int (theI (fb [.val (.int i),.val d])));rw [hfb];rfl) | (simp [isI] at this;done)
     | ex z=>rw [hfb] at this;simp [isI] at this
     | bad=>rw [hfb] at this;simp [isI] at this
    ·cases hmo
   ·cases hmo
  ·cases hmo
end
def QgK (i:Nat) (f:Fn):Sm:=fun δ=>if QgJ δ=true then sSet i f δ else .bad
open Classical in
noncomputable def QjG (fs:List Fn) (mo:List D->Ou (List Int)) (g:D->DS->Ou DS) (F:Sm) (ik:Nat):Sm:=fun δ=>if QgJ δ=true then (QaF fs δ).bind fun ds=>(mo ds).bind fun ns =>
 if h:∃ δ',∀ out:List Int,out.Perm ns->∃ δ1,forL g F (out.map D.int) δ=.ok (.nx δ1)/\δ1.set ik .un=δ' then .ok (.nx (choose h)) else .bad else .bad
theorem Qjp:∀ ms:List Int,Qb9 (ms.map D.int)=some ms
 | []=>rfl
 | m::ms=>by rw [List.map_cons];unfold Qb9;rw [Qjp ms];rfl
theorem e_ord {n iy:Nat} {fl fb:Fn} {ds:List D} {d:D} {ns:List Int} (h1:fl (Q6 n ds)=.ok (.lst (ns.map D.int))) (h2:ds[iy]? = some d) (h3:ns.length < 64) (h4:ns.all (fun i=>isI (fb [.val (.int i),.val d]))=true):mOrd n iy fl fb ds=.ok ns:=by
 unfold mOrd
 rw [h1,h2]
 simp only [Qjp]
 rw [if_pos ⟨h3,h4⟩]
theorem Qqc {fs:List Fn} {mo:List D->Ou (List Int)} {g:D->DS->Ou DS} {F:Sm} {ik:Nat} {δ δ':DS} {ds:List D} {ns:List Int} (h1:QgJ δ=true) (h2:QaF fs δ=.ok ds) (h3:mo ds=.ok ns)
  (h4:∀ out:List Int,out.Perm ns->∃ δ1,forL g F (out.map D.int) δ=.ok (.nx δ1)/\δ1.set ik .un=δ'):QjG fs mo g F ik δ=.ok (.nx δ'):=by
 have hex:∃ δ',∀ out:List Int,out.Perm ns->∃ δ1,forL g F (out.map D.int) δ=.ok (.nx δ1)/\δ1.set ik .un=δ':=⟨δ',h4⟩
 obtain ⟨δ1,e1,e2⟩:=Classical.choose_spec hex ns (List.Perm.refl _)
 obtain ⟨δ2,e3,e4⟩:=h4 ns (List.Perm.refl _)
 rw [e1] at e3
 cases e3
 unfold QjG
 rw [if_pos h1,h2,Qad,h3,Qad,dif_pos hex,← e2,e4]
section
variable {X:Cx} {Λ:LP} {He:Hp} {x y:Str} {k:Nat} {ps:List Str} {mm:List D->Ou D} {mo:List D->Ou (List Int)} {e:Expr} {es:List Expr} {fs:List Fn} {p pos pos2:Pos} {F:Sm}
theorem Qox (i:Nat) {pos':Pos} (h:DfL X.prog X.w X.K X.mg X.base Λ x k ps mm) (hr:Room k X.A) (hN:X.N.Nodup) (ha:PA X (e::es) (tXA X.K E0 .W fs)) (hl:fs.length=ps.length:=by rfl) (hg:Gl X x:=by rfl) (hdb:(x == ("__debug__":Str))=false:=by decide)
  (he:starEach (e::es) X.env=(false,eval e X.env)::starEach es X.env:=by rfl) (hpl:(backTo pos (starEach es X.env)).any (·.1)=false:=by rfl) (hi:X.N[i]? = some y:=by rfl) (hx:Loc X.env.scope y:=by first | exact Or.inl rfl | exact Or.inr rfl)
  (hs:swapsWith (.Call (.Name x p) (e::es) [] pos) (some (.Name y pos')) pos2.line X.env=pure false:=by rfl) (hf:X.fn y=true\/X.env.scope.names.lookup y=some .local:=by first | exact .inl rfl | exact .inr rfl) :
  PS X (.Assign [.Name y pos'] (.Call (.Name x p) (e::es) [] pos) pos2) (tL X.K Λ He (QgK i (Qg mm fs))):=by
 obtain ⟨f,fd,h1,h2,h3,h4⟩:=h.ex
 refine (QlQ hN hi hx (Qhn h1 hr hg h4 h3 h2 .nil Qii ha hdb he hpl) hs hf).imp fun D σ H ⟨H₀,δ,t,e0,ab,q⟩=>?_
 unfold QgK at q
 split at q
 ·rename_i hn
  refine ⟨cnL X.K Λ H₀,δ,rfl,ab,(Res.bind (Res.bind q)).imp fun ds hds k vs H1 e1 r1=>?_⟩
  have t1:Λ.T H1:=(t.grow ab.same).grow e1
  refine ⟨ds,by rw [QaN hds];exact hl,by rw [List.append_nil];exact r1,t1,(res0 k).imp fun d _ k v H' t' e' r'=>?_⟩
  have ab1:=QnA (ab.grow e1) hn t1 e' t'
  exact k H' _ H' t' ((e0.next (ab.same.trans e1)).trans e') (ab1.set_val (Same.refl _) (r'.weak fun a z=>⟨z,Qmj hn⟩))
 ·exact q.elim
theorem Qpp (ik:Nat) {tg:Expr} {body:List Stmt} {g:D->DS->Ou DS} (h:DfO X.prog X.w X.K X.mg X.base Λ x k ps mo) (hr:Room k X.A) (hp:PassesOwn (model X.prog X.w) X.A X.env X.xe) (hc:X.calm=true) (ha:PA X (e::es) (tXA X.K E0 .W fs))
  (hG:PG X tg (tG X.K E0 g)) (hb:PSs X body (tS X.K E0 false F)) (hl:fs.length=ps.length:=by rfl) (hg:Gl X x:=by rfl) (hdb:(x == ("__debug__":Str))=false:=by decide)
  (he:starEach (e::es) X.env=(false,eval e X.env)::starEach es X.env:=by rfl) (hpl:(backTo pos (starEach es X.env)).any (·.1)=false:=by rfl)
  (hs:∀ z,foldedSetIterable (.Call (.Name x p) (e::es) [] pos) X.env z=pure z:=by intro _;rfl) :
  PS X (.For tg (.Call (.Name x p) (e::es) [] pos) body [] pos2) (tL X.K Λ He (QjG fs mo g F ik)):=by
 obtain ⟨f,fd,h1,h2,h3,h4⟩:=h.ex
 refine (Qkb hp hc (QjL (Qhn h1 hr hg h4 h3 h2 .nil Qii ha hdb he hpl)) hG hb hs).imp fun D σ H ⟨H₀,δ,t,e0,ab,q⟩=>?_
 unfold QjG at q
 split at q
 ·rename_i hn
  refine ⟨cnL X.K Λ H₀,δ,rfl,ab,(Res.bind q).imp fun ds hds k vs H1 e1 r1=>?_⟩
  have t1:Λ.T H1:=(t.grow ab.same).grow e1
  cases hmo:mo ds with
  | ex z=>rw [hmo] at k;exact (let ⟨_,_,g⟩:=(res0 (H1:=H) k);g H (Same.refl _)).elim
  | bad=>rw [hmo] at k;exact k.elim
  | ok ns =>
   rw [hmo] at k
   simp only [Qad] at k
   split at k
   ·rename_i hex
    have hch:=Classical.choose_spec hex
    refine ⟨ds,ns,by rw [QaN hds];exact hl,by rw [List.append_nil];exact r1,t1,hmo,fun l H2 out e2 t2 nl hl2 perm=>⟨l,rfl,⟨_,.of hl2⟩,?_⟩⟩
    have ab2:=QnA (ab.grow e1) hn t1 e2 t2
    have reps:∀ (B:Addr->Prop) (H:Hp) (zs:List Int),Reps X.K B H (zs.map DL.D.int) (zs.map V.int):=fun B H zs=>by
     induction zs with
     | nil=>simp [Reps]
     | cons z zs ih=>exact ⟨_,_,rfl,rfl,ih⟩
    have hlP:l≠Λ.P:=fun z=>by
     obtain ⟨ps,z1,_⟩:=t2
     rw [← z,hl2] at z1;cases z1
    have rl:Rep X.K (Av (cnL X.K Λ H2) σ δ) H2 (.lst (out.map DL.D.int)) (.ref l):=by
     simp only [Rep]
     exact ⟨l,_,rfl,⟨hlP,Qmj hn⟩,hl2,reps _ _ out⟩
    obtain ⟨δ1,hf1,hf2⟩:=hch out perm
    refine Qlz (c:=cnL X.K Λ H2) (ds:=out.map DL.D.int) rfl ab2 rl (fun B H z=>?_) ?_ rfl
    ·simp only [Rep] at z
     obtain ⟨b,ys,ez,_,w1,w2⟩:=z
     cases ez
     exact ⟨ys,.of w1,w2⟩
    ·rw [hf1]
     intro σ' H' ab'
     refine k H2 σ' H' t2 ((e0.next (ab.same.trans e1)).trans e2) ?_
     rw [← hf2]
     exact Qq1 ab'
   ·exact k.elim
 ·exact q.elim
end
end DL
namespace DL
open PySem PySem.Spec PyProof.Rows L2
section
theorem codeL {P:Program} {w:World} {K:PySem.W.Frag} {mg mb:Str->Option Value} {k:Nat} {fa a c T:Addr} {fd:FuncData} {x:Str} {lp:Pos} {q:Str} {mm:List D->Ou D} {s₁:Shared} {vs:List Value} {ns:List Int}
  (KX:K.In s₁.heap) (hns:s₁.heap.Ns mainGlobals mg) (hb:s₁.heap.Ns builtinsNs mb) (hbb:∀ x:Str,x≠"__name__"->mb x=bootBuiltins x) (hlim:s₁.heap.NoLimit) (hg:s₁.gens=#[])
  (hbm:∃ bm ob,mg "__builtins__" = some (.ref bm)/\bm≠builtinsNs/\s₁.heap.get? bm=some ob/\ob.cls=.type "module"/\ob.dict=some builtinsNs/\ob.data=.plain)
  (hC:PySem.W.CodeHd s₁.heap c T) (hT:s₁.heap.get? T=some (PySem.W.tabObj #[])) (hTK:K.lookup T=none)
  (ha:s₁.heap.get? a=some { cls:=.type "list",data:=.seq vs.toArray }) (hi:IntsAre vs ns) (hl:ns.length<=sizeLine) (hr:Room k callerA)
  (F:∀ base:Heap,K.In base->base.Ns mainGlobals mg->LamB mg base c T->FnOk P w K mg base CX0 k fa fd [x] (spL K ⟨T,lp,q⟩ 1 mm)) (hbind:∀ (s:Shared) (u:Value),BindsTo s fd ⟨[u],[]⟩ [(x,u)])
  (law:mm [.frl (ns.map D.int)]=.ok (.bl true)) :
  codeAny (model P w) callerA (.call (.ref fa) ⟨[.ref a],[]⟩) (fun r s'=>r=.ok (.ret (.bool true))/\OldK s₁.heap s'.heap/\s'.os=s₁.os/\AllBare s'.gens) s₁:=by
 have rv:=QgA hi
 have lenV:=hi.length
 have haT:a≠T:=fun z=>by rw [z,hT] at ha;cases ha
 have core:∀ H:Hp,H T=some (.tbl #[])->(∀ b,b≠T->H b=none\/(b=a/\K.lookup a=none/\H b=some (.frz { cls:=.type "list",data:=.seq vs.toArray } (.lst (ns.map V.int)))))->FrK K H a (ns.map V.int)->HOk P w H s₁.heap ->
   codeAny (model P w) callerA (.call (.ref fa) ⟨[.ref a],[]⟩) (fun r s'=>r=.ok (.ret (.bool true))/\OldK s₁.heap s'.heap/\s'.os=s₁.os/\AllBare s'.gens) s₁:=by
  intro H hHT hO hS hok
  have free:∀ {b:Addr} {o:Obj},s₁.heap.get? b=some o->o.cls≠.none->o.cls≠.type "list"->H b=none:=fun {b o} e h1 h2=>by
   have hbT:b≠T:=fun z=>by rw [z,hT] at e;cases e;exact h1 rfl
   rcases hO b hbT with z | ⟨z,_,_⟩
   ·exact z
   ·rw [z,ha] at e;cases e;exact (h2 rfl).elim
  have freeD:∀ {b:Addr} {o:Obj} {es:Array DictEntry} {ep:Nat},s₁.heap.get? b=some o->o.data=.dict es ep->H b=none:=fun {b o es ep} e d=>by
   have hbT:b≠T:=fun z=>by rw [z,hT] at e;cases e;cases d
   rcases hO b hbT with z | ⟨z,_,_⟩
   ·exact z
   ·rw [z,ha] at e;cases e;cases d
  have up:∀ {b:Addr} {o:Obj},s₁.heap.get? b=some o->H b=none->(hidT s₁.heap H).get? b=some o:=fun e n=>Qls e n
  have nsK:∀ {b:Addr} {m:Str->Option Value},s₁.heap.Ns b m->(hidT s₁.heap H).Ns b m:=fun {b m} ⟨o,es,ep,e,d,r⟩=>⟨o,es,ep,up e (freeD e d),d,r⟩
  have hKb:K.In (hidT s₁.heap H):=fun b o e=>up (KX b o e) (by
   have hbT:b≠T:=fun z=>by rw [z,hTK] at e;cases e
   rcases hO b hbT with z | ⟨z,h1,_⟩
   ·exact z
   ·rw [z,h1] at e;cases e)
  have hM:Mod K mg (hidT s₁.heap H):=⟨hKb,nsK hns,⟨mb,nsK hb,hbb⟩,let ⟨mc,h1,h2⟩:=hlim;⟨mc,nsK h1,h2⟩⟩
  have hLB:LamB mg (hidT s₁.heap H) c T:=by
   refine ⟨?_,?_,fun z=>?_⟩
   ·obtain ⟨o,ws,file,tf,flags,tg,inF,text,tt,e1,e2,r⟩:=hC
    exact ⟨o,ws,file,tf,flags,tg,inF,text,tt,up e1 (free e1 (by rw [e2];nofun) (by rw [e2];simp)),e2,r⟩
   ·obtain ⟨bm,ob,b1,b2,b3,b4,b5,b6⟩:=hbm
    refine ⟨bm,ob,b1,b2,fun z=>?_,fun z=>?_,up b3 (free b3 (by rw [b4];nofun) (by rw [b4];simp)),b4,b5,b6⟩
    ·obtain ⟨o,es,ep,e,hd,_⟩:=hns
     rw [z,e] at b3;cases b3;rw [hd] at b6;cases b6
    ·rw [z,hT] at b3;cases b3;cases b4
   ·obtain ⟨o,es,ep,e,hd,_⟩:=hns
    rw [z,hT] at e;cases e;cases hd
  have e0:Env0 P w K mg (hidT s₁.heap H) callerA [] s₁ H:=⟨rfl,hM,fun b o e=>QmJ e,Nat.le_of_eq (Qjq _ _),trivial,fun b z=>(nomatch z),hok,.of_eq hg⟩
  have tab:LP.T ⟨T,lp,q⟩ H:=⟨#[],hHT,trivial,.inl rfl⟩
  refine codeAny_mono ((F _ hKb (nsK hns) hLB).run callerA [] s₁ H ⟨[.ref a],[]⟩ [.ref a] [.ref a] (fun v _=>v=.bl true) E0 hr e0 (hbind s₁ (.ref a)) (.cons rfl .nil) ⟨[.frl (ns.map D.int)],rfl,?_,tab,?_⟩) fun r s' h=>?_
  ·simp only [Reps]
   refine ⟨.ref a,[],rfl,?_,rfl⟩
   simp only [Rep]
   exact ⟨a,_,rfl,hS,Reps.ints ns⟩
  ·rw [law]
   intro v H' _ _ r
   simpa only [Rep] using r
  ·cases r with
   | error e=>exact False.elim h
   | ok fl =>
    cases fl with
    | next=>exact False.elim h
    | brk=>exact False.elim h
    | cont=>exact False.elim h
    | ret u =>
     obtain ⟨v,H',os,bare,un,hok',r',rfl⟩:=h
     obtain rfl:u=Value.bool true:=r'
     have kp:∀ b o,b≠T->s₁.heap.get? b=some o->s'.heap.get? b=some o:=fun b o hbT e=>by
      rcases hO b hbT with z | ⟨z,_,z2⟩
      ·exact un.keep b o e z (fun w=>nomatch w) (fun w=>nomatch w)
      ·obtain ⟨e2,_⟩:=hok' b _ (un.frzs b _ _ z2)
       obtain ⟨e1,_⟩:=hok b _ z2
       rw [e] at e1;cases e1
       exact e2
     obtain ⟨more,hm⟩:=un.tbls T #[] hHT
     have hT':s'.heap.get? T=some (PySem.W.tabObj (#[]++more)):=hok' T _ hm
     refine ⟨rfl,⟨fun b o e=>?_,fun b o e=>?_⟩,os,bare⟩
     ·by_cases hbT:b=T
      ·subst hbT
       rw [hT] at e;cases e
       exact .inr (.inl ⟨(hC.tab hT).isCodeTable,rfl,#[],more,rfl,hT'⟩)
      ·exact .inl (kp b o hbT e)
     ·by_cases hbT:b=T
      ·exact ⟨_,by rw [hbT];exact hT'⟩
      ·exact ⟨o,kp b o hbT e⟩
 have okT:∀ {H:Hp} {u:HO},some (HO.tbl #[])=some u->ObjOk P w H s₁.heap T u:=fun {H u} z=>by cases z;exact hT
 cases hk:K.lookup a with
 | some o =>
  have e:=KX a o hk
  rw [ha] at e;cases e
  refine core (fun b=>if b=T then some (.tbl #[]) else none) (if_pos rfl) (fun b hbT=>.inl (if_neg hbT)) (.inr ⟨_,vs.toArray,_,hk,rfl,rfl,rfl,by rw [List.size_toArray,lenV];exact hl,by simpa using rv⟩) fun b u z=>?_
  by_cases hbT:b=T
  ·subst hbT
   exact okT ((if_pos rfl).symm.trans z)
  ·have z':=(if_neg hbT).symm.trans z
   cases z'
 | none =>
  refine core (fun b=>if b=T then some (.tbl #[]) else if b=a then some (.frz { cls:=.type "list",data:=.seq vs.toArray } (.lst (ns.map V.int))) else none) (if_pos rfl) (fun b hbT=>?_) (.inl ⟨{ cls:=.type "list",data:=.seq vs.toArray },(if_neg haT).trans (if_pos rfl)⟩) fun b u z=>?_
  ·by_cases hb:b=a
   ·exact .inr ⟨hb,hk,(if_neg hbT).trans (if_pos hb)⟩
   ·exact .inl ((if_neg hbT).trans (if_neg hb))
  ·by_cases hbT:b=T
   ·subst hbT
    exact okT ((if_pos rfl).symm.trans z)
   ·by_cases hb:b=a
    ·have z':=(if_pos hb).symm.trans ((if_neg hbT).symm.trans z)
     cases z'
     subst hb
     exact ⟨ha,by rw [List.length_map];exact hl,vs,_,rv,ha⟩
    ·have z':=(if_neg hb).symm.trans ((if_neg hbT).symm.trans z)
     cases z'
theorem walkL {l:PySem.W.OpenLaw} {n k:Nat} {qq:Program} {loose:List Str} {XP:(Str->Option Value)->Heap->Prop} {YP:World->Heap->Prop} {d:DefRec} {K:Params->PySem.W.Frag} {x:Str} {lp:Pos} {q:Str} {mm:List D->Ou D} {c T:Addr}
  (hn:l.most=some n) (hn2:n<=sizeLine) (hdf:d.params.defaults=[]) (hr:Room k callerA) (hY:∀ (w:World) (h:Heap),YP w h->(K w.params).In h)
  (hTb:∀ (w:World) (h:Heap),YP w h->h.get? T=some (PySem.W.tabObj #[])) (hCd:∀ w:World,PySem.W.codeHdIn (K w.params) c T=true) (hTK:∀ w:World,(K w.params).lookup T=none)
  (law:∀ ns:List Int,ns.length<=n->mm [.frl (ns.map D.int)]=.ok (.bl true))
  (F:∀ (w:World) (mg:Str->Option Value) (fa:Addr) (h:Heap),(K w.params).In h->h.Ns mainGlobals mg->mg d.name=some (.ref fa) ->
   ∃ fd:FuncData,(∀ (s:Shared) (u:Value),BindsTo s fd ⟨[u],[]⟩ [(x,u)])/\∀ base:Heap,(K w.params).In base->base.Ns mainGlobals mg->LamB mg base c T->FnOk l.prog w (K w.params) mg base CX0 k fa fd [x] (spL (K w.params) ⟨T,lp,q⟩ 1 mm)) :
  PySem.W.WalkO qq loose XP YP l.row.toRowW d [] (fun f vs=>PySem.call f vs):=by
 refine Att.attach_call hn hdf fun w s₀ s₁ mg mb fa o pm cd doc a vs ns G Y ho hd hcd hmg hobj hints hlen hg=>?_
 have KX:=hY w _ Y
 obtain ⟨fd,hb,hF⟩:=F w mg fa _ KX G.T.g hmg
 exact codeL KX G.T.g G.T.b G.T.builtins G.T.nolimit hg G.T.bmain (PySem.W.codeHd_of_K KX (hCd w)) (hTb w _ Y) (hTK w) hobj hints (Nat.le_trans hlen hn2) hr hF hb (law ns hlen)
theorem QoT {K:PySem.W.Frag} {h:Heap} {mg:Str->Option Value} {x:Str} {c T:Addr} (ht:PySem.W.tabIn K x=some (c,T)) (X:K.In h) (G:h.Ns mainGlobals mg) :
  ∀ f fd,mg x=some (.ref f)->(∃ oc od sl,K.lookup f=some ⟨oc,od,.func fd,sl⟩)->fd.code=.ref c:=fun f fd hm ⟨_,_,_,lk⟩=>PySem.W.law_code X G ht hm (X _ _ lk) rfl
end
end DL
namespace DL
open PySem PySem.Spec PyProof.Rows L2
section
variable {X:Cx}
def QpU:D->Option (Int×Int)
 | .tup [.int a,.int b]=>some (a,b)
 | _=>none
def gLtP (x y:D):Ou D:=match QpU x,QpU y with
 | some p,some q=>.ok (.bl (Tim.plt p q))
 | _,_=>.bad
end
@[simp] theorem e_ltP {a b c d:Int}:gLtP (.tup [.int a,.int b]) (.tup [.int c,.int d])=.ok (.bl (Tim.plt (a,b) (c,d))):=rfl
end DL
namespace DL
open PySem PySem.Spec PyProof.Rows L2
section
variable {X:Cx} {elt tg:Expr} {ifs:List Expr} {scope:Scope} {N':List Str} {k:Nat} {ix:List Nat} {pos:Pos} {g:D->DS->Ou DS} {gc:DS->Ou Bool} {fe fl fl2 fl3:Fn} {a b c:Expr} {p:Pos}
def rOkD (a:Int):Bool:=decide (-1000000000<=a/\a<=1000000000)
def Qfn (a b:Int):Nat:=(a - b).toNat
theorem Qi9 {a b:Int}:Builtin.Range.rangeSize a b (-1)=(Qfn a b:Int):=by
 unfold Builtin.Range.rangeSize Qfn
 rw [if_neg (by decide)]
 by_cases h:b < a
 ·rw [if_pos (by lia)]
  have:(a - b - 1) / (-(-1))=a - b - 1:=by simp
  lia
 ·rw [if_neg (by lia)];lia
theorem QlU {a b:Int} (h:rOkD a=true/\rOkD b=true):Builtin.Range.small a b (-1)=true:=by
 have h1:=of_decide_eq_true h.1
 have h2:=of_decide_eq_true h.2
 unfold Builtin.Range.small
 have hs:Builtin.Range.rangeSize a b (-1)<=4000000000000/\0<=Builtin.Range.rangeSize a b (-1):=by
  rw [Qi9];unfold Qfn;lia
 generalize hS:Builtin.Range.rangeSize a b (-1)=S at hs ⊢
 rw [if_neg (by decide)]
 simp only [Builtin.Range.rangeFitsLong,Bool.and_eq_true,Bool.or_eq_true,decide_eq_true_eq,beq_iff_eq]
 lia
def iRngD (ta:TA):TI:=fun σ H R=>ta σ H fun vs H1=>∃ i j:Int,vs=[.int i,.int j,.int (-1)]/\(rOkD i=true/\rOkD j=true)/\R (Its i (-1) (Qfn i j)) H1
theorem Qno {tg:Expr} {pos:Pos} {ta:TA} (hg:Gl X "range") (hm:X.mg "range" = none) (ha:PA X [a,b,c] ta) (hs:starEach [a,b,c] X.env=(false,eval a X.env)::starEach [b,c] X.env:=by rfl) (hpl:(backTo pos (starEach [b,c] X.env)).any (·.1)=false:=by rfl) :
  PI X tg (.Call (.Name "range" p) [a,b,c] [] pos) (iRngD ta):=by
 intro pins s σ H R I h
 refine Call_ (Qe0 I hg hm boot_range (PyProof.Rows.callWith_type1 (thn (ha pos pins s σ H _ I h) fun us s1 ⟨vs,H1,I1,r1,q1⟩=>?_) hs hpl))
 obtain ⟨i,j,e,hk,q⟩:=q1
 subst e
 have h1:=of_decide_eq_true hk.1
 have h2:=of_decide_eq_true hk.2
 cases r1 with
 | cons r rr =>
  cases rr with
  | cons r' rr =>
   cases rr with
   | cons r'' rr =>
    cases rr
    obtain ⟨t,rfl⟩:=r
    obtain ⟨t',rfl⟩:=r'
    obtain ⟨t'',rfl⟩:=r''
    refine call_range_3 (by decide) ?_ (.inl (PyProof.noPylong_small (by lia)))
    refine wpAny_pyIter_range (IsRange.new ..) (QlU hk) ?_
    have I2:Inv X pins σ H1 { s1 with heap:=s1.heap.push { cls:=.type "range",data:=.fields #[.int i t,.int j t',.int (-1) t''] },toks:=s1.toks }:=I1.kept fun b o e=>Heap.get?_push_of_some _ e
    refine ⟨(s1.heap.push { cls:=.type "range",data:=.fields #[.int i t,.int j t',.int (-1) t''] }).objs.size,[(s1.heap.push { cls:=.type "range",data:=.fields #[.int i t,.int j t',.int (-1) t''] }).objs.size],_,_,H1,rfl,
     I2.kept (t':=s1.toks) fun b o e=>Heap.get?_push_of_some _ e,Qna _ i (-1) (Qfn i j),?_,fun b hb=>?_,q⟩
    ·have e1:i + ((0:Nat):Int) * (-1)=i:=by simp
     have e2:((Qfn i j:Nat):Int) - ((0:Nat):Int)=Builtin.Range.rangeSize i j (-1):=by rw [Qi9];simp
     show IsRangeIter _ _ (i + ((0:Nat):Int) * (-1)) (((Qfn i j:Nat):Int) - ((0:Nat):Int)) (-1)
     rw [e1,e2]
     exact Heap.get?_push_size _ rfl
    ·have e:b=(s1.heap.push { cls:=.type "range",data:=.fields #[.int i t,.int j t',.int (-1) t''] }).objs.size:=by simpa using hb
     subst e
     exact I2.fpOk (Nat.le_refl _) (I2.hok.fresh (Nat.le_refl _))
theorem srcDn {K:PySem.W.Frag} {B:Addr->Prop} {H1:Hp} {lo st:Int} {n:Nat}:SrcI (Its lo st n) K B H1 (rngS lo st n) :=
 ⟨fun i H' _ hi=>by rw [Qf1] at hi;exact hi,fun i H' x H'' d _ hd y=>by
  obtain ⟨h1,rfl⟩:=Qn7 hd
  exact ⟨y.1,by rw [y.2];simp [Rep]⟩,fun H' _=>by
  show n<=_
  rw [Qf1];exact Nat.le_refl _⟩
def Qkc (fs:List Fn):DS->Ou (List D):=fun δ=>(QaF fs δ).bind fun ds=>match ds with
 | [.int i,.int j,.int (-1)]=>if rOkD i=true/\rOkD j=true then .ok (rngS i (-1) (Qfn i j)) else .bad
 | _=>.bad
theorem Qpf (S:CNames X scope N' k ix) (hm:X.mg "range" = none) (ha:PA X [a,b,c] (tXA X.K E0 .W [fl,fl2,fl3]))
  (hb:∀ C s2 H2 fp pins,PG (blk X N' scope C s2 H2 fp pins) tg (tG X.K E0 g)/\PCs (blk X N' scope C s2 H2 fp pins) ifs (tT X.K E0 gc)/\PE (blk X N' scope C s2 H2 fp pins) elt (tX X.K E0 .S fe))
  {rp:Pos} (hc:X.calm=true:=by rfl) (hgl:Gl X "range":=by rfl) (hse:starEach [a,b,c] X.env=(false,eval a X.env)::starEach [b,c] X.env:=by rfl) (hpl:(backTo rp (starEach [b,c] X.env)).any (·.1)=false:=by rfl) (hs:∀ x,foldedSetIterable (.Call (.Name "range" p) [a,b,c] [] rp) X.env x=pure x:=by intro _;rfl) :
  CompR X (.ListComp elt [⟨tg,.Call (.Name "range" p) [a,b,c] [] rp,ifs,0⟩] scope pos) (tX X.K E0 .F (QbT (Qkc [fl,fl2,fl3]) g gc fe k ix)) :=
 (Qh6 hc S (Qno hgl hm ha hse hpl) hb hs).imp fun σ H Q q=>QdF q fun c δ R hK ab kq=>by
  refine ⟨c,δ,hK,ab,(Res.bind kq).imp fun ds hds z vs H1 e1 r1=>?_⟩
  have hl:ds.length=3:=QaN hds
  obtain ⟨d,d',d'',rfl⟩:∃ d d' d'',ds=[d,d',d'']:=by
   match ds,hl with
   | [d,d',d''],_=>exact ⟨d,d',d'',rfl⟩
  obtain ⟨v,v',v'',rfl,r2,r3,r4⟩:=Reps.three' r1
  cases d <;> first | exact z.elim | skip
  cases d' <;> first | exact z.elim | skip
  cases d'' <;> first | exact z.elim | skip
  simp only [Rep] at r2 r3 r4
  subst r2;subst r3;subst r4
  rename_i i j l
  by_cases h1:l=-1
  ·subst h1
   by_cases hj:rOkD i=true/\rOkD j=true
   ·simp only [if_pos hj] at z
    exact ⟨i,j,rfl,hj,z _ H1 e1 srcDn⟩
   ·simp only [if_neg hj] at z
    exact z.elim
  ·exfalso
   split at z
   ·rename_i h
    simp only [List.cons.injEq,D.int.injEq] at h
    exact h1 h.2.2.1
   ·exact z
end
end DL
set_option maxHeartbeats 4000000
namespace Pr
open PySem PySem.Spec PyProof.Rows L2 DL
local macro_rules | `($x >=> $y)=>`(by refine Qmp ?_ ?_;exact $x;exact $y)
local macro_rules | `(tactic| trivial)=>`(tactic| exact ⟨rfl,rfl,rfl,by decide +kernel,rfl,by decide +kernel,by decide +kernel⟩)
def top (i : Nat) : Stmt := PySem.Challenge.pw_pastdesk_k47_rising_and_falling.main.body.getD i (.Pass ⟨0,0,0,0⟩)
abbrev QbE:Stmt:=top 8
abbrev QdW:Stmt:=top 9
abbrev Qdj:Stmt:=top 10
abbrev Qc9:Stmt:=top 11
abbrev Qd2:Stmt:=top 12
abbrev QdM:Stmt:=top 13
abbrev Qbj:Stmt:=top 15
abbrev Qb6:Stmt:=top 16
abbrev QcF:Stmt:=top 17
abbrev QdZ:Stmt:=top 18
abbrev QaZ:Stmt:=top 29
abbrev Qbt:Stmt:=QR (top 33) 4
abbrev Qa7:Stmt:=QR (top 33) 3
abbrev Qbf:Stmt:=QR (top 2) 4
abbrev QaL:Stmt:=QR (top 2) 3
abbrev QcH:Stmt:=top 43
abbrev QcD:Stmt:=top 44
abbrev Qa8:Stmt:=QR (top 45) 4
abbrev QaM:Stmt:=QR (top 45) 3
abbrev Qbi:Stmt:=QR (top 40) 4
abbrev QaH:Stmt:=QR (top 40) 3
abbrev QbB:Stmt:=top 19
abbrev Qce:Stmt:=QR (top 33) 2
abbrev QbQ:Stmt:=QR (top 2) 2
abbrev QcG:Stmt:=top 26
abbrev Qb5:Stmt:=top 27
abbrev QbR:Stmt:=QR (top 45) 2
abbrev QbP:Stmt:=QR (top 40) 2
abbrev QfG:Stmt:=top 20
abbrev QfE:Stmt:=top 21
abbrev Qdc:Stmt:=top 22
abbrev Qcb:Stmt:=top 23
abbrev Qdi:Stmt:=top 24
abbrev Qar:Stmt:=top 28
abbrev Qbk:Stmt:=top 30
abbrev Qca:Stmt:=top 31
abbrev Qaq:Stmt:=top 36
abbrev Qdb:Stmt:=top 35
abbrev Qc0:Stmt:=top 37
abbrev QbG:Stmt:=top 39
abbrev Qbq:Stmt:=top 42
abbrev QaB:Stmt:=top 47
abbrev Qbn:Stmt:=top 48
abbrev Qa1:Stmt:=top 49
abbrev QbO:Stmt:=top 50
abbrev QaS:Stmt:=top 51
abbrev Qai:Stmt:=top 52
abbrev QbC:Stmt:=top 53
abbrev Qb3:Stmt:=top 54
abbrev QbF:Stmt:=top 55
abbrev QaA:Stmt:=QR (top 33) 8
abbrev Qao:Stmt:=QR (top 45) 8
abbrev Qbu:Stmt:=QR (top 33) 6
abbrev Qbw:Stmt:=QR (top 33) 7
abbrev Qbg:Stmt:=QR (top 2) 6
abbrev Qa6:Stmt:=QR (top 2) 7
abbrev Qba:Stmt:=QR (top 45) 6
abbrev Qbd:Stmt:=QR (top 45) 7
abbrev Qbc:Stmt:=QR (top 40) 6
abbrev Qbb:Stmt:=QR (top 40) 7
abbrev Qbl:Stmt:=top 56
abbrev Qbp:Stmt:=QR (top 33) 9
abbrev Qby:Stmt:=QR (top 2) 8
abbrev QaX:Stmt:=QR (top 45) 9
abbrev QaT:Stmt:=QR (top 40) 8
abbrev QaY:Stmt:=top 57
abbrev Qe1:Stmt:=top 58
def QeJ:Sm:=(sSeq (sRet (f2 gSub (f2 gAdd (f2 gIx (fVar 0) (fC (.int 0))) (f2 gIx (fVar 0) (fC (.int 1)))) (fC (.int 1)))) Qf)
def Qav:List D->Ou D:=runD false 1 QeJ
def QjS:Sm:=(sSeq (sRet (fChn gLe gLe (f2 gIx (fVar 0) (fC (.int 0))) (fVar 1) (Qg (Qav) [(fVar 0)]))) Qf)
def Qa3:List D->Ou D:=runD false 2 QjS
def QeZ:Sm:=(sSeq (sRet (Qjj (Qg (Qa3) [(fVar 1),(f2 gIx (fVar 0) (fC (.int 0)))]) (Qg (Qa3) [(fVar 1),(Qg (Qav) [(fVar 0)])]))) Qf)
def Qa9:List D->Ou D:=runD false 2 QeZ
def Qgd:Sm:=(sSeq (sSet 1 (f2 gIx (Qh 0) (fC (.int 0)))) (sSeq (sSet 2 (f2 gDiv (f2 gIx (fVar 0) (fC (.int 1))) (fC (.int 2)))) (sSeq (sRet (fTup [(fTup [(fVar 1),(fVar 2)]),(fTup [(f2 gAdd (fVar 1) (fVar 2)),(fVar 2)])])) Qf)))
def QcQ:List D->Ou D:=runD false 3 Qgd
def QjJ:Sm:=(sSeq (sSet 2 (Qg gMin [(f2 gIx (fVar 0) (fC (.int 0))),(f2 gIx (fVar 1) (fC (.int 0)))])) (sSeq (sSet 3 (Qg gMax [(Qg (Qav) [(fVar 0)]),(Qg (Qav) [(fVar 1)])])) (sSeq (sSet 4 (f2 gShl (fC (.int 1)) (f1 QnE (f2 gXor (fVar 2) (fVar 3))))) (sSeq (sRet (fTup [(f2 gMul (f2 gDiv (fVar 2) (fVar 4)) (fVar 4)),(fVar 4)])) Qf))))
def Qf9:List D->Ou D:=runD false 5 QjJ
def QjY:Sm:=(sSeq (sOwn 1 (fLst [])) (sSeq (sSet 2 (fC (.int 0))) (sSeq (sSet 3 (fC (.int 1073741824))) (sSeq (QbK (fAsB (f2 gGt (fVar 3) (fC (.int 0)))) (sSeq (sIf (fAsB (f2 gLe (f2 gAdd (fVar 2) (fVar 3)) (fVar 0))) (sSeq (sApp 1 (fTup [(Qh 2),(Qh 3)])) (sSeq (sSet 2 (f2 gAdd (fVar 2) (fVar 3))) Qf)) Qf) (sSeq (sSet 3 (f2 gDiv (fVar 3) (fC (.int 2)))) Qf)) 40) (sSeq (QjE 1) Qf)))))
def QfU:List D->Ou D:=runD true 4 QjY
def Qd0:Sm:=(sSeq (sRet (fTup [(f2 gIx (fVar 0) (fC (.int 0))),(f2 gIx (fVar 0) (fC (.int 1)))])) Qf)
def Qo:List D->Ou D:=runD false 1 Qd0
def Qfw:Sm:=(sSeq (sRet (f2 gIx (fVar 0) (fC (.int 2)))) Qf)
def Qz:List D->Ou D:=runD false 1 Qfw
def Qe5:Sm:=(sSeq (sRet (f2 gEq (f2 gIx (fVar 0) (fC (.int 1))) (fC (.int 1)))) Qf)
def QK:List D->Ou D:=runD false 1 Qe5
def Qhh:Sm:=(sSeq (sRet (fLst [(f2 gIx (Qh 0) (fC (.int 3))),(f2 gIx (Qh 0) (fC (.int 4)))])) Qf)
def Qcx:List D->Ou D:=runD false 1 Qhh
def Qb0:Sm:=(sSeq (sRet (f2 gAdd (fVar 0) (Qg gMax [(fC (.int 0)),(f2 gSub (fVar 2) (fVar 1))]))) Qf)
def QY:List D->Ou D:=runD false 3 Qb0
def Qfg:Sm:=(sSeq (sSet 3 (f1 QdN (f2 QkK (f2 gIx (Qh 1) (fC (.int 2))) (f2 gIx (Qh 2) (fC (.int 1)))))) (sSeq (sSet 4 (f2 gAdd (Qg gLen [(f2 gIx (fVar 2) (fC (.int 1)))]) (Qg gMin [(Qg gLen [(f2 gIx (fVar 1) (fC (.int 2)))]),(f2 gIx (fVar 2) (fC (.int 0)))]))) (sSeq (sSet 5 (f1 QdN (f2 gCat (f1 Qe6 (f2 gIx (Qh 1) (fC (.int 1)))) (fSl (Qh 3) none (some (fVar 4)))))) (sSeq (sSet 6 (f1 QdN (f2 gCat (f1 Qe6 (f2 gIx (Qh 2) (fC (.int 2)))) (fSl (Qh 3) (some (fVar 4)) none)))) (sSeq (sRet (fTup [(Qg (QY) [(f2 gIx (fVar 1) (fC (.int 0))),(Qg gLen [(f2 gIx (fVar 1) (fC (.int 2)))]),(f2 gIx (fVar 2) (fC (.int 0)))]),(f1 Qj1 (Qh 5)),(f1 Qj1 (Qh 6))])) Qf)))))
def QV:List D->Ou D:=runD false 7 Qfg
def Qez:Sm:=(sSeq (sRet (fTup [(fC (.int 0)),(fTup []),(fTup [])])) Qf)
def QU:List D->Ou D:=runD false 1 Qez
def QhO:Sm:=(sSeq (sRet (f2 gAdd (fVar 1) (fVar 2))) Qf)
def QaC:List D->Ou D:=runD false 3 QhO
def Qg1:Sm:=(sSeq (sRet (fC (.int 0))) Qf)
def Qas:List D->Ou D:=runD false 1 Qg1
def Qc5:Sm:=(sSeq (sRet (f2 gSub (f2 gIx (fVar 0) (fC (.int 2))) (f2 gIx (fVar 0) (fC (.int 0))))) Qf)
def Qaz:List D->Ou D:=runD false 1 Qc5
def Qe3:Sm:=(sSeq (sRet (f2 gSub (f2 gIx (fVar 0) (fC (.int 1))) (Qg (Qaz) [(fVar 0)]))) Qf)
def Qcc:List D->Ou D:=runD false 1 Qe3
def QeY:Sm:=(sSeq (sRet (fTup [(Qg (QY) [(f2 gIx (fVar 1) (fC (.int 0))),(Qg (Qcc) [(fVar 1)]),(f2 gIx (fVar 2) (fC (.int 0)))]),(f2 gAdd (f2 gIx (fVar 1) (fC (.int 1))) (f2 gIx (fVar 2) (fC (.int 1)))),(f2 gAdd (f2 gIx (fVar 1) (fC (.int 2))) (f2 gIx (fVar 2) (fC (.int 2))))])) Qf)
def Qaa:List D->Ou D:=runD false 3 QeY
def Qeg:Sm:=(sSeq (sRet (fTup [(fC (.int 0)),(fC (.int 0)),(fC (.int 0))])) Qf)
def QZ:List D->Ou D:=runD false 1 Qeg
def QeD:Sm:=(sSeq (sRet (fTup [(Qg (QY) [(f2 gIx (fVar 1) (fC (.int 0))),(f2 gIx (fVar 1) (fC (.int 1))),(f2 gIx (fVar 2) (fC (.int 0)))]),(f2 gAdd (f2 gIx (fVar 2) (fC (.int 1))) (Qg gMax [(fC (.int 0)),(f2 gSub (f2 gIx (fVar 1) (fC (.int 1))) (f2 gIx (fVar 2) (fC (.int 0))))]))])) Qf)
def Qab:List D->Ou D:=runD false 3 QeD
def Qei:Sm:=(sSeq (sRet (fTup [(fC (.int 0)),(fC (.int 0))])) Qf)
def Q0:List D->Ou D:=runD false 1 Qei
def QeP:Sm:=(sSeq (sSet 2 (Qa2 [("Kind",Qas),("Bag",QU),("Pile",Q0),("Line",QZ)] (Qh 0) [])) (sSeq (sFor (Qh 1) (gNm 3) (sSeq (sSet 2 (Qa2 [("Kind",QaC),("Bag",QV),("Pile",Qab),("Line",Qaa)] (Qh 0) [(Qh 2),(Qg (Qz) [(Qh 3)])])) Qf)) (sSeq (sRet (fVar 2)) Qf)))
def Qp:List D->Ou D:=runD false 4 QeP
def QcP:Sm:=(sSeq (sIf (fAsB (f2 gEq (f2 gIx (fVar 2) (fC (.int 0))) (fC (.str "put")))) (sSeq (sRet (fTup [(fC (.int 0)),(fTup []),(fTup [(fTup [(f2 gIx (fVar 2) (fC (.int 1))),(fVar 1)])])])) Qf) Qf) (sSeq (sIf (fAsB (f2 gEq (f2 gIx (fVar 2) (fC (.int 0))) (fC (.str "take")))) (sSeq (sRet (fTup [(fC (.int 1)),(fTup []),(fTup [])])) Qf) Qf) (sSeq (sRet (Qa2 [("Kind",Qas),("Bag",QU),("Pile",Q0),("Line",QZ)] (fVar 0) [])) Qf)))
def Qaw:List D->Ou D:=runD false 3 QcP
def Qkj:Sm:=(sSeq (sRet (fC (.int 1))) Qf)
def Qcv:List D->Ou D:=runD false 3 Qkj
def Qfa:Sm:=(sSeq (sRet (fIfE (fAsB (f2 gEq (f2 gIx (fVar 0) (fC (.int 0))) (fC (.str "put")))) (fC (.int 1)) (fC (.int 0)))) Qf)
def QcE:List D->Ou D:=runD false 1 Qfa
def QdP:Sm:=(sSeq (sRet (fIfE (fAsB (f2 gEq (f2 gIx (fVar 0) (fC (.int 0))) (fC (.str "take")))) (fC (.int 1)) (fC (.int 0)))) Qf)
def QbJ:List D->Ou D:=runD false 1 QdP
def Qf7:Sm:=(sSeq (sRet (fTup [(Qg (QbJ) [(fVar 2)]),(Qg (QcE) [(fVar 2)]),(Qg (QbJ) [(fVar 2)])])) Qf)
def Qbs:List D->Ou D:=runD false 3 Qf7
def Qf0:Sm:=(sSeq (sRet (fTup [(Qg (QbJ) [(fVar 2)]),(Qg (QcE) [(fVar 2)])])) Qf)
def Qbm:List D->Ou D:=runD false 3 Qf0
def Qme:Sm:=(sSeq (sRet (fTup [(fVar 1),(fC (.int 1)),(Qa2 [("Kind",Qcv),("Bag",Qaw),("Pile",Qbm),("Line",Qbs)] (fVar 0) [(fVar 1),(fVar 2)]),(fVar 2)])) Qf)
def Qex:List D->Ou D:=runD false 3 Qme
def Ql4:Sm:=(sSeq (sSet 3 (Qg (Qf9) [(Qg (Qo) [(Qh 1)]),(Qg (Qo) [(Qh 2)])])) (sSeq (sSet 4 (Qa2 [("Kind",QaC),("Bag",QV),("Pile",Qab),("Line",Qaa)] (Qh 0) [(Qg (Qz) [(Qh 1)]),(Qg (Qz) [(Qh 2)])])) (sSeq (sRet (fTup [(f2 gIx (fVar 3) (fC (.int 0))),(f2 gIx (fVar 3) (fC (.int 1))),(fVar 4),(fVar 1),(fVar 2)])) Qf)))
def QbU:List D->Ou D:=runD false 5 Ql4
def QfK:Sm:=(sSeq (sIf (fAsB (f2 gLt (f2 gIx (fVar 2) (fC (.int 0))) (f2 gIx (fVar 1) (fC (.int 0))))) (sSeq (sRet (Qg (QbU) [(fVar 0),(fVar 2),(fVar 1)])) Qf) Qf) (sSeq (sRet (Qg (QbU) [(fVar 0),(fVar 1),(fVar 2)])) Qf))
def QbW:List D->Ou D:=runD false 3 QfK
def Qfy:Sm:=(sSeq (sRet (Qg (Qa3) [(f2 gIx (Qg (QcQ) [(Qg (Qo) [(fVar 0)])]) (fC (.int 0))),(fVar 1)])) Qf)
def QaU:List D->Ou D:=runD false 2 Qfy
def QbV (r_put_in:List D->Ou D):Sm:=(sSeq (sIf (fAsB (f1 gIsN (fVar 1))) (sSeq (sRet (Qg (Qex) [(fVar 0),(fVar 2),(fVar 3)])) Qf) Qf) (sSeq (sIf (Qey (fTru (Qg (Qa3) [(Qg (Qo) [(fVar 1)]),(fVar 2)]))) (sSeq (sRet (Qg (QbW) [(fVar 0),(fVar 1),(Qg (Qex) [(fVar 0),(fVar 2),(fVar 3)])])) Qf) Qf) (sSeq (sIf (fTru (Qg (QK) [(fVar 1)])) (sSeq sBad Qf) Qf) (sSeq (sIf (fTru (Qg (QaU) [(fVar 1),(fVar 2)])) (sSeq (sRet (Qg (QbU) [(fVar 0),(Qg (r_put_in) [(fVar 0),(f2 gIx (fVar 1) (fC (.int 3))),(fVar 2),(fVar 3)]),(f2 gIx (fVar 1) (fC (.int 4)))])) Qf) Qf) (sSeq (sRet (Qg (QbU) [(fVar 0),(f2 gIx (fVar 1) (fC (.int 3))),(Qg (r_put_in) [(fVar 0),(f2 gIx (fVar 1) (fC (.int 4))),(fVar 2),(fVar 3)])])) Qf)))))
def QX:Nat->List D->Ou D
 | 0,_=>.bad
 | n + 1,ds=>runD false 4 (QbV (QX n)) ds
def Qb2:Sm:=(sSeq (sRet (fIfE (fAsB (f2 gEq (f2 gIx (fVar 0) (fC (.int 0))) (fC (.str "look")))) (f2 gIx (fVar 0) (fC (.int 1))) (fC (.int 0)))) Qf)
def QF:List D->Ou D:=runD false 1 Qb2
def Qbr:Sm:=(sSeq (sRet (fIfE (fAsB (f1 gIsN (fVar 0))) (fC .non) (f2 gIx (f2 gIx (fVar 0) (fC (.int 3))) (fC (.int 1))))) Qf)
def Qv:List D->Ou D:=runD false 1 Qbr
def QcA:Sm:=(sSeq (sRet (fIfE (fAsB (f1 gIsN (fVar 0))) (fC .non) (f2 gIx (fVar 0) (fC (.int 0))))) Qf)
def QaW:List D->Ou D:=runD false 1 QcA
def QaJ:Sm:=(sSeq (sIf (fTru (Qg (QK) [(fVar 0)])) (sSeq (sRet (fC .non)) Qf) Qf) (sSeq (sSet 2 (Qg (QcQ) [(Qg (Qo) [(Qh 0)])])) (sSeq (sIf (fTru (Qg (Qa9) [(fVar 1),(f2 gIx (fVar 2) (fC (.int 0)))])) (sSeq (sRet (f2 gIx (fVar 0) (fC (.int 3)))) Qf) Qf) (sSeq (sIf (fTru (Qg (Qa9) [(fVar 1),(f2 gIx (fVar 2) (fC (.int 1)))])) (sSeq (sRet (f2 gIx (fVar 0) (fC (.int 4)))) Qf) Qf) (sSeq (sRet (fC .non)) Qf)))))
def Q1:List D->Ou D:=runD false 3 QaJ
def QiF:Sm:=(sSeq (sSet 2 (Qh 0)) (sSeq (QbK (QmQ (fAsB (f1 QfO (fVar 2))) (Qey (fTru (Qg (Qa9) [(Qg (Qo) [(fVar 2)]),(fVar 1)])))) (sSeq (sSet 2 (Qg (Q1) [(Qh 2),(Qh 1)])) Qf) 40) (sSeq (sRet (fVar 2)) Qf)))
def QcR:List D->Ou D:=runD false 3 QiF
def QjN:Sm:=(sSeq (sSet 2 (QbT (Qd8 (Qg (QfU) [(Qh 1)])) (gNm 0) fYes (Qg (QcR) [(Qh 1),(Qh 0)]) 1 [0])) (sSeq (sRet (QbT (Qd8 (Qh 2)) (gNm 0) (fAsB (f1 QfO (fVar 0))) (Qh 0) 1 [])) Qf))
def Qb1:List D->Ou D:=runD true 3 QjN
def QcU (r_put_below:List D->Ou D):Sm:=(sSeq (sSet 2 (Qh 1)) (sSeq (QoN (Qh 0) (gNm 3) (sSeq (sSet 4 (Qg (Qz) [(Qh 3)])) (sSeq (sIf (fAsB (f2 gLt (fVar 2) (f2 gIx (fVar 4) (fC (.int 1))))) (sSeq (sRet (fIfE (fTru (Qg (QK) [(fVar 3)])) (fVar 3) (Qg (r_put_below) [(Qg (Qcx) [(fVar 3)]),(fVar 2)]))) Qf) Qf) (sSeq (sSet 2 (f2 gAdd (f2 gSub (fVar 2) (f2 gIx (fVar 4) (fC (.int 1)))) (f2 gIx (fVar 4) (fC (.int 0))))) Qf)))) (sSeq (sRet (fC .non)) Qf)))
def QI:Nat->List D->Ou D
 | 0,_=>.bad
 | n + 1,ds=>runD false 5 (QcU (QI n)) ds
def Qcl (r_put_behind:List D->Ou D):Sm:=(sSeq (sSet 2 (Qh 1)) (sSeq (sFor (Qh 0) (gNm 3) (sSeq (sSet 4 (f2 gIx (Qg (Qz) [(Qh 3)]) (fC (.int 1)))) (sSeq (sIf (fAsB (f2 gLt (fVar 2) (fVar 4))) (sSeq (sRet (fIfE (fTru (Qg (QK) [(fVar 3)])) (fVar 3) (Qg (r_put_behind) [(Qg (Qcx) [(fVar 3)]),(fVar 2)]))) Qf) Qf) (sSeq (sSet 2 (f2 gSub (fVar 2) (fVar 4))) Qf)))) (sSeq (sRet (fC .non)) Qf)))
def QL:Nat->List D->Ou D
 | 0,_=>.bad
 | n + 1,ds=>runD false 5 (Qcl (QL n)) ds
def Qcw:Sm:=(sSeq (sIf (fAsB (f2 gLt (fVar 1) (Qg gLen [(fVar 0)]))) (sSeq (sRet (f2 gIx (fVar 0) (fVar 1))) Qf) Qf) (sSeq (sRet (fC (.int 0))) Qf))
def QC:List D->Ou D:=runD false 2 Qcw
def Qc4:Sm:=(sSeq (sRet (Qjj (f1 (gIs "int") (fVar 0)) (QoL (f1 (gIs "bool") (fVar 0))))) Qf)
def Qcq:List D->Ou D:=runD false 1 Qc4
def QbA:Sm:=(sSeq (sSet 2 (f2 gMod (fVar 0) (fC (.int 4)))) (sSeq (sIf (fAsB (f2 gEq (fVar 2) (fC (.int 0)))) (sSeq (sRet (f2 gSub (f2 gMod (f2 gAdd (f2 gDiv (fVar 0) (fC (.int 4))) (f2 gMul (f2 gMul (fC (.int 17)) (fVar 1)) (fVar 1))) (fC (.int 101))) (fC (.int 50)))) Qf) Qf) (sSeq (sIf (fAsB (f2 gEq (fVar 2) (fC (.int 1)))) (sSeq (sRet (f2 gSub (f2 gMod (f2 gDiv (fVar 0) (fC (.int 4))) (f2 gMul (fC (.int 2)) (f2 gPow (fC (.int 10)) (fC (.int 30))))) (f2 gPow (fC (.int 10)) (fC (.int 30))))) Qf) Qf) (sSeq (sIf (fAsB (f2 gEq (fVar 2) (fC (.int 2)))) (sSeq (sRet (f2 gSub (f2 gMod (f2 gDiv (fVar 0) (fC (.int 4))) (fC (.int 5))) (fC (.int 2)))) Qf) Qf) (sSeq (sRet (f2 gMod (f2 gDiv (fVar 0) (fC (.int 4))) (f2 gPow (fC (.int 10)) (fC (.int 60))))) Qf)))))
def QW:List D->Ou D:=runD false 3 QbA
def QbD:Sm:=(sSeq (sSet 3 (f2 gMod (fVar 0) (fC (.int 8)))) (sSeq (sIf (fAsB (f2 gLt (fVar 3) (f2 gAdd (fC (.int 3)) (fVar 2)))) (sSeq (sRet (fTup [(fC (.str "put")),(Qg (QW) [(f2 gDiv (fVar 0) (fC (.int 8))),(fVar 1)])])) Qf) Qf) (sSeq (sIf (fAsB (f2 gLt (fVar 3) (fC (.int 6)))) (sSeq (sRet (fTup [(fC (.str "take"))])) Qf) Qf) (sSeq (sIf (fAsB (f2 gEq (fVar 3) (fC (.int 7)))) (sSeq (sRet (fTup [(fC (.str "many"))])) Qf) Qf) (sSeq (sIf (fAsB (f2 gEq (f2 gMod (f2 gDiv (fVar 0) (fC (.int 8))) (fC (.int 3))) (fC (.int 2)))) (sSeq (sRet (fTup [(fC (.str "look")),(f2 gMod (f2 gDiv (fVar 0) (fC (.int 24))) (f2 gPow (fC (.int 10)) (fC (.int 60))))])) Qf) Qf) (sSeq (sRet (fTup [(fC (.str "look")),(f2 gMod (f2 gAdd (f2 gDiv (fVar 0) (fC (.int 24))) (fVar 1)) (fC (.int 7)))])) Qf))))))
def Qax:List D->Ou D:=runD false 4 QbD
def QdO:Sm:=(sSeq (sSet 2 (f2 gIx (fLst [(fC (.int 1)),(fC (.int 5)),(fC (.int 16777216))]) (f2 gMod (fVar 1) (fC (.int 3))))) (sSeq (sOwn 3 (fLst [])) (sSeq (sSet 4 (fC (.int 0))) (sSeq (sRng [(Qg gLen [(fVar 0)])] (gNm 5) (sSeq (sApp 3 (Qh 4)) (sSeq (sSet 4 (f2 gAdd (f2 gAdd (fVar 4) (fC (.int 1))) (f2 gMod (f2 gAdd (f2 gDiv (f2 gIx (fVar 0) (fVar 5)) (fC (.int 3))) (f2 gIx (fVar 0) (f2 gSub (fVar 5) (fC (.int 1))))) (fVar 2)))) Qf))) (sSeq (fun δ=>(sIf (fAsB (f2 gEq (fVar 3) (fLst []))) (sSeq (sRet (fLst [])) Qf) Qf) (thaw 3 δ)) (sSeq (sSet 6 (f2 gMod (f2 gDiv (fVar 1) (fC (.int 3))) (f2 gSub (fC (.int 1073741824)) (f2 gIx (fVar 3) (f1 gNeg (fC (.int 1))))))) (sSeq (sRet (QbT (Qd8 (Qh 3)) (gNm 0) fYes (f2 gAdd (fVar 1) (fVar 0)) 1 [6])) Qf)))))))
def Qci:List D->Ou D:=runD false 7 QdO
def QcK:Fn:=(QbT (QgB [(fVar 1)]) (gNm 0) fYes (Qh 0) 1 [])
def Qbx:Fn:=(f2 gMod (f2 gAdd (f2 gMul (Qg (QC) [(fVar 1),(fVar 0)]) (fC (.int 48271))) (f2 gMul (f2 gMul (fVar 0) (fVar 0)) (fC (.int 7919)))) (fC (.int 65537)))
def QbZ:List D->Ou (List Int):=mOrd 2 0 QcK Qbx
noncomputable def QeC:Sm:=(sSeq (sSet 3 (fC .non)) (sSeq (QjG [(fVar 2),(Qg gLen [(fVar 1)])] QbZ (gNm 4) (sSeq (sSet 3 (Qg (QX 64) [(Qh 0),(Qh 3),(f2 gIx (f2 gIx (Qh 1) (fVar 4)) (fC (.int 0))),(f2 gIx (f2 gIx (Qh 1) (fVar 4)) (fC (.int 1)))])) Qf) 4) (sSeq (sRet (fVar 3)) Qf)))
noncomputable def QaR:List D->Ou D:=runD false 5 QeC
def QfD:Sm:=(sSeq (sSet 2 (fSl (Qh 0) (some (fC (.int 1))) (some (fC (.int 21))))) (sSeq (sSet 3 (f2 gMod (f2 gDiv (Qg (QC) [(fVar 0),(fC (.int 0))]) (fC (.int 7))) (fC (.int 3)))) (sSeq (sSet 4 (Qg (Qci) [(Qh 2),(Qg (QC) [(Qh 0),(fC (.int 0))])])) (sSeq (sSet 5 (Qg (QW) [(Qg (QC) [(Qh 0),(fC (.int 1))]),(fC (.int 1))])) (sSeq (sOwn 6 (fLst [])) (sSeq (sRng [(Qg gLen [(fVar 2)])] (gNm 7) (sSeq (sSet 8 (Qg (Qax) [(f2 gIx (Qh 2) (fVar 7)),(Qh 7),(Qh 3)])) (sSeq (sIf (fAsB (f2 gEq (f2 gIx (fVar 8) (fC (.int 0))) (fC (.str "put")))) (sSeq (sSet 9 (f2 gAdd (fC (.int 1)) (f2 gMod (f2 gIx (fVar 8) (fC (.int 1))) (f2 gPow (fC (.int 10)) (fC (.int 60)))))) (sSeq (sIf (fTru (fVar 1)) (sSeq (sSet 9 (f2 gSub (fC (.int 0)) (fVar 9))) Qf) Qf) (sSeq (sSet 5 (f2 gAdd (fVar 5) (fVar 9))) (sSeq (sSet 8 (fTup [(fC (.str "put")),(Qh 5)])) Qf)))) Qf) (sSeq (sApp 6 (fTup [(f2 gIx (Qh 4) (fVar 7)),(Qh 8)])) Qf)))) (sSeq (QjE 6) Qf)))))))
def Qcz:List D->Ou D:=runD true 10 QfD
def Qcd:Sm:=(sSeq (sRet (fOrV (f1 gIsN (fVar 0)) (Qg (Qcq) [(fVar 0)]))) Qf)
def QA:List D->Ou D:=runD false 1 Qcd
def QcC:Sm:=(sSeq (sSet 3 (f2 gIx (Qg (Qp) [(Qh 0),(Qh 1)]) (fC (.int 2)))) (sSeq (sSet 4 (Qg (QF) [(Qh 2)])) (sSeq (sRet (fIfE (fAsB (f2 gLt (fVar 4) (Qg gLen [(fVar 3)]))) (f2 gIx (fVar 3) (fVar 4)) (fTup [(fC .non),(fC .non)]))) Qf)))
def Qw:List D->Ou D:=runD false 5 QcC
def Qdr:Sm:=(sSeq (sRet (Qg (QL 64) [(fVar 1),(f2 gAdd (Qg (Qaz) [(Qg (Qp) [(fVar 0),(fVar 1)])]) (Qg (QF) [(fVar 2)]))])) Qf)
def Qx:List D->Ou D:=runD false 3 Qdr
def Qdu:Sm:=(sSeq (sIf (fAsB (f2 gEq (f2 gIx (fVar 2) (fC (.int 0))) (fC (.str "many")))) (sSeq (sRet (Qg gLen [(f2 gIx (Qg (Qp) [(fVar 0),(fVar 1)]) (fC (.int 2)))])) Qf) Qf) (sSeq (sRet (f2 gIx (Qa2 [("Bag",Qw),("Line",Qx)] (fVar 0) [(fVar 1),(fVar 2)]) (fC (.int 0)))) Qf))
def Q8:List D->Ou D:=runD false 3 Qdu
def Qdy:Sm:=(sSeq (sIf (fAsB (f2 gEq (f2 gIx (fVar 2) (fC (.int 0))) (fC (.str "many")))) (sSeq (sRet (fC .non)) Qf) Qf) (sSeq (sRet (f2 gIx (Qa2 [("Bag",Qw),("Line",Qx)] (fVar 0) [(fVar 1),(fVar 2)]) (fC (.int 1)))) Qf))
def Q7:List D->Ou D:=runD false 3 Qdy
def QhH:Sm:=(sSeq (sRet (fC .non)) Qf)
def QbH:List D->Ou D:=runD false 3 QhH
def QhI:Sm:=(sSeq (sRet (fC .non)) Qf)
def QbL:List D->Ou D:=runD false 3 QhI
def Qcu:Sm:=(sSeq (sIf (fAsB (f2 gEq (f2 gIx (fVar 2) (fC (.int 0))) (fC (.str "many")))) (sSeq (sRet (Qg (Qcc) [(Qg (Qp) [(fVar 0),(fVar 1)])])) Qf) Qf) (sSeq (sRet (Qg (Qv) [(Qa2 [("Bag",Qw),("Line",Qx)] (fVar 0) [(fVar 1),(fVar 2)])])) Qf))
def QN:List D->Ou D:=runD false 3 Qcu
def Qct:Sm:=(sSeq (sIf (fAsB (f2 gEq (f2 gIx (fVar 2) (fC (.int 0))) (fC (.str "many")))) (sSeq (sRet (fC .non)) Qf) Qf) (sSeq (sRet (Qg (QaW) [(Qa2 [("Bag",Qw),("Line",Qx)] (fVar 0) [(fVar 1),(fVar 2)])])) Qf))
def QT:List D->Ou D:=runD false 3 Qct
def Qdg:Sm:=(sSeq (sIf (fAsB (f2 gEq (f2 gIx (fVar 2) (fC (.int 0))) (fC (.str "many")))) (sSeq (sRet (f2 gIx (Qg (Qp) [(fVar 0),(fVar 1)]) (fC (.int 1)))) Qf) Qf) (sSeq (sRet (Qg (Qv) [(Qg (QI 64) [(fVar 1),(Qg (QF) [(fVar 2)])])])) Qf))
def Qal:List D->Ou D:=runD false 3 Qdg
def Qdd:Sm:=(sSeq (sIf (fAsB (f2 gEq (f2 gIx (fVar 2) (fC (.int 0))) (fC (.str "many")))) (sSeq (sRet (fC .non)) Qf) Qf) (sSeq (sRet (Qg (QaW) [(Qg (QI 64) [(fVar 1),(Qg (QF) [(fVar 2)])])])) Qf))
def Qaj:List D->Ou D:=runD false 3 Qdd
def Qc2:Sm:=(sSeq (sSet 5 (Qa2 [("Kind",QbH),("Bag",Q8),("Pile",Qal),("Line",QN)] (Qh 0) [(Qh 1),(Qh 4)])) (sSeq (sSet 6 (Qa2 [("Kind",QbL),("Bag",Q7),("Pile",Qaj),("Line",QT)] (Qh 0) [(Qh 1),(Qh 4)])) (sSeq (sIf (fOrT (Qey (fTru (Qg (QA) [(fVar 5)]))) (Qey (fTru (Qg (QA) [(fVar 6)])))) (sSeq (sRet (fC (.bl false))) Qf) Qf) (sSeq (sRet (Qjj (f2 gEq (fVar 5) (Qa2 [("Kind",QbH),("Bag",Q8),("Pile",Qal),("Line",QN)] (fVar 2) [(fVar 3),(fVar 4)])) (f2 gEq (fVar 6) (Qa2 [("Kind",QbL),("Bag",Q7),("Pile",Qaj),("Line",QT)] (fVar 2) [(fVar 3),(fVar 4)])))) Qf))))
def Q9:List D->Ou D:=runD false 7 Qc2
def QfN:Sm:=(sSeq (sRet (QbT (QjH (f2 gIx (Qg (Qp) [(Qh 0),(Qh 1)]) (fC (.int 2)))) (gNm 0) fYes (f2 gIx (Qh 0) (fC (.int 0))) 1 [])) Qf)
def Qat:List D->Ou D:=runD true 2 QfN
def QiL:Sm:=(sSeq (sRet (fLst [])) Qf)
def QbX:List D->Ou D:=runD true 2 QiL
def Qfm:Sm:=(sSeq (sSet 2 (Qg (Qp) [(Qh 0),(Qh 1)])) (sSeq (sRet (QbT (QgB [(Qg (Qaz) [(fVar 2)]),(f2 gIx (fVar 2) (fC (.int 1)))]) (gNm 0) fYes (Qg (Qv) [(Qg (QL 64) [(Qh 1),(Qh 0)])]) 1 [1])) Qf))
def Qa0:List D->Ou D:=runD true 3 Qfm
def Qff:Sm:=(sSeq (sSet 2 (f2 gIx (Qg (Qp) [(Qh 0),(Qh 1)]) (fC (.int 1)))) (sSeq (sRet (QbT (Qkc [(f2 gSub (fVar 2) (fC (.int 1))),(f1 gNeg (fC (.int 1))),(f1 gNeg (fC (.int 1)))]) (gNm 0) fYes (Qg (Qv) [(Qg (QI 64) [(Qh 1),(Qh 0)])]) 1 [1])) Qf))
def QaV:List D->Ou D:=runD true 3 Qff
def QcI:Sm:=(sSeq (sSet 5 (Qa2 [("Kind",QbX),("Bag",Qat),("Pile",QaV),("Line",Qa0)] (Qh 0) [(Qh 1)])) (sSeq (sSet 6 (Qa2 [("Kind",QbX),("Bag",Qat),("Pile",QaV),("Line",Qa0)] (Qh 2) [(Qh 3)])) (sSeq (sIf (fTru (fVar 4)) (sSeq (sSet 6 (QoA (Qh 6))) Qf) Qf) (sSeq (sRet (Qjj (f1 (gIs "list") (fVar 5)) (f2 gEq (fVar 5) (fVar 6)))) Qf))))
def Qag:List D->Ou D:=runD false 7 QcI
noncomputable def b_law:Sm:=(sSeq (sSet 1 (Qgn "Bag")) (sSeq (sSet 2 (f2 gEq (f2 gMod (f2 gDiv (Qg (QC) [(fVar 0),(fC (.int 0))]) (fC (.int 21))) (fC (.int 2))) (fC (.int 1)))) (sSeq (sSet 3 (Qgn "Line")) (sSeq (sIf (fTru (fVar 2)) (sSeq (sSet 3 (Qgn "Pile")) Qf) Qf) (sSeq (sSet 4 (Qg (Qcz) [(Qh 0),(Qh 2)])) (sSeq (QgK 5 (Qg (QaR) [(fVar 1),(fVar 4),(fVar 0)])) (sSeq (QgK 6 (Qg (QaR) [(fVar 3),(fVar 4),(fVar 0)])) (sSeq (sFor (f2 gCat (QbT (Qd8 (Qh 4)) (gNm2 0 1) fYes (Qh 0) 2 []) (fLst [(fC (.int 1073741824))])) (gNm 7) (sSeq (sFor (fLst [(fTup [(fC (.str "take"))]),(fTup [(fC (.str "look")),(fC (.int 1))]),(fTup [(fC (.str "look")),(f2 gMod (Qg (QC) [(fVar 0),(fC (.int 1))]) (fC (.int 5)))]),(fTup [(fC (.str "many"))])]) (gNm 8) (sSeq (sIf (Qey (fTru (Qg (Q9) [(fVar 1),(Qg (Qb1) [(Qh 5),(Qh 7)]),(fVar 3),(Qg (Qb1) [(Qh 6),(Qh 7)]),(fVar 8)]))) (sSeq (sRet (fC (.bl false))) Qf) Qf) Qf)) (sSeq (sIf (Qey (fTru (Qg (Qag) [(fVar 1),(Qg (Qb1) [(Qh 5),(Qh 7)]),(fVar 3),(Qg (Qb1) [(Qh 6),(Qh 7)]),(fVar 2)]))) (sSeq (sRet (fC (.bl false))) Qf) Qf) Qf))) (sSeq (sRet (fC (.bl true))) Qf)))))))))
noncomputable def QkV:List D->Ou D:=runD false 9 b_law
section
variable {P:Program} {w:World} {K:PySem.W.Frag} {mg:Str->Option Value} {base:Heap}
theorem QfP:FnScope ["stretch"] ["stretch"] (Qb QbE):=by trivial
theorem Qko (Qes:Src K mg "last_time" QbE ["stretch"]):Df P w K mg base "last_time" 1 ["stretch"] false Qav:=Qac (N:=["stretch"]) (fr:=false) (F:=QeJ) Qes QfP (by decide) fun f cdv A outer s H E hr=>by
 have nd:=QfP.nd
 exact ((Qk (xop Qcn (xop QaG (xix (xv 0) xint) (xix (xv 0) xint)) xint)) >=> Qe)
theorem Qlc:FnScope ["stretch","number"] ["stretch","number"] (Qb QdW):=by trivial
theorem Qoa (Qkf:Src K mg "holds" QdW ["stretch","number"]) (Qay:Df P w K mg base "last_time" 1 ["stretch"] false (Qav)):Df P w K mg base "holds" 2 ["stretch","number"] false Qa3:=Qac (N:=["stretch","number"]) (fr:=false) (F:=QjS) Qkf Qlc (by decide) fun f cdv A outer s H E hr=>by
 have nd:=Qlc.nd
 exact ((Qk (xchn Qoq Qoq (xix (xv 0) xint) (xv 1) (Qm (Qay.mono (by omega)) hr (Qa (xv 0) Qd)))) >=> Qe)
theorem Qjg:FnScope ["one","other"] ["one","other"] (Qb Qdj):=by trivial
theorem Qnm (Qh8:Src K mg "within" Qdj ["one","other"]) (Qcf:Df P w K mg base "holds" 2 ["stretch","number"] false (Qa3)) (Qay:Df P w K mg base "last_time" 1 ["stretch"] false (Qav)):Df P w K mg base "within" 3 ["one","other"] false Qa9:=Qac (N:=["one","other"]) (fr:=false) (F:=QeZ) Qh8 Qjg (by decide) fun f cdv A outer s H E hr=>by
 have nd:=Qjg.nd
 exact ((Qk (xand (Qm (Qcf.mono (by omega)) hr (Qa (xv 1) (Qa (xix (xv 0) xint) Qd))) (xone (Qm (Qcf.mono (by omega)) hr (Qa (xv 1) (Qa (Qm (Qay.mono (by omega)) hr (Qa (xv 0) Qd)) Qd)))))) >=> Qe)
theorem Qjw:FnScope ["stretch","low","half"] ["stretch"] (Qb Qc9):=by trivial
theorem Qni (Qie:Src K mg "halves" Qc9 ["stretch"]):Df P w K mg base "halves" 1 ["stretch"] false QcQ:=Qac (N:=["stretch","low","half"]) (fr:=false) (F:=Qgd) Qie Qjw (by decide) fun f cdv A outer s H E hr=>by
 have nd:=Qjw.nd
 exact ((Qq 1 nd (xix (xvS 0) xint)) >=> ((Qq 2 nd (xop Qb8 (xix (xv 0) xint) xint)) >=> ((Qk (xtup (Qa (xtup (Qa (xv 1) (Qa (xv 2) Qd))) (Qa (xtup (Qa (xop QaG (xv 1) (xv 2)) (Qa (xv 2) Qd))) Qd)))) >=> Qe)))
theorem QkY:FnScope ["one","other","first","last","size"] ["one","other"] (Qb Qd2):=by trivial
theorem QoC (QjT:Src K mg "least" Qd2 ["one","other"]) (z_max:mg "max" = none) (z_min:mg "min" = none) (Qay:Df P w K mg base "last_time" 1 ["stretch"] false (Qav)):Df P w K mg base "least" 2 ["one","other"] false Qf9:=Qac (N:=["one","other","first","last","size"]) (fr:=false) (F:=QjJ) QjT QkY (by decide) fun f cdv A outer s H E hr=>by
 have nd:=QkY.nd
 exact ((Qq 2 nd (xb Qnw z_min (Qa (xix (xv 0) xint) (Qa (xix (xv 1) xint) Qd)))) >=> ((Qq 3 nd (xb Qmc z_max (Qa (Qm (Qay.mono (by omega)) hr (Qa (xv 0) Qd)) (Qa (Qm (Qay.mono (by omega)) hr (Qa (xv 1) Qd)) Qd)))) >=> ((Qq 4 nd (xop QqZ xint (xbits (xop Qq3 (xv 2) (xv 3))))) >=> ((Qk (xtup (Qa (xop Qfx (xop Qb8 (xv 2) (xv 4)) (xv 4)) (Qa (xv 4) Qd)))) >=> Qe))))
theorem Qli:FnScope ["end","parts","low","size"] ["end"] (Qb QdM):=by trivial
theorem QoJ (Qkn:Src K mg "cover" QdM ["end"]) {u_ALL_TIMES:Value} (c_ALL_TIMES:mg "ALL_TIMES" = some u_ALL_TIMES/\L2.RelV (toV (.int 1073741824)) u_ALL_TIMES):Df P w K mg base "cover" 1 ["end"] true QfU:=Qac (N:=["end","parts","low","size"]) (fr:=true) (F:=QjY) Qkn Qli (by decide) fun f cdv A outer s H E hr=>by
 have nd:=Qli.nd
 exact ((Ql8 1 nd (xlst Qd)) >=> ((Qq 2 nd xint) >=> ((Qq 3 nd (xglob c_ALL_TIMES.1 c_ALL_TIMES.2)) >=> ((Qk4 40 PassesOwn.never (Qaf od_gt (xv 3) xint (QQ _)) ((Qan (Qaf Qoq (xop QaG (xv 2) (xv 3)) (xv 0) (QQ _)) ((QlE 1 (xtup (Qa (xvS 2) (Qa (xvS 3) Qd)))) >=> ((Qq 2 nd (xop QaG (xv 2) (xv 3))) >=> Qe)) Qe) >=> ((Qq 3 nd (xop Qb8 (xv 3) xint)) >=> Qe))) >=> ((QmC 1) >=> Qe)))))
theorem Qfd:FnScope ["tree"] ["tree"] (Qb Qbj):=by trivial
theorem QiW (Qea:Src K mg "stretch_of" Qbj ["tree"]):Df P w K mg base "stretch_of" 1 ["tree"] false Qo:=Qac (N:=["tree"]) (fr:=false) (F:=Qd0) Qea Qfd (by decide) fun f cdv A outer s H E hr=>by
 have nd:=Qfd.nd
 exact ((Qk (xtup (Qa (xix (xv 0) xint) (Qa (xix (xv 0) xint) Qd)))) >=> Qe)
theorem QgR:FnScope ["tree"] ["tree"] (Qb Qb6):=by trivial
theorem Qkz (Qfs:Src K mg "total_of" Qb6 ["tree"]):Df P w K mg base "total_of" 1 ["tree"] false Qz:=Qac (N:=["tree"]) (fr:=false) (F:=Qfw) Qfs QgR (by decide) fun f cdv A outer s H E hr=>by
 have nd:=QgR.nd
 exact ((Qk (xix (xv 0) xint)) >=> Qe)
theorem Qiq:FnScope ["tree"] ["tree"] (Qb QcF):=by trivial
theorem QlZ (Qgg:Src K mg "is_leaf" QcF ["tree"]):Df P w K mg base "is_leaf" 1 ["tree"] false QK:=Qac (N:=["tree"]) (fr:=false) (F:=Qe5) Qgg Qiq (by decide) fun f cdv A outer s H E hr=>by
 have nd:=Qiq.nd
 exact ((Qk (xcmp (QbN hr.units) (xix (xv 0) xint) xint (QQ _))) >=> Qe)
theorem QkX:FnScope ["tree"] ["tree"] (Qb QdZ):=by trivial
theorem QnK (Qj4:Src K mg "parts" QdZ ["tree"]):Df P w K mg base "parts" 1 ["tree"] false Qcx:=Qac (N:=["tree"]) (fr:=false) (F:=Qhh) Qj4 QkX (by decide) fun f cdv A outer s H E hr=>by
 have nd:=QkX.nd
 exact ((Qk (toW (m:=.F) (xlst (Qa (xix (xvS 0) xint) (Qa (xix (xvS 0) xint) Qd))))) >=> Qe)
theorem QeK:FnScope ["lack","left","next_lack"] ["lack","left","next_lack"] (Qb QaZ):=by trivial
theorem Qic (Qds:Src K mg "joined_lack" QaZ ["lack","left","next_lack"]) (z_max:mg "max" = none):Df P w K mg base "joined_lack" 1 ["lack","left","next_lack"] false QY:=Qac (N:=["lack","left","next_lack"]) (fr:=false) (F:=Qb0) Qds QeK (by decide) fun f cdv A outer s H E hr=>by
 have nd:=QeK.nd
 exact ((Qk (xop QaG (xv 0) (xb Qmc z_max (Qa xint (Qa (xop Qcn (xv 2) (xv 1)) Qd))))) >=> Qe)
theorem Qer:FnScope ["self","one","other","found","many","gone","left"] ["self","one","other"] (Qb Qbt):=by trivial
theorem Qiv {f_Bag__joined:Addr} {fd_Bag__joined:FuncData} (Qi5:Fun K "joined" "Bag.joined" Qbt f_Bag__joined fd_Bag__joined) (z_len:mg "len" = none) (z_list:mg "list" = none) (z_min:mg "min" = none) (z_sorted:mg "sorted" = none) (z_tuple:mg "tuple" = none) (Qah:Df P w K mg base "joined_lack" 1 ["lack","left","next_lack"] false (QY)):FnOk P w K mg base CX0 2 f_Bag__joined fd_Bag__joined ["self","one","other"] (spD K false 3 QV):=Qak Qi5 Qer (by decide) fun f cdv A outer s H E hr=>by
 have nd:=Qer.nd
 exact ((Qq 3 nd (toS (QlB z_sorted (xcatU (xix (xvS 1) xint) (xix (xvS 2) xint))))) >=> ((Qq 4 nd (xop QaG (xb QdQ z_len (Qa (xix (xv 2) xint) Qd)) (xb Qnw z_min (Qa (xb QdQ z_len (Qa (xix (xv 1) xint) Qd)) (Qa (xix (xv 2) xint) Qd))))) >=> ((Qq 5 nd (toS (QlB z_sorted (toS (xcat (toS (QmK z_list (xix (xvS 1) xint))) (toS (xsl (xvS 3) Qk6 (Qf4 (xv 4))))))))) >=> ((Qq 6 nd (toS (QlB z_sorted (toS (xcat (toS (QmK z_list (xix (xvS 2) xint))) (toS (xsl (xvS 3) (Qf4 (xv 4)) Qk6))))))) >=> ((Qk (xtup (Qa (Qm (Qah.mono (by omega)) hr (Qa (xix (xv 1) xint) (Qa (xb QdQ z_len (Qa (xix (xv 1) xint) Qd)) (Qa (xix (xv 2) xint) Qd)))) (Qa (toW (Qok z_tuple (xvS 5))) (Qa (toW (Qok z_tuple (xvS 6))) Qd))))) >=> Qe)))))
theorem Qec:FnScope ["self"] ["self"] (Qb Qa7):=by trivial
theorem Qha {f_Bag__nothing:Addr} {fd_Bag__nothing:FuncData} (Qix:Fun K "nothing" "Bag.nothing" Qa7 f_Bag__nothing fd_Bag__nothing):FnOk P w K mg base CX0 1 f_Bag__nothing fd_Bag__nothing ["self"] (spD K false 1 QU):=Qak Qix Qec (by decide) fun f cdv A outer s H E hr=>by
 have nd:=Qec.nd
 exact ((Qk (xtup (Qa xint (Qa (xtup Qd) (Qa (xtup Qd) Qd))))) >=> Qe)
theorem Qen:FnScope ["self","one","other"] ["self","one","other"] (Qb Qbf):=by trivial
theorem Qhb {f_Kind__joined:Addr} {fd_Kind__joined:FuncData} (Qh3:Fun K "joined" "Kind.joined" Qbf f_Kind__joined fd_Kind__joined):FnOk P w K mg base CX0 1 f_Kind__joined fd_Kind__joined ["self","one","other"] (spD K false 3 QaC):=Qak Qh3 Qen (by decide) fun f cdv A outer s H E hr=>by
 have nd:=Qen.nd
 exact ((Qk (xop QaG (xv 1) (xv 2))) >=> Qe)
theorem Qdz:FnScope ["self"] ["self"] (Qb QaL):=by trivial
theorem QgH {f_Kind__nothing:Addr} {fd_Kind__nothing:FuncData} (QgW:Fun K "nothing" "Kind.nothing" QaL f_Kind__nothing fd_Kind__nothing):FnOk P w K mg base CX0 1 f_Kind__nothing fd_Kind__nothing ["self"] (spD K false 1 Qas):=Qak QgW Qdz (by decide) fun f cdv A outer s H E hr=>by
 have nd:=Qdz.nd
 exact ((Qk xint) >=> Qe)
theorem Qh1:FnScope ["total"] ["total"] (Qb QcH):=by trivial
theorem QlP (QgE:Src K mg "gone_in" QcH ["total"]):Df P w K mg base "gone_in" 1 ["total"] false Qaz:=Qac (N:=["total"]) (fr:=false) (F:=Qc5) QgE Qh1 (by decide) fun f cdv A outer s H E hr=>by
 have nd:=Qh1.nd
 exact ((Qk (xop Qcn (xix (xv 0) xint) (xix (xv 0) xint))) >=> Qe)
theorem QhQ:FnScope ["total"] ["total"] (Qb QcD):=by trivial
theorem QlY (Qgz:Src K mg "left_in" QcD ["total"]) (QbS:Df P w K mg base "gone_in" 1 ["total"] false (Qaz)):Df P w K mg base "left_in" 2 ["total"] false Qcc:=Qac (N:=["total"]) (fr:=false) (F:=Qe3) Qgz QhQ (by decide) fun f cdv A outer s H E hr=>by
 have nd:=QhQ.nd
 exact ((Qk (xop Qcn (xix (xv 0) xint) (Qm (QbS.mono (by omega)) hr (Qa (xv 0) Qd)))) >=> Qe)
theorem Qem:FnScope ["self","one","other"] ["self","one","other"] (Qb Qa8):=by trivial
theorem Qg3 {f_Line__joined:Addr} {fd_Line__joined:FuncData} (QiE:Fun K "joined" "Line.joined" Qa8 f_Line__joined fd_Line__joined) (Qah:Df P w K mg base "joined_lack" 1 ["lack","left","next_lack"] false (QY)) (Qc7:Df P w K mg base "left_in" 2 ["total"] false (Qcc)):FnOk P w K mg base CX0 3 f_Line__joined fd_Line__joined ["self","one","other"] (spD K false 3 Qaa):=Qak QiE Qem (by decide) fun f cdv A outer s H E hr=>by
 have nd:=Qem.nd
 exact ((Qk (xtup (Qa (Qm (Qah.mono (by omega)) hr (Qa (xix (xv 1) xint) (Qa (Qm (Qc7.mono (by omega)) hr (Qa (xv 1) Qd)) (Qa (xix (xv 2) xint) Qd)))) (Qa (xop QaG (xix (xv 1) xint) (xix (xv 2) xint)) (Qa (xop QaG (xix (xv 1) xint) (xix (xv 2) xint)) Qd))))) >=> Qe)
theorem QdH:FnScope ["self"] ["self"] (Qb QaM):=by trivial
theorem Qgj {f_Line__nothing:Addr} {fd_Line__nothing:FuncData} (Qg6:Fun K "nothing" "Line.nothing" QaM f_Line__nothing fd_Line__nothing):FnOk P w K mg base CX0 1 f_Line__nothing fd_Line__nothing ["self"] (spD K false 1 QZ):=Qak Qg6 QdH (by decide) fun f cdv A outer s H E hr=>by
 have nd:=QdH.nd
 exact ((Qk (xtup (Qa xint (Qa xint (Qa xint Qd))))) >=> Qe)
theorem Qel:FnScope ["self","one","other"] ["self","one","other"] (Qb Qbi):=by trivial
theorem Qhc {f_Pile__joined:Addr} {fd_Pile__joined:FuncData} (Qin:Fun K "joined" "Pile.joined" Qbi f_Pile__joined fd_Pile__joined) (z_max:mg "max" = none) (Qah:Df P w K mg base "joined_lack" 1 ["lack","left","next_lack"] false (QY)):FnOk P w K mg base CX0 2 f_Pile__joined fd_Pile__joined ["self","one","other"] (spD K false 3 Qab):=Qak Qin Qel (by decide) fun f cdv A outer s H E hr=>by
 have nd:=Qel.nd
 exact ((Qk (xtup (Qa (Qm (Qah.mono (by omega)) hr (Qa (xix (xv 1) xint) (Qa (xix (xv 1) xint) (Qa (xix (xv 2) xint) Qd)))) (Qa (xop QaG (xix (xv 2) xint) (xb Qmc z_max (Qa xint (Qa (xop Qcn (xix (xv 1) xint) (xix (xv 2) xint)) Qd)))) Qd)))) >=> Qe)
theorem QdE:FnScope ["self"] ["self"] (Qb QaH):=by trivial
theorem Qgw {f_Pile__nothing:Addr} {fd_Pile__nothing:FuncData} (Qg9:Fun K "nothing" "Pile.nothing" QaH f_Pile__nothing fd_Pile__nothing):FnOk P w K mg base CX0 1 f_Pile__nothing fd_Pile__nothing ["self"] (spD K false 1 Q0):=Qak Qg9 QdE (by decide) fun f cdv A outer s H E hr=>by
 have nd:=QdE.nd
 exact ((Qk (xtup (Qa xint (Qa xint Qd)))) >=> Qe)
theorem Qf3:FnScope ["kind","knots","total","one"] ["kind","knots"] (Qb QbB):=by trivial
theorem Qkm (QeH:Src K mg "row_total" QbB ["kind","knots"]) (Q4:Df P w K mg base "total_of" 1 ["tree"] false (Qz)) (Qbv:MDf P w K mg base "Bag" "joined" 2 ["self","one","other"] false (QV)) (Qa5:MDf P w K mg base "Bag" "nothing" 1 ["self"] false (QU)) (Qa4:MDf P w K mg base "Kind" "joined" 1 ["self","one","other"] false (QaC)) (QaK:MDf P w K mg base "Kind" "nothing" 1 ["self"] false (Qas)) (Qbe:MDf P w K mg base "Line" "joined" 3 ["self","one","other"] false (Qaa)) (QaO:MDf P w K mg base "Line" "nothing" 1 ["self"] false (QZ)) (Qbh:MDf P w K mg base "Pile" "joined" 2 ["self","one","other"] false (Qab)) (QaI:MDf P w K mg base "Pile" "nothing" 1 ["self"] false (Q0)):Df P w K mg base "row_total" 4 ["kind","knots"] false Qp:=Qac (N:=["kind","knots","total","one"]) (fr:=false) (F:=QeP) QeH Qf3 (by decide) fun f cdv A outer s H E hr=>by
 have nd:=Qf3.nd
 exact ((Qq 2 nd (QoM (MAll.cons (QaK.mono (by omega)) rfl (MAll.cons (Qa5.mono (by omega)) rfl (MAll.cons (QaI.mono (by omega)) rfl (MAll.cons (QaO.mono (by omega)) rfl MAll.nil)))) hr (xvS 0))) >=> ((QjZ PassesOwn.never rfl (xvS 1) (Qbo 3 nd) ((Qq 2 nd (Qe2 (MAll.cons (Qa4.mono (by omega)) rfl (MAll.cons (Qbv.mono (by omega)) rfl (MAll.cons (Qbh.mono (by omega)) rfl (MAll.cons (Qbe.mono (by omega)) rfl MAll.nil)))) hr (xvS 0) (Qa (xvS 2) (Qa (Qm (Q4.mono (by omega)) hr (Qa (xvS 3) Qd)) Qd)))) >=> Qe)) >=> ((Qk (xv 2)) >=> Qe)))
theorem Qf5:FnScope ["self","at","deed"] ["self","at","deed"] (Qb Qce):=by trivial
theorem QjW {f_Bag__lone:Addr} {fd_Bag__lone:FuncData} (Qk2:Fun K "lone" "Bag.lone" Qce f_Bag__lone fd_Bag__lone) (Qa5:MDf P w K mg base "Bag" "nothing" 1 ["self"] false (QU)) (QaK:MDf P w K mg base "Kind" "nothing" 1 ["self"] false (Qas)) (QaO:MDf P w K mg base "Line" "nothing" 1 ["self"] false (QZ)) (QaI:MDf P w K mg base "Pile" "nothing" 1 ["self"] false (Q0)):FnOk P w K mg base CX0 2 f_Bag__lone fd_Bag__lone ["self","at","deed"] (spD K false 3 Qaw):=Qak Qk2 Qf5 (by decide) fun f cdv A outer s H E hr=>by
 have nd:=Qf5.nd
 exact ((Qan (Qaf (QbN hr.units) (xix (xv 2) xint) xstr (QQ _)) ((Qk (xtup (Qa xint (Qa (xtup Qd) (Qa (xtup (Qa (xtup (Qa (xix (xv 2) xint) (Qa (xv 1) Qd))) Qd)) Qd))))) >=> Qe) Qe) >=> ((Qan (Qaf (QbN hr.units) (xix (xv 2) xint) xstr (QQ _)) ((Qk (xtup (Qa xint (Qa (xtup Qd) (Qa (xtup Qd) Qd))))) >=> Qe) Qe) >=> ((Qk (QoM (MAll.cons (QaK.mono (by omega)) rfl (MAll.cons (Qa5.mono (by omega)) rfl (MAll.cons (QaI.mono (by omega)) rfl (MAll.cons (QaO.mono (by omega)) rfl MAll.nil)))) hr (xv 0))) >=> Qe)))
theorem Qfe:FnScope ["self","at","deed"] ["self","at","deed"] (Qb QbQ):=by trivial
theorem QiS {f_Kind__lone:Addr} {fd_Kind__lone:FuncData} (QjK:Fun K "lone" "Kind.lone" QbQ f_Kind__lone fd_Kind__lone):FnOk P w K mg base CX0 1 f_Kind__lone fd_Kind__lone ["self","at","deed"] (spD K false 3 Qcv):=Qak QjK Qfe (by decide) fun f cdv A outer s H E hr=>by
 have nd:=Qfe.nd
 exact ((Qk xint) >=> Qe)
theorem Qio:FnScope ["deed"] ["deed"] (Qb QcG):=by trivial
theorem QlS (QgG:Src K mg "puts_of" QcG ["deed"]):Df P w K mg base "puts_of" 1 ["deed"] false QcE:=Qac (N:=["deed"]) (fr:=false) (F:=Qfa) QgG Qio (by decide) fun f cdv A outer s H E hr=>by
 have nd:=Qio.nd
 exact ((Qk (xife (Qaf (QbN hr.units) (xix (xv 0) xint) xstr (QQ _)) xint xint)) >=> Qe)
theorem QgO:FnScope ["deed"] ["deed"] (Qb Qb5):=by trivial
theorem QkO (Qfv:Src K mg "takes_of" Qb5 ["deed"]):Df P w K mg base "takes_of" 1 ["deed"] false QbJ:=Qac (N:=["deed"]) (fr:=false) (F:=QdP) Qfv QgO (by decide) fun f cdv A outer s H E hr=>by
 have nd:=QgO.nd
 exact ((Qk (xife (Qaf (QbN hr.units) (xix (xv 0) xint) xstr (QQ _)) xint xint)) >=> Qe)
theorem Qfj:FnScope ["self","at","deed"] ["self","at","deed"] (Qb QbR):=by trivial
theorem QiN {f_Line__lone:Addr} {fd_Line__lone:FuncData} (Qj6:Fun K "lone" "Line.lone" QbR f_Line__lone fd_Line__lone) (Qc6:Df P w K mg base "puts_of" 1 ["deed"] false (QcE)) (Qb7:Df P w K mg base "takes_of" 1 ["deed"] false (QbJ)):FnOk P w K mg base CX0 2 f_Line__lone fd_Line__lone ["self","at","deed"] (spD K false 3 Qbs):=Qak Qj6 Qfj (by decide) fun f cdv A outer s H E hr=>by
 have nd:=Qfj.nd
 exact ((Qk (xtup (Qa (Qm (Qb7.mono (by omega)) hr (Qa (xv 2) Qd)) (Qa (Qm (Qc6.mono (by omega)) hr (Qa (xv 2) Qd)) (Qa (Qm (Qb7.mono (by omega)) hr (Qa (xv 2) Qd)) Qd))))) >=> Qe)
theorem Qfr:FnScope ["self","at","deed"] ["self","at","deed"] (Qb QbP):=by trivial
theorem QiK {f_Pile__lone:Addr} {fd_Pile__lone:FuncData} (Qj7:Fun K "lone" "Pile.lone" QbP f_Pile__lone fd_Pile__lone) (Qc6:Df P w K mg base "puts_of" 1 ["deed"] false (QcE)) (Qb7:Df P w K mg base "takes_of" 1 ["deed"] false (QbJ)):FnOk P w K mg base CX0 2 f_Pile__lone fd_Pile__lone ["self","at","deed"] (spD K false 3 Qbm):=Qak Qj7 Qfr (by decide) fun f cdv A outer s H E hr=>by
 have nd:=Qfr.nd
 exact ((Qk (xtup (Qa (Qm (Qb7.mono (by omega)) hr (Qa (xv 2) Qd)) (Qa (Qm (Qc6.mono (by omega)) hr (Qa (xv 2) Qd)) Qd)))) >=> Qe)
theorem Qmm:FnScope ["kind","at","deed"] ["kind","at","deed"] (Qb QfG):=by trivial
theorem QpD (QlT:Src K mg "leaf" QfG ["kind","at","deed"]) (QeG:MDf P w K mg base "Bag" "lone" 2 ["self","at","deed"] false (Qaw)) (Qd7:MDf P w K mg base "Kind" "lone" 1 ["self","at","deed"] false (Qcv)) (QdT:MDf P w K mg base "Line" "lone" 2 ["self","at","deed"] false (Qbs)) (QdK:MDf P w K mg base "Pile" "lone" 2 ["self","at","deed"] false (Qbm)):Df P w K mg base "leaf" 3 ["kind","at","deed"] false Qex:=Qac (N:=["kind","at","deed"]) (fr:=false) (F:=Qme) QlT Qmm (by decide) fun f cdv A outer s H E hr=>by
 have nd:=Qmm.nd
 exact ((Qk (xtup (Qa (xv 1) (Qa xint (Qa (Qe2 (MAll.cons (Qd7.mono (by omega)) rfl (MAll.cons (QeG.mono (by omega)) rfl (MAll.cons (QdK.mono (by omega)) rfl (MAll.cons (QdT.mono (by omega)) rfl MAll.nil)))) hr (xv 0) (Qa (xv 1) (Qa (xv 2) Qd))) (Qa (xv 2) Qd)))))) >=> Qe)
theorem QmG:FnScope ["kind","left","right","stretch","total"] ["kind","left","right"] (Qb QfE):=by trivial
theorem QoY (Qma:Src K mg "knot" QfE ["kind","left","right"]) (Qkt:Df P w K mg base "least" 2 ["one","other"] false (Qf9)) (QE:Df P w K mg base "stretch_of" 1 ["tree"] false (Qo)) (Q4:Df P w K mg base "total_of" 1 ["tree"] false (Qz)) (Qbv:MDf P w K mg base "Bag" "joined" 2 ["self","one","other"] false (QV)) (Qa4:MDf P w K mg base "Kind" "joined" 1 ["self","one","other"] false (QaC)) (Qbe:MDf P w K mg base "Line" "joined" 3 ["self","one","other"] false (Qaa)) (Qbh:MDf P w K mg base "Pile" "joined" 2 ["self","one","other"] false (Qab)):Df P w K mg base "knot" 4 ["kind","left","right"] false QbU:=Qac (N:=["kind","left","right","stretch","total"]) (fr:=false) (F:=Ql4) Qma QmG (by decide) fun f cdv A outer s H E hr=>by
 have nd:=QmG.nd
 exact ((Qq 3 nd (Qm (Qkt.mono (by omega)) hr (Qa (Qm (QE.mono (by omega)) hr (Qa (xvS 1) Qd)) (Qa (Qm (QE.mono (by omega)) hr (Qa (xvS 2) Qd)) Qd)))) >=> ((Qq 4 nd (Qe2 (MAll.cons (Qa4.mono (by omega)) rfl (MAll.cons (Qbv.mono (by omega)) rfl (MAll.cons (Qbh.mono (by omega)) rfl (MAll.cons (Qbe.mono (by omega)) rfl MAll.nil)))) hr (xvS 0) (Qa (Qm (Q4.mono (by omega)) hr (Qa (xvS 1) Qd)) (Qa (Qm (Q4.mono (by omega)) hr (Qa (xvS 2) Qd)) Qd)))) >=> ((Qk (xtup (Qa (xix (xv 3) xint) (Qa (xix (xv 3) xint) (Qa (xv 4) (Qa (xv 1) (Qa (xv 2) Qd))))))) >=> Qe)))
theorem Qjd:FnScope ["kind","tree","other"] ["kind","tree","other"] (Qb Qdc):=by trivial
theorem Qm6 (Qib:Src K mg "beside" Qdc ["kind","tree","other"]) (QdV:Df P w K mg base "knot" 4 ["kind","left","right"] false (QbU)):Df P w K mg base "beside" 5 ["kind","tree","other"] false QbW:=Qac (N:=["kind","tree","other"]) (fr:=false) (F:=QfK) Qib Qjd (by decide) fun f cdv A outer s H E hr=>by
 have nd:=Qjd.nd
 exact ((Qan (Qaf Qhq (xix (xv 2) xint) (xix (xv 1) xint) (QQ _)) ((Qk (Qm (QdV.mono (by omega)) hr (Qa (xv 0) (Qa (xv 2) (Qa (xv 1) Qd))))) >=> Qe) Qe) >=> ((Qk (Qm (QdV.mono (by omega)) hr (Qa (xv 0) (Qa (xv 1) (Qa (xv 2) Qd))))) >=> Qe))
theorem QgL:FnScope ["tree","at"] ["tree","at"] (Qb Qcb):=by trivial
theorem QkS (QfA:Src K mg "is_early" Qcb ["tree","at"]) (QdA:Df P w K mg base "halves" 1 ["stretch"] false (QcQ)) (Qcf:Df P w K mg base "holds" 2 ["stretch","number"] false (Qa3)) (QE:Df P w K mg base "stretch_of" 1 ["tree"] false (Qo)):Df P w K mg base "is_early" 3 ["tree","at"] false QaU:=Qac (N:=["tree","at"]) (fr:=false) (F:=Qfy) QfA QgL (by decide) fun f cdv A outer s H E hr=>by
 have nd:=QgL.nd
 exact ((Qk (Qm (Qcf.mono (by omega)) hr (Qa (xix (Qm (QdA.mono (by omega)) hr (Qa (Qm (QE.mono (by omega)) hr (Qa (xv 0) Qd)) Qd)) xint) (Qa (xv 1) Qd)))) >=> Qe)
theorem Qjl:FnScope ["kind","tree","at","deed"] ["kind","tree","at","deed"] (Qb Qdi):=by trivial
theorem Qjr (QeV:Src K mg "put_in" Qdi ["kind","tree","at","deed"]) (QfQ:Df P w K mg base "beside" 5 ["kind","tree","other"] false (QbW)) (Qcf:Df P w K mg base "holds" 2 ["stretch","number"] false (Qa3)) (Qeb:Df P w K mg base "is_early" 3 ["tree","at"] false (QaU)) (Qae:Df P w K mg base "is_leaf" 1 ["tree"] false (QK)) (QdV:Df P w K mg base "knot" 4 ["kind","left","right"] false (QbU)) (QhD:Df P w K mg base "leaf" 3 ["kind","at","deed"] false (Qex)) (QE:Df P w K mg base "stretch_of" 1 ["tree"] false (Qo)):∀ n:Nat,Df P w K mg base "put_in" (6 + n) ["kind","tree","at","deed"] false (QX n)
 | 0=>QlW QeV
 | n + 1=>by
  have QdD:=Qjr QeV QfQ Qcf Qeb Qae QdV QhD QE n
  exact Qac (N:=["kind","tree","at","deed"]) (fr:=false) (F:=QbV (QX n)) QeV Qjl (by decide) fun f cdv A outer s H E hr=>by
   have nd:=Qjl.nd
   replace hr:Room (6 + n) _:=hr
   exact ((Qan (QlH (xv 1)) ((Qk (Qm (QhD.mono (by omega)) hr (Qa (xv 0) (Qa (xv 2) (Qa (xv 3) Qd))))) >=> Qe) Qe) >=> ((Qan (Qgk (xt (Qm (Qcf.mono (by omega)) hr (Qa (Qm (QE.mono (by omega)) hr (Qa (xv 1) Qd)) (Qa (xv 2) Qd))))) ((Qk (Qm (QfQ.mono (by omega)) hr (Qa (xv 0) (Qa (xv 1) (Qa (Qm (QhD.mono (by omega)) hr (Qa (xv 0) (Qa (xv 2) (Qa (xv 3) Qd)))) Qd))))) >=> Qe) Qe) >=> ((Qan (xt (Qm (Qae.mono (by omega)) hr (Qa (xv 1) Qd))) (Qoe >=> Qe) Qe) >=> ((Qan (xt (Qm (Qeb.mono (by omega)) hr (Qa (xv 1) (Qa (xv 2) Qd)))) ((Qk (Qm (QdV.mono (by omega)) hr (Qa (xv 0) (Qa (Qm (QdD.mono (by omega)) hr (Qa (xv 0) (Qa (xix (xv 1) xint) (Qa (xv 2) (Qa (xv 3) Qd))))) (Qa (xix (xv 1) xint) Qd))))) >=> Qe) Qe) >=> ((Qk (Qm (QdV.mono (by omega)) hr (Qa (xv 0) (Qa (xix (xv 1) xint) (Qa (Qm (QdD.mono (by omega)) hr (Qa (xv 0) (Qa (xix (xv 1) xint) (Qa (xv 2) (Qa (xv 3) Qd))))) Qd))))) >=> Qe)))))
theorem QdB:FnScope ["deed"] ["deed"] (Qb Qar):=by trivial
theorem Qgm (QcV:Src K mg "numbers_ahead" Qar ["deed"]):Df P w K mg base "numbers_ahead" 1 ["deed"] false QF:=Qac (N:=["deed"]) (fr:=false) (F:=Qb2) QcV QdB (by decide) fun f cdv A outer s H E hr=>by
 have nd:=QdB.nd
 exact ((Qk (xife (Qaf (QbN hr.units) (xix (xv 0) xint) xstr (QQ _)) (xix (xv 0) xint) xint)) >=> Qe)
theorem Qfl:FnScope ["knot"] ["knot"] (Qb Qbk):=by trivial
theorem Qi3 (QdR:Src K mg "number_put" Qbk ["knot"]):Df P w K mg base "number_put" 1 ["knot"] false Qv:=Qac (N:=["knot"]) (fr:=false) (F:=Qbr) QdR Qfl (by decide) fun f cdv A outer s H E hr=>by
 have nd:=Qfl.nd
 exact ((Qk (xife (QlH (xv 0)) xnon (xix (xix (xv 0) xint) xint))) >=> Qe)
theorem QgQ:FnScope ["knot"] ["knot"] (Qb Qca):=by trivial
theorem Qly (QfC:Src K mg "time_put" Qca ["knot"]):Df P w K mg base "time_put" 1 ["knot"] false QaW:=Qac (N:=["knot"]) (fr:=false) (F:=QcA) QfC QgQ (by decide) fun f cdv A outer s H E hr=>by
 have nd:=QgQ.nd
 exact ((Qk (xife (QlH (xv 0)) xnon (xix (xv 0) xint))) >=> Qe)
theorem QdC:FnScope ["tree","stretch","both"] ["tree","stretch"] (Qb Qaq):=by trivial
theorem Qgh (QcW:Src K mg "one_step_down" Qaq ["tree","stretch"]) (QdA:Df P w K mg base "halves" 1 ["stretch"] false (QcQ)) (Qae:Df P w K mg base "is_leaf" 1 ["tree"] false (QK)) (QE:Df P w K mg base "stretch_of" 1 ["tree"] false (Qo)) (Qdk:Df P w K mg base "within" 3 ["one","other"] false (Qa9)):Df P w K mg base "one_step_down" 4 ["tree","stretch"] false Q1:=Qac (N:=["tree","stretch","both"]) (fr:=false) (F:=QaJ) QcW QdC (by decide) fun f cdv A outer s H E hr=>by
 have nd:=QdC.nd
 exact ((Qan (xt (Qm (Qae.mono (by omega)) hr (Qa (xv 0) Qd))) ((Qk xnon) >=> Qe) Qe) >=> ((Qq 2 nd (Qm (QdA.mono (by omega)) hr (Qa (Qm (QE.mono (by omega)) hr (Qa (xvS 0) Qd)) Qd))) >=> ((Qan (xt (Qm (Qdk.mono (by omega)) hr (Qa (xv 1) (Qa (xix (xv 2) xint) Qd)))) ((Qk (xix (xv 0) xint)) >=> Qe) Qe) >=> ((Qan (xt (Qm (Qdk.mono (by omega)) hr (Qa (xv 1) (Qa (xix (xv 2) xint) Qd)))) ((Qk (xix (xv 0) xint)) >=> Qe) Qe) >=> ((Qk xnon) >=> Qe)))))
theorem QjC:FnScope ["tree","stretch","there"] ["tree","stretch"] (Qb Qdb):=by trivial
theorem Qns (QhZ:Src K mg "inside" Qdb ["tree","stretch"]) (QcX:Df P w K mg base "one_step_down" 4 ["tree","stretch"] false (Q1)) (QE:Df P w K mg base "stretch_of" 1 ["tree"] false (Qo)) (Qdk:Df P w K mg base "within" 3 ["one","other"] false (Qa9)):Df P w K mg base "inside" 5 ["tree","stretch"] false QcR:=Qac (N:=["tree","stretch","there"]) (fr:=false) (F:=QiF) QhZ QjC (by decide) fun f cdv A outer s H E hr=>by
 have nd:=QjC.nd
 exact ((Qq 2 nd (xvS 0)) >=> ((Qk4 40 PassesOwn.never (PW.pt (QqI (QmM (xv 2)) (QoU (Qgk (xt (Qm (Qdk.mono (by omega)) hr (Qa (Qm (QE.mono (by omega)) hr (Qa (xv 2) Qd)) (Qa (xv 1) Qd)))))))) ((Qq 2 nd (Qm (QcX.mono (by omega)) hr (Qa (xvS 2) (Qa (xvS 1) Qd)))) >=> Qe)) >=> ((Qk (xv 2)) >=> Qe)))
theorem Qlm:FnScope ["tree","end","found"] ["tree","end"] (Qb Qc0):=by trivial
theorem Qoo (Qj2:Src K mg "ahead" Qc0 ["tree","end"]) (Qkx:Df P w K mg base "cover" 1 ["end"] true (QfU)) (QhR:Df P w K mg base "inside" 5 ["tree","stretch"] false (QcR)):Df P w K mg base "ahead" 6 ["tree","end"] true Qb1:=Qac (N:=["tree","end","found"]) (fr:=true) (F:=QjN) Qj2 Qlm (by decide) fun f cdv A outer s H E hr=>by
 have nd:=Qlm.nd
 exact ((QpE 2 nd (by refine Qj0 (N':=["stretch","tree"]) (k:=1) (ix:=[0]) (QeF _ ["tree","end","found"] ?_) ?_ fun _ _ _ _ _=>⟨?_,?_,?_⟩;exact (by first | decide +kernel | (change cnOk (Qb Qc0) _ _ _ _ _=true;decide +kernel));exact (toS (Qgt (Qkx.mono (by omega)) hr (Qa (xvS 1) Qd)));exact (Qbo 0 (show (["stretch","tree"]:List Str).Nodup from by decide +kernel));exact Qfz;exact (Qm (QhR.mono (by omega)) hr (Qa (xvS 1) (Qa (xvS 0) Qd))))) >=> ((QfR (by refine CompR.pe ?_;refine Qj0 (N':=["knot"]) (k:=1) (ix:=[]) (QeF _ ["tree","end","found"] ?_) ?_ fun _ _ _ _ _=>⟨?_,?_,?_⟩;exact (by first | decide +kernel | (change cnOk (Qb Qc0) _ _ _ _ _=true;decide +kernel));exact (xvS 2);exact (Qbo 0 (show (["knot"]:List Str).Nodup from by decide +kernel));exact (Qpa (QmM (xv 0)));exact (xvS 0))) >=> Qe))
theorem QfV:FnScope ["knots","above","still_above","knot","total"] ["knots","above"] (Qb QbG):=by trivial
theorem Qf8 (QcT:Src K mg "put_below" QbG ["knots","above"]) (z_reversed:mg "reversed" = none) (Qae:Df P w K mg base "is_leaf" 1 ["tree"] false (QK)) (Qdo:Df P w K mg base "parts" 1 ["tree"] false (Qcx)) (Q4:Df P w K mg base "total_of" 1 ["tree"] false (Qz)):∀ n:Nat,Df P w K mg base "put_below" (2 + n) ["knots","above"] false (QI n)
 | 0=>QlW QcT
 | n + 1=>by
  have Qam:=Qf8 QcT z_reversed Qae Qdo Q4 n
  exact Qac (N:=["knots","above","still_above","knot","total"]) (fr:=false) (F:=QcU (QI n)) QcT QfV (by decide) fun f cdv A outer s H E hr=>by
   have nd:=QfV.nd
   replace hr:Room (2 + n) _:=hr
   exact ((Qq 2 nd (xvS 1)) >=> ((QpR PassesOwn.never rfl z_reversed (xvS 0) (Qbo 3 nd) ((Qq 4 nd (Qm (Q4.mono (by omega)) hr (Qa (xvS 3) Qd))) >=> ((Qan (Qaf Qhq (xv 2) (xix (xv 4) xint) (QQ _)) ((Qk (xife (xt (Qm (Qae.mono (by omega)) hr (Qa (xv 3) Qd))) (xv 3) (Qm (Qam.mono (by omega)) hr (Qa (Qm (Qdo.mono (by omega)) hr (Qa (xv 3) Qd)) (Qa (xv 2) Qd))))) >=> Qe) Qe) >=> ((Qq 2 nd (xop QaG (xop Qcn (xv 2) (xix (xv 4) xint)) (xix (xv 4) xint))) >=> Qe)))) >=> ((Qk xnon) >=> Qe)))
theorem Qfc:FnScope ["knots","earlier","still_earlier","knot","puts"] ["knots","earlier"] (Qb Qbq):=by trivial
theorem Qfi (Qch:Src K mg "put_behind" Qbq ["knots","earlier"]) (Qae:Df P w K mg base "is_leaf" 1 ["tree"] false (QK)) (Qdo:Df P w K mg base "parts" 1 ["tree"] false (Qcx)) (Q4:Df P w K mg base "total_of" 1 ["tree"] false (Qz)):∀ n:Nat,Df P w K mg base "put_behind" (2 + n) ["knots","earlier"] false (QL n)
 | 0=>QlW Qch
 | n + 1=>by
  have QaP:=Qfi Qch Qae Qdo Q4 n
  exact Qac (N:=["knots","earlier","still_earlier","knot","puts"]) (fr:=false) (F:=Qcl (QL n)) Qch Qfc (by decide) fun f cdv A outer s H E hr=>by
   have nd:=Qfc.nd
   replace hr:Room (2 + n) _:=hr
   exact ((Qq 2 nd (xvS 1)) >=> ((QjZ PassesOwn.never rfl (xvS 0) (Qbo 3 nd) ((Qq 4 nd (xix (Qm (Q4.mono (by omega)) hr (Qa (xvS 3) Qd)) xint)) >=> ((Qan (Qaf Qhq (xv 2) (xv 4) (QQ _)) ((Qk (xife (xt (Qm (Qae.mono (by omega)) hr (Qa (xv 3) Qd))) (xv 3) (Qm (QaP.mono (by omega)) hr (Qa (Qm (Qdo.mono (by omega)) hr (Qa (xv 3) Qd)) (Qa (xv 2) Qd))))) >=> Qe) Qe) >=> ((Qq 2 nd (xop Qcn (xv 2) (xv 4))) >=> Qe)))) >=> ((Qk xnon) >=> Qe)))
theorem Qeo:FnScope ["_law_script","_law_k"] ["_law_script","_law_k"] (Qb QaB):=by trivial
theorem Qg5 (Qdh:Src K mg "_law_cell_at" QaB ["_law_script","_law_k"]) (z_len:mg "len" = none):Df P w K mg base "_law_cell_at" 1 ["_law_script","_law_k"] false QC:=Qac (N:=["_law_script","_law_k"]) (fr:=false) (F:=Qcw) Qdh Qeo (by decide) fun f cdv A outer s H E hr=>by
 have nd:=Qeo.nd
 exact ((Qan (Qaf Qhq (xv 1) (xb QdQ z_len (Qa (xv 0) Qd)) (QQ _)) ((Qk (xix (xv 0) (xv 1))) >=> Qe) Qe) >=> ((Qk xint) >=> Qe))
theorem Qfp:FnScope ["_law_found"] ["_law_found"] (Qb Qbn):=by trivial
theorem QiU (QdS:Src K mg "_law_whole" Qbn ["_law_found"]) (z_bool:mg "bool" = none) (z_int:mg "int" = none) (z_isinstance:mg "isinstance" = none):Df P w K mg base "_law_whole" 1 ["_law_found"] false Qcq:=Qac (N:=["_law_found"]) (fr:=false) (F:=Qc4) QdS Qfp (by decide) fun f cdv A outer s H E hr=>by
 have nd:=Qfp.nd
 exact ((Qk (xand (xis z_isinstance z_int (xv 0)) (xone (xnot (xis z_isinstance z_bool (xv 0)))))) >=> Qe)
theorem Qeq:FnScope ["_law_cell","_law_k","_law_way"] ["_law_cell","_law_k"] (Qb Qa1):=by trivial
theorem QhX (Qdw:Src K mg "_law_number" Qa1 ["_law_cell","_law_k"]):Df P w K mg base "_law_number" 1 ["_law_cell","_law_k"] false QW:=Qac (N:=["_law_cell","_law_k","_law_way"]) (fr:=false) (F:=QbA) Qdw Qeq (by decide) fun f cdv A outer s H E hr=>by
 have nd:=Qeq.nd
 exact ((Qq 2 nd (xop QbI (xv 0) xint)) >=> ((Qan (Qaf (QbN hr.units) (xv 2) xint (QQ _)) ((Qk (xop Qcn (xop QbI (xop QaG (xop Qb8 (xv 0) xint) (xop Qfx (xop Qfx xint (xv 1)) (xv 1))) xint) xint)) >=> Qe) Qe) >=> ((Qan (Qaf (QbN hr.units) (xv 2) xint (QQ _)) ((Qk (xop Qcn (xop QbI (xop Qb8 (xv 0) xint) (xop Qfx xint (xop QhY xint xint))) (xop QhY xint xint))) >=> Qe) Qe) >=> ((Qan (Qaf (QbN hr.units) (xv 2) xint (QQ _)) ((Qk (xop Qcn (xop QbI (xop Qb8 (xv 0) xint) xint) xint)) >=> Qe) Qe) >=> ((Qk (xop QbI (xop Qb8 (xv 0) xint) (xop QhY xint xint))) >=> Qe)))))
theorem Qga:FnScope ["_law_cell","_law_k","_law_tilt","_law_way"] ["_law_cell","_law_k","_law_tilt"] (Qb QbO):=by trivial
theorem Qkl (QeO:Src K mg "_law_deed" QbO ["_law_cell","_law_k","_law_tilt"]) (Qbz:Df P w K mg base "_law_number" 1 ["_law_cell","_law_k"] false (QW)):Df P w K mg base "_law_deed" 2 ["_law_cell","_law_k","_law_tilt"] false Qax:=Qac (N:=["_law_cell","_law_k","_law_tilt","_law_way"]) (fr:=false) (F:=QbD) QeO Qga (by decide) fun f cdv A outer s H E hr=>by
 have nd:=Qga.nd
 exact ((Qq 3 nd (xop QbI (xv 0) xint)) >=> ((Qan (Qaf Qhq (xv 3) (xop QaG xint (xv 2)) (QQ _)) ((Qk (xtup (Qa xstr (Qa (Qm (Qbz.mono (by omega)) hr (Qa (xop Qb8 (xv 0) xint) (Qa (xv 1) Qd))) Qd)))) >=> Qe) Qe) >=> ((Qan (Qaf Qhq (xv 3) xint (QQ _)) ((Qk (xtup (Qa xstr Qd))) >=> Qe) Qe) >=> ((Qan (Qaf (QbN hr.units) (xv 3) xint (QQ _)) ((Qk (xtup (Qa xstr Qd))) >=> Qe) Qe) >=> ((Qan (Qaf (QbN hr.units) (xop QbI (xop Qb8 (xv 0) xint) xint) xint (QQ _)) ((Qk (xtup (Qa xstr (Qa (xop QbI (xop Qb8 (xv 0) xint) (xop QhY xint xint)) Qd)))) >=> Qe) Qe) >=> ((Qk (xtup (Qa xstr (Qa (xop QbI (xop QaG (xop Qb8 (xv 0) xint) (xv 1)) xint) Qd)))) >=> Qe))))))
theorem Qfk:FnScope ["_law_cells","_law_cell","_law_wide","_law_times_here","_law_at","_law_k","_law_shift"] ["_law_cells","_law_cell"] (Qb QaS):=by trivial
theorem QiV (QdL:Src K mg "_law_times" QaS ["_law_cells","_law_cell"]) (z_len:mg "len" = none) (z_range:mg "range" = none):Df P w K mg base "_law_times" 1 ["_law_cells","_law_cell"] false Qci:=Qac (N:=["_law_cells","_law_cell","_law_wide","_law_times_here","_law_at","_law_k","_law_shift"]) (fr:=false) (F:=QdO) QdL Qfk (by decide) fun f cdv A outer s H E hr=>by
 have nd:=Qfk.nd
 exact (by refine Qmp ?_ ?_;refine @Qq _ _ _ _ _ _ 2 _ _ nd ?_ rfl (by first | exact Or.inl rfl | exact Or.inr rfl) rfl (by first | exact .inl rfl | exact .inr rfl);refine xix ?_ ?_;refine toS ?_;refine xlst ?_;refine Qa ?_ ?_;exact xint;refine Qa ?_ ?_;exact xint;refine Qa ?_ ?_;exact xint;exact Qd;exact (xop QbI (xv 1) xint);exact ((Ql8 3 nd (xlst Qd)) >=> ((Qq 4 nd xint) >=> ((QmL PassesOwn.never rfl z_range (Qa (xb QdQ z_len (Qa (xv 0) Qd)) Qd) (Qbo 5 nd) ((QlE 3 (xvS 4)) >=> ((Qq 4 nd (xop QaG (xop QaG (xv 4) xint) (xop QbI (xop QaG (xop Qb8 (xix (xv 0) (xv 5)) xint) (xix (xv 0) (xop Qcn (xv 5) xint))) (xv 2)))) >=> Qe))) >=> ((Qpi 3 (Qan (Qaf (QbN hr.units) (xv 3) (toW (m:=.F) (xlst Qd)) (QQ _)) ((Qk (toW (m:=.F) (xlst Qd))) >=> Qe) Qe)) >=> ((Qq 6 nd (xop QbI (xop Qb8 (xv 1) xint) (xop Qcn xint (xix (xv 3) (xneg xint))))) >=> ((Qk (toW (m:=.F) (by refine CompR.pe ?_;refine Qj0 (N':=["_law_at","_law_shift"]) (k:=1) (ix:=[6]) (QeF _ ["_law_cells","_law_cell","_law_wide","_law_times_here","_law_at","_law_k","_law_shift"] ?_) ?_ fun _ _ _ _ _=>⟨?_,?_,?_⟩;exact (by first | decide +kernel | (change cnOk (Qb QaS) _ _ _ _ _=true;decide +kernel));exact (xvS 3);exact (Qbo 0 (show (["_law_at","_law_shift"]:List Str).Nodup from by decide +kernel));exact Qfz;exact (xop QaG (xv 1) (xv 0))))) >=> Qe)))))))
theorem Qfq:FnScope ["_law_script","_law_size"] ["_law_script","_law_size"] (Qb Qai):=by trivial
def Qep:Option (Scope×Pos):=match Qi Qai with
 | [.Return (some (.Call _ _ [⟨_,.Lambda _ _ sc lp,_⟩] _)) _]=>some (sc,lp)
 | _=>none
abbrev lamS:Scope:=((Qep).map (·.1)).getD (Qb Qai)
abbrev lamL:Pos:=((Qep).map (·.2)).getD ⟨0,0,0,0⟩
abbrev lamP (T:Addr):LP:=⟨T,lamL,("_law_order":Str)++".<locals>."++"<lambda>"⟩
theorem Qhs:LamSc "_law_k" "_law_script" lamS:=⟨rfl,rfl,rfl,by decide +kernel,rfl,rfl,by decide +kernel⟩
theorem QiJ {c0 T:Addr} (LB:LamB mg base c0 T) (cd:∀ f fd,mg "_law_order" = some (.ref f)->(∃ oc od sl,K.lookup f=some ⟨oc,od,.func fd,sl⟩)->fd.code=.ref c0) (QdX:Src K mg "_law_order" Qai ["_law_script","_law_size"]) (z_range:mg "range" = none) (z_sorted:mg "sorted" = none) (QJ:Df P w K mg base "_law_cell_at" 1 ["_law_script","_law_k"] false (QC)):DfO P w K mg base (lamP T) "_law_order" 5 ["_law_script","_law_size"] QbZ:=by
 refine Qqo (N:=["_law_script","_law_size"]) (fl:=QcK) (fb:=Qbx) (iy:=0) QdX Qfq (by decide) cd rfl fun f A outer s H E hr=>?_
 have nd:=Qfq.nd
 exact Qri (kk:=1) (p:="_law_k") (y:="_law_script") (iy:=0) LB rfl Qhs hr rfl rfl ⟨_,rfl,rfl⟩ rfl (fun _ _ _ _ _=>rfl) (Qa (toS (by refine CompR.pe ?_;refine Qpg (N':=["_law_k"]) (k:=1) (ix:=[]) (QeF _ ["_law_script","_law_size"] ?_) z_range ?_ fun _ _ _ _ _=>⟨?_,?_,?_⟩;exact (by first | decide +kernel | (change cnOk (Qb Qai) _ _ _ _ _=true;decide +kernel));exact (Qa (xv 1) Qd);exact (Qbo 0 (show (["_law_k"]:List Str).Nodup from by decide +kernel));exact Qfz;exact (xvS 0))) Qd) (fun f2 c2 c3 s2 H2 hr=>(xop QbI (xop QaG (xop Qfx (Qm (QJ.mono (by omega)) hr (Qa (xv 1) (Qa (xv 0) Qd))) xint) (xop Qfx (xop Qfx (xv 0) (xv 0)) xint)) xint)) z_sorted
theorem QfW:FnScope ["_law_kind","_law_row_here","_law_script","_law_tree_here","_law_k"] ["_law_kind","_law_row_here","_law_script"] (Qb QbC):=by trivial
theorem Qkh {T:Addr} (QeN:Src K mg "_law_tree" QbC ["_law_kind","_law_row_here","_law_script"]) (z_len:mg "len" = none) (QdY:DfO P w K mg base (lamP T) "_law_order" 5 ["_law_script","_law_size"] QbZ) (QdD:Df P w K mg base "put_in" 70 ["kind","tree","at","deed"] false (QX 64)):DfL P w K mg base (lamP T) "_law_tree" 71 ["_law_kind","_law_row_here","_law_script"] QaR:=Qrg (N:=["_law_kind","_law_row_here","_law_script","_law_tree_here","_law_k"]) (F:=QeC) QeN QfW (by decide) fun f cdv A outer s H E hr=>by
 have nd:=QfW.nd
 exact (by refine Qc3 ?_ ?_;exact (by refine QjF ?_;exact (Qq 3 nd xnon));exact (by refine Qc3 ?_ ?_;exact (Qpp 4 (QdY.mono (by omega)) hr PassesOwn.never rfl (Qa (xv 2) (Qa (xb QdQ z_len (Qa (xv 1) Qd)) Qd)) (Qbo 4 nd) ((Qq 3 nd (Qm (QdD.mono (by omega)) hr (Qa (xvS 0) (Qa (xvS 3) (Qa (xix (xix (xvS 1) (xv 4)) xint) (Qa (xix (xix (xvS 1) (xv 4)) xint) Qd)))))) >=> Qe));exact (by refine QnP ?_;exact ((Qk (xv 3)) >=> Qe))))
theorem QgI:FnScope ["_law_script","_law_falls","_law_cells","_law_tilt","_law_times_here","_law_x","_law_row_here","_law_k","_law_deed_here","_law_step"] ["_law_script","_law_falls"] (Qb Qb3):=by trivial
theorem Qk7 (Qft:Src K mg "_law_row" Qb3 ["_law_script","_law_falls"]) (z_len:mg "len" = none) (z_range:mg "range" = none) (QJ:Df P w K mg base "_law_cell_at" 1 ["_law_script","_law_k"] false (QC)) (QeB:Df P w K mg base "_law_deed" 2 ["_law_cell","_law_k","_law_tilt"] false (Qax)) (Qbz:Df P w K mg base "_law_number" 1 ["_law_cell","_law_k"] false (QW)) (QdU:Df P w K mg base "_law_times" 1 ["_law_cells","_law_cell"] false (Qci)):Df P w K mg base "_law_row" 3 ["_law_script","_law_falls"] true Qcz:=Qac (N:=["_law_script","_law_falls","_law_cells","_law_tilt","_law_times_here","_law_x","_law_row_here","_law_k","_law_deed_here","_law_step"]) (fr:=true) (F:=QfD) Qft QgI (by decide) fun f cdv A outer s H E hr=>by
 have nd:=QgI.nd
 exact ((Qq 2 nd (toS (xsl (xvS 0) (Qf4 xint) (Qf4 xint)))) >=> ((Qq 3 nd (xop QbI (xop Qb8 (Qm (QJ.mono (by omega)) hr (Qa (xv 0) (Qa xint Qd))) xint) xint)) >=> ((Qq 4 nd (Qm (QdU.mono (by omega)) hr (Qa (xvS 2) (Qa (Qm (QJ.mono (by omega)) hr (Qa (xvS 0) (Qa xint Qd))) Qd)))) >=> ((Qq 5 nd (Qm (Qbz.mono (by omega)) hr (Qa (Qm (QJ.mono (by omega)) hr (Qa (xvS 0) (Qa xint Qd))) (Qa xint Qd)))) >=> ((Ql8 6 nd (xlst Qd)) >=> ((QmL PassesOwn.never rfl z_range (Qa (xb QdQ z_len (Qa (xv 2) Qd)) Qd) (Qbo 7 nd) ((Qq 8 nd (Qm (QeB.mono (by omega)) hr (Qa (xix (xvS 2) (xv 7)) (Qa (xvS 7) (Qa (xvS 3) Qd))))) >=> ((Qan (Qaf (QbN hr.units) (xix (xv 8) xint) xstr (QQ _)) ((Qq 9 nd (xop QaG xint (xop QbI (xix (xv 8) xint) (xop QhY xint xint)))) >=> ((Qan (xt (xv 1)) ((Qq 9 nd (xop Qcn xint (xv 9))) >=> Qe) Qe) >=> ((Qq 5 nd (xop QaG (xv 5) (xv 9))) >=> ((Qq 8 nd (xtup (Qa xstr (Qa (xvS 5) Qd)))) >=> Qe)))) Qe) >=> ((QlE 6 (xtup (Qa (xix (xvS 4) (xv 7)) (Qa (xvS 8) Qd)))) >=> Qe)))) >=> ((QmC 6) >=> Qe)))))))
theorem Qgc:FnScope ["_law_found"] ["_law_found"] (Qb QbF):=by trivial
theorem Qki (QeM:Src K mg "_law_told" QbF ["_law_found"]) (Qd1:Df P w K mg base "_law_whole" 1 ["_law_found"] false (Qcq)):Df P w K mg base "_law_told" 2 ["_law_found"] false QA:=Qac (N:=["_law_found"]) (fr:=false) (F:=Qcd) QeM Qgc (by decide) fun f cdv A outer s H E hr=>by
 have nd:=Qgc.nd
 exact ((Qk (xor (xisN (xv 0)) (xone (Qm (Qd1.mono (by omega)) hr (Qa (xv 0) Qd))))) >=> Qe)
theorem Qdn:FnScope ["self","knots","deed","left","place"] ["self","knots","deed"] (Qb QaA):=by trivial
theorem QfT {f_Bag__put_asked:Addr} {fd_Bag__put_asked:FuncData} (Qgv:Fun K "put_asked" "Bag.put_asked" QaA f_Bag__put_asked fd_Bag__put_asked) (z_len:mg "len" = none) (QG:Df P w K mg base "numbers_ahead" 1 ["deed"] false (QF)) (Qr:Df P w K mg base "row_total" 4 ["kind","knots"] false (Qp)):FnOk P w K mg base CX0 5 f_Bag__put_asked fd_Bag__put_asked ["self","knots","deed"] (spD K false 3 Qw):=Qak Qgv Qdn (by decide) fun f cdv A outer s H E hr=>by
 have nd:=Qdn.nd
 exact ((Qq 3 nd (xix (Qm (Qr.mono (by omega)) hr (Qa (xvS 0) (Qa (xvS 1) Qd))) xint)) >=> ((Qq 4 nd (Qm (QG.mono (by omega)) hr (Qa (xvS 2) Qd))) >=> ((Qk (xife (Qaf Qhq (xv 4) (xb QdQ z_len (Qa (xv 3) Qd)) (QQ _)) (xix (xv 3) (xv 4)) (xtup (Qa xnon (Qa xnon Qd))))) >=> Qe)))
theorem Qdf:FnScope ["self","knots","deed"] ["self","knots","deed"] (Qb Qao):=by trivial
theorem QfI {f_Line__put_asked:Addr} {fd_Line__put_asked:FuncData} (QfZ:Fun K "put_asked" "Line.put_asked" Qao f_Line__put_asked fd_Line__put_asked) (QbS:Df P w K mg base "gone_in" 1 ["total"] false (Qaz)) (QG:Df P w K mg base "numbers_ahead" 1 ["deed"] false (QF)) (QaP:Df P w K mg base "put_behind" 66 ["knots","earlier"] false (QL 64)) (Qr:Df P w K mg base "row_total" 4 ["kind","knots"] false (Qp)):FnOk P w K mg base CX0 67 f_Line__put_asked fd_Line__put_asked ["self","knots","deed"] (spD K false 3 Qx):=Qak QfZ Qdf (by decide) fun f cdv A outer s H E hr=>by
 have nd:=Qdf.nd
 exact ((Qk (Qm (QaP.mono (by omega)) hr (Qa (xv 1) (Qa (xop QaG (Qm (QbS.mono (by omega)) hr (Qa (Qm (Qr.mono (by omega)) hr (Qa (xv 0) (Qa (xv 1) Qd))) Qd)) (Qm (QG.mono (by omega)) hr (Qa (xv 2) Qd))) Qd)))) >=> Qe)
theorem QeW:FnScope ["self","knots","deed"] ["self","knots","deed"] (Qb Qbu):=by trivial
theorem Qif {f_Bag__answer:Addr} {fd_Bag__answer:FuncData} (Qi2:Fun K "answer" "Bag.answer" Qbu f_Bag__answer fd_Bag__answer) (z_len:mg "len" = none) (Qr:Df P w K mg base "row_total" 4 ["kind","knots"] false (Qp)) (QB:MDf P w K mg base "Bag" "put_asked" 5 ["self","knots","deed"] false (Qw)) (Qy:MDf P w K mg base "Line" "put_asked" 67 ["self","knots","deed"] false (Qx)):FnOk P w K mg base CX0 68 f_Bag__answer fd_Bag__answer ["self","knots","deed"] (spD K false 3 Q8):=Qak Qi2 QeW (by decide) fun f cdv A outer s H E hr=>by
 have nd:=QeW.nd
 exact ((Qan (Qaf (QbN hr.units) (xix (xv 2) xint) xstr (QQ _)) ((Qk (xb QdQ z_len (Qa (xix (Qm (Qr.mono (by omega)) hr (Qa (xv 0) (Qa (xv 1) Qd))) xint) Qd))) >=> Qe) Qe) >=> ((Qk (xix (Qe2 (MAll.cons (QB.mono (by omega)) rfl (MAll.cons (Qy.mono (by omega)) rfl MAll.nil)) hr (xv 0) (Qa (xv 1) (Qa (xv 2) Qd))) xint)) >=> Qe))
theorem QeQ:FnScope ["self","knots","deed"] ["self","knots","deed"] (Qb Qbw):=by trivial
theorem Qid {f_Bag__source:Addr} {fd_Bag__source:FuncData} (QiY:Fun K "source" "Bag.source" Qbw f_Bag__source fd_Bag__source) (QB:MDf P w K mg base "Bag" "put_asked" 5 ["self","knots","deed"] false (Qw)) (Qy:MDf P w K mg base "Line" "put_asked" 67 ["self","knots","deed"] false (Qx)):FnOk P w K mg base CX0 68 f_Bag__source fd_Bag__source ["self","knots","deed"] (spD K false 3 Q7):=Qak QiY QeQ (by decide) fun f cdv A outer s H E hr=>by
 have nd:=QeQ.nd
 exact ((Qan (Qaf (QbN hr.units) (xix (xv 2) xint) xstr (QQ _)) ((Qk xnon) >=> Qe) Qe) >=> ((Qk (xix (Qe2 (MAll.cons (QB.mono (by omega)) rfl (MAll.cons (Qy.mono (by omega)) rfl MAll.nil)) hr (xv 0) (Qa (xv 1) (Qa (xv 2) Qd))) xint)) >=> Qe))
theorem Qee:FnScope ["self","knots","deed"] ["self","knots","deed"] (Qb Qbg):=by trivial
theorem Qg7 {f_Kind__answer:Addr} {fd_Kind__answer:FuncData} (Qil:Fun K "answer" "Kind.answer" Qbg f_Kind__answer fd_Kind__answer):FnOk P w K mg base CX0 1 f_Kind__answer fd_Kind__answer ["self","knots","deed"] (spD K false 3 QbH):=Qak Qil Qee (by decide) fun f cdv A outer s H E hr=>by
 have nd:=Qee.nd
 exact ((Qk xnon) >=> Qe)
theorem Qej:FnScope ["self","knots","deed"] ["self","knots","deed"] (Qb Qa6):=by trivial
theorem Qg2 {f_Kind__source:Addr} {fd_Kind__source:FuncData} (Qhx:Fun K "source" "Kind.source" Qa6 f_Kind__source fd_Kind__source):FnOk P w K mg base CX0 1 f_Kind__source fd_Kind__source ["self","knots","deed"] (spD K false 3 QbL):=Qak Qhx Qej (by decide) fun f cdv A outer s H E hr=>by
 have nd:=Qej.nd
 exact ((Qk xnon) >=> Qe)
theorem Qef:FnScope ["self","knots","deed"] ["self","knots","deed"] (Qb Qba):=by trivial
theorem QgU {f_Line__answer:Addr} {fd_Line__answer:FuncData} (QiG:Fun K "answer" "Line.answer" Qba f_Line__answer fd_Line__answer) (Qc7:Df P w K mg base "left_in" 2 ["total"] false (Qcc)) (Q3:Df P w K mg base "number_put" 1 ["knot"] false (Qv)) (Qr:Df P w K mg base "row_total" 4 ["kind","knots"] false (Qp)) (QB:MDf P w K mg base "Bag" "put_asked" 5 ["self","knots","deed"] false (Qw)) (Qy:MDf P w K mg base "Line" "put_asked" 67 ["self","knots","deed"] false (Qx)):FnOk P w K mg base CX0 68 f_Line__answer fd_Line__answer ["self","knots","deed"] (spD K false 3 QN):=Qak QiG Qef (by decide) fun f cdv A outer s H E hr=>by
 have nd:=Qef.nd
 exact ((Qan (Qaf (QbN hr.units) (xix (xv 2) xint) xstr (QQ _)) ((Qk (Qm (Qc7.mono (by omega)) hr (Qa (Qm (Qr.mono (by omega)) hr (Qa (xv 0) (Qa (xv 1) Qd))) Qd))) >=> Qe) Qe) >=> ((Qk (Qm (Q3.mono (by omega)) hr (Qa (Qe2 (MAll.cons (QB.mono (by omega)) rfl (MAll.cons (Qy.mono (by omega)) rfl MAll.nil)) hr (xv 0) (Qa (xv 1) (Qa (xv 2) Qd))) Qd))) >=> Qe))
theorem Qeh:FnScope ["self","knots","deed"] ["self","knots","deed"] (Qb Qbd):=by trivial
theorem QgZ {f_Line__source:Addr} {fd_Line__source:FuncData} (QhN:Fun K "source" "Line.source" Qbd f_Line__source fd_Line__source) (QcB:Df P w K mg base "time_put" 1 ["knot"] false (QaW)) (QB:MDf P w K mg base "Bag" "put_asked" 5 ["self","knots","deed"] false (Qw)) (Qy:MDf P w K mg base "Line" "put_asked" 67 ["self","knots","deed"] false (Qx)):FnOk P w K mg base CX0 68 f_Line__source fd_Line__source ["self","knots","deed"] (spD K false 3 QT):=Qak QhN Qeh (by decide) fun f cdv A outer s H E hr=>by
 have nd:=Qeh.nd
 exact ((Qan (Qaf (QbN hr.units) (xix (xv 2) xint) xstr (QQ _)) ((Qk xnon) >=> Qe) Qe) >=> ((Qk (Qm (QcB.mono (by omega)) hr (Qa (Qe2 (MAll.cons (QB.mono (by omega)) rfl (MAll.cons (Qy.mono (by omega)) rfl MAll.nil)) hr (xv 0) (Qa (xv 1) (Qa (xv 2) Qd))) Qd))) >=> Qe))
theorem Qed:FnScope ["self","knots","deed"] ["self","knots","deed"] (Qb Qbc):=by trivial
theorem Qg0 {f_Pile__answer:Addr} {fd_Pile__answer:FuncData} (QhB:Fun K "answer" "Pile.answer" Qbc f_Pile__answer fd_Pile__answer) (Q3:Df P w K mg base "number_put" 1 ["knot"] false (Qv)) (QG:Df P w K mg base "numbers_ahead" 1 ["deed"] false (QF)) (Qam:Df P w K mg base "put_below" 66 ["knots","above"] false (QI 64)) (Qr:Df P w K mg base "row_total" 4 ["kind","knots"] false (Qp)):FnOk P w K mg base CX0 67 f_Pile__answer fd_Pile__answer ["self","knots","deed"] (spD K false 3 Qal):=Qak QhB Qed (by decide) fun f cdv A outer s H E hr=>by
 have nd:=Qed.nd
 exact ((Qan (Qaf (QbN hr.units) (xix (xv 2) xint) xstr (QQ _)) ((Qk (xix (Qm (Qr.mono (by omega)) hr (Qa (xv 0) (Qa (xv 1) Qd))) xint)) >=> Qe) Qe) >=> ((Qk (Qm (Q3.mono (by omega)) hr (Qa (Qm (Qam.mono (by omega)) hr (Qa (xv 1) (Qa (Qm (QG.mono (by omega)) hr (Qa (xv 2) Qd)) Qd))) Qd))) >=> Qe))
theorem Qek:FnScope ["self","knots","deed"] ["self","knots","deed"] (Qb Qbb):=by trivial
theorem QgV {f_Pile__source:Addr} {fd_Pile__source:FuncData} (Qh7:Fun K "source" "Pile.source" Qbb f_Pile__source fd_Pile__source) (QG:Df P w K mg base "numbers_ahead" 1 ["deed"] false (QF)) (Qam:Df P w K mg base "put_below" 66 ["knots","above"] false (QI 64)) (QcB:Df P w K mg base "time_put" 1 ["knot"] false (QaW)):FnOk P w K mg base CX0 67 f_Pile__source fd_Pile__source ["self","knots","deed"] (spD K false 3 Qaj):=Qak Qh7 Qek (by decide) fun f cdv A outer s H E hr=>by
 have nd:=Qek.nd
 exact ((Qan (Qaf (QbN hr.units) (xix (xv 2) xint) xstr (QQ _)) ((Qk xnon) >=> Qe) Qe) >=> ((Qk (Qm (QcB.mono (by omega)) hr (Qa (Qm (Qam.mono (by omega)) hr (Qa (xv 1) (Qa (Qm (QG.mono (by omega)) hr (Qa (xv 2) Qd)) Qd))) Qd))) >=> Qe))
theorem Qfb:FnScope ["_law_bag","_law_mine","_law_other","_law_its","_law_question","_law_answer","_law_source"] ["_law_bag","_law_mine","_law_other","_law_its","_law_question"] (Qb Qbl):=by trivial
theorem Qi4 (Qd6:Src K mg "_law_alike" Qbl ["_law_bag","_law_mine","_law_other","_law_its","_law_question"]) (Qdp:Df P w K mg base "_law_told" 2 ["_law_found"] false (QA)) (QcL:MDf P w K mg base "Bag" "answer" 68 ["self","knots","deed"] false (Q8)) (QcJ:MDf P w K mg base "Bag" "source" 68 ["self","knots","deed"] false (Q7)) (Qcs:MDf P w K mg base "Kind" "answer" 1 ["self","knots","deed"] false (QbH)) (Qco:MDf P w K mg base "Kind" "source" 1 ["self","knots","deed"] false (QbL)) (Qcr:MDf P w K mg base "Line" "answer" 68 ["self","knots","deed"] false (QN)) (Qcp:MDf P w K mg base "Line" "source" 68 ["self","knots","deed"] false (QT)) (Qcj:MDf P w K mg base "Pile" "answer" 67 ["self","knots","deed"] false (Qal)) (Qcm:MDf P w K mg base "Pile" "source" 67 ["self","knots","deed"] false (Qaj)):Df P w K mg base "_law_alike" 69 ["_law_bag","_law_mine","_law_other","_law_its","_law_question"] false Q9:=Qac (N:=["_law_bag","_law_mine","_law_other","_law_its","_law_question","_law_answer","_law_source"]) (fr:=false) (F:=Qc2) Qd6 Qfb (by decide) fun f cdv A outer s H E hr=>by
 have nd:=Qfb.nd
 exact ((Qq 5 nd (Qe2 (MAll.cons (Qcs.mono (by omega)) rfl (MAll.cons (QcL.mono (by omega)) rfl (MAll.cons (Qcj.mono (by omega)) rfl (MAll.cons (Qcr.mono (by omega)) rfl MAll.nil)))) hr (xvS 0) (Qa (xvS 1) (Qa (xvS 4) Qd)))) >=> ((Qq 6 nd (Qe2 (MAll.cons (Qco.mono (by omega)) rfl (MAll.cons (QcJ.mono (by omega)) rfl (MAll.cons (Qcm.mono (by omega)) rfl (MAll.cons (Qcp.mono (by omega)) rfl MAll.nil)))) hr (xvS 0) (Qa (xvS 1) (Qa (xvS 4) Qd)))) >=> ((Qan (PW.pt (xw_or (Qgk (xt (Qm (Qdp.mono (by omega)) hr (Qa (xv 5) Qd)))) (QqX (Qgk (xt (Qm (Qdp.mono (by omega)) hr (Qa (xv 6) Qd))))))) ((Qk xbl) >=> Qe) Qe) >=> ((Qk (xand (xcmp (QbN hr.units) (xv 5) (Qe2 (MAll.cons (Qcs.mono (by omega)) rfl (MAll.cons (QcL.mono (by omega)) rfl (MAll.cons (Qcj.mono (by omega)) rfl (MAll.cons (Qcr.mono (by omega)) rfl MAll.nil)))) hr (xv 2) (Qa (xv 3) (Qa (xv 4) Qd))) (QQ _)) (xone (xcmp (QbN hr.units) (xv 6) (Qe2 (MAll.cons (Qco.mono (by omega)) rfl (MAll.cons (QcJ.mono (by omega)) rfl (MAll.cons (Qcm.mono (by omega)) rfl (MAll.cons (Qcp.mono (by omega)) rfl MAll.nil)))) hr (xv 2) (Qa (xv 3) (Qa (xv 4) Qd))) (QQ _))))) >=> Qe))))
theorem Qfh:FnScope ["self","knots"] ["self","knots"] (Qb Qbp):=by trivial
theorem QiO {f_Bag__stand:Addr} {fd_Bag__stand:FuncData} (Qke:Fun K "stand" "Bag.stand" Qbp f_Bag__stand fd_Bag__stand) (Qr:Df P w K mg base "row_total" 4 ["kind","knots"] false (Qp)):FnOk P w K mg base CX0 5 f_Bag__stand fd_Bag__stand ["self","knots"] (spD K true 2 Qat):=Qak Qke Qfh (by decide) fun f cdv A outer s H E hr=>by
 have nd:=Qfh.nd
 exact ((QfR (by refine CompR.pe ?_;refine Qqs (N':=["put"]) (k:=1) (ix:=[]) (QeF _ ["self","knots"] ?_) ?_ fun _ _ _ _ _=>⟨?_,?_,?_⟩;exact (by first | decide +kernel | (change cnOk (Qb Qbp) _ _ _ _ _=true;decide +kernel));exact (xix (Qm (Qr.mono (by omega)) hr (Qa (xvS 0) (Qa (xvS 1) Qd))) xint);exact (Qbo 0 (show (["put"]:List Str).Nodup from by decide +kernel));exact Qfz;exact (xix (xvS 0) xint))) >=> Qe)
theorem QeS:FnScope ["self","knots"] ["self","knots"] (Qb Qby):=by trivial
theorem Qh5 {f_Kind__stand:Addr} {fd_Kind__stand:FuncData} (QiI:Fun K "stand" "Kind.stand" Qby f_Kind__stand fd_Kind__stand):FnOk P w K mg base CX0 1 f_Kind__stand fd_Kind__stand ["self","knots"] (spD K true 2 QbX):=Qak QiI QeS (by decide) fun f cdv A outer s H E hr=>by
 have nd:=QeS.nd
 exact ((QfR (xlst Qd)) >=> Qe)
theorem QeI:FnScope ["self","knots","total"] ["self","knots"] (Qb QaX):=by trivial
theorem Qik {f_Line__stand:Addr} {fd_Line__stand:FuncData} (QiR:Fun K "stand" "Line.stand" QaX f_Line__stand fd_Line__stand) (z_range:mg "range" = none) (QbS:Df P w K mg base "gone_in" 1 ["total"] false (Qaz)) (Q3:Df P w K mg base "number_put" 1 ["knot"] false (Qv)) (QaP:Df P w K mg base "put_behind" 66 ["knots","earlier"] false (QL 64)) (Qr:Df P w K mg base "row_total" 4 ["kind","knots"] false (Qp)):FnOk P w K mg base CX0 67 f_Line__stand fd_Line__stand ["self","knots"] (spD K true 2 Qa0):=Qak QiR QeI (by decide) fun f cdv A outer s H E hr=>by
 have nd:=QeI.nd
 exact ((Qq 2 nd (Qm (Qr.mono (by omega)) hr (Qa (xvS 0) (Qa (xvS 1) Qd)))) >=> ((QfR (by refine CompR.pe ?_;refine Qpm (N':=["earlier","knots"]) (k:=1) (ix:=[1]) (QeF _ ["self","knots","total"] ?_) z_range ?_ fun _ _ _ _ _=>⟨?_,?_,?_⟩;exact (by first | decide +kernel | (change cnOk (Qb QaX) _ _ _ _ _=true;decide +kernel));exact (Qa (Qm (QbS.mono (by omega)) hr (Qa (xv 2) Qd)) (Qa (xix (xv 2) xint) Qd));exact (Qbo 0 (show (["earlier","knots"]:List Str).Nodup from by decide +kernel));exact Qfz;exact (Qm (Q3.mono (by omega)) hr (Qa (Qm (QaP.mono (by omega)) hr (Qa (xvS 1) (Qa (xvS 0) Qd))) Qd)))) >=> Qe))
theorem Qev:FnScope ["self","knots","many"] ["self","knots"] (Qb QaT):=by trivial
theorem QhV {f_Pile__stand:Addr} {fd_Pile__stand:FuncData} (QiZ:Fun K "stand" "Pile.stand" QaT f_Pile__stand fd_Pile__stand) (z_range:mg "range" = none) (Q3:Df P w K mg base "number_put" 1 ["knot"] false (Qv)) (Qam:Df P w K mg base "put_below" 66 ["knots","above"] false (QI 64)) (Qr:Df P w K mg base "row_total" 4 ["kind","knots"] false (Qp)):FnOk P w K mg base CX0 67 f_Pile__stand fd_Pile__stand ["self","knots"] (spD K true 2 QaV):=Qak QiZ Qev (by decide) fun f cdv A outer s H E hr=>by
 have nd:=Qev.nd
 exact ((Qq 2 nd (xix (Qm (Qr.mono (by omega)) hr (Qa (xvS 0) (Qa (xvS 1) Qd))) xint)) >=> ((QfR (by refine CompR.pe ?_;refine Qpf (N':=["above","knots"]) (k:=1) (ix:=[1]) (QeF _ ["self","knots","many"] ?_) z_range ?_ fun _ _ _ _ _=>⟨?_,?_,?_⟩;exact (by first | decide +kernel | (change cnOk (Qb QaT) _ _ _ _ _=true;decide +kernel));exact (Qa (xop Qcn (xv 2) xint) (Qa (xneg xint) (Qa (xneg xint) Qd)));exact (Qbo 0 (show (["above","knots"]:List Str).Nodup from by decide +kernel));exact Qfz;exact (Qm (Q3.mono (by omega)) hr (Qa (Qm (Qam.mono (by omega)) hr (Qa (xvS 1) (Qa (xvS 0) Qd))) Qd)))) >=> Qe))
theorem QeT:FnScope ["_law_bag","_law_mine","_law_other","_law_its","_law_falls","_law_here","_law_there"] ["_law_bag","_law_mine","_law_other","_law_its","_law_falls"] (Qb QaY):=by trivial
theorem QiD (Qdx:Src K mg "_law_stands" QaY ["_law_bag","_law_mine","_law_other","_law_its","_law_falls"]) (z_isinstance:mg "isinstance" = none) (z_list:mg "list" = none) (Qc1:MDf P w K mg base "Bag" "stand" 5 ["self","knots"] true (Qat)) (QcO:MDf P w K mg base "Kind" "stand" 1 ["self","knots"] true (QbX)) (QcN:MDf P w K mg base "Line" "stand" 67 ["self","knots"] true (Qa0)) (QcM:MDf P w K mg base "Pile" "stand" 67 ["self","knots"] true (QaV)):Df P w K mg base "_law_stands" 68 ["_law_bag","_law_mine","_law_other","_law_its","_law_falls"] false Qag:=Qac (N:=["_law_bag","_law_mine","_law_other","_law_its","_law_falls","_law_here","_law_there"]) (fr:=false) (F:=QcI) Qdx QeT (by decide) fun f cdv A outer s H E hr=>by
 have nd:=QeT.nd
 exact ((Qq 5 nd (toS (Qnx (MAll.cons (QcO.mono (by omega)) rfl (MAll.cons (Qc1.mono (by omega)) rfl (MAll.cons (QcM.mono (by omega)) rfl (MAll.cons (QcN.mono (by omega)) rfl MAll.nil)))) hr (xvS 0) (Qa (xvS 1) Qd)))) >=> ((Qq 6 nd (toS (Qnx (MAll.cons (QcO.mono (by omega)) rfl (MAll.cons (Qc1.mono (by omega)) rfl (MAll.cons (QcM.mono (by omega)) rfl (MAll.cons (QcN.mono (by omega)) rfl MAll.nil)))) hr (xvS 2) (Qa (xvS 3) Qd)))) >=> ((Qan (xt (xv 4)) ((Qq 6 nd (toS (xback (xvS 6) (xneg xint) (fun _=>rfl)))) >=> Qe) Qe) >=> ((Qk (xand (xis z_isinstance z_list (xv 5)) (xone (xcmp (QbN hr.units) (xv 5) (xv 6) (QQ _))))) >=> Qe))))
theorem QnW:FnScope ["_law_script","_law_bag","_law_falls","_law_other","_law_row_here","_law_mine","_law_its","_law_end","_law_question"] ["_law_script"] (Qb Qe1):=by trivial
theorem Qqz {T:Addr} {f:Addr} {fd:FuncData} (Qp4:Fun K "law" "law" Qe1 f fd) {C_Bag:Addr} (k_Bag:Mk0 K C_Bag/\PySem.W.nsIn K mainGlobals "Bag" = some (some (.ref C_Bag))/\mg "Bag" = some (.ref C_Bag)) {C_Line:Addr} (k_Line:Mk0 K C_Line/\PySem.W.nsIn K mainGlobals "Line" = some (some (.ref C_Line))/\mg "Line" = some (.ref C_Line)) {C_Pile:Addr} (k_Pile:Mk0 K C_Pile/\PySem.W.nsIn K mainGlobals "Pile" = some (some (.ref C_Pile))/\mg "Pile" = some (.ref C_Pile)) (Qd5:Df P w K mg base "_law_alike" 69 ["_law_bag","_law_mine","_law_other","_law_its","_law_question"] false (Q9)) (QJ:Df P w K mg base "_law_cell_at" 1 ["_law_script","_law_k"] false (QC)) (QfB:Df P w K mg base "_law_row" 3 ["_law_script","_law_falls"] true (Qcz)) (Qdv:Df P w K mg base "_law_stands" 68 ["_law_bag","_law_mine","_law_other","_law_its","_law_falls"] false (Qag)) (Qdl:DfL P w K mg base (lamP T) "_law_tree" 71 ["_law_kind","_law_row_here","_law_script"] QaR) (Qe4:Df P w K mg base "ahead" 6 ["tree","end"] true (Qb1)):FnOk P w K mg base CX0 72 f fd ["_law_script"] (spL K (lamP T) 1 QkV):=QnJ Qp4 QnW (by decide) fun f cdv A outer s H E hr=>by
 have nd:=QnW.nd
 exact (by refine Qc3 ?_ ?_;exact (by refine QjF ?_;exact (Qq 1 nd (QlL k_Bag.1 k_Bag.2.1 k_Bag.2.2)));exact (by refine Qc3 ?_ ?_;exact (by refine QjF ?_;exact (Qq 2 nd (xcmp (QbN hr.units) (xop QbI (xop Qb8 (Qm (QJ.mono (by omega)) hr (Qa (xv 0) (Qa xint Qd))) xint) xint) xint (QQ _))));exact (by refine Qc3 ?_ ?_;exact (by refine QjF ?_;exact (Qq 3 nd (QlL k_Line.1 k_Line.2.1 k_Line.2.2)));exact (by refine Qc3 ?_ ?_;exact (by refine QjF ?_;exact (Qan (xt (xv 2)) ((Qq 3 nd (QlL k_Pile.1 k_Pile.2.1 k_Pile.2.2)) >=> Qe) Qe));exact (by refine Qc3 ?_ ?_;exact (by refine QjF ?_;exact (Qq 4 nd (toS (Qgt (QfB.mono (by omega)) hr (Qa (xvS 0) (Qa (xvS 2) Qd))))));exact (by refine Qc3 ?_ ?_;exact (Qox 5 (Qdl.mono (by omega)) hr nd (Qa (xv 1) (Qa (xv 4) (Qa (xv 0) Qd))));exact (by refine Qc3 ?_ ?_;exact (Qox 6 (Qdl.mono (by omega)) hr nd (Qa (xv 3) (Qa (xv 4) (Qa (xv 0) Qd))));exact (by refine QnP ?_;exact ((QjZ PassesOwn.never rfl (toS (xcat (toS (by refine CompR.pe ?_;refine Qj0 (N':=["_law_at","_law_deed_here"]) (k:=2) (ix:=[]) (QeF _ ["_law_script","_law_bag","_law_falls","_law_other","_law_row_here","_law_mine","_law_its","_law_end","_law_question"] ?_) ?_ fun _ _ _ _ _=>⟨?_,?_,?_⟩;exact (by first | decide +kernel | (change cnOk (Qb Qe1) _ _ _ _ _=true;decide +kernel));exact (xvS 4);exact (xg_2 0 1 (show (["_law_at","_law_deed_here"]:List Str).Nodup from by decide +kernel));exact Qfz;exact (xvS 0))) (toS (xlst (Qa xint Qd))))) (Qbo 7 nd) ((QjZ PassesOwn.never rfl (toS (by refine xlst ?_;refine Qa ?_ ?_;exact (xtup (Qa xstr Qd));refine Qa ?_ ?_;exact (xtup (Qa xstr (Qa xint Qd)));refine Qa ?_ ?_;exact (xtup (Qa xstr (Qa (xop QbI (Qm (QJ.mono (by omega)) hr (Qa (xv 0) (Qa xint Qd))) xint) Qd)));refine Qa ?_ ?_;exact (xtup (Qa xstr Qd));exact Qd)) (Qbo 8 nd) ((Qan (Qgk (xt (Qm (Qd5.mono (by omega)) hr (Qa (xv 1) (Qa (toW (m:=.F) (Qgt (Qe4.mono (by omega)) hr (Qa (xvS 5) (Qa (xvS 7) Qd)))) (Qa (xv 3) (Qa (toW (m:=.F) (Qgt (Qe4.mono (by omega)) hr (Qa (xvS 6) (Qa (xvS 7) Qd)))) (Qa (xv 8) Qd)))))))) ((Qk xbl) >=> Qe) Qe) >=> Qe)) >=> ((Qan (Qgk (xt (Qm (Qdv.mono (by omega)) hr (Qa (xv 1) (Qa (toW (m:=.F) (Qgt (Qe4.mono (by omega)) hr (Qa (xvS 5) (Qa (xvS 7) Qd)))) (Qa (xv 3) (Qa (toW (m:=.F) (Qgt (Qe4.mono (by omega)) hr (Qa (xvS 6) (Qa (xvS 7) Qd)))) (Qa (xv 2) Qd)))))))) ((Qk xbl) >=> Qe) Qe) >=> Qe))) >=> ((Qk xbl) >=> Qe))))))))))
end
theorem all_mk {l:PySem.W.OpenLaw} {w:World} {K:PySem.W.Frag} {h:Heap} {mg:Str->Option Value} {fa:Addr} (X:K.In h) (G:h.Ns mainGlobals mg) (hfa:mg "law" = some (.ref fa)) {cL T:Addr} (htab:PySem.W.tabIn K "_law_order" = some (cL,T)) {f0:Addr} {od0 an0:Option Addr} {sl0:Array (Option Value)} {oc0 kV0 dc0 pm0 cd0 ct0:Value} {f1:Addr} {od1 an1:Option Addr} {sl1:Array (Option Value)} {oc1 kV1 dc1 pm1 cd1 ct1:Value} {f2:Addr} {od2 an2:Option Addr} {sl2:Array (Option Value)} {oc2 kV2 dc2 pm2 cd2 ct2:Value} {f3:Addr} {od3 an3:Option Addr} {sl3:Array (Option Value)} {oc3 kV3 dc3 pm3 cd3 ct3:Value} {f4:Addr} {od4 an4:Option Addr} {sl4:Array (Option Value)} {oc4 kV4 dc4 pm4 cd4 ct4:Value} {f5:Addr} {od5 an5:Option Addr} {sl5:Array (Option Value)} {oc5 kV5 dc5 pm5 cd5 ct5:Value} {f6:Addr} {od6 an6:Option Addr} {sl6:Array (Option Value)} {oc6 kV6 dc6 pm6 cd6 ct6:Value} {f7:Addr} {od7 an7:Option Addr} {sl7:Array (Option Value)} {oc7 kV7 dc7 pm7 cd7 ct7:Value} {f8:Addr} {od8 an8:Option Addr} {sl8:Array (Option Value)} {oc8 kV8 dc8 pm8 cd8 ct8:Value} {f9:Addr} {od9 an9:Option Addr} {sl9:Array (Option Value)} {oc9 kV9 dc9 pm9 cd9 ct9:Value} {f10:Addr} {od10 an10:Option Addr} {sl10:Array (Option Value)} {oc10 kV10 dc10 pm10 cd10 ct10:Value} {f11:Addr} {od11 an11:Option Addr} {sl11:Array (Option Value)} {oc11 kV11 dc11 pm11 cd11 ct11:Value} {f12:Addr} {od12 an12:Option Addr} {sl12:Array (Option Value)} {oc12 kV12 dc12 pm12 cd12 ct12:Value} {f13:Addr} {od13 an13:Option Addr} {sl13:Array (Option Value)} {oc13 kV13 dc13 pm13 cd13 ct13:Value} {f14:Addr} {od14 an14:Option Addr} {sl14:Array (Option Value)} {oc14 kV14 dc14 pm14 cd14 ct14:Value} {f15:Addr} {od15 an15:Option Addr} {sl15:Array (Option Value)} {oc15 kV15 dc15 pm15 cd15 ct15:Value} {f16:Addr} {od16 an16:Option Addr} {sl16:Array (Option Value)} {oc16 kV16 dc16 pm16 cd16 ct16:Value} {f17:Addr} {od17 an17:Option Addr} {sl17:Array (Option Value)} {oc17 kV17 dc17 pm17 cd17 ct17:Value} {f18:Addr} {od18 an18:Option Addr} {sl18:Array (Option Value)} {oc18 kV18 dc18 pm18 cd18 ct18:Value} {f19:Addr} {od19 an19:Option Addr} {sl19:Array (Option Value)} {oc19 kV19 dc19 pm19 cd19 ct19:Value} {f20:Addr} {od20 an20:Option Addr} {sl20:Array (Option Value)} {oc20 kV20 dc20 pm20 cd20 ct20:Value} {f21:Addr} {od21 an21:Option Addr} {sl21:Array (Option Value)} {oc21 kV21 dc21 pm21 cd21 ct21:Value} {f22:Addr} {od22 an22:Option Addr} {sl22:Array (Option Value)} {oc22 kV22 dc22 pm22 cd22 ct22:Value} {f23:Addr} {od23 an23:Option Addr} {sl23:Array (Option Value)} {oc23 kV23 dc23 pm23 cd23 ct23:Value} {f24:Addr} {od24 an24:Option Addr} {sl24:Array (Option Value)} {oc24 kV24 dc24 pm24 cd24 ct24:Value} {f25:Addr} {od25 an25:Option Addr} {sl25:Array (Option Value)} {oc25 kV25 dc25 pm25 cd25 ct25:Value} {f26:Addr} {od26 an26:Option Addr} {sl26:Array (Option Value)} {oc26 kV26 dc26 pm26 cd26 ct26:Value} {f27:Addr} {od27 an27:Option Addr} {sl27:Array (Option Value)} {oc27 kV27 dc27 pm27 cd27 ct27:Value} {f28:Addr} {od28 an28:Option Addr} {sl28:Array (Option Value)} {oc28 kV28 dc28 pm28 cd28 ct28:Value} {f29:Addr} {od29 an29:Option Addr} {sl29:Array (Option Value)} {oc29 kV29 dc29 pm29 cd29 ct29:Value} {f30:Addr} {od30 an30:Option Addr} {sl30:Array (Option Value)} {oc30 kV30 dc30 pm30 cd30 ct30:Value} {f31:Addr} {od31 an31:Option Addr} {sl31:Array (Option Value)} {oc31 kV31 dc31 pm31 cd31 ct31:Value} {f32:Addr} {od32 an32:Option Addr} {sl32:Array (Option Value)} {oc32 kV32 dc32 pm32 cd32 ct32:Value} {f33:Addr} {od33 an33:Option Addr} {sl33:Array (Option Value)} {oc33 kV33 dc33 pm33 cd33 ct33:Value} {f34:Addr} {od34 an34:Option Addr} {sl34:Array (Option Value)} {oc34 kV34 dc34 pm34 cd34 ct34:Value} {f35:Addr} {od35 an35:Option Addr} {sl35:Array (Option Value)} {oc35 kV35 dc35 pm35 cd35 ct35:Value} {f36:Addr} {od36 an36:Option Addr} {sl36:Array (Option Value)} {oc36 kV36 dc36 pm36 cd36 ct36:Value} {f37:Addr} {od37 an37:Option Addr} {sl37:Array (Option Value)} {oc37 kV37 dc37 pm37 cd37 ct37:Value} {f38:Addr} {od38 an38:Option Addr} {sl38:Array (Option Value)} {oc38 kV38 dc38 pm38 cd38 ct38:Value} {f39:Addr} {od39 an39:Option Addr} {sl39:Array (Option Value)} {oc39 kV39 dc39 pm39 cd39 ct39:Value} {f40:Addr} {od40 an40:Option Addr} {sl40:Array (Option Value)} {oc40 kV40 dc40 pm40 cd40 ct40:Value} {f41:Addr} {od41 an41:Option Addr} {sl41:Array (Option Value)} {oc41 kV41 dc41 pm41 cd41 ct41:Value} {f42:Addr} {od42 an42:Option Addr} {sl42:Array (Option Value)} {oc42 kV42 dc42 pm42 cd42 ct42:Value} {f43:Addr} {od43 an43:Option Addr} {sl43:Array (Option Value)} {oc43 kV43 dc43 pm43 cd43 ct43:Value} {f44:Addr} {od44 an44:Option Addr} {sl44:Array (Option Value)} {oc44 kV44 dc44 pm44 cd44 ct44:Value} {f45:Addr} {od45 an45:Option Addr} {sl45:Array (Option Value)} {oc45 kV45 dc45 pm45 cd45 ct45:Value} {f46:Addr} {od46 an46:Option Addr} {sl46:Array (Option Value)} {oc46 kV46 dc46 pm46 cd46 ct46:Value} {f47:Addr} {od47 an47:Option Addr} {sl47:Array (Option Value)} {oc47 kV47 dc47 pm47 cd47 ct47:Value} {f48:Addr} {od48 an48:Option Addr} {sl48:Array (Option Value)} {oc48 kV48 dc48 pm48 cd48 ct48:Value} {f49:Addr} {od49 an49:Option Addr} {sl49:Array (Option Value)} {oc49 kV49 dc49 pm49 cd49 ct49:Value} {f50:Addr} {od50 an50:Option Addr} {sl50:Array (Option Value)} {oc50 kV50 dc50 pm50 cd50 ct50:Value} {f51:Addr} {od51 an51:Option Addr} {sl51:Array (Option Value)} {oc51 kV51 dc51 pm51 cd51 ct51:Value} {f52:Addr} {od52 an52:Option Addr} {sl52:Array (Option Value)} {oc52 kV52 dc52 pm52 cd52 ct52:Value} {f53:Addr} {od53 an53:Option Addr} {sl53:Array (Option Value)} {oc53 kV53 dc53 pm53 cd53 ct53:Value} {f54:Addr} {od54 an54:Option Addr} {sl54:Array (Option Value)} {oc54 kV54 dc54 pm54 cd54 ct54:Value} {f55:Addr} {od55 an55:Option Addr} {sl55:Array (Option Value)} {oc55 kV55 dc55 pm55 cd55 ct55:Value} {f56:Addr} {od56 an56:Option Addr} {sl56:Array (Option Value)} {oc56 kV56 dc56 pm56 cd56 ct56:Value} {f57:Addr} {od57 an57:Option Addr} {sl57:Array (Option Value)} {oc57 kV57 dc57 pm57 cd57 ct57:Value} {f58:Addr} {od58 an58:Option Addr} {sl58:Array (Option Value)} {oc58 kV58 dc58 pm58 cd58 ct58:Value} {f59:Addr} {od59 an59:Option Addr} {sl59:Array (Option Value)} {oc59 kV59 dc59 pm59 cd59 ct59:Value} {f60:Addr} {od60 an60:Option Addr} {sl60:Array (Option Value)} {oc60 kV60 dc60 pm60 cd60 ct60:Value} {f61:Addr} {od61 an61:Option Addr} {sl61:Array (Option Value)} {oc61 kV61 dc61 pm61 cd61 ct61:Value} {f62:Addr} {od62 an62:Option Addr} {sl62:Array (Option Value)} {oc62 kV62 dc62 pm62 cd62 ct62:Value} {f63:Addr} {od63 an63:Option Addr} {sl63:Array (Option Value)} {oc63 kV63 dc63 pm63 cd63 ct63:Value} {f64:Addr} {od64 an64:Option Addr} {sl64:Array (Option Value)} {oc64 kV64 dc64 pm64 cd64 ct64:Value} {f65:Addr} {od65 an65:Option Addr} {sl65:Array (Option Value)} {oc65 kV65 dc65 pm65 cd65 ct65:Value} {f66:Addr} {od66 an66:Option Addr} {sl66:Array (Option Value)} {oc66 kV66 dc66 pm66 cd66 ct66:Value} {C_Bag:Addr} {C_Kind:Addr} {C_Line:Addr} {C_Pile:Addr} {u_ALL_TIMES:Value} (aC_Bag:PySem.W.nsIn K mainGlobals "Bag" = some (some (.ref C_Bag))) (aC_Kind:PySem.W.nsIn K mainGlobals "Kind" = some (some (.ref C_Kind))) (aC_Line:PySem.W.nsIn K mainGlobals "Line" = some (some (.ref C_Line))) (aC_Pile:PySem.W.nsIn K mainGlobals "Pile" = some (some (.ref C_Pile))) (a0:PySem.W.nsIn K mainGlobals "last_time" = some (some (.ref f0))) (l0:K.lookup f0=some ⟨oc0,od0,.func (PySem.W.fnOf "last_time" "last_time" (Qj QbE) (Qi QbE) (Qb QbE) .none kV0 dc0 pm0 an0 cd0 ct0),sl0⟩) (c0:PySem.W.codeIn K cd0 "last_time" = true) (k0:PySem.W.keepIn K (.ref f0)=true) (a1:PySem.W.nsIn K mainGlobals "holds" = some (some (.ref f1))) (l1:K.lookup f1=some ⟨oc1,od1,.func (PySem.W.fnOf "holds" "holds" (Qj QdW) (Qi QdW) (Qb QdW) .none kV1 dc1 pm1 an1 cd1 ct1),sl1⟩) (c1:PySem.W.codeIn K cd1 "holds" = true) (k1:PySem.W.keepIn K (.ref f1)=true) (a2:PySem.W.nsIn K mainGlobals "within" = some (some (.ref f2))) (l2:K.lookup f2=some ⟨oc2,od2,.func (PySem.W.fnOf "within" "within" (Qj Qdj) (Qi Qdj) (Qb Qdj) .none kV2 dc2 pm2 an2 cd2 ct2),sl2⟩) (c2:PySem.W.codeIn K cd2 "within" = true) (k2:PySem.W.keepIn K (.ref f2)=true) (a3:PySem.W.nsIn K mainGlobals "halves" = some (some (.ref f3))) (l3:K.lookup f3=some ⟨oc3,od3,.func (PySem.W.fnOf "halves" "halves" (Qj Qc9) (Qi Qc9) (Qb Qc9) .none kV3 dc3 pm3 an3 cd3 ct3),sl3⟩) (c3:PySem.W.codeIn K cd3 "halves" = true) (k3:PySem.W.keepIn K (.ref f3)=true) (a4:PySem.W.nsIn K mainGlobals "least" = some (some (.ref f4))) (l4:K.lookup f4=some ⟨oc4,od4,.func (PySem.W.fnOf "least" "least" (Qj Qd2) (Qi Qd2) (Qb Qd2) .none kV4 dc4 pm4 an4 cd4 ct4),sl4⟩) (c4:PySem.W.codeIn K cd4 "least" = true) (k4:PySem.W.keepIn K (.ref f4)=true) (a5:PySem.W.nsIn K mainGlobals "cover" = some (some (.ref f5))) (l5:K.lookup f5=some ⟨oc5,od5,.func (PySem.W.fnOf "cover" "cover" (Qj QdM) (Qi QdM) (Qb QdM) .none kV5 dc5 pm5 an5 cd5 ct5),sl5⟩) (c5:PySem.W.codeIn K cd5 "cover" = true) (k5:PySem.W.keepIn K (.ref f5)=true) (a6:PySem.W.nsIn K mainGlobals "stretch_of" = some (some (.ref f6))) (l6:K.lookup f6=some ⟨oc6,od6,.func (PySem.W.fnOf "stretch_of" "stretch_of" (Qj Qbj) (Qi Qbj) (Qb Qbj) .none kV6 dc6 pm6 an6 cd6 ct6),sl6⟩) (c6:PySem.W.codeIn K cd6 "stretch_of" = true) (k6:PySem.W.keepIn K (.ref f6)=true) (a7:PySem.W.nsIn K mainGlobals "total_of" = some (some (.ref f7))) (l7:K.lookup f7=some ⟨oc7,od7,.func (PySem.W.fnOf "total_of" "total_of" (Qj Qb6) (Qi Qb6) (Qb Qb6) .none kV7 dc7 pm7 an7 cd7 ct7),sl7⟩) (c7:PySem.W.codeIn K cd7 "total_of" = true) (k7:PySem.W.keepIn K (.ref f7)=true) (a8:PySem.W.nsIn K mainGlobals "is_leaf" = some (some (.ref f8))) (l8:K.lookup f8=some ⟨oc8,od8,.func (PySem.W.fnOf "is_leaf" "is_leaf" (Qj QcF) (Qi QcF) (Qb QcF) .none kV8 dc8 pm8 an8 cd8 ct8),sl8⟩) (c8:PySem.W.codeIn K cd8 "is_leaf" = true) (k8:PySem.W.keepIn K (.ref f8)=true) (a9:PySem.W.nsIn K mainGlobals "parts" = some (some (.ref f9))) (l9:K.lookup f9=some ⟨oc9,od9,.func (PySem.W.fnOf "parts" "parts" (Qj QdZ) (Qi QdZ) (Qb QdZ) .none kV9 dc9 pm9 an9 cd9 ct9),sl9⟩) (c9:PySem.W.codeIn K cd9 "parts" = true) (k9:PySem.W.keepIn K (.ref f9)=true) (a10:PySem.W.nsIn K mainGlobals "joined_lack" = some (some (.ref f10))) (l10:K.lookup f10=some ⟨oc10,od10,.func (PySem.W.fnOf "joined_lack" "joined_lack" (Qj QaZ) (Qi QaZ) (Qb QaZ) .none kV10 dc10 pm10 an10 cd10 ct10),sl10⟩) (c10:PySem.W.codeIn K cd10 "joined_lack" = true) (k10:PySem.W.keepIn K (.ref f10)=true) (a11:PySem.W.findIn K (.ref C_Bag) "joined" = some (some (.ref f11))) (l11:K.lookup f11=some ⟨oc11,od11,.func (PySem.W.fnOf "joined" "Bag.joined" (Qj Qbt) (Qi Qbt) (Qb Qbt) .none kV11 dc11 pm11 an11 cd11 ct11),sl11⟩) (c11:PySem.W.codeIn K cd11 "Bag.joined" = true) (k11:PySem.W.keepIn K (.ref f11)=true) (i11:PySem.W.isFn K (.ref f11)=true) (a12:PySem.W.findIn K (.ref C_Bag) "nothing" = some (some (.ref f12))) (l12:K.lookup f12=some ⟨oc12,od12,.func (PySem.W.fnOf "nothing" "Bag.nothing" (Qj Qa7) (Qi Qa7) (Qb Qa7) .none kV12 dc12 pm12 an12 cd12 ct12),sl12⟩) (c12:PySem.W.codeIn K cd12 "Bag.nothing" = true) (k12:PySem.W.keepIn K (.ref f12)=true) (i12:PySem.W.isFn K (.ref f12)=true) (a13:PySem.W.findIn K (.ref C_Kind) "joined" = some (some (.ref f13))) (l13:K.lookup f13=some ⟨oc13,od13,.func (PySem.W.fnOf "joined" "Kind.joined" (Qj Qbf) (Qi Qbf) (Qb Qbf) .none kV13 dc13 pm13 an13 cd13 ct13),sl13⟩) (c13:PySem.W.codeIn K cd13 "Kind.joined" = true) (k13:PySem.W.keepIn K (.ref f13)=true) (i13:PySem.W.isFn K (.ref f13)=true) (a14:PySem.W.findIn K (.ref C_Kind) "nothing" = some (some (.ref f14))) (l14:K.lookup f14=some ⟨oc14,od14,.func (PySem.W.fnOf "nothing" "Kind.nothing" (Qj QaL) (Qi QaL) (Qb QaL) .none kV14 dc14 pm14 an14 cd14 ct14),sl14⟩) (c14:PySem.W.codeIn K cd14 "Kind.nothing" = true) (k14:PySem.W.keepIn K (.ref f14)=true) (i14:PySem.W.isFn K (.ref f14)=true) (a15:PySem.W.nsIn K mainGlobals "gone_in" = some (some (.ref f15))) (l15:K.lookup f15=some ⟨oc15,od15,.func (PySem.W.fnOf "gone_in" "gone_in" (Qj QcH) (Qi QcH) (Qb QcH) .none kV15 dc15 pm15 an15 cd15 ct15),sl15⟩) (c15:PySem.W.codeIn K cd15 "gone_in" = true) (k15:PySem.W.keepIn K (.ref f15)=true) (a16:PySem.W.nsIn K mainGlobals "left_in" = some (some (.ref f16))) (l16:K.lookup f16=some ⟨oc16,od16,.func (PySem.W.fnOf "left_in" "left_in" (Qj QcD) (Qi QcD) (Qb QcD) .none kV16 dc16 pm16 an16 cd16 ct16),sl16⟩) (c16:PySem.W.codeIn K cd16 "left_in" = true) (k16:PySem.W.keepIn K (.ref f16)=true) (a17:PySem.W.findIn K (.ref C_Line) "joined" = some (some (.ref f17))) (l17:K.lookup f17=some ⟨oc17,od17,.func (PySem.W.fnOf "joined" "Line.joined" (Qj Qa8) (Qi Qa8) (Qb Qa8) .none kV17 dc17 pm17 an17 cd17 ct17),sl17⟩) (c17:PySem.W.codeIn K cd17 "Line.joined" = true) (k17:PySem.W.keepIn K (.ref f17)=true) (i17:PySem.W.isFn K (.ref f17)=true) (a18:PySem.W.findIn K (.ref C_Line) "nothing" = some (some (.ref f18))) (l18:K.lookup f18=some ⟨oc18,od18,.func (PySem.W.fnOf "nothing" "Line.nothing" (Qj QaM) (Qi QaM) (Qb QaM) .none kV18 dc18 pm18 an18 cd18 ct18),sl18⟩) (c18:PySem.W.codeIn K cd18 "Line.nothing" = true) (k18:PySem.W.keepIn K (.ref f18)=true) (i18:PySem.W.isFn K (.ref f18)=true) (a19:PySem.W.findIn K (.ref C_Pile) "joined" = some (some (.ref f19))) (l19:K.lookup f19=some ⟨oc19,od19,.func (PySem.W.fnOf "joined" "Pile.joined" (Qj Qbi) (Qi Qbi) (Qb Qbi) .none kV19 dc19 pm19 an19 cd19 ct19),sl19⟩) (c19:PySem.W.codeIn K cd19 "Pile.joined" = true) (k19:PySem.W.keepIn K (.ref f19)=true) (i19:PySem.W.isFn K (.ref f19)=true) (a20:PySem.W.findIn K (.ref C_Pile) "nothing" = some (some (.ref f20))) (l20:K.lookup f20=some ⟨oc20,od20,.func (PySem.W.fnOf "nothing" "Pile.nothing" (Qj QaH) (Qi QaH) (Qb QaH) .none kV20 dc20 pm20 an20 cd20 ct20),sl20⟩) (c20:PySem.W.codeIn K cd20 "Pile.nothing" = true) (k20:PySem.W.keepIn K (.ref f20)=true) (i20:PySem.W.isFn K (.ref f20)=true) (a21:PySem.W.nsIn K mainGlobals "row_total" = some (some (.ref f21))) (l21:K.lookup f21=some ⟨oc21,od21,.func (PySem.W.fnOf "row_total" "row_total" (Qj QbB) (Qi QbB) (Qb QbB) .none kV21 dc21 pm21 an21 cd21 ct21),sl21⟩) (c21:PySem.W.codeIn K cd21 "row_total" = true) (k21:PySem.W.keepIn K (.ref f21)=true) (a22:PySem.W.findIn K (.ref C_Bag) "lone" = some (some (.ref f22))) (l22:K.lookup f22=some ⟨oc22,od22,.func (PySem.W.fnOf "lone" "Bag.lone" (Qj Qce) (Qi Qce) (Qb Qce) .none kV22 dc22 pm22 an22 cd22 ct22),sl22⟩) (c22:PySem.W.codeIn K cd22 "Bag.lone" = true) (k22:PySem.W.keepIn K (.ref f22)=true) (i22:PySem.W.isFn K (.ref f22)=true) (a23:PySem.W.findIn K (.ref C_Kind) "lone" = some (some (.ref f23))) (l23:K.lookup f23=some ⟨oc23,od23,.func (PySem.W.fnOf "lone" "Kind.lone" (Qj QbQ) (Qi QbQ) (Qb QbQ) .none kV23 dc23 pm23 an23 cd23 ct23),sl23⟩) (c23:PySem.W.codeIn K cd23 "Kind.lone" = true) (k23:PySem.W.keepIn K (.ref f23)=true) (i23:PySem.W.isFn K (.ref f23)=true) (a24:PySem.W.nsIn K mainGlobals "puts_of" = some (some (.ref f24))) (l24:K.lookup f24=some ⟨oc24,od24,.func (PySem.W.fnOf "puts_of" "puts_of" (Qj QcG) (Qi QcG) (Qb QcG) .none kV24 dc24 pm24 an24 cd24 ct24),sl24⟩) (c24:PySem.W.codeIn K cd24 "puts_of" = true) (k24:PySem.W.keepIn K (.ref f24)=true) (a25:PySem.W.nsIn K mainGlobals "takes_of" = some (some (.ref f25))) (l25:K.lookup f25=some ⟨oc25,od25,.func (PySem.W.fnOf "takes_of" "takes_of" (Qj Qb5) (Qi Qb5) (Qb Qb5) .none kV25 dc25 pm25 an25 cd25 ct25),sl25⟩) (c25:PySem.W.codeIn K cd25 "takes_of" = true) (k25:PySem.W.keepIn K (.ref f25)=true) (a26:PySem.W.findIn K (.ref C_Line) "lone" = some (some (.ref f26))) (l26:K.lookup f26=some ⟨oc26,od26,.func (PySem.W.fnOf "lone" "Line.lone" (Qj QbR) (Qi QbR) (Qb QbR) .none kV26 dc26 pm26 an26 cd26 ct26),sl26⟩) (c26:PySem.W.codeIn K cd26 "Line.lone" = true) (k26:PySem.W.keepIn K (.ref f26)=true) (i26:PySem.W.isFn K (.ref f26)=true) (a27:PySem.W.findIn K (.ref C_Pile) "lone" = some (some (.ref f27))) (l27:K.lookup f27=some ⟨oc27,od27,.func (PySem.W.fnOf "lone" "Pile.lone" (Qj QbP) (Qi QbP) (Qb QbP) .none kV27 dc27 pm27 an27 cd27 ct27),sl27⟩) (c27:PySem.W.codeIn K cd27 "Pile.lone" = true) (k27:PySem.W.keepIn K (.ref f27)=true) (i27:PySem.W.isFn K (.ref f27)=true) (a28:PySem.W.nsIn K mainGlobals "leaf" = some (some (.ref f28))) (l28:K.lookup f28=some ⟨oc28,od28,.func (PySem.W.fnOf "leaf" "leaf" (Qj QfG) (Qi QfG) (Qb QfG) .none kV28 dc28 pm28 an28 cd28 ct28),sl28⟩) (c28:PySem.W.codeIn K cd28 "leaf" = true) (k28:PySem.W.keepIn K (.ref f28)=true) (a29:PySem.W.nsIn K mainGlobals "knot" = some (some (.ref f29))) (l29:K.lookup f29=some ⟨oc29,od29,.func (PySem.W.fnOf "knot" "knot" (Qj QfE) (Qi QfE) (Qb QfE) .none kV29 dc29 pm29 an29 cd29 ct29),sl29⟩) (c29:PySem.W.codeIn K cd29 "knot" = true) (k29:PySem.W.keepIn K (.ref f29)=true) (a30:PySem.W.nsIn K mainGlobals "beside" = some (some (.ref f30))) (l30:K.lookup f30=some ⟨oc30,od30,.func (PySem.W.fnOf "beside" "beside" (Qj Qdc) (Qi Qdc) (Qb Qdc) .none kV30 dc30 pm30 an30 cd30 ct30),sl30⟩) (c30:PySem.W.codeIn K cd30 "beside" = true) (k30:PySem.W.keepIn K (.ref f30)=true) (a31:PySem.W.nsIn K mainGlobals "is_early" = some (some (.ref f31))) (l31:K.lookup f31=some ⟨oc31,od31,.func (PySem.W.fnOf "is_early" "is_early" (Qj Qcb) (Qi Qcb) (Qb Qcb) .none kV31 dc31 pm31 an31 cd31 ct31),sl31⟩) (c31:PySem.W.codeIn K cd31 "is_early" = true) (k31:PySem.W.keepIn K (.ref f31)=true) (a32:PySem.W.nsIn K mainGlobals "put_in" = some (some (.ref f32))) (l32:K.lookup f32=some ⟨oc32,od32,.func (PySem.W.fnOf "put_in" "put_in" (Qj Qdi) (Qi Qdi) (Qb Qdi) .none kV32 dc32 pm32 an32 cd32 ct32),sl32⟩) (c32:PySem.W.codeIn K cd32 "put_in" = true) (k32:PySem.W.keepIn K (.ref f32)=true) (a33:PySem.W.nsIn K mainGlobals "numbers_ahead" = some (some (.ref f33))) (l33:K.lookup f33=some ⟨oc33,od33,.func (PySem.W.fnOf "numbers_ahead" "numbers_ahead" (Qj Qar) (Qi Qar) (Qb Qar) .none kV33 dc33 pm33 an33 cd33 ct33),sl33⟩) (c33:PySem.W.codeIn K cd33 "numbers_ahead" = true) (k33:PySem.W.keepIn K (.ref f33)=true) (a34:PySem.W.nsIn K mainGlobals "number_put" = some (some (.ref f34))) (l34:K.lookup f34=some ⟨oc34,od34,.func (PySem.W.fnOf "number_put" "number_put" (Qj Qbk) (Qi Qbk) (Qb Qbk) .none kV34 dc34 pm34 an34 cd34 ct34),sl34⟩) (c34:PySem.W.codeIn K cd34 "number_put" = true) (k34:PySem.W.keepIn K (.ref f34)=true) (a35:PySem.W.nsIn K mainGlobals "time_put" = some (some (.ref f35))) (l35:K.lookup f35=some ⟨oc35,od35,.func (PySem.W.fnOf "time_put" "time_put" (Qj Qca) (Qi Qca) (Qb Qca) .none kV35 dc35 pm35 an35 cd35 ct35),sl35⟩) (c35:PySem.W.codeIn K cd35 "time_put" = true) (k35:PySem.W.keepIn K (.ref f35)=true) (a36:PySem.W.nsIn K mainGlobals "one_step_down" = some (some (.ref f36))) (l36:K.lookup f36=some ⟨oc36,od36,.func (PySem.W.fnOf "one_step_down" "one_step_down" (Qj Qaq) (Qi Qaq) (Qb Qaq) .none kV36 dc36 pm36 an36 cd36 ct36),sl36⟩) (c36:PySem.W.codeIn K cd36 "one_step_down" = true) (k36:PySem.W.keepIn K (.ref f36)=true) (a37:PySem.W.nsIn K mainGlobals "inside" = some (some (.ref f37))) (l37:K.lookup f37=some ⟨oc37,od37,.func (PySem.W.fnOf "inside" "inside" (Qj Qdb) (Qi Qdb) (Qb Qdb) .none kV37 dc37 pm37 an37 cd37 ct37),sl37⟩) (c37:PySem.W.codeIn K cd37 "inside" = true) (k37:PySem.W.keepIn K (.ref f37)=true) (a38:PySem.W.nsIn K mainGlobals "ahead" = some (some (.ref f38))) (l38:K.lookup f38=some ⟨oc38,od38,.func (PySem.W.fnOf "ahead" "ahead" (Qj Qc0) (Qi Qc0) (Qb Qc0) .none kV38 dc38 pm38 an38 cd38 ct38),sl38⟩) (c38:PySem.W.codeIn K cd38 "ahead" = true) (k38:PySem.W.keepIn K (.ref f38)=true) (a39:PySem.W.nsIn K mainGlobals "put_below" = some (some (.ref f39))) (l39:K.lookup f39=some ⟨oc39,od39,.func (PySem.W.fnOf "put_below" "put_below" (Qj QbG) (Qi QbG) (Qb QbG) .none kV39 dc39 pm39 an39 cd39 ct39),sl39⟩) (c39:PySem.W.codeIn K cd39 "put_below" = true) (k39:PySem.W.keepIn K (.ref f39)=true) (a40:PySem.W.nsIn K mainGlobals "put_behind" = some (some (.ref f40))) (l40:K.lookup f40=some ⟨oc40,od40,.func (PySem.W.fnOf "put_behind" "put_behind" (Qj Qbq) (Qi Qbq) (Qb Qbq) .none kV40 dc40 pm40 an40 cd40 ct40),sl40⟩) (c40:PySem.W.codeIn K cd40 "put_behind" = true) (k40:PySem.W.keepIn K (.ref f40)=true) (a41:PySem.W.nsIn K mainGlobals "_law_cell_at" = some (some (.ref f41))) (l41:K.lookup f41=some ⟨oc41,od41,.func (PySem.W.fnOf "_law_cell_at" "_law_cell_at" (Qj QaB) (Qi QaB) (Qb QaB) .none kV41 dc41 pm41 an41 cd41 ct41),sl41⟩) (c41:PySem.W.codeIn K cd41 "_law_cell_at" = true) (k41:PySem.W.keepIn K (.ref f41)=true) (a42:PySem.W.nsIn K mainGlobals "_law_whole" = some (some (.ref f42))) (l42:K.lookup f42=some ⟨oc42,od42,.func (PySem.W.fnOf "_law_whole" "_law_whole" (Qj Qbn) (Qi Qbn) (Qb Qbn) .none kV42 dc42 pm42 an42 cd42 ct42),sl42⟩) (c42:PySem.W.codeIn K cd42 "_law_whole" = true) (k42:PySem.W.keepIn K (.ref f42)=true) (a43:PySem.W.nsIn K mainGlobals "_law_number" = some (some (.ref f43))) (l43:K.lookup f43=some ⟨oc43,od43,.func (PySem.W.fnOf "_law_number" "_law_number" (Qj Qa1) (Qi Qa1) (Qb Qa1) .none kV43 dc43 pm43 an43 cd43 ct43),sl43⟩) (c43:PySem.W.codeIn K cd43 "_law_number" = true) (k43:PySem.W.keepIn K (.ref f43)=true) (a44:PySem.W.nsIn K mainGlobals "_law_deed" = some (some (.ref f44))) (l44:K.lookup f44=some ⟨oc44,od44,.func (PySem.W.fnOf "_law_deed" "_law_deed" (Qj QbO) (Qi QbO) (Qb QbO) .none kV44 dc44 pm44 an44 cd44 ct44),sl44⟩) (c44:PySem.W.codeIn K cd44 "_law_deed" = true) (k44:PySem.W.keepIn K (.ref f44)=true) (a45:PySem.W.nsIn K mainGlobals "_law_times" = some (some (.ref f45))) (l45:K.lookup f45=some ⟨oc45,od45,.func (PySem.W.fnOf "_law_times" "_law_times" (Qj QaS) (Qi QaS) (Qb QaS) .none kV45 dc45 pm45 an45 cd45 ct45),sl45⟩) (c45:PySem.W.codeIn K cd45 "_law_times" = true) (k45:PySem.W.keepIn K (.ref f45)=true) (a46:PySem.W.nsIn K mainGlobals "_law_order" = some (some (.ref f46))) (l46:K.lookup f46=some ⟨oc46,od46,.func (PySem.W.fnOf "_law_order" "_law_order" (Qj Qai) (Qi Qai) (Qb Qai) .none kV46 dc46 pm46 an46 cd46 ct46),sl46⟩) (c46:PySem.W.codeIn K cd46 "_law_order" = true) (k46:PySem.W.keepIn K (.ref f46)=true) (a47:PySem.W.nsIn K mainGlobals "_law_tree" = some (some (.ref f47))) (l47:K.lookup f47=some ⟨oc47,od47,.func (PySem.W.fnOf "_law_tree" "_law_tree" (Qj QbC) (Qi QbC) (Qb QbC) .none kV47 dc47 pm47 an47 cd47 ct47),sl47⟩) (c47:PySem.W.codeIn K cd47 "_law_tree" = true) (k47:PySem.W.keepIn K (.ref f47)=true) (a48:PySem.W.nsIn K mainGlobals "_law_row" = some (some (.ref f48))) (l48:K.lookup f48=some ⟨oc48,od48,.func (PySem.W.fnOf "_law_row" "_law_row" (Qj Qb3) (Qi Qb3) (Qb Qb3) .none kV48 dc48 pm48 an48 cd48 ct48),sl48⟩) (c48:PySem.W.codeIn K cd48 "_law_row" = true) (k48:PySem.W.keepIn K (.ref f48)=true) (a49:PySem.W.nsIn K mainGlobals "_law_told" = some (some (.ref f49))) (l49:K.lookup f49=some ⟨oc49,od49,.func (PySem.W.fnOf "_law_told" "_law_told" (Qj QbF) (Qi QbF) (Qb QbF) .none kV49 dc49 pm49 an49 cd49 ct49),sl49⟩) (c49:PySem.W.codeIn K cd49 "_law_told" = true) (k49:PySem.W.keepIn K (.ref f49)=true) (a50:PySem.W.findIn K (.ref C_Bag) "put_asked" = some (some (.ref f50))) (l50:K.lookup f50=some ⟨oc50,od50,.func (PySem.W.fnOf "put_asked" "Bag.put_asked" (Qj QaA) (Qi QaA) (Qb QaA) .none kV50 dc50 pm50 an50 cd50 ct50),sl50⟩) (c50:PySem.W.codeIn K cd50 "Bag.put_asked" = true) (k50:PySem.W.keepIn K (.ref f50)=true) (i50:PySem.W.isFn K (.ref f50)=true) (a51:PySem.W.findIn K (.ref C_Line) "put_asked" = some (some (.ref f51))) (l51:K.lookup f51=some ⟨oc51,od51,.func (PySem.W.fnOf "put_asked" "Line.put_asked" (Qj Qao) (Qi Qao) (Qb Qao) .none kV51 dc51 pm51 an51 cd51 ct51),sl51⟩) (c51:PySem.W.codeIn K cd51 "Line.put_asked" = true) (k51:PySem.W.keepIn K (.ref f51)=true) (i51:PySem.W.isFn K (.ref f51)=true) (a52:PySem.W.findIn K (.ref C_Bag) "answer" = some (some (.ref f52))) (l52:K.lookup f52=some ⟨oc52,od52,.func (PySem.W.fnOf "answer" "Bag.answer" (Qj Qbu) (Qi Qbu) (Qb Qbu) .none kV52 dc52 pm52 an52 cd52 ct52),sl52⟩) (c52:PySem.W.codeIn K cd52 "Bag.answer" = true) (k52:PySem.W.keepIn K (.ref f52)=true) (i52:PySem.W.isFn K (.ref f52)=true) (a53:PySem.W.findIn K (.ref C_Bag) "source" = some (some (.ref f53))) (l53:K.lookup f53=some ⟨oc53,od53,.func (PySem.W.fnOf "source" "Bag.source" (Qj Qbw) (Qi Qbw) (Qb Qbw) .none kV53 dc53 pm53 an53 cd53 ct53),sl53⟩) (c53:PySem.W.codeIn K cd53 "Bag.source" = true) (k53:PySem.W.keepIn K (.ref f53)=true) (i53:PySem.W.isFn K (.ref f53)=true) (a54:PySem.W.findIn K (.ref C_Kind) "answer" = some (some (.ref f54))) (l54:K.lookup f54=some ⟨oc54,od54,.func (PySem.W.fnOf "answer" "Kind.answer" (Qj Qbg) (Qi Qbg) (Qb Qbg) .none kV54 dc54 pm54 an54 cd54 ct54),sl54⟩) (c54:PySem.W.codeIn K cd54 "Kind.answer" = true) (k54:PySem.W.keepIn K (.ref f54)=true) (i54:PySem.W.isFn K (.ref f54)=true) (a55:PySem.W.findIn K (.ref C_Kind) "source" = some (some (.ref f55))) (l55:K.lookup f55=some ⟨oc55,od55,.func (PySem.W.fnOf "source" "Kind.source" (Qj Qa6) (Qi Qa6) (Qb Qa6) .none kV55 dc55 pm55 an55 cd55 ct55),sl55⟩) (c55:PySem.W.codeIn K cd55 "Kind.source" = true) (k55:PySem.W.keepIn K (.ref f55)=true) (i55:PySem.W.isFn K (.ref f55)=true) (a56:PySem.W.findIn K (.ref C_Line) "answer" = some (some (.ref f56))) (l56:K.lookup f56=some ⟨oc56,od56,.func (PySem.W.fnOf "answer" "Line.answer" (Qj Qba) (Qi Qba) (Qb Qba) .none kV56 dc56 pm56 an56 cd56 ct56),sl56⟩) (c56:PySem.W.codeIn K cd56 "Line.answer" = true) (k56:PySem.W.keepIn K (.ref f56)=true) (i56:PySem.W.isFn K (.ref f56)=true) (a57:PySem.W.findIn K (.ref C_Line) "source" = some (some (.ref f57))) (l57:K.lookup f57=some ⟨oc57,od57,.func (PySem.W.fnOf "source" "Line.source" (Qj Qbd) (Qi Qbd) (Qb Qbd) .none kV57 dc57 pm57 an57 cd57 ct57),sl57⟩) (c57:PySem.W.codeIn K cd57 "Line.source" = true) (k57:PySem.W.keepIn K (.ref f57)=true) (i57:PySem.W.isFn K (.ref f57)=true) (a58:PySem.W.findIn K (.ref C_Pile) "answer" = some (some (.ref f58))) (l58:K.lookup f58=some ⟨oc58,od58,.func (PySem.W.fnOf "answer" "Pile.answer" (Qj Qbc) (Qi Qbc) (Qb Qbc) .none kV58 dc58 pm58 an58 cd58 ct58),sl58⟩) (c58:PySem.W.codeIn K cd58 "Pile.answer" = true) (k58:PySem.W.keepIn K (.ref f58)=true) (i58:PySem.W.isFn K (.ref f58)=true) (a59:PySem.W.findIn K (.ref C_Pile) "source" = some (some (.ref f59))) (l59:K.lookup f59=some ⟨oc59,od59,.func (PySem.W.fnOf "source" "Pile.source" (Qj Qbb) (Qi Qbb) (Qb Qbb) .none kV59 dc59 pm59 an59 cd59 ct59),sl59⟩) (c59:PySem.W.codeIn K cd59 "Pile.source" = true) (k59:PySem.W.keepIn K (.ref f59)=true) (i59:PySem.W.isFn K (.ref f59)=true) (a60:PySem.W.nsIn K mainGlobals "_law_alike" = some (some (.ref f60))) (l60:K.lookup f60=some ⟨oc60,od60,.func (PySem.W.fnOf "_law_alike" "_law_alike" (Qj Qbl) (Qi Qbl) (Qb Qbl) .none kV60 dc60 pm60 an60 cd60 ct60),sl60⟩) (c60:PySem.W.codeIn K cd60 "_law_alike" = true) (k60:PySem.W.keepIn K (.ref f60)=true) (a61:PySem.W.findIn K (.ref C_Bag) "stand" = some (some (.ref f61))) (l61:K.lookup f61=some ⟨oc61,od61,.func (PySem.W.fnOf "stand" "Bag.stand" (Qj Qbp) (Qi Qbp) (Qb Qbp) .none kV61 dc61 pm61 an61 cd61 ct61),sl61⟩) (c61:PySem.W.codeIn K cd61 "Bag.stand" = true) (k61:PySem.W.keepIn K (.ref f61)=true) (i61:PySem.W.isFn K (.ref f61)=true) (a62:PySem.W.findIn K (.ref C_Kind) "stand" = some (some (.ref f62))) (l62:K.lookup f62=some ⟨oc62,od62,.func (PySem.W.fnOf "stand" "Kind.stand" (Qj Qby) (Qi Qby) (Qb Qby) .none kV62 dc62 pm62 an62 cd62 ct62),sl62⟩) (c62:PySem.W.codeIn K cd62 "Kind.stand" = true) (k62:PySem.W.keepIn K (.ref f62)=true) (i62:PySem.W.isFn K (.ref f62)=true) (a63:PySem.W.findIn K (.ref C_Line) "stand" = some (some (.ref f63))) (l63:K.lookup f63=some ⟨oc63,od63,.func (PySem.W.fnOf "stand" "Line.stand" (Qj QaX) (Qi QaX) (Qb QaX) .none kV63 dc63 pm63 an63 cd63 ct63),sl63⟩) (c63:PySem.W.codeIn K cd63 "Line.stand" = true) (k63:PySem.W.keepIn K (.ref f63)=true) (i63:PySem.W.isFn K (.ref f63)=true) (a64:PySem.W.findIn K (.ref C_Pile) "stand" = some (some (.ref f64))) (l64:K.lookup f64=some ⟨oc64,od64,.func (PySem.W.fnOf "stand" "Pile.stand" (Qj QaT) (Qi QaT) (Qb QaT) .none kV64 dc64 pm64 an64 cd64 ct64),sl64⟩) (c64:PySem.W.codeIn K cd64 "Pile.stand" = true) (k64:PySem.W.keepIn K (.ref f64)=true) (i64:PySem.W.isFn K (.ref f64)=true) (a65:PySem.W.nsIn K mainGlobals "_law_stands" = some (some (.ref f65))) (l65:K.lookup f65=some ⟨oc65,od65,.func (PySem.W.fnOf "_law_stands" "_law_stands" (Qj QaY) (Qi QaY) (Qb QaY) .none kV65 dc65 pm65 an65 cd65 ct65),sl65⟩) (c65:PySem.W.codeIn K cd65 "_law_stands" = true) (k65:PySem.W.keepIn K (.ref f65)=true) (a66:PySem.W.nsIn K mainGlobals "law" = some (some (.ref f66))) (l66:K.lookup f66=some ⟨oc66,od66,.func (PySem.W.fnOf "law" "law" (Qj Qe1) (Qi Qe1) (Qb Qe1) .none kV66 dc66 pm66 an66 cd66 ct66),sl66⟩) (c66:PySem.W.codeIn K cd66 "law" = true) (k66:PySem.W.keepIn K (.ref f66)=true) (pg_Bag:PySem.W.plainGet K C_Bag Str.empty=true) (hd_Bag:PySem.W.hasDictIn K C_Bag=true) (po_Bag:PySem.W.plainOver K C_Bag=true) (sa_Bag:PySem.W.findIn K (.ref C_Bag) "__setattr__" = some (some (.builtin "object.__setattr__"))) (mk_Bag:PySem.W.makesIn K C_Bag=true) (in_Bag:PySem.W.findIn K (.ref C_Bag) "__init__" = some (some (.builtin "object.__init__"))) (kc_Bag:PySem.W.keepIn K (.ref C_Bag)=true) (pg_Kind:PySem.W.plainGet K C_Kind Str.empty=true) (hd_Kind:PySem.W.hasDictIn K C_Kind=true) (po_Kind:PySem.W.plainOver K C_Kind=true) (sa_Kind:PySem.W.findIn K (.ref C_Kind) "__setattr__" = some (some (.builtin "object.__setattr__"))) (pg_Line:PySem.W.plainGet K C_Line Str.empty=true) (hd_Line:PySem.W.hasDictIn K C_Line=true) (po_Line:PySem.W.plainOver K C_Line=true) (sa_Line:PySem.W.findIn K (.ref C_Line) "__setattr__" = some (some (.builtin "object.__setattr__"))) (mk_Line:PySem.W.makesIn K C_Line=true) (in_Line:PySem.W.findIn K (.ref C_Line) "__init__" = some (some (.builtin "object.__init__"))) (kc_Line:PySem.W.keepIn K (.ref C_Line)=true) (pg_Pile:PySem.W.plainGet K C_Pile Str.empty=true) (hd_Pile:PySem.W.hasDictIn K C_Pile=true) (po_Pile:PySem.W.plainOver K C_Pile=true) (sa_Pile:PySem.W.findIn K (.ref C_Pile) "__setattr__" = some (some (.builtin "object.__setattr__"))) (mk_Pile:PySem.W.makesIn K C_Pile=true) (in_Pile:PySem.W.findIn K (.ref C_Pile) "__init__" = some (some (.builtin "object.__init__"))) (kc_Pile:PySem.W.keepIn K (.ref C_Pile)=true) (z_bool:PySem.W.nsIn K mainGlobals "bool" = some none) (z_int:PySem.W.nsIn K mainGlobals "int" = some none) (z_isinstance:PySem.W.nsIn K mainGlobals "isinstance" = some none) (z_len:PySem.W.nsIn K mainGlobals "len" = some none) (z_list:PySem.W.nsIn K mainGlobals "list" = some none) (z_max:PySem.W.nsIn K mainGlobals "max" = some none) (z_min:PySem.W.nsIn K mainGlobals "min" = some none) (z_range:PySem.W.nsIn K mainGlobals "range" = some none) (z_reversed:PySem.W.nsIn K mainGlobals "reversed" = some none) (z_sorted:PySem.W.nsIn K mainGlobals "sorted" = some none) (z_tuple:PySem.W.nsIn K mainGlobals "tuple" = some none) (g_ALL_TIMES:PySem.W.nsIn K mainGlobals "ALL_TIMES" = some (some u_ALL_TIMES)) (r_ALL_TIMES:L2.RelV (toV (.int 1073741824)) u_ALL_TIMES) :
  ∃ fd:FuncData,(∀ (s:Shared) (v:Value),BindsTo s fd ⟨[v],[]⟩ [("_law_script",v)])/\∀ base:Heap,K.In base->base.Ns mainGlobals mg->LamB mg base cL T->FnOk l.prog w K mg base CX0 72 fa fd ["_law_script"] (spL K (lamP T) 1 QkV):=by
 have F_last_time:=Qn (st:=QbE) l0 c0 k0
 have B_last_time:=F_last_time.binds (ps:=["stretch"]) fun _ _ _ _ _ _=>len1 (fun _=>rfl)
 have Qes:Src K mg "last_time" QbE ["stretch"]:=⟨f0,_,F_last_time,B_last_time,PySem.W.mg_of X G a0⟩
 have F_holds:=Qn (st:=QdW) l1 c1 k1
 have B_holds:=F_holds.binds (ps:=["stretch","number"]) fun _ _ _ _ _ _=>len2 (fun _ _=>rfl)
 have Qkf:Src K mg "holds" QdW ["stretch","number"]:=⟨f1,_,F_holds,B_holds,PySem.W.mg_of X G a1⟩
 have F_within:=Qn (st:=Qdj) l2 c2 k2
 have B_within:=F_within.binds (ps:=["one","other"]) fun _ _ _ _ _ _=>len2 (fun _ _=>rfl)
 have Qh8:Src K mg "within" Qdj ["one","other"]:=⟨f2,_,F_within,B_within,PySem.W.mg_of X G a2⟩
 have F_halves:=Qn (st:=Qc9) l3 c3 k3
 have B_halves:=F_halves.binds (ps:=["stretch"]) fun _ _ _ _ _ _=>len1 (fun _=>rfl)
 have Qie:Src K mg "halves" Qc9 ["stretch"]:=⟨f3,_,F_halves,B_halves,PySem.W.mg_of X G a3⟩
 have F_least:=Qn (st:=Qd2) l4 c4 k4
 have B_least:=F_least.binds (ps:=["one","other"]) fun _ _ _ _ _ _=>len2 (fun _ _=>rfl)
 have QjT:Src K mg "least" Qd2 ["one","other"]:=⟨f4,_,F_least,B_least,PySem.W.mg_of X G a4⟩
 have F_cover:=Qn (st:=QdM) l5 c5 k5
 have B_cover:=F_cover.binds (ps:=["end"]) fun _ _ _ _ _ _=>len1 (fun _=>rfl)
 have Qkn:Src K mg "cover" QdM ["end"]:=⟨f5,_,F_cover,B_cover,PySem.W.mg_of X G a5⟩
 have F_stretch_of:=Qn (st:=Qbj) l6 c6 k6
 have B_stretch_of:=F_stretch_of.binds (ps:=["tree"]) fun _ _ _ _ _ _=>len1 (fun _=>rfl)
 have Qea:Src K mg "stretch_of" Qbj ["tree"]:=⟨f6,_,F_stretch_of,B_stretch_of,PySem.W.mg_of X G a6⟩
 have F_total_of:=Qn (st:=Qb6) l7 c7 k7
 have B_total_of:=F_total_of.binds (ps:=["tree"]) fun _ _ _ _ _ _=>len1 (fun _=>rfl)
 have Qfs:Src K mg "total_of" Qb6 ["tree"]:=⟨f7,_,F_total_of,B_total_of,PySem.W.mg_of X G a7⟩
 have F_is_leaf:=Qn (st:=QcF) l8 c8 k8
 have B_is_leaf:=F_is_leaf.binds (ps:=["tree"]) fun _ _ _ _ _ _=>len1 (fun _=>rfl)
 have Qgg:Src K mg "is_leaf" QcF ["tree"]:=⟨f8,_,F_is_leaf,B_is_leaf,PySem.W.mg_of X G a8⟩
 have F_parts:=Qn (st:=QdZ) l9 c9 k9
 have B_parts:=F_parts.binds (ps:=["tree"]) fun _ _ _ _ _ _=>len1 (fun _=>rfl)
 have Qj4:Src K mg "parts" QdZ ["tree"]:=⟨f9,_,F_parts,B_parts,PySem.W.mg_of X G a9⟩
 have F_joined_lack:=Qn (st:=QaZ) l10 c10 k10
 have B_joined_lack:=F_joined_lack.binds (ps:=["lack","left","next_lack"]) fun _ _ _ _ _ _=>len3 (fun _ _ _=>rfl)
 have Qds:Src K mg "joined_lack" QaZ ["lack","left","next_lack"]:=⟨f10,_,F_joined_lack,B_joined_lack,PySem.W.mg_of X G a10⟩
 have F_Bag__joined:=Qn (st:=Qbt) l11 c11 k11
 have B_Bag__joined:=F_Bag__joined.binds (ps:=["self","one","other"]) fun _ _ _ _ _ _=>len3 (fun _ _ _=>rfl)
 have F_Bag__nothing:=Qn (st:=Qa7) l12 c12 k12
 have B_Bag__nothing:=F_Bag__nothing.binds (ps:=["self"]) fun _ _ _ _ _ _=>len1 (fun _=>rfl)
 have F_Kind__joined:=Qn (st:=Qbf) l13 c13 k13
 have B_Kind__joined:=F_Kind__joined.binds (ps:=["self","one","other"]) fun _ _ _ _ _ _=>len3 (fun _ _ _=>rfl)
 have F_Kind__nothing:=Qn (st:=QaL) l14 c14 k14
 have B_Kind__nothing:=F_Kind__nothing.binds (ps:=["self"]) fun _ _ _ _ _ _=>len1 (fun _=>rfl)
 have F_gone_in:=Qn (st:=QcH) l15 c15 k15
 have B_gone_in:=F_gone_in.binds (ps:=["total"]) fun _ _ _ _ _ _=>len1 (fun _=>rfl)
 have QgE:Src K mg "gone_in" QcH ["total"]:=⟨f15,_,F_gone_in,B_gone_in,PySem.W.mg_of X G a15⟩
 have F_left_in:=Qn (st:=QcD) l16 c16 k16
 have B_left_in:=F_left_in.binds (ps:=["total"]) fun _ _ _ _ _ _=>len1 (fun _=>rfl)
 have Qgz:Src K mg "left_in" QcD ["total"]:=⟨f16,_,F_left_in,B_left_in,PySem.W.mg_of X G a16⟩
 have F_Line__joined:=Qn (st:=Qa8) l17 c17 k17
 have B_Line__joined:=F_Line__joined.binds (ps:=["self","one","other"]) fun _ _ _ _ _ _=>len3 (fun _ _ _=>rfl)
 have F_Line__nothing:=Qn (st:=QaM) l18 c18 k18
 have B_Line__nothing:=F_Line__nothing.binds (ps:=["self"]) fun _ _ _ _ _ _=>len1 (fun _=>rfl)
 have F_Pile__joined:=Qn (st:=Qbi) l19 c19 k19
 have B_Pile__joined:=F_Pile__joined.binds (ps:=["self","one","other"]) fun _ _ _ _ _ _=>len3 (fun _ _ _=>rfl)
 have F_Pile__nothing:=Qn (st:=QaH) l20 c20 k20
 have B_Pile__nothing:=F_Pile__nothing.binds (ps:=["self"]) fun _ _ _ _ _ _=>len1 (fun _=>rfl)
 have F_row_total:=Qn (st:=QbB) l21 c21 k21
 have B_row_total:=F_row_total.binds (ps:=["kind","knots"]) fun _ _ _ _ _ _=>len2 (fun _ _=>rfl)
 have QeH:Src K mg "row_total" QbB ["kind","knots"]:=⟨f21,_,F_row_total,B_row_total,PySem.W.mg_of X G a21⟩
 have F_Bag__lone:=Qn (st:=Qce) l22 c22 k22
 have B_Bag__lone:=F_Bag__lone.binds (ps:=["self","at","deed"]) fun _ _ _ _ _ _=>len3 (fun _ _ _=>rfl)
 have F_Kind__lone:=Qn (st:=QbQ) l23 c23 k23
 have B_Kind__lone:=F_Kind__lone.binds (ps:=["self","at","deed"]) fun _ _ _ _ _ _=>len3 (fun _ _ _=>rfl)
 have F_puts_of:=Qn (st:=QcG) l24 c24 k24
 have B_puts_of:=F_puts_of.binds (ps:=["deed"]) fun _ _ _ _ _ _=>len1 (fun _=>rfl)
 have QgG:Src K mg "puts_of" QcG ["deed"]:=⟨f24,_,F_puts_of,B_puts_of,PySem.W.mg_of X G a24⟩
 have F_takes_of:=Qn (st:=Qb5) l25 c25 k25
 have B_takes_of:=F_takes_of.binds (ps:=["deed"]) fun _ _ _ _ _ _=>len1 (fun _=>rfl)
 have Qfv:Src K mg "takes_of" Qb5 ["deed"]:=⟨f25,_,F_takes_of,B_takes_of,PySem.W.mg_of X G a25⟩
 have F_Line__lone:=Qn (st:=QbR) l26 c26 k26
 have B_Line__lone:=F_Line__lone.binds (ps:=["self","at","deed"]) fun _ _ _ _ _ _=>len3 (fun _ _ _=>rfl)
 have F_Pile__lone:=Qn (st:=QbP) l27 c27 k27
 have B_Pile__lone:=F_Pile__lone.binds (ps:=["self","at","deed"]) fun _ _ _ _ _ _=>len3 (fun _ _ _=>rfl)
 have F_leaf:=Qn (st:=QfG) l28 c28 k28
 have B_leaf:=F_leaf.binds (ps:=["kind","at","deed"]) fun _ _ _ _ _ _=>len3 (fun _ _ _=>rfl)
 have QlT:Src K mg "leaf" QfG ["kind","at","deed"]:=⟨f28,_,F_leaf,B_leaf,PySem.W.mg_of X G a28⟩
 have F_knot:=Qn (st:=QfE) l29 c29 k29
 have B_knot:=F_knot.binds (ps:=["kind","left","right"]) fun _ _ _ _ _ _=>len3 (fun _ _ _=>rfl)
 have Qma:Src K mg "knot" QfE ["kind","left","right"]:=⟨f29,_,F_knot,B_knot,PySem.W.mg_of X G a29⟩
 have F_beside:=Qn (st:=Qdc) l30 c30 k30
 have B_beside:=F_beside.binds (ps:=["kind","tree","other"]) fun _ _ _ _ _ _=>len3 (fun _ _ _=>rfl)
 have Qib:Src K mg "beside" Qdc ["kind","tree","other"]:=⟨f30,_,F_beside,B_beside,PySem.W.mg_of X G a30⟩
 have F_is_early:=Qn (st:=Qcb) l31 c31 k31
 have B_is_early:=F_is_early.binds (ps:=["tree","at"]) fun _ _ _ _ _ _=>len2 (fun _ _=>rfl)
 have QfA:Src K mg "is_early" Qcb ["tree","at"]:=⟨f31,_,F_is_early,B_is_early,PySem.W.mg_of X G a31⟩
 have F_put_in:=Qn (st:=Qdi) l32 c32 k32
 have B_put_in:=F_put_in.binds (ps:=["kind","tree","at","deed"]) fun _ _ _ _ _ _=>len4 (fun _ _ _ _=>rfl)
 have QeV:Src K mg "put_in" Qdi ["kind","tree","at","deed"]:=⟨f32,_,F_put_in,B_put_in,PySem.W.mg_of X G a32⟩
 have F_numbers_ahead:=Qn (st:=Qar) l33 c33 k33
 have B_numbers_ahead:=F_numbers_ahead.binds (ps:=["deed"]) fun _ _ _ _ _ _=>len1 (fun _=>rfl)
 have QcV:Src K mg "numbers_ahead" Qar ["deed"]:=⟨f33,_,F_numbers_ahead,B_numbers_ahead,PySem.W.mg_of X G a33⟩
 have F_number_put:=Qn (st:=Qbk) l34 c34 k34
 have B_number_put:=F_number_put.binds (ps:=["knot"]) fun _ _ _ _ _ _=>len1 (fun _=>rfl)
 have QdR:Src K mg "number_put" Qbk ["knot"]:=⟨f34,_,F_number_put,B_number_put,PySem.W.mg_of X G a34⟩
 have F_time_put:=Qn (st:=Qca) l35 c35 k35
 have B_time_put:=F_time_put.binds (ps:=["knot"]) fun _ _ _ _ _ _=>len1 (fun _=>rfl)
 have QfC:Src K mg "time_put" Qca ["knot"]:=⟨f35,_,F_time_put,B_time_put,PySem.W.mg_of X G a35⟩
 have F_one_step_down:=Qn (st:=Qaq) l36 c36 k36
 have B_one_step_down:=F_one_step_down.binds (ps:=["tree","stretch"]) fun _ _ _ _ _ _=>len2 (fun _ _=>rfl)
 have QcW:Src K mg "one_step_down" Qaq ["tree","stretch"]:=⟨f36,_,F_one_step_down,B_one_step_down,PySem.W.mg_of X G a36⟩
 have F_inside:=Qn (st:=Qdb) l37 c37 k37
 have B_inside:=F_inside.binds (ps:=["tree","stretch"]) fun _ _ _ _ _ _=>len2 (fun _ _=>rfl)
 have QhZ:Src K mg "inside" Qdb ["tree","stretch"]:=⟨f37,_,F_inside,B_inside,PySem.W.mg_of X G a37⟩
 have F_ahead:=Qn (st:=Qc0) l38 c38 k38
 have B_ahead:=F_ahead.binds (ps:=["tree","end"]) fun _ _ _ _ _ _=>len2 (fun _ _=>rfl)
 have Qj2:Src K mg "ahead" Qc0 ["tree","end"]:=⟨f38,_,F_ahead,B_ahead,PySem.W.mg_of X G a38⟩
 have F_put_below:=Qn (st:=QbG) l39 c39 k39
 have B_put_below:=F_put_below.binds (ps:=["knots","above"]) fun _ _ _ _ _ _=>len2 (fun _ _=>rfl)
 have QcT:Src K mg "put_below" QbG ["knots","above"]:=⟨f39,_,F_put_below,B_put_below,PySem.W.mg_of X G a39⟩
 have F_put_behind:=Qn (st:=Qbq) l40 c40 k40
 have B_put_behind:=F_put_behind.binds (ps:=["knots","earlier"]) fun _ _ _ _ _ _=>len2 (fun _ _=>rfl)
 have Qch:Src K mg "put_behind" Qbq ["knots","earlier"]:=⟨f40,_,F_put_behind,B_put_behind,PySem.W.mg_of X G a40⟩
 have F__law_cell_at:=Qn (st:=QaB) l41 c41 k41
 have B__law_cell_at:=F__law_cell_at.binds (ps:=["_law_script","_law_k"]) fun _ _ _ _ _ _=>len2 (fun _ _=>rfl)
 have Qdh:Src K mg "_law_cell_at" QaB ["_law_script","_law_k"]:=⟨f41,_,F__law_cell_at,B__law_cell_at,PySem.W.mg_of X G a41⟩
 have F__law_whole:=Qn (st:=Qbn) l42 c42 k42
 have B__law_whole:=F__law_whole.binds (ps:=["_law_found"]) fun _ _ _ _ _ _=>len1 (fun _=>rfl)
 have QdS:Src K mg "_law_whole" Qbn ["_law_found"]:=⟨f42,_,F__law_whole,B__law_whole,PySem.W.mg_of X G a42⟩
 have F__law_number:=Qn (st:=Qa1) l43 c43 k43
 have B__law_number:=F__law_number.binds (ps:=["_law_cell","_law_k"]) fun _ _ _ _ _ _=>len2 (fun _ _=>rfl)
 have Qdw:Src K mg "_law_number" Qa1 ["_law_cell","_law_k"]:=⟨f43,_,F__law_number,B__law_number,PySem.W.mg_of X G a43⟩
 have F__law_deed:=Qn (st:=QbO) l44 c44 k44
 have B__law_deed:=F__law_deed.binds (ps:=["_law_cell","_law_k","_law_tilt"]) fun _ _ _ _ _ _=>len3 (fun _ _ _=>rfl)
 have QeO:Src K mg "_law_deed" QbO ["_law_cell","_law_k","_law_tilt"]:=⟨f44,_,F__law_deed,B__law_deed,PySem.W.mg_of X G a44⟩
 have F__law_times:=Qn (st:=QaS) l45 c45 k45
 have B__law_times:=F__law_times.binds (ps:=["_law_cells","_law_cell"]) fun _ _ _ _ _ _=>len2 (fun _ _=>rfl)
 have QdL:Src K mg "_law_times" QaS ["_law_cells","_law_cell"]:=⟨f45,_,F__law_times,B__law_times,PySem.W.mg_of X G a45⟩
 have F__law_order:=Qn (st:=Qai) l46 c46 k46
 have B__law_order:=F__law_order.binds (ps:=["_law_script","_law_size"]) fun _ _ _ _ _ _=>len2 (fun _ _=>rfl)
 have QdX:Src K mg "_law_order" Qai ["_law_script","_law_size"]:=⟨f46,_,F__law_order,B__law_order,PySem.W.mg_of X G a46⟩
 have F__law_tree:=Qn (st:=QbC) l47 c47 k47
 have B__law_tree:=F__law_tree.binds (ps:=["_law_kind","_law_row_here","_law_script"]) fun _ _ _ _ _ _=>len3 (fun _ _ _=>rfl)
 have QeN:Src K mg "_law_tree" QbC ["_law_kind","_law_row_here","_law_script"]:=⟨f47,_,F__law_tree,B__law_tree,PySem.W.mg_of X G a47⟩
 have F__law_row:=Qn (st:=Qb3) l48 c48 k48
 have B__law_row:=F__law_row.binds (ps:=["_law_script","_law_falls"]) fun _ _ _ _ _ _=>len2 (fun _ _=>rfl)
 have Qft:Src K mg "_law_row" Qb3 ["_law_script","_law_falls"]:=⟨f48,_,F__law_row,B__law_row,PySem.W.mg_of X G a48⟩
 have F__law_told:=Qn (st:=QbF) l49 c49 k49
 have B__law_told:=F__law_told.binds (ps:=["_law_found"]) fun _ _ _ _ _ _=>len1 (fun _=>rfl)
 have QeM:Src K mg "_law_told" QbF ["_law_found"]:=⟨f49,_,F__law_told,B__law_told,PySem.W.mg_of X G a49⟩
 have F_Bag__put_asked:=Qn (st:=QaA) l50 c50 k50
 have B_Bag__put_asked:=F_Bag__put_asked.binds (ps:=["self","knots","deed"]) fun _ _ _ _ _ _=>len3 (fun _ _ _=>rfl)
 have F_Line__put_asked:=Qn (st:=Qao) l51 c51 k51
 have B_Line__put_asked:=F_Line__put_asked.binds (ps:=["self","knots","deed"]) fun _ _ _ _ _ _=>len3 (fun _ _ _=>rfl)
 have F_Bag__answer:=Qn (st:=Qbu) l52 c52 k52
 have B_Bag__answer:=F_Bag__answer.binds (ps:=["self","knots","deed"]) fun _ _ _ _ _ _=>len3 (fun _ _ _=>rfl)
 have F_Bag__source:=Qn (st:=Qbw) l53 c53 k53
 have B_Bag__source:=F_Bag__source.binds (ps:=["self","knots","deed"]) fun _ _ _ _ _ _=>len3 (fun _ _ _=>rfl)
 have F_Kind__answer:=Qn (st:=Qbg) l54 c54 k54
 have B_Kind__answer:=F_Kind__answer.binds (ps:=["self","knots","deed"]) fun _ _ _ _ _ _=>len3 (fun _ _ _=>rfl)
 have F_Kind__source:=Qn (st:=Qa6) l55 c55 k55
 have B_Kind__source:=F_Kind__source.binds (ps:=["self","knots","deed"]) fun _ _ _ _ _ _=>len3 (fun _ _ _=>rfl)
 have F_Line__answer:=Qn (st:=Qba) l56 c56 k56
 have B_Line__answer:=F_Line__answer.binds (ps:=["self","knots","deed"]) fun _ _ _ _ _ _=>len3 (fun _ _ _=>rfl)
 have F_Line__source:=Qn (st:=Qbd) l57 c57 k57
 have B_Line__source:=F_Line__source.binds (ps:=["self","knots","deed"]) fun _ _ _ _ _ _=>len3 (fun _ _ _=>rfl)
 have F_Pile__answer:=Qn (st:=Qbc) l58 c58 k58
 have B_Pile__answer:=F_Pile__answer.binds (ps:=["self","knots","deed"]) fun _ _ _ _ _ _=>len3 (fun _ _ _=>rfl)
 have F_Pile__source:=Qn (st:=Qbb) l59 c59 k59
 have B_Pile__source:=F_Pile__source.binds (ps:=["self","knots","deed"]) fun _ _ _ _ _ _=>len3 (fun _ _ _=>rfl)
 have F__law_alike:=Qn (st:=Qbl) l60 c60 k60
 have B__law_alike:=F__law_alike.binds (ps:=["_law_bag","_law_mine","_law_other","_law_its","_law_question"]) fun _ _ _ _ _ _=>len5 (fun _ _ _ _ _=>rfl)
 have Qd6:Src K mg "_law_alike" Qbl ["_law_bag","_law_mine","_law_other","_law_its","_law_question"]:=⟨f60,_,F__law_alike,B__law_alike,PySem.W.mg_of X G a60⟩
 have F_Bag__stand:=Qn (st:=Qbp) l61 c61 k61
 have B_Bag__stand:=F_Bag__stand.binds (ps:=["self","knots"]) fun _ _ _ _ _ _=>len2 (fun _ _=>rfl)
 have F_Kind__stand:=Qn (st:=Qby) l62 c62 k62
 have B_Kind__stand:=F_Kind__stand.binds (ps:=["self","knots"]) fun _ _ _ _ _ _=>len2 (fun _ _=>rfl)
 have F_Line__stand:=Qn (st:=QaX) l63 c63 k63
 have B_Line__stand:=F_Line__stand.binds (ps:=["self","knots"]) fun _ _ _ _ _ _=>len2 (fun _ _=>rfl)
 have F_Pile__stand:=Qn (st:=QaT) l64 c64 k64
 have B_Pile__stand:=F_Pile__stand.binds (ps:=["self","knots"]) fun _ _ _ _ _ _=>len2 (fun _ _=>rfl)
 have F__law_stands:=Qn (st:=QaY) l65 c65 k65
 have B__law_stands:=F__law_stands.binds (ps:=["_law_bag","_law_mine","_law_other","_law_its","_law_falls"]) fun _ _ _ _ _ _=>len5 (fun _ _ _ _ _=>rfl)
 have Qdx:Src K mg "_law_stands" QaY ["_law_bag","_law_mine","_law_other","_law_its","_law_falls"]:=⟨f65,_,F__law_stands,B__law_stands,PySem.W.mg_of X G a65⟩
 have F_law:=Qn (st:=Qe1) l66 c66 k66
 have B_law:=F_law.binds (ps:=["_law_script"]) fun _ _ _ _ _ _=>len1 (fun _=>rfl)
 have Qp4:Src K mg "law" Qe1 ["_law_script"]:=⟨f66,_,F_law,B_law,PySem.W.mg_of X G a66⟩
 have cl_Bag:Cls K C_Bag:=⟨pg_Bag,hd_Bag,po_Bag,sa_Bag⟩
 have k_Bag:Mk0 K C_Bag/\PySem.W.nsIn K mainGlobals "Bag" = some (some (.ref C_Bag))/\mg "Bag" = some (.ref C_Bag):=⟨⟨mk_Bag,in_Bag,kc_Bag⟩,aC_Bag,PySem.W.mg_of X G aC_Bag⟩
 have cl_Kind:Cls K C_Kind:=⟨pg_Kind,hd_Kind,po_Kind,sa_Kind⟩
 have cl_Line:Cls K C_Line:=⟨pg_Line,hd_Line,po_Line,sa_Line⟩
 have k_Line:Mk0 K C_Line/\PySem.W.nsIn K mainGlobals "Line" = some (some (.ref C_Line))/\mg "Line" = some (.ref C_Line):=⟨⟨mk_Line,in_Line,kc_Line⟩,aC_Line,PySem.W.mg_of X G aC_Line⟩
 have cl_Pile:Cls K C_Pile:=⟨pg_Pile,hd_Pile,po_Pile,sa_Pile⟩
 have k_Pile:Mk0 K C_Pile/\PySem.W.nsIn K mainGlobals "Pile" = some (some (.ref C_Pile))/\mg "Pile" = some (.ref C_Pile):=⟨⟨mk_Pile,in_Pile,kc_Pile⟩,aC_Pile,PySem.W.mg_of X G aC_Pile⟩
 have z'_bool:=PySem.W.mg_none_of X G z_bool
 have z'_int:=PySem.W.mg_none_of X G z_int
 have z'_isinstance:=PySem.W.mg_none_of X G z_isinstance
 have z'_len:=PySem.W.mg_none_of X G z_len
 have z'_list:=PySem.W.mg_none_of X G z_list
 have z'_max:=PySem.W.mg_none_of X G z_max
 have z'_min:=PySem.W.mg_none_of X G z_min
 have z'_range:=PySem.W.mg_none_of X G z_range
 have z'_reversed:=PySem.W.mg_none_of X G z_reversed
 have z'_sorted:=PySem.W.mg_none_of X G z_sorted
 have z'_tuple:=PySem.W.mg_none_of X G z_tuple
 have g'_ALL_TIMES:=PySem.W.mg_of X G g_ALL_TIMES
 have e:=hfa.symm.trans (PySem.W.mg_of X G a66)
 cases e
 refine ⟨PySem.W.fnOf "law" "law" (Qj Qe1) (Qi Qe1) (Qb Qe1) .none kV66 dc66 pm66 an66 cd66 ct66,fun s v=>.of_eq rfl,fun base _ _ LB=>?_⟩
 have Qay:=Qko (P:=l.prog) (w:=w) (K:=K) (mg:=mg) (base:=base) Qes
 have Qcf:=Qoa (P:=l.prog) (w:=w) (K:=K) (mg:=mg) (base:=base) Qkf Qay
 have Qdk:=Qnm (P:=l.prog) (w:=w) (K:=K) (mg:=mg) (base:=base) Qh8 Qcf Qay
 have QdA:=Qni (P:=l.prog) (w:=w) (K:=K) (mg:=mg) (base:=base) Qie
 have Qkt:=QoC (P:=l.prog) (w:=w) (K:=K) (mg:=mg) (base:=base) QjT z'_max z'_min Qay
 have Qkx:=QoJ (P:=l.prog) (w:=w) (K:=K) (mg:=mg) (base:=base) Qkn ⟨g'_ALL_TIMES,r_ALL_TIMES⟩
 have QE:=QiW (P:=l.prog) (w:=w) (K:=K) (mg:=mg) (base:=base) Qea
 have Q4:=Qkz (P:=l.prog) (w:=w) (K:=K) (mg:=mg) (base:=base) Qfs
 have Qae:=QlZ (P:=l.prog) (w:=w) (K:=K) (mg:=mg) (base:=base) Qgg
 have Qdo:=QnK (P:=l.prog) (w:=w) (K:=K) (mg:=mg) (base:=base) Qj4
 have Qah:=Qic (P:=l.prog) (w:=w) (K:=K) (mg:=mg) (base:=base) Qds z'_max
 have QiP:=Qiv (P:=l.prog) (w:=w) (K:=K) (mg:=mg) (base:=base) F_Bag__joined z'_len z'_list z'_min z'_sorted z'_tuple Qah
 have Qbv:MDf l.prog w K mg base "Bag" "joined" 2 ["self","one","other"] false (QV):=⟨C_Bag,f11,_,cl_Bag,aC_Bag,⟨a11,i11,k11⟩,QiP,B_Bag__joined⟩
 have QhF:=Qha (P:=l.prog) (w:=w) (K:=K) (mg:=mg) (base:=base) F_Bag__nothing
 have Qa5:MDf l.prog w K mg base "Bag" "nothing" 1 ["self"] false (QU):=⟨C_Bag,f12,_,cl_Bag,aC_Bag,⟨a12,i12,k12⟩,QhF,B_Bag__nothing⟩
 have Qiw:=Qhb (P:=l.prog) (w:=w) (K:=K) (mg:=mg) (base:=base) F_Kind__joined
 have Qa4:MDf l.prog w K mg base "Kind" "joined" 1 ["self","one","other"] false (QaC):=⟨C_Kind,f13,_,cl_Kind,aC_Kind,⟨a13,i13,k13⟩,Qiw,B_Kind__joined⟩
 have Qg4:=QgH (P:=l.prog) (w:=w) (K:=K) (mg:=mg) (base:=base) F_Kind__nothing
 have QaK:MDf l.prog w K mg base "Kind" "nothing" 1 ["self"] false (Qas):=⟨C_Kind,f14,_,cl_Kind,aC_Kind,⟨a14,i14,k14⟩,Qg4,B_Kind__nothing⟩
 have QbS:=QlP (P:=l.prog) (w:=w) (K:=K) (mg:=mg) (base:=base) QgE
 have Qc7:=QlY (P:=l.prog) (w:=w) (K:=K) (mg:=mg) (base:=base) Qgz QbS
 have QhS:=Qg3 (P:=l.prog) (w:=w) (K:=K) (mg:=mg) (base:=base) F_Line__joined Qah Qc7
 have Qbe:MDf l.prog w K mg base "Line" "joined" 3 ["self","one","other"] false (Qaa):=⟨C_Line,f17,_,cl_Line,aC_Line,⟨a17,i17,k17⟩,QhS,B_Line__joined⟩
 have Qg8:=Qgj (P:=l.prog) (w:=w) (K:=K) (mg:=mg) (base:=base) F_Line__nothing
 have QaO:MDf l.prog w K mg base "Line" "nothing" 1 ["self"] false (QZ):=⟨C_Line,f18,_,cl_Line,aC_Line,⟨a18,i18,k18⟩,Qg8,B_Line__nothing⟩
 have Qh9:=Qhc (P:=l.prog) (w:=w) (K:=K) (mg:=mg) (base:=base) F_Pile__joined z'_max Qah
 have Qbh:MDf l.prog w K mg base "Pile" "joined" 2 ["self","one","other"] false (Qab):=⟨C_Pile,f19,_,cl_Pile,aC_Pile,⟨a19,i19,k19⟩,Qh9,B_Pile__joined⟩
 have QgY:=Qgw (P:=l.prog) (w:=w) (K:=K) (mg:=mg) (base:=base) F_Pile__nothing
 have QaI:MDf l.prog w K mg base "Pile" "nothing" 1 ["self"] false (Q0):=⟨C_Pile,f20,_,cl_Pile,aC_Pile,⟨a20,i20,k20⟩,QgY,B_Pile__nothing⟩
 have Qr:=Qkm (P:=l.prog) (w:=w) (K:=K) (mg:=mg) (base:=base) QeH Q4 Qbv Qa5 Qa4 QaK Qbe QaO Qbh QaI
 have Qln:=QjW (P:=l.prog) (w:=w) (K:=K) (mg:=mg) (base:=base) F_Bag__lone Qa5 QaK QaO QaI
 have QeG:MDf l.prog w K mg base "Bag" "lone" 2 ["self","at","deed"] false (Qaw):=⟨C_Bag,f22,_,cl_Bag,aC_Bag,⟨a22,i22,k22⟩,Qln,B_Bag__lone⟩
 have Qkg:=QiS (P:=l.prog) (w:=w) (K:=K) (mg:=mg) (base:=base) F_Kind__lone
 have Qd7:MDf l.prog w K mg base "Kind" "lone" 1 ["self","at","deed"] false (Qcv):=⟨C_Kind,f23,_,cl_Kind,aC_Kind,⟨a23,i23,k23⟩,Qkg,B_Kind__lone⟩
 have Qc6:=QlS (P:=l.prog) (w:=w) (K:=K) (mg:=mg) (base:=base) QgG
 have Qb7:=QkO (P:=l.prog) (w:=w) (K:=K) (mg:=mg) (base:=base) Qfv
 have Qkk:=QiN (P:=l.prog) (w:=w) (K:=K) (mg:=mg) (base:=base) F_Line__lone Qc6 Qb7
 have QdT:MDf l.prog w K mg base "Line" "lone" 2 ["self","at","deed"] false (Qbs):=⟨C_Line,f26,_,cl_Line,aC_Line,⟨a26,i26,k26⟩,Qkk,B_Line__lone⟩
 have Qks:=QiK (P:=l.prog) (w:=w) (K:=K) (mg:=mg) (base:=base) F_Pile__lone Qc6 Qb7
 have QdK:MDf l.prog w K mg base "Pile" "lone" 2 ["self","at","deed"] false (Qbm):=⟨C_Pile,f27,_,cl_Pile,aC_Pile,⟨a27,i27,k27⟩,Qks,B_Pile__lone⟩
 have QhD:=QpD (P:=l.prog) (w:=w) (K:=K) (mg:=mg) (base:=base) QlT QeG Qd7 QdT QdK
 have QdV:=QoY (P:=l.prog) (w:=w) (K:=K) (mg:=mg) (base:=base) Qma Qkt QE Q4 Qbv Qa4 Qbe Qbh
 have QfQ:=Qm6 (P:=l.prog) (w:=w) (K:=K) (mg:=mg) (base:=base) Qib QdV
 have Qeb:=QkS (P:=l.prog) (w:=w) (K:=K) (mg:=mg) (base:=base) QfA QdA Qcf QE
 have QdD:=Qjr (P:=l.prog) (w:=w) (K:=K) (mg:=mg) (base:=base) QeV QfQ Qcf Qeb Qae QdV QhD QE 64
 have QG:=Qgm (P:=l.prog) (w:=w) (K:=K) (mg:=mg) (base:=base) QcV
 have Q3:=Qi3 (P:=l.prog) (w:=w) (K:=K) (mg:=mg) (base:=base) QdR
 have QcB:=Qly (P:=l.prog) (w:=w) (K:=K) (mg:=mg) (base:=base) QfC
 have QcX:=Qgh (P:=l.prog) (w:=w) (K:=K) (mg:=mg) (base:=base) QcW QdA Qae QE Qdk
 have QhR:=Qns (P:=l.prog) (w:=w) (K:=K) (mg:=mg) (base:=base) QhZ QcX QE Qdk
 have Qe4:=Qoo (P:=l.prog) (w:=w) (K:=K) (mg:=mg) (base:=base) Qj2 Qkx QhR
 have Qam:=Qf8 (P:=l.prog) (w:=w) (K:=K) (mg:=mg) (base:=base) QcT z'_reversed Qae Qdo Q4 64
 have QaP:=Qfi (P:=l.prog) (w:=w) (K:=K) (mg:=mg) (base:=base) Qch Qae Qdo Q4 64
 have QJ:=Qg5 (P:=l.prog) (w:=w) (K:=K) (mg:=mg) (base:=base) Qdh z'_len
 have Qd1:=QiU (P:=l.prog) (w:=w) (K:=K) (mg:=mg) (base:=base) QdS z'_bool z'_int z'_isinstance
 have Qbz:=QhX (P:=l.prog) (w:=w) (K:=K) (mg:=mg) (base:=base) Qdw
 have QeB:=Qkl (P:=l.prog) (w:=w) (K:=K) (mg:=mg) (base:=base) QeO Qbz
 have QdU:=QiV (P:=l.prog) (w:=w) (K:=K) (mg:=mg) (base:=base) QdL z'_len z'_range
 have QdY:=QiJ (P:=l.prog) (w:=w) (K:=K) (mg:=mg) (base:=base) LB (QoT htab X G) QdX z'_range z'_sorted QJ
 have Qdl:=Qkh (P:=l.prog) (w:=w) (K:=K) (mg:=mg) (base:=base) QeN z'_len QdY QdD
 have QfB:=Qk7 (P:=l.prog) (w:=w) (K:=K) (mg:=mg) (base:=base) Qft z'_len z'_range QJ QeB Qbz QdU
 have Qdp:=Qki (P:=l.prog) (w:=w) (K:=K) (mg:=mg) (base:=base) QeM Qd1
 have Qgr:=QfT (P:=l.prog) (w:=w) (K:=K) (mg:=mg) (base:=base) F_Bag__put_asked z'_len QG Qr
 have QB:MDf l.prog w K mg base "Bag" "put_asked" 5 ["self","knots","deed"] false (Qw):=⟨C_Bag,f50,_,cl_Bag,aC_Bag,⟨a50,i50,k50⟩,Qgr,B_Bag__put_asked⟩
 have QfL:=QfI (P:=l.prog) (w:=w) (K:=K) (mg:=mg) (base:=base) F_Line__put_asked QbS QG QaP Qr
 have Qy:MDf l.prog w K mg base "Line" "put_asked" 67 ["self","knots","deed"] false (Qx):=⟨C_Line,f51,_,cl_Line,aC_Line,⟨a51,i51,k51⟩,QfL,B_Line__put_asked⟩
 have QiT:=Qif (P:=l.prog) (w:=w) (K:=K) (mg:=mg) (base:=base) F_Bag__answer z'_len Qr QB Qy
 have QcL:MDf l.prog w K mg base "Bag" "answer" 68 ["self","knots","deed"] false (Q8):=⟨C_Bag,f52,_,cl_Bag,aC_Bag,⟨a52,i52,k52⟩,QiT,B_Bag__answer⟩
 have Qi0:=Qid (P:=l.prog) (w:=w) (K:=K) (mg:=mg) (base:=base) F_Bag__source QB Qy
 have QcJ:MDf l.prog w K mg base "Bag" "source" 68 ["self","knots","deed"] false (Q7):=⟨C_Bag,f53,_,cl_Bag,aC_Bag,⟨a53,i53,k53⟩,Qi0,B_Bag__source⟩
 have QhC:=Qg7 (P:=l.prog) (w:=w) (K:=K) (mg:=mg) (base:=base) F_Kind__answer
 have Qcs:MDf l.prog w K mg base "Kind" "answer" 1 ["self","knots","deed"] false (QbH):=⟨C_Kind,f54,_,cl_Kind,aC_Kind,⟨a54,i54,k54⟩,QhC,B_Kind__answer⟩
 have Qh4:=Qg2 (P:=l.prog) (w:=w) (K:=K) (mg:=mg) (base:=base) F_Kind__source
 have Qco:MDf l.prog w K mg base "Kind" "source" 1 ["self","knots","deed"] false (QbL):=⟨C_Kind,f55,_,cl_Kind,aC_Kind,⟨a55,i55,k55⟩,Qh4,B_Kind__source⟩
 have Qht:=QgU (P:=l.prog) (w:=w) (K:=K) (mg:=mg) (base:=base) F_Line__answer Qc7 Q3 Qr QB Qy
 have Qcr:MDf l.prog w K mg base "Line" "answer" 68 ["self","knots","deed"] false (QN):=⟨C_Line,f56,_,cl_Line,aC_Line,⟨a56,i56,k56⟩,Qht,B_Line__answer⟩
 have Qir:=QgZ (P:=l.prog) (w:=w) (K:=K) (mg:=mg) (base:=base) F_Line__source QcB QB Qy
 have Qcp:MDf l.prog w K mg base "Line" "source" 68 ["self","knots","deed"] false (QT):=⟨C_Line,f57,_,cl_Line,aC_Line,⟨a57,i57,k57⟩,Qir,B_Line__source⟩
 have Qip:=Qg0 (P:=l.prog) (w:=w) (K:=K) (mg:=mg) (base:=base) F_Pile__answer Q3 QG Qam Qr
 have Qcj:MDf l.prog w K mg base "Pile" "answer" 67 ["self","knots","deed"] false (Qal):=⟨C_Pile,f58,_,cl_Pile,aC_Pile,⟨a58,i58,k58⟩,Qip,B_Pile__answer⟩
 have QhA:=QgV (P:=l.prog) (w:=w) (K:=K) (mg:=mg) (base:=base) F_Pile__source QG Qam QcB
 have Qcm:MDf l.prog w K mg base "Pile" "source" 67 ["self","knots","deed"] false (Qaj):=⟨C_Pile,f59,_,cl_Pile,aC_Pile,⟨a59,i59,k59⟩,QhA,B_Pile__source⟩
 have Qd5:=Qi4 (P:=l.prog) (w:=w) (K:=K) (mg:=mg) (base:=base) Qd6 Qdp QcL QcJ Qcs Qco Qcr Qcp Qcj Qcm
 have Qku:=QiO (P:=l.prog) (w:=w) (K:=K) (mg:=mg) (base:=base) F_Bag__stand Qr
 have Qc1:MDf l.prog w K mg base "Bag" "stand" 5 ["self","knots"] true (Qat):=⟨C_Bag,f61,_,cl_Bag,aC_Bag,⟨a61,i61,k61⟩,Qku,B_Bag__stand⟩
 have QiH:=Qh5 (P:=l.prog) (w:=w) (K:=K) (mg:=mg) (base:=base) F_Kind__stand
 have QcO:MDf l.prog w K mg base "Kind" "stand" 1 ["self","knots"] true (QbX):=⟨C_Kind,f62,_,cl_Kind,aC_Kind,⟨a62,i62,k62⟩,QiH,B_Kind__stand⟩
 have QiQ:=Qik (P:=l.prog) (w:=w) (K:=K) (mg:=mg) (base:=base) F_Line__stand z'_range QbS Q3 QaP Qr
 have QcN:MDf l.prog w K mg base "Line" "stand" 67 ["self","knots"] true (Qa0):=⟨C_Line,f63,_,cl_Line,aC_Line,⟨a63,i63,k63⟩,QiQ,B_Line__stand⟩
 have Qi1:=QhV (P:=l.prog) (w:=w) (K:=K) (mg:=mg) (base:=base) F_Pile__stand z'_range Q3 Qam Qr
 have QcM:MDf l.prog w K mg base "Pile" "stand" 67 ["self","knots"] true (QaV):=⟨C_Pile,f64,_,cl_Pile,aC_Pile,⟨a64,i64,k64⟩,Qi1,B_Pile__stand⟩
 have Qdv:=QiD (P:=l.prog) (w:=w) (K:=K) (mg:=mg) (base:=base) Qdx z'_isinstance z'_list Qc1 QcO QcN QcM
 exact Qqz (P:=l.prog) (w:=w) (K:=K) (mg:=mg) (base:=base) F_law k_Bag k_Line k_Pile Qd5 QJ QfB Qdv Qdl Qe4
theorem walk {l:PySem.W.OpenLaw} {qq:Program} {loose:List Str} {XP:(Str->Option Value)->Heap->Prop} {YP:World->Heap->Prop} {d:DefRec} {K:Params->PySem.W.Frag} {c T:Addr} (hn:l.most=some 63) (hdf:d.params.defaults=[])
  (hY:∀ (w:World) (h:Heap),YP w h->(K w.params).In h) (law:∀ ns:List Int,ns.length<=63->QkV [.frl (ns.map D.int)]=.ok (.bl true))
  (hTb:∀ (w:World) (h:Heap),YP w h->h.get? T=some (PySem.W.tabObj #[])) (hCd:∀ w:World,PySem.W.codeHdIn (K w.params) c T=true) (hTK:∀ w:World,(K w.params).lookup T=none)
  (F:∀ (w:World) (mg:Str->Option Value) (fa:Addr) (h:Heap),(K w.params).In h->h.Ns mainGlobals mg->mg d.name=some (.ref fa) ->
   ∃ fd:FuncData,(∀ (s:Shared) (u:Value),BindsTo s fd ⟨[u],[]⟩ [("_law_script",u)])/\∀ base:Heap,(K w.params).In base->base.Ns mainGlobals mg->LamB mg base c T->FnOk l.prog w (K w.params) mg base CX0 72 fa fd ["_law_script"] (spL (K w.params) (lamP T) 1 QkV)) :
  PySem.W.WalkO qq loose XP YP l.row.toRowW d [] (fun f vs=>PySem.call f vs) :=
 walkL (n:=63) (k:=72) (x:="_law_script") hn (by decide) hdf ⟨rfl,by decide,by decide⟩ hY hTb hCd hTK law F
end Pr
namespace Pr
open PySem L2 DL
local macro_rules | `(tactic| simp? [$xs,*])=>`(tactic| simp (decide:=true) -implicitDefEqProofs [Qc,Q6,fVar,Qh,isT,at_0,at_1,at_2,at_3,at_4,$xs,*])
local macro_rules | `(tactic| simp?! [$xs,*])=>`(tactic| simp (decide:=true) [Qc,Q6,fVar,Qh,isT,at_0,at_1,at_2,at_3,at_4,$xs,*])
local macro_rules | `(tactic| simp? [])=>`(tactic| simp (decide:=true) -implicitDefEqProofs [Qc,Q6,fVar,Qh,isT,at_0,at_1,at_2,at_3,at_4])
local macro_rules | `(tactic| simp?! [])=>`(tactic| simp (decide:=true) [Qc,Q6,fVar,Qh,isT,at_0,at_1,at_2,at_3,at_4])
theorem Qo8 (k:Nat):(2:Int) ^ k=((2 ^ k:Nat):Int):=by simp
theorem Qmb (x y:Nat):Builtin.bitXor (x:Int) (y:Int)=((x ^^^ y:Nat):Int):=by
 have h1:¬ (0:Int)<=Builtin.bitNot (x:Int):=by unfold Builtin.bitNot;lia
 have h2:¬ (0:Int)<=Builtin.bitNot (y:Int):=by unfold Builtin.bitNot;lia
 have e:∀ z:Int,Builtin.bitNot (Builtin.bitNot z)=z:=fun z=>by unfold Builtin.bitNot;lia
 have k1:(0:Int)<=(x:Int):=by lia
 have k2:(0:Int)<=(y:Int):=by lia
 have o:=Bt.or_xor_and x y
 unfold Builtin.bitXor Builtin.bitOr Builtin.bitAnd
 simp [k1,k2,h1,h2,e]
 lia
theorem p30:(2:Nat) ^ 30=1073741824:=by decide
theorem Qd4 (a b:Int):Qav [.tup [.int a,.int b]]=.ok (.int (a + b - 1)):=by
 simp [Qav,QeJ,Q6,fVar,at_0,at_1]
theorem Qll (z:Nat):Builtin.Int.intBits (z:Int)=Bt.bits z:=by
 unfold Builtin.Int.intBits Bt.bits
 by_cases h:z=0
 ·subst h;rfl
 ·have h':((z:Int) == 0)=false:=by simpa using h
  rw [if_neg h,h']
  simp
theorem QoK {a b c d:Int} {f l:Nat} (hf:(if c < a then c else a)=(f:Int)) (hl:(if c + d - 1 > a + b - 1 then c + d - 1 else a + b - 1)=(l:Int)) (h1:f < 1073741824) (h2:l < 1073741824) :
  Qf9 [.tup [.int a,.int b],.tup [.int c,.int d]]=.ok (.tup [.int ((f / 2 ^ Bt.bits (f ^^^ l) * 2 ^ Bt.bits (f ^^^ l):Nat):Int),.int ((2 ^ Bt.bits (f ^^^ l):Nat):Int)]):=by
 have hb:Bt.bits (f ^^^ l)<=30:=Bt.bits_le (Nat.xor_lt_two_pow (by rw [p30];exact h1) (by rw [p30];exact h2))
 generalize hn:Bt.bits (f ^^^ l)=n at *
 have p:(1:Nat)<=2 ^ n:=Nat.one_le_two_pow
 have p2:(2:Nat) ^ n<=1073741824:=by rw [← p30];exact Nat.pow_le_pow_right (by decide) hb
 have c0:cPow 1 (n:Int)=true:=by simp [cPow];lia
 have ep:(2:Int) ^ n=((2 ^ n:Nat):Int):=Qo8 n
 have c1:cDiv (f:Int) ((2 ^ n:Nat):Int)=true:=by simp only [cDiv,decide_eq_true_eq];lia
 have c2:cMul ((f:Int) / ((2 ^ n:Nat):Int)) ((2 ^ n:Nat):Int)=true:=by simp only [cMul,decide_eq_true_eq];lia
 have ex:Builtin.bitXor (f:Int) (l:Int)=((f ^^^ l:Nat):Int):=Qmb f l
 have eb:Builtin.Int.intBits ((f ^^^ l:Nat):Int)=n:=by rw [Qll,hn]
 have em:((f / 2 ^ n * 2 ^ n:Nat):Int)=(f:Int) / ((2 ^ n:Nat):Int) * ((2 ^ n:Nat):Int):=by rw [Int.natCast_mul,Int.natCast_ediv]
 have hl2:(if a + b < c + d then c + d - 1 else a + b - 1)=(l:Int):=by rw [← hl];split <;> split <;> lia
 rw [em]
 generalize hz:((2 ^ n:Nat):Int)=z at *
 simp -implicitDefEqProofs [-Qq6,-Qqu,Qf9,QjJ,Q6,fVar,at_0,at_1,Qd4,hf,hl,hl2,QnE,ex,eb,c0,ep,c1,c2]
abbrev tbL:MTab:=[("Kind",Qcv),("Bag",Qaw),("Pile",Qbm),("Line",Qbs)]
abbrev tbJ:MTab:=[("Kind",QaC),("Bag",QV),("Pile",Qab),("Line",Qaa)]
abbrev tbN:MTab:=[("Kind",Qas),("Bag",QU),("Pile",Q0),("Line",QZ)]
structure Kd where
 C:Str
 en:List (Nat×D)->D
 Okd:D->Prop
 N:Nat
 lonM:List D->Ou D
 jonM:List D->Ou D
 notM:List D->Ou D
 tl:tbM tbL (.obj C)=some lonM
 tj:tbM tbJ (.obj C)=some jonM
 tn:tbM tbN (.obj C)=some notM
 lon:∀ (a:Nat) {d:D},Okd d->lonM [.obj C,.int (a:Int),d]=.ok (en [(a,d)])
 jon:∀ {xs ys:List (Nat×D)},xs.length + ys.length<=N->jonM [.obj C,en xs,en ys]=.ok (en (xs++ys))
 nt:notM [.obj C]=.ok (en [])
 ime:∀ xs,imm (en xs)=true
 imd:∀ {d:D},Okd d->imm d=true
 slf:∀ xs,Self 6 (en xs)
 sld:∀ {d:D},Okd d->Self 6 d
def QO (a:Nat) (d:D):List (Nat×D):=[(a,d)]
def QM (xs ys:List (Nat×D)):List (Nat×D):=xs++ys
open Tr in
theorem Qk9:∀ t:T,tv QO QM t=t.ds
 | .lf a d=>rfl
 | .nd q k l r=>by
  show QM (tv QO QM l) (tv QO QM r)=l.ds++r.ds
  rw [Qk9 l,Qk9 r];rfl
open Tr in
abbrev E (K:Kd):T->D:=enc K.en QO QM
open Tr in
abbrev EO (K:Kd):Option T->D:=encO K.en QO QM
open Tr in
abbrev V (t:T):List (Nat×D):=tv QO QM t
section
open Tr
theorem QoH {K X A d s:D} {b:Bool} (hs:Qo [X]=.ok s) (hh:Qa3 [s,A]=.ok (.bl b)):Qey (fTru (Qg (Qa3) [(Qg (Qo) [(fVar 1)]),(fVar 2)])) [.val K,.val X,.val A,.val d]=.ok (!b):=by
 simp?! [hs,hh]
theorem Qmk {F:List D->Ou D} {K A d s f b:D} {xs:List D} (hs:Qo [.tup xs]=.ok s) (hh:Qa3 [s,A]=.ok (.bl false)) (hl:Qex [K,A,d]=.ok f) (hb:QbW [K,.tup xs,f]=.ok b):runD false 4 (QbV F) [K,.tup xs,A,d]=.ok b:=by
 refine Qit ((Qlf (b:=false) rfl rfl).trans (Ql2 (b:=true) ?_ rfl ?_))
 ·exact QoH hs hh
 ·show Qg (QbW) [(fVar 0),(fVar 1),(Qg (Qex) [(fVar 0),(fVar 2),(fVar 3)])] [.val K,.val (.tup xs),.val A,.val d]=.ok b
  simp?! [hl,hb]
theorem Qhp {F:List D->Ou D} {K A d s z1 z2 z3 l r:D} (hs:Qo [.tup [z1,z2,z3,l,r]]=.ok s) (hh:Qa3 [s,A]=.ok (.bl true)) (hl:QK [.tup [z1,z2,z3,l,r]]=.ok (.bl false)):runD false 4 (QbV F) [K,.tup [z1,z2,z3,l,r],A,d]=runD false 4 (sSeq (sIf (fTru (Qg (QaU) [(fVar 1),(fVar 2)])) (sSeq (sRet (Qg (QbU) [(fVar 0),(Qg (F) [(fVar 0),(f2 gIx (fVar 1) (fC (.int 3))),(fVar 2),(fVar 3)]),(f2 gIx (fVar 1) (fC (.int 4)))])) Qf) Qf) (sSeq (sRet (Qg (QbU) [(fVar 0),(f2 gIx (fVar 1) (fC (.int 3))),(Qg (F) [(fVar 0),(f2 gIx (fVar 1) (fC (.int 4))),(fVar 2),(fVar 3)])])) Qf)) [K,.tup [z1,z2,z3,l,r],A,d]:=by
 have h1:fTru (Qg (QK) [(fVar 1)]) [.val K,.val (.tup [z1,z2,z3,l,r]),.val A,.val d]=.ok false:=by simp?! [hl]
 have e:(QbV F) (Q6 4 [K,.tup [z1,z2,z3,l,r],A,d])=_:=(Qlf (b:=false) rfl rfl).trans ((Qlf (QoH hs hh) rfl).trans (Qlf h1 rfl))
 unfold runD
 rw [e]
 try rfl
theorem QmX {F:List D->Ou D} {K A d s l' b z1 z2 z3 l r:D} (hs:Qo [.tup [z1,z2,z3,l,r]]=.ok s) (hh:Qa3 [s,A]=.ok (.bl true)) (hl:QK [.tup [z1,z2,z3,l,r]]=.ok (.bl false)) (he:QaU [.tup [z1,z2,z3,l,r],A]=.ok (.bl true)) (hf:F [K,l,A,d]=.ok l') (hk:QbU [K,l',r]=.ok b):runD false 4 (QbV F) [K,.tup [z1,z2,z3,l,r],A,d]=.ok b:=by
 rw [Qhp hs hh hl]
 have h1:fTru (Qg (QaU) [(fVar 1),(fVar 2)]) [.val K,.val (.tup [z1,z2,z3,l,r]),.val A,.val d]=.ok true:=by simp?! [he]
 exact Qit (Ql2 h1 rfl (by simp?! [hf,hk]))
theorem QoO {F:List D->Ou D} {K A d s l' b z1 z2 z3 l r:D} (hs:Qo [.tup [z1,z2,z3,l,r]]=.ok s) (hh:Qa3 [s,A]=.ok (.bl true)) (hl:QK [.tup [z1,z2,z3,l,r]]=.ok (.bl false)) (he:QaU [.tup [z1,z2,z3,l,r],A]=.ok (.bl false)) (hf:F [K,r,A,d]=.ok l') (hk:QbU [K,l,l']=.ok b):runD false 4 (QbV F) [K,.tup [z1,z2,z3,l,r],A,d]=.ok b:=by
 rw [Qhp hs hh hl]
 have h1:fTru (Qg (QaU) [(fVar 1),(fVar 2)]) [.val K,.val (.tup [z1,z2,z3,l,r]),.val A,.val d]=.ok false:=by simp?! [he]
 exact Qit ((Qlf h1 rfl).trans (Qrc (by simp?! [hf,hk])))
variable (K:Kd)
theorem QkA (a:Nat) (d:D) (l:List (Nat×D)):(insK a d l).length=l.length + 1:=(Qgq l).length_eq
theorem Qb4 (t:T):Qo [E K t]=.ok (.tup [.int (t.lo:Int),.int (t.sz:Int)]):=by
 obtain ⟨r,e⟩:=QeL K.en QO QM t
 rw [show E K t=_ from e]
 simp?! [Qo,Qd0]
theorem QeR (t:T):Qz [E K t]=.ok (K.en (V t)):=by
 obtain ⟨r,e⟩:=QeL K.en QO QM t
 rw [show E K t=_ from e]
 simp?! [Qz,Qfw]
theorem QjO (a:Nat) (d:D):QK [E K (.lf a d)]=.ok (.bl true):=by
 simp?! [QK,Qe5,E,enc]
theorem Qhg (q k:Nat) (l r:T):QK [E K (.nd q k l r)]=.ok (.bl false):=by
 have h:¬ ((2 ^ (k + 1):Nat):Int)=1:=by
  have:2 ^ (k + 1)=2 ^ k * 2:=Nat.pow_succ ..
  have:=Nat.two_pow_pos k
  lia
 simp only [E,enc]
 generalize ((2 ^ (k + 1):Nat):Int)=z at *
 simp?! [QK,Qe5,h]
theorem QeU (a b x:Int):Qa3 [.tup [.int a,.int b],.int x]=.ok (.bl (decide (a<=x) && decide (x<=a + b - 1))):=by
 simp?! [Qa3,QjS,Qd4]
theorem Qhk {l r:T} (hB:l.ds.length + r.ds.length<=K.N) (hl:Good l) (hr:Good r) (hd:l.lo + l.sz<=r.lo):QbU [.obj K.C,E K l,E K r]=.ok (E K (mk l r)):=by
 have pl:=Qd9 l
 have pr:=Qd9 r
 have ul:=hl.up
 have ur:=hr.up
 have hall:all=1073741824:=rfl
 have e:=Bt.bits_blocks (q:=l.q) (i:=l.e) (r:=r.q) (j:=r.e) (x:=l.lo) (a:=l.lo) (y:=r.lo + r.sz - 1) (c:=r.lo) hd (Nat.mul_div_cancel _ pl) (Nat.mul_div_cancel _ pl) (Bt.in_block.mpr ⟨by show r.lo<=_;lia,by show _ < r.lo + r.sz;lia⟩) (Nat.mul_div_cancel _ pr)
 have el:=QoK (a:=(l.lo:Int)) (b:=(l.sz:Int)) (c:=(r.lo:Int)) (d:=(r.sz:Int)) (f:=l.lo) (l:=r.lo + r.sz - 1) (by rw [if_neg (by lia)]) (by rw [if_pos (by lia)];lia) (by lia) (by lia)
 rw [e] at el
 have em:=Qq9 K.en QO QM (l:=l) (r:=r) (by lia)
 rw [show E K (mk l r)=_ from em]
 have s1:=Qb4 K l
 have s2:=Qb4 K r
 have t1:=QeR K l
 have t2:=QeR K r
 have j:=(show K.jonM [.obj K.C,K.en (tv QO QM l),K.en (tv QO QM r)]=.ok (K.en (QM (tv QO QM l) (tv QO QM r))) by rw [Qk9,Qk9];exact K.jon hB)
 generalize ((l.lo / 2 ^ Bt.bits (l.lo ^^^ r.lo) * 2 ^ Bt.bits (l.lo ^^^ r.lo):Nat):Int)=u1 at *
 generalize ((2 ^ Bt.bits (l.lo ^^^ r.lo):Nat):Int)=u2 at *
 change Qo [enc K.en QO QM l]=_ at s1
 change Qo [enc K.en QO QM r]=_ at s2
 change Qz [enc K.en QO QM l]=_ at t1
 change Qz [enc K.en QO QM r]=_ at t2
 show QbU [.obj K.C,enc K.en QO QM l,enc K.en QO QM r]=_
 generalize enc K.en QO QM l=L at *
 generalize enc K.en QO QM r=R at *
 change _=Ou.ok (K.en (QM (tv QO QM l) (tv QO QM r))) at j
 change K.jonM [.obj K.C,K.en (tv QO QM l),K.en (tv QO QM r)]=_ at j
 change _=Ou.ok (K.en (tv QO QM l)) at t1
 change _=Ou.ok (K.en (tv QO QM r)) at t2
 have tj:=K.tj
 simp?! [QbU,Ql4,s1,s2,t1,t2,el,tj,j]
theorem Qkd (a:Nat) {d:D} (h:K.Okd d):Qex [.obj K.C,.int (a:Int),d]=.ok (E K (.lf a d)):=by
 have l:=K.lon a h
 have tl:=K.tl
 simp?! [Qex,Qme,tl,l,E,enc,QO]
theorem Qi6 {t:T} {a:Nat} {d:D} (hB:t.ds.length + 1<=K.N) (ht:Good t) (ha:a < all) (hn:a < t.lo\/t.lo + t.sz<=a):QbW [.obj K.C,E K t,E K (.lf a d)]=.ok (E K (if a < t.lo then mk (.lf a d) t else mk t (.lf a d))):=by
 obtain ⟨r,e⟩:=QeL K.en QO QM t
 have gl:Good (.lf a d):=.lf ha
 have la:(T.lf a d).lo=a:=by simp [T.lo,T.q,T.e]
 have sa:(T.lf a d).sz=1:=rfl
 have e2:E K (.lf a d)=.tup [.int (a:Int),.int 1,K.en (QO a d),d]:=rfl
 by_cases h:a < t.lo
 ·have k:=Qhk K (l:=.lf a d) (r:=t) (by simp only [T.ds,List.length_cons,List.length_nil];lia) gl ht (by lia)
  have h':(a:Int) < (t.lo:Int):=by lia
  rw [if_pos h]
  change enc K.en QO QM t=_ at e
  change QbU [.obj K.C,E K (.lf a d),enc K.en QO QM t]=_ at k
  show QbW [.obj K.C,enc K.en QO QM t,E K (.lf a d)]=_
  rw [e,e2] at k ⊢
  simp?! [QbW,QfK,h',k]
 ·have k:=Qhk K (l:=t) (r:=.lf a d) (by simp only [T.ds,List.length_cons,List.length_nil];lia) ht gl (by lia)
  have h':¬ (a:Int) < (t.lo:Int):=by lia
  rw [if_neg h]
  change enc K.en QO QM t=_ at e
  change QbU [.obj K.C,enc K.en QO QM t,E K (.lf a d)]=_ at k
  show QbW [.obj K.C,enc K.en QO QM t,E K (.lf a d)]=_
  rw [e,e2] at k ⊢
  simp?! [QbW,QfK,h',k]
theorem Qn9 (q k a:Nat) (l r:T):QaU [E K (.nd q k l r),.int (a:Int)]=.ok (.bl (decide (((q * 2 ^ (k + 1):Nat):Int)<=(a:Int)) && decide ((a:Int)<=((q * 2 ^ (k + 1):Nat):Int) + ((2 ^ k:Nat):Int) - 1))):=by
 have s:=Qb4 K (.nd q k l r)
 have e1:((T.nd q k l r).lo:Int)=((q * 2 ^ (k + 1):Nat):Int):=rfl
 have e2:((T.nd q k l r).sz:Int)=((2 ^ (k + 1):Nat):Int):=rfl
 have eh:((2 ^ (k + 1):Nat):Int) / 2=((2 ^ k:Nat):Int):=by
  have:2 ^ (k + 1)=2 ^ k * 2:=Nat.pow_succ ..
  lia
 rw [e1,e2] at s
 generalize E K (.nd q k l r)=z at *
 generalize ((q * 2 ^ (k + 1):Nat):Int)=lo at *
 generalize ((2 ^ (k + 1):Nat):Int)=sz at *
 generalize ((2 ^ k:Nat):Int)=hz at *
 have h:=QeU lo hz a
 simp?! [QaU,Qfy,s,QcQ,Qgd,eh,h]
theorem Ql5 {a:Nat} {d:D} (ha:a < all) (hd:K.Okd d):∀ (n:Nat) (t t':T),t.ds.length + 1<=K.N->Good t->t.e < n->put a d t=some t'->QX n [.obj K.C,E K t,.int (a:Int),d]=.ok (E K t')
 | 0,t,_,_,_,h,_=>by lia
 | n + 1,.lf b e,t',hB,G,_,hp=>by
  have hu:QX (n + 1) [.obj K.C,E K (.lf b e),.int (a:Int),d]=runD false 4 (QbV (QX n)) [.obj K.C,E K (.lf b e),.int (a:Int),d]:=rfl
  rw [hu]
  generalize QX n=F
  have lb:(T.lf b e).lo=b:=by simp [T.lo,T.q,T.e]
  have sb:(T.lf b e).sz=1:=rfl
  have hab:a≠b:=fun z=>by
   subst z
   simp [put] at hp
  have s:=Qb4 K (.lf b e)
  have lq:=Qkd K a hd
  have bq:=Qi6 K (d:=d) hB G ha (by rw [lb,sb];lia)
  rw [lb] at bq s
  rw [sb] at s
  have hh:=QeU (b:Int) 1 a
  have hf:(decide ((b:Int)<=(a:Int)) && decide ((a:Int)<=(b:Int) + 1 - 1))=false:=by
   by_cases z:(b:Int)<=(a:Int)
   ·have:¬ (a:Int)<=(b:Int) + 1 - 1:=by lia
    simp [this];lia
   ·simp [z]
  rw [hf] at hh
  have ht:(if a < b then mk (.lf a d) (.lf b e) else mk (.lf b e) (.lf a d))=t':=by
   simp only [put] at hp
   by_cases z:a < b
   ·rw [if_pos z] at hp ⊢;exact Option.some.inj hp
   ·rw [if_neg z,if_pos (show b < a by lia)] at hp
    rw [if_neg z];exact Option.some.inj hp
  rw [ht] at bq
  have hx:∃ xs,E K (.lf b e)=.tup xs:=⟨_,rfl⟩
  obtain ⟨xs,hx⟩:=hx
  rw [hx] at s bq ⊢
  have s':Qo [.tup xs]=.ok (.tup [.int (b:Int),.int 1]):=s
  exact Qmk s' hh lq bq
 | n + 1,.nd q k l r,t',hB,G,hn,hp=>by
  have hBl:l.ds.length + r.ds.length + 1<=K.N:=by simpa only [T.ds,List.length_append] using hB
  have hu:QX (n + 1) [.obj K.C,E K (.nd q k l r),.int (a:Int),d]=runD false 4 (QbV (QX n)) [.obj K.C,E K (.nd q k l r),.int (a:Int),d]:=rfl
  obtain ⟨hl,hr,el,er,hdj⟩:=QkB G
  have hn':k + 1 < n + 1:=hn
  have lb:(T.nd q k l r).lo=q * 2 ^ (k + 1):=rfl
  have sb:(T.nd q k l r).sz=2 ^ (k + 1):=rfl
  have s:=Qb4 K (.nd q k l r)
  rw [lb,sb] at s
  have hh:=QeU ((q * 2 ^ (k + 1):Nat):Int) ((2 ^ (k + 1):Nat):Int) a
  have ex:E K (.nd q k l r)=.tup [.int ((q * 2 ^ (k + 1):Nat):Int),.int ((2 ^ (k + 1):Nat):Int),K.en (QM (V l) (V r)),E K l,E K r]:=rfl
  have pk:=Nat.two_pow_pos k
  have e2:2 ^ (k + 1)=2 ^ k * 2:=Nat.pow_succ ..
  by_cases hin:a < q * 2 ^ (k + 1)\/q * 2 ^ (k + 1) + 2 ^ (k + 1)<=a
  ·have lq:=Qkd K a hd
   have bq:=Qi6 K (d:=d) hB G ha (by rw [lb,sb];exact hin)
   rw [lb] at bq
   have hf:(decide (((q * 2 ^ (k + 1):Nat):Int)<=(a:Int)) && decide ((a:Int)<=((q * 2 ^ (k + 1):Nat):Int) + ((2 ^ (k + 1):Nat):Int) - 1))=false:=by
    rcases hin with z | z
    ·have:¬ ((q * 2 ^ (k + 1):Nat):Int)<=(a:Int):=by lia
     rw [decide_eq_false this];rfl
    ·have:¬ (a:Int)<=((q * 2 ^ (k + 1):Nat):Int) + ((2 ^ (k + 1):Nat):Int) - 1:=by lia
     rw [decide_eq_false this,Bool.and_false]
   rw [hf] at hh
   have ht:(if a < q * 2 ^ (k + 1) then mk (.lf a d) (.nd q k l r) else mk (.nd q k l r) (.lf a d))=t':=by
    simp only [put] at hp
    by_cases z:a < q * 2 ^ (k + 1)
    ·rw [if_pos z] at hp ⊢;exact Option.some.inj hp
    ·rw [if_neg z,if_pos (by lia)] at hp
     rw [if_neg z];exact Option.some.inj hp
   rw [ht] at bq
   rw [hu]
   rw [ex] at s bq ⊢
   exact Qmk s hh lq bq
  ·have n1:¬ a < q * 2 ^ (k + 1):=fun z=>hin (.inl z)
   have n2:¬ q * 2 ^ (k + 1) + 2 ^ (k + 1)<=a:=fun z=>hin (.inr z)
   have hf:(decide (((q * 2 ^ (k + 1):Nat):Int)<=(a:Int)) && decide ((a:Int)<=((q * 2 ^ (k + 1):Nat):Int) + ((2 ^ (k + 1):Nat):Int) - 1))=true:=by
    rw [decide_eq_true (show ((q * 2 ^ (k + 1):Nat):Int)<=(a:Int) by lia),decide_eq_true (show (a:Int)<=((q * 2 ^ (k + 1):Nat):Int) + ((2 ^ (k + 1):Nat):Int) - 1 by lia)]
    rfl
   rw [hf] at hh
   have lfn:=Qhg K q k l r
   have eq:=Qn9 K q k a l r
   simp only [put,if_neg n1,if_neg n2] at hp
   by_cases c3:a < q * 2 ^ (k + 1) + 2 ^ k
   ·have he:(decide (((q * 2 ^ (k + 1):Nat):Int)<=(a:Int)) && decide ((a:Int)<=((q * 2 ^ (k + 1):Nat):Int) + ((2 ^ k:Nat):Int) - 1))=true:=by
     rw [decide_eq_true (show ((q * 2 ^ (k + 1):Nat):Int)<=(a:Int) by lia),decide_eq_true (show (a:Int)<=((q * 2 ^ (k + 1):Nat):Int) + ((2 ^ k:Nat):Int) - 1 by lia)]
     rfl
    rw [he] at eq
    rw [if_pos c3] at hp
    cases hpl:put a d l with
    | none=>rw [hpl] at hp;cases hp
    | some l' =>
     rw [hpl] at hp
     obtain rfl:mk l' r=t':=Option.some.inj hp
     have ih:=Ql5 ha hd n l l' (by lia) hl (by lia) hpl
     have hnl:∀ p∈l.ds,p.1≠a:=Qhj l (by rw [hpl];simp) hl
     obtain ⟨l2,P⟩:=Ql9 (d:=d) ha hl hnl
     have el2:l2=l':=Option.some.inj (P.eq.symm.trans hpl)
     subst el2
     have ek:q * 2 ^ (k + 1)=2 * q * 2 ^ k:=by rw [e2,Nat.mul_comm (2 ^ k) 2,← Nat.mul_assoc,Nat.mul_comm q 2]
     have wl:Within l2 (2 * q) k:=by
      cases G with
      | nd _ _ h1 h2 h3 h4 h5=>exact P.win (2 * q) k ⟨by lia,by lia⟩ (Bt.in_block.mpr ⟨by lia,by lia⟩)
     have hdis:l2.lo + l2.sz<=r.lo:=by
      cases G with
      | nd _ _ h1 h2 h3 h4 h5=>have:=wl.2;lia
     have kq:=Qhk K (by rw [P.ds,QkA];lia) P.good hr hdis
     rw [hu]
     rw [ex] at s lfn eq ⊢
     exact QmX s hh lfn eq ih kq
   ·have he:(decide (((q * 2 ^ (k + 1):Nat):Int)<=(a:Int)) && decide ((a:Int)<=((q * 2 ^ (k + 1):Nat):Int) + ((2 ^ k:Nat):Int) - 1))=false:=by
     rw [decide_eq_false (show ¬ (a:Int)<=((q * 2 ^ (k + 1):Nat):Int) + ((2 ^ k:Nat):Int) - 1 by lia),Bool.and_false]
    rw [he] at eq
    rw [if_neg c3] at hp
    cases hpl:put a d r with
    | none=>rw [hpl] at hp;cases hp
    | some r' =>
     rw [hpl] at hp
     obtain rfl:mk l r'=t':=Option.some.inj hp
     have ih:=Ql5 ha hd n r r' (by lia) hr (by lia) hpl
     have hnr:∀ p∈r.ds,p.1≠a:=Qhj r (by rw [hpl];simp) hr
     obtain ⟨r2,P⟩:=Ql9 (d:=d) ha hr hnr
     have el2:r2=r':=Option.some.inj (P.eq.symm.trans hpl)
     subst el2
     have ek:q * 2 ^ (k + 1)=2 * q * 2 ^ k:=by rw [e2,Nat.mul_comm (2 ^ k) 2,← Nat.mul_assoc,Nat.mul_comm q 2]
     have eb:(2 * q + 1) * 2 ^ k=q * 2 ^ (k + 1) + 2 ^ k:=by rw [Nat.add_mul,Nat.one_mul,ek]
     have wr:Within r2 (2 * q + 1) k:=by
      cases G with
      | nd _ _ h1 h2 h3 h4 h5=>exact P.win (2 * q + 1) k ⟨by lia,by lia⟩ (Bt.in_block.mpr ⟨by lia,by lia⟩)
     have hdis:l.lo + l.sz<=r2.lo:=by
      cases G with
      | nd _ _ h1 h2 h3 h4 h5=>have:=wr.1;lia
     have kq:=Qhk K (by rw [P.ds,QkA];lia) hl P.good hdis
     rw [hu]
     rw [ex] at s lfn eq ⊢
     exact QoO s hh lfn eq ih kq
def Qjz:Option T->Prop
 | some t=>Good t
 | none=>True
theorem QmW {o:Option T} (hB:(dsO o).length + 1<=K.N) (h:Qjz o) {a:Nat} (ha:a < all) {d:D} (hd:K.Okd d) (hn:∀ p∈dsO o,p.1≠a):∃ t',QX 64 [.obj K.C,EO K o,.int (a:Int),d]=.ok (E K t')/\Good t'/\t'.ds=insK a d (dsO o):=by
 cases o with
 | none =>
  refine ⟨.lf a d,?_,.lf ha,rfl⟩
  have hu:QX 64 [.obj K.C,.non,.int (a:Int),d]=runD false 4 (QbV (QX 63)) [.obj K.C,.non,.int (a:Int),d]:=rfl
  show QX 64 [.obj K.C,.non,.int (a:Int),d]=_
  rw [hu]
  exact Qit (Ql2 (b:=true) rfl rfl (Qkd K a hd))
 | some t =>
  obtain ⟨t',P⟩:=Ql9 (d:=d) ha h hn
  have:=depth h
  exact ⟨t',Ql5 K ha hd 64 t t' hB h (by lia) P.eq,P.good,P.ds⟩
end
section
open Tr
variable (K:Kd)
theorem QgC {a b c e:Int} (hb:1<=b):Qa9 [.tup [.int a,.int b],.tup [.int c,.int e]]=.ok (.bl (decide (c<=a/\a + b<=c + e))):=by
 have h1:=QeU c e a
 have h2:=QeU c e (a + b - 1)
 have l:=Qd4 a b
 by_cases z:c<=a/\a + b<=c + e
 ·have x1:(decide (c<=a) && decide (a<=c + e - 1))=true:=by simp;omega
  have x2:(decide (c<=a + b - 1) && decide (a + b - 1<=c + e - 1))=true:=by simp;omega
  rw [x1] at h1
  rw [x2] at h2
  rw [decide_eq_true z]
  simp?! [Qa9,QeZ,h1,h2,l]
 ·rw [decide_eq_false z]
  by_cases y:c<=a/\a<=c + e - 1
  ·have x1:(decide (c<=a) && decide (a<=c + e - 1))=true:=by simp;omega
   have x2:(decide (c<=a + b - 1) && decide (a + b - 1<=c + e - 1))=false:=by simp;omega
   rw [x1] at h1
   rw [x2] at h2
   simp?! [Qa9,QeZ,h1,h2,l]
  ·have x1:(decide (c<=a) && decide (a<=c + e - 1))=false:=by simp;omega
   rw [x1] at h1
   simp?! [Qa9,QeZ,h1,l]
def blk (b:Nat×Nat):D:=.tup [.int ((b.1 * 2 ^ b.2:Nat):Int),.int ((2 ^ b.2:Nat):Int)]
def down (Q n:Nat):T->Option T
 | .lf _ _=>none
 | .nd q k l r=>if q * 2 ^ (k + 1)<=Q * 2 ^ n/\Q * 2 ^ n + 2 ^ n<=q * 2 ^ (k + 1) + 2 ^ k then some l else if q * 2 ^ (k + 1) + 2 ^ k<=Q * 2 ^ n/\Q * 2 ^ n + 2 ^ n<=q * 2 ^ (k + 1) + 2 ^ (k + 1) then some r else none
theorem Qnj (Q n:Nat) (t:T):insT Q n t=if Within t Q n then some t else (down Q n t).bind (insT Q n):=by
 cases t with
 | lf a d=>simp only [insT,down];split <;> rfl
 | nd q k l r =>
  simp only [insT,down]
  split
  ·rfl
  ·split
   ·rfl
   ·split <;> rfl
theorem QpQ (Q n:Nat) (t:T):Q1 [E K t,blk (Q,n)]=.ok (EO K (down Q n t)):=by
 cases t with
 | lf a d =>
  have l:=QjO K a d
  have hx:∃ xs,E K (.lf a d)=.tup xs:=⟨_,rfl⟩
  obtain ⟨xs,hx⟩:=hx
  rw [hx] at l ⊢
  show _=Ou.ok D.non
  generalize blk (Q,n)=z
  simp?! [Q1,QaJ,l]
 | nd q k l r =>
  have ln:=Qhg K q k l r
  have s:=Qb4 K (.nd q k l r)
  have e1:((T.nd q k l r).lo:Int)=((q * 2 ^ (k + 1):Nat):Int):=rfl
  have e2:((T.nd q k l r).sz:Int)=((2 ^ (k + 1):Nat):Int):=rfl
  have pn:=Nat.two_pow_pos n
  have ep:2 ^ (k + 1)=2 ^ k * 2:=Nat.pow_succ ..
  have eh:((2 ^ (k + 1):Nat):Int) / 2=((2 ^ k:Nat):Int):=by omega
  rw [e1,e2] at s
  have w1:=QgC (a:=((Q * 2 ^ n:Nat):Int)) (b:=((2 ^ n:Nat):Int)) (c:=((q * 2 ^ (k + 1):Nat):Int)) (e:=((2 ^ k:Nat):Int)) (by omega)
  have w2:=QgC (a:=((Q * 2 ^ n:Nat):Int)) (b:=((2 ^ n:Nat):Int)) (c:=((q * 2 ^ (k + 1):Nat):Int) + ((2 ^ k:Nat):Int)) (e:=((2 ^ k:Nat):Int)) (by omega)
  have ex:E K (.nd q k l r)=.tup [.int ((q * 2 ^ (k + 1):Nat):Int),.int ((2 ^ (k + 1):Nat):Int),K.en (QM (V l) (V r)),E K l,E K r]:=rfl
  have eb:blk (Q,n)=.tup [.int ((Q * 2 ^ n:Nat):Int),.int ((2 ^ n:Nat):Int)]:=rfl
  have hv:QcQ [.tup [.int ((q * 2 ^ (k + 1):Nat):Int),.int ((2 ^ (k + 1):Nat):Int)]]=.ok (.tup [.tup [.int ((q * 2 ^ (k + 1):Nat):Int),.int ((2 ^ k:Nat):Int)],.tup [.int (((q * 2 ^ (k + 1):Nat):Int) + ((2 ^ k:Nat):Int)),.int ((2 ^ k:Nat):Int)]]):=by
   generalize ((q * 2 ^ (k + 1):Nat):Int)=z1 at *
   generalize ((2 ^ (k + 1):Nat):Int)=z2 at *
   generalize ((2 ^ k:Nat):Int)=z8 at *
   simp?! [QcQ,Qgd,eh]
  by_cases c1:q * 2 ^ (k + 1)<=Q * 2 ^ n/\Q * 2 ^ n + 2 ^ n<=q * 2 ^ (k + 1) + 2 ^ k
  ·have d1:((q * 2 ^ (k + 1):Nat):Int)<=((Q * 2 ^ n:Nat):Int)/\((Q * 2 ^ n:Nat):Int) + ((2 ^ n:Nat):Int)<=((q * 2 ^ (k + 1):Nat):Int) + ((2 ^ k:Nat):Int):=by omega
   rw [decide_eq_true d1] at w1
   have hd:down Q n (.nd q k l r)=some l:=by simp only [down];rw [if_pos c1]
   rw [hd]
   show _=Ou.ok (E K l)
   rw [eb]
   rw [ex] at ln s ⊢
   generalize ((q * 2 ^ (k + 1):Nat):Int)=z1 at *
   generalize ((2 ^ (k + 1):Nat):Int)=z2 at *
   generalize K.en (QM (V l) (V r))=z3 at *
   generalize E K l=z4 at *
   generalize E K r=z5 at *
   generalize ((Q * 2 ^ n:Nat):Int)=z6 at *
   generalize ((2 ^ n:Nat):Int)=z7 at *
   generalize ((2 ^ k:Nat):Int)=z8 at *
   simp?! [Q1,QaJ,ln,s,hv,w1]
  ·have d1:¬ (((q * 2 ^ (k + 1):Nat):Int)<=((Q * 2 ^ n:Nat):Int)/\((Q * 2 ^ n:Nat):Int) + ((2 ^ n:Nat):Int)<=((q * 2 ^ (k + 1):Nat):Int) + ((2 ^ k:Nat):Int)):=by omega
   rw [decide_eq_false d1] at w1
   by_cases c2:q * 2 ^ (k + 1) + 2 ^ k<=Q * 2 ^ n/\Q * 2 ^ n + 2 ^ n<=q * 2 ^ (k + 1) + 2 ^ (k + 1)
   ·have d2:((q * 2 ^ (k + 1):Nat):Int) + ((2 ^ k:Nat):Int)<=((Q * 2 ^ n:Nat):Int)/\((Q * 2 ^ n:Nat):Int) + ((2 ^ n:Nat):Int)<=((q * 2 ^ (k + 1):Nat):Int) + ((2 ^ k:Nat):Int) + ((2 ^ k:Nat):Int):=by omega
    rw [decide_eq_true d2] at w2
    have hd:down Q n (.nd q k l r)=some r:=by simp only [down];rw [if_neg c1,if_pos c2]
    rw [hd]
    show _=Ou.ok (E K r)
    rw [eb]
    rw [ex] at ln s ⊢
    generalize ((q * 2 ^ (k + 1):Nat):Int)=z1 at *
    generalize ((2 ^ (k + 1):Nat):Int)=z2 at *
    generalize K.en (QM (V l) (V r))=z3 at *
    generalize E K l=z4 at *
    generalize E K r=z5 at *
    generalize ((Q * 2 ^ n:Nat):Int)=z6 at *
    generalize ((2 ^ n:Nat):Int)=z7 at *
    generalize ((2 ^ k:Nat):Int)=z8 at *
    simp?! [Q1,QaJ,ln,s,hv,w1,w2]
   ·have d2:¬ (((q * 2 ^ (k + 1):Nat):Int) + ((2 ^ k:Nat):Int)<=((Q * 2 ^ n:Nat):Int)/\((Q * 2 ^ n:Nat):Int) + ((2 ^ n:Nat):Int)<=((q * 2 ^ (k + 1):Nat):Int) + ((2 ^ k:Nat):Int) + ((2 ^ k:Nat):Int)):=by omega
    rw [decide_eq_false d2] at w2
    have hd:down Q n (.nd q k l r)=none:=by simp only [down];rw [if_neg c1,if_neg c2]
    rw [hd]
    show _=Ou.ok D.non
    rw [eb]
    rw [ex] at ln s ⊢
    generalize ((q * 2 ^ (k + 1):Nat):Int)=z1 at *
    generalize ((2 ^ (k + 1):Nat):Int)=z2 at *
    generalize K.en (QM (V l) (V r))=z3 at *
    generalize E K l=z4 at *
    generalize E K r=z5 at *
    generalize ((Q * 2 ^ n:Nat):Int)=z6 at *
    generalize ((2 ^ n:Nat):Int)=z7 at *
    generalize ((2 ^ k:Nat):Int)=z8 at *
    simp?! [Q1,QaJ,ln,s,hv,w1,w2]
theorem QnN (Q n:Nat) (t:T):Qa9 [.tup [.int (t.lo:Int),.int (t.sz:Int)],blk (Q,n)]=.ok (.bl (decide (Within t Q n))):=by
 have pt:=Qd9 t
 have w:=QgC (a:=(t.lo:Int)) (b:=(t.sz:Int)) (c:=((Q * 2 ^ n:Nat):Int)) (e:=((2 ^ n:Nat):Int)) (by omega)
 show Qa9 [.tup [.int (t.lo:Int),.int (t.sz:Int)],.tup [.int ((Q * 2 ^ n:Nat):Int),.int ((2 ^ n:Nat):Int)]]=_
 rw [w]
 have e:(((Q * 2 ^ n:Nat):Int)<=(t.lo:Int)/\(t.lo:Int) + (t.sz:Int)<=((Q * 2 ^ n:Nat):Int) + ((2 ^ n:Nat):Int)) ↔ Within t Q n:=by unfold Tr.Within;omega
 by_cases z:Within t Q n
 ·rw [decide_eq_true z,decide_eq_true (e.mpr z)]
 ·rw [decide_eq_false z,decide_eq_false fun y=>z (e.mp y)]
theorem QgN (Q n:Nat) (s0:Sl):∀ (fuel:Nat) (o:Option T),Qjz o->(∀ t,o=some t->t.e + 1 < fuel)->0 < fuel->QbK (QmQ (fAsB (f1 QfO (fVar 2))) (Qey (fTru (Qg (Qa9) [(Qg (Qo) [(fVar 2)]),(fVar 1)])))) (sSeq (sSet 2 (Qg (Q1) [(Qh 2),(Qh 1)])) Qf) fuel [s0,.val (blk (Q,n)),.val (EO K o)]=.ok (.nx [s0,.val (blk (Q,n)),.val (EO K (o.bind (insT Q n)))])
 | 0,_,_,_,h=>by lia
 | fuel + 1,none,_,_,_=>by
  show QbK _ _ (fuel + 1) [s0,.val (blk (Q,n)),.val .non]=.ok (.nx [s0,.val (blk (Q,n)),.val .non])
  simp only [QbK]
  simp?! []
 | fuel + 1,some t,G,hf,_=>by
  have hlt:=hf t rfl
  have w:=QnN Q n t
  have s:=Qb4 K t
  have hx:∃ xs,E K t=.tup xs:=by
   obtain ⟨r,e⟩:=QeL K.en QO QM t
   exact ⟨_,e⟩
  obtain ⟨xs,hx⟩:=hx
  have nn:QfO (.tup xs)=.ok (.bl true):=rfl
  show QbK _ _ (fuel + 1) [s0,.val (blk (Q,n)),.val (E K t)]=.ok (.nx [s0,.val (blk (Q,n)),.val (EO K (insT Q n t))])
  rw [Qnj]
  by_cases z:Within t Q n
  ·rw [if_pos z]
   rw [decide_eq_true z] at w
   show _=Ou.ok (Fl.nx [s0,.val (blk (Q,n)),.val (E K t)])
   rw [hx] at s ⊢
   generalize blk (Q,n)=B at *
   simp only [QbK]
   simp?! [nn,s,w]
  ·rw [if_neg z]
   rw [decide_eq_false z] at w
   have d:=QpQ K Q n t
   have ih:=QgN Q n s0 fuel (down Q n t) (by
    cases t with
    | lf a d=>trivial
    | nd q k l r =>
     obtain ⟨hl,hr,_⟩:=QkB G
     simp only [down]
     split
     ·exact hl
     ·split
      ·exact hr
      ·trivial) (by
    intro t' ht
    cases t with
    | lf a d=>cases ht
    | nd q k l r =>
     obtain ⟨hl,hr,el,er,_⟩:=QkB G
     have:(T.nd q k l r).e=k + 1:=rfl
     simp only [down] at ht
     split at ht
     ·cases ht;lia
     ·split at ht
      ·cases ht;lia
      ·cases ht) (by lia)
   rw [← ih]
   rw [hx] at s d ⊢
   generalize blk (Q,n)=B at *
   generalize EO K (down Q n t)=DD at *
   simp only [QbK]
   simp?! [nn,s,w,d]
theorem Qnh (Q n:Nat) {o:Option T} (h:Qjz o):QcR [EO K o,blk (Q,n)]=.ok (EO K (o.bind (insT Q n))):=by
 have q:=QgN K Q n (.val (EO K o)) 40 o h (fun t ht=>by subst ht;have:=depth h;lia) (by decide)
 generalize EO K (o.bind (insT Q n))=R at *
 generalize EO K o=O at *
 generalize blk (Q,n)=B at *
 simp?! [QcR,QiF,q]
end
section
open Tr
variable (K:Kd)
def szN:Nat->Nat
 | 0=>0
 | r + 1=>2 ^ r
theorem Qfu (e:Nat):∀ (r fuel lo:Nat) (acc:List D),lo % 2 ^ r=0->r < fuel->acc.length + r<=100 ->
  ∃ low',QbK (fAsB (f2 gGt (fVar 3) (fC (.int 0)))) (sSeq (sIf (fAsB (f2 gLe (f2 gAdd (fVar 2) (fVar 3)) (fVar 0))) (sSeq (sApp 1 (fTup [(Qh 2),(Qh 3)])) (sSeq (sSet 2 (f2 gAdd (fVar 2) (fVar 3))) Qf)) Qf) (sSeq (sSet 3 (f2 gDiv (fVar 3) (fC (.int 2)))) Qf)) fuel
   [.val (.int (e:Int)),.own (.lst acc),.val (.int (lo:Int)),.val (.int (szN r:Int))]=.ok (.nx [.val (.int (e:Int)),.own (.lst (acc++(cov r lo e).map blk)),.val (.int low'),.val (.int 0)])
 | 0,fuel + 1,lo,acc,_,_,_=>⟨lo,by simp?! [QbK,szN,cov]⟩
 | r + 1,fuel + 1,lo,acc,hm,h,hl=>by
  have p:=Nat.two_pow_pos r
  have e2:2 ^ (r + 1)=2 ^ r * 2:=Nat.pow_succ ..
  have hm':lo % 2 ^ r=0:=by
   have hd:2 ^ (r + 1) ∣ lo:=Nat.dvd_of_mod_eq_zero hm
   exact Nat.mod_eq_zero_of_dvd (Nat.dvd_trans ⟨2,e2⟩ hd)
  have hp:(0:Int) < (szN (r + 1):Int):=by show (0:Int) < ((2 ^ r:Nat):Int);lia
  have hh:(szN (r + 1):Int) / 2=(szN r:Int):=by
   cases r with
   | zero=>rfl
   | succ r =>
    show ((2 ^ (r + 1):Nat):Int) / 2=((2 ^ r:Nat):Int)
    have:2 ^ (r + 1)=2 ^ r * 2:=Nat.pow_succ ..
    lia
  have hb:lo / 2 ^ r * 2 ^ r=lo:=Nat.div_mul_cancel (Nat.dvd_of_mod_eq_zero hm')
  by_cases hc:lo + 2 ^ r<=e
  ·obtain ⟨low',q⟩:=Qfu e r fuel (lo + 2 ^ r) (acc++[blk (lo / 2 ^ r,r)]) (by rw [Nat.add_mod_right];exact hm') (by lia) (by simp;lia)
   refine ⟨low',?_⟩
   have ha:acc.length < sizeLine:=Qap (by lia)
   have hd:cDiv (szN (r + 1):Int) 2=true:=by simp [cDiv]
   have hc':(lo:Int) + (szN (r + 1):Int)<=(e:Int):=by show (lo:Int) + ((2 ^ r:Nat):Int)<=e;lia
   have eb:blk (lo / 2 ^ r,r)=.tup [.int (lo:Int),.int (szN (r + 1):Int)]:=by
    show D.tup [.int ((lo / 2 ^ r * 2 ^ r:Nat):Int),.int ((2 ^ r:Nat):Int)]=_
    rw [hb];rfl
   have el:((lo + 2 ^ r:Nat):Int)=(lo:Int) + (szN (r + 1):Int):=by show _=(lo:Int) + ((2 ^ r:Nat):Int);lia
   have ec:cov (r + 1) lo e=(lo / 2 ^ r,r)::cov r (lo + 2 ^ r) e:=by simp only [cov];rw [if_pos hc]
   rw [ec,List.map_cons]
   rw [List.append_assoc,List.singleton_append] at q
   rw [el] at q
   rw [eb] at q ⊢
   generalize (szN (r + 1):Int)=z at *
   simp only [QbK]
   simp?! [hp,hc',sApp,ha,hd,hh,q]
  ·obtain ⟨low',q⟩:=Qfu e r fuel lo acc hm' (by lia) (by lia)
   refine ⟨low',?_⟩
   have hd:cDiv (szN (r + 1):Int) 2=true:=by simp [cDiv]
   have hc':¬ (lo:Int) + (szN (r + 1):Int)<=(e:Int):=by show ¬ (lo:Int) + ((2 ^ r:Nat):Int)<=e;lia
   have ec:cov (r + 1) lo e=cov r lo e:=by simp only [cov];rw [if_neg hc]
   rw [ec]
   generalize (szN (r + 1):Int)=z at *
   simp only [QbK]
   simp?! [hp,hc',hd,hh,q]
theorem QnD (e:Nat):QfU [.int (e:Int)]=.ok (.lst ((cov 31 0 e).map blk)):=by
 obtain ⟨low',q⟩:=Qfu e 31 40 0 [] (by simp) (by decide) (by simp)
 have e1:(szN 31:Int)=1073741824:=by decide
 rw [e1,List.nil_append] at q
 have e0:((0:Nat):Int)=0:=rfl
 rw [e0] at q
 simp?! [QfU,QjY,q,QjE]
theorem Qkv:∀ r lo e,(cov r lo e).length<=r
 | 0,_,_=>by simp [cov]
 | r + 1,lo,e=>by
  simp only [cov]
  split
  ·have:=Qkv r (lo + 2 ^ r) e;simp only [List.length_cons];lia
  ·have:=Qkv r lo e;lia
def ahd (o:Option T) (e:Nat):List T:=(cov 31 0 e).filterMap fun b=>o.bind (insT b.1 b.2)
theorem Qlk {o:Option T} (h:Qjz o) (e:Nat):Qb1 [EO K o,.int (e:Int)]=.ok (.lst ((ahd o e).map (E K))):=by
 have c:=QnD e
 have cl:=Qkv 31 0 e
 have hsz:((cov 31 0 e).map blk).length<=sizeLine:=by rw [List.length_map];exact Nat.le_of_lt (Qap (by lia))
 have c1:QaE (gNm 0) fYes (Qg (QcR) [(Qh 1),(Qh 0)]) ((cov 31 0 e).map blk) [.un,.val (EO K o)]=.ok ((cov 31 0 e).map fun b=>EO K (o.bind (insT b.1 b.2))):=by
  generalize cov 31 0 e=cs
  have:∀ (cs:List (Nat×Nat)) (s0:Sl),QaE (gNm 0) fYes (Qg (QcR) [(Qh 1),(Qh 0)]) (cs.map blk) [s0,.val (EO K o)]=.ok (cs.map fun b=>EO K (o.bind (insT b.1 b.2))):=by
   intro cs
   induction cs with
   | nil=>intro s0;rfl
   | cons b r ih =>
    intro s0
    have q:=Qnh K b.1 b.2 h
    have i:=ih (.val (blk b))
    change QcR [EO K o,blk b]=_ at q
    rw [List.map_cons,List.map_cons]
    generalize EO K (o.bind (insT b.1 b.2))=R at *
    generalize EO K o=O at *
    generalize blk b=B at *
    simp only [QaE,e_nm,Qad,List.set]
    simp?! [fYes,q,i]
  exact this cs .un
 have c2:∀ (cs:List (Nat×Nat)) (s0:Sl),QaE (gNm 0) (fAsB (f1 QfO (fVar 0))) (Qh 0) (cs.map fun b=>EO K (o.bind (insT b.1 b.2))) [s0]=.ok ((cs.filterMap fun b=>o.bind (insT b.1 b.2)).map (E K)):=by
  intro cs
  induction cs with
  | nil=>intro s0;rfl
  | cons b r ih =>
   intro s0
   rw [List.map_cons,List.filterMap_cons]
   have i:=fun z=>ih (.val z)
   cases hz:o.bind (insT b.1 b.2) with
   | none =>
    show QaE _ _ _ (D.non::_) _=_
    simp only [QaE,e_nm,Qad,List.set]
    simp?! [i]
   | some t =>
    have hx:∃ xs,E K t=.tup xs:=by
     obtain ⟨r,e⟩:=QeL K.en QO QM t
     exact ⟨_,e⟩
    obtain ⟨xs,hx⟩:=hx
    have nn:QfO (.tup xs)=.ok (.bl true):=rfl
    show QaE _ _ _ (E K t::_) _=Ou.ok (E K t::_)
    rw [hx]
    simp only [QaE,e_nm,Qad,List.set]
    simp?! [nn,i]
 have c3:=c2 (cov 31 0 e) .un
 have hsz2:((cov 31 0 e).map fun b=>EO K (o.bind (insT b.1 b.2))).length<=sizeLine:=by rw [List.length_map];exact Nat.le_of_lt (Qap (by lia))
 show _=Ou.ok (D.lst (((cov 31 0 e).filterMap fun b=>o.bind (insT b.1 b.2)).map (E K)))
 generalize ((cov 31 0 e).filterMap fun b=>o.bind (insT b.1 b.2)).map (E K)=R at *
 generalize ((cov 31 0 e).map fun b=>EO K (o.bind (insT b.1 b.2)))=L2 at *
 generalize (cov 31 0 e).map blk=L1 at *
 generalize EO K o=O at *
 simp?! [Qb1,QjN,QbT,Qd8,c,hsz,hsz2,dsIn,slIn,c1,c3]
theorem Qn2 {o:Option T} (h:Qjz o) {e:Nat} (he:e<=all):(ahd o e).flatMap T.ds=(dsO o).filter (fun p=>decide (p.1 < e))/\∀ s∈ahd o e,Good s:=by
 cases o with
 | none =>
  have:ahd none e=[]:=by simp [ahd]
  rw [this]
  exact ⟨rfl,fun s hs=>nomatch hs⟩
 | some t =>
  have h31:(2:Nat) ^ 31=2147483648:=by decide
  have hall:all=1073741824:=rfl
  have d:=Qmh h 31 0 e (by simp) (by lia) (by rw [h31];lia)
  refine ⟨?_,fun s hs=>?_⟩
  ·show ((cov 31 0 e).filterMap fun b=>insT b.1 b.2 t).flatMap T.ds=t.ds.filter _
   rw [d]
   congr 1
   funext p
   simp
  ·exact QnL h (cs:=cov 31 0 e) s hs
end
section
open Tr
def prD (p:Nat×D):D:=.tup [.int (p.1:Int),p.2]
variable (K:Kd)
def Al (al:List (Nat×D)):Prop:=∀ p∈al,p.1 < all/\K.Okd p.2
theorem gd {al:List (Nat×D)} {o:Option T} (b:Book al o):Qjz o:=by
 cases o with
 | none=>trivial
 | some t=>exact b.good
theorem ds_ok {al:List (Nat×D)} {o:Option T} (b:Book al o) (h:Al K al):∀ p∈dsO o,p.1 < all/\K.Okd p.2:=fun p hp=>h p (b.perm.mem_iff.mp hp)
theorem Qoz:∀ t:T,(∀ p∈t.ds,K.Okd p.2)->imm (E K t)=true
 | .lf a d,h=>by
  have:=K.imd (h (a,d) (by simp [T.ds]))
  simp [E,enc,imm,imms,this,K.ime]
 | .nd q k l r,h=>by
  have h1:=Qoz l fun p hp=>h p (by simp [T.ds,hp])
  have h2:=Qoz r fun p hp=>h p (by simp [T.ds,hp])
  simp only [E,enc] at h1 h2 ⊢
  simp [imm,imms,h1,h2,K.ime]
theorem Qnv {al:List (Nat×D)} {o:Option T} (hB:al.length + 1<=K.N) (b:Book al o) (h:Al K al) {a:Nat} (ha:a < all) (hn:∀ p∈al,p.1≠a) {d:D} (hd:K.Okd d):∃ t,QX 64 [.obj K.C,EO K o,.int (a:Int),d]=.ok (E K t)/\imm (E K t)=true/\Book (al++[(a,d)]) (some t)/\Al K (al++[(a,d)]):=by
 obtain ⟨t,e,hg,hds⟩:=QmW K (by rw [b.perm.length_eq];exact hB) (gd b) ha hd (b.none_at hn)
 have B:=b.put hg hds
 have A:Al K (al++[(a,d)]):=fun p hp=>by
  rcases List.mem_append.mp hp with hp | hp
  ·exact h p hp
  ·simp at hp;subst hp;exact ⟨ha,hd⟩
 exact ⟨t,e,Qoz K t fun p hp=>(ds_ok K B A p hp).2,B,A⟩
end
section
open Tr
variable (K:Kd)
theorem QoQ {al al':List (Nat×D)} {o o':Option T} (b:Book al o) (b':Book al' o') (hp:al.Perm al'):o=o':=by
 have e:dsO o=dsO o':=(b.perm.trans (hp.trans b'.perm.symm)).eq_of_pairwise (le:=fun x y=>x.1 < y.1) (fun x y _ _ h1 h2=>by lia) b.sorted b'.sorted
 cases o with
 | none =>
  cases o' with
  | none=>rfl
  | some t'=>exact absurd e.symm (Qfo t')
 | some t =>
  cases o' with
  | none=>exact absurd e (Qfo t)
  | some t'=>rw [QhM b.good b'.good e]
theorem Qqp {l:List (Nat×D)} {i:Nat} {p:Nat×D} (h:l[i]? = some p):atI (l.map prD) (i:Int)=some (.tup [.int (p.1:Int),p.2]):=by
 obtain ⟨hi,rfl⟩:=List.getElem?_eq_some_iff.mp h
 unfold atI ixN
 simp [List.length_map,hi,prD]
theorem QeA (ns:List Int) {k:Int} (h:0<=k):∃ c,QC [.frl (ns.map .int),.int k]=.ok (.int c):=by
 obtain ⟨k,rfl⟩:∃ n:Nat,k=(n:Int):=⟨k.toNat,by lia⟩
 by_cases h:k < ns.length
 ·have h1:(k:Int) < (ns.length:Int):=by lia
  have h2:=Qhw h
  exact ⟨ns[k],by simp? [QC,Qcw,h1,h2]⟩
 ·have h1:¬ (k:Int) < (ns.length:Int):=by lia
  exact ⟨0,by simp? [QC,Qcw,h1]⟩
theorem QpC (ns:List Int) {k:Nat} (hk:k < 64):isI (Qbx [.val (.int (k:Int)),.val (.frl (ns.map D.int))])=true:=by
 obtain ⟨c,hc⟩:=QeA ns (k:=(k:Int)) (by lia)
 have c1:cMul c 48271=true:=by simp [cMul]
 generalize hx:(k:Int)=x at *
 have c2:cMul (x * x) 7919=true:=Qqj (by decide) (by decide)
 have c3:cMul x x=true:=Qqm (Int.lt_trans (by decide:-(2 ^ 64:Int) < -1) (by lia)) (Int.lt_trans (by lia:x < 64) (by decide))
 generalize ns.map D.int=N at *
 have e:Qbx [.val (.int x),.val (.frl N)]=.ok (.int ((c * 48271 + x * x * 7919) % 65537)):=by
  simp? [Qbx,hc,c1,c2,c3]
 rw [e];rfl
theorem Qjk:∀ (xs:List D) (s0:Sl),QaE (gNm 0) fYes (Qh 0) xs [s0]=.ok xs
 | [],_=>rfl
 | x::xs,s0=>by
  have ih:=Qjk xs (.val x)
  simp? [QaE,fYes,ih]
def nums (n:Nat):List Int:=(List.range n).map fun (k:Nat)=>(k:Int)
theorem QnF (n:Nat):rng 0 n=(nums n).map D.int:=by simp [rng,nums]
theorem Qom (ns:List Int) {n:Nat} (hn:n < 64):QbZ [.frl (ns.map D.int),.int (n:Int)]=.ok (nums n):=by
 have hro:rOk (n:Int)=true:=by simp [rOk];lia
 have hsz:n<=sizeLine:=Nat.le_of_lt (Qap (by lia))
 have hN:((n:Int)).toNat=n:=by lia
 have e:=Qjk (rng 0 n) .un
 have hall:(nums n).all (fun i=>isI (Qbx [.val (.int i),.val (.frl (ns.map D.int))]))=true:=List.all_eq_true.mpr fun i hi=>by
  unfold nums at hi
  obtain ⟨k,hk,rfl⟩:=List.mem_map.mp hi
  exact QpC ns (Nat.lt_trans (List.mem_range.mp hk) hn)
 have hlen:(nums n).length < 64:=by simpa [nums] using hn
 have hfl:QcK (Q6 2 [.frl (ns.map D.int),.int (n:Int)])=.ok (.lst ((nums n).map D.int)):=by
  rw [← QnF]
  generalize ns.map D.int=N
  simp? [QcK,Q6,QbT,QgB,hN,hro,Qe9,hsz,dsIn,slIn,e]
 exact e_ord hfl rfl hlen hall
def at_ (l:List (Nat×D)) (i:Nat):Nat×D:=l.getD i (0,.non)
theorem QnT {l:List (Nat×D)} {i:Nat} (h:i < l.length):l[i]? = some (at_ l i):=by
 simp [at_,h]
theorem Qne {l:List (Nat×D)} (hA:Al K l) (S:Sl):∀ (out:List Nat) (pre:List (Nat×D)) (o:Option T) (s4:Sl),Book pre o->Al K pre->(∀ i∈out,i < l.length)->pre.length + out.length<=K.N->((pre++out.map (at_ l)).map (·.1)).Nodup ->
  ∃ o' s4',forL (gNm 4) (sSeq (sSet 3 (Qg (QX 64) [(Qh 0),(Qh 3),(f2 gIx (f2 gIx (Qh 1) (fVar 4)) (fC (.int 0))),(f2 gIx (f2 gIx (Qh 1) (fVar 4)) (fC (.int 1)))])) Qf) ((out.map fun (k:Nat)=>(k:Int)).map D.int)
   [.val (.obj K.C),.val (.lst (l.map prD)),S,.val (EO K o),s4]=.ok (.nx [.val (.obj K.C),.val (.lst (l.map prD)),S,.val (EO K o'),s4'])/\Book (pre++out.map (at_ l)) o':=by
 intro out
 induction out with
 | nil=>intro pre o s4 b _ _ _ _;exact ⟨o,s4,rfl,by simpa using b⟩
 | cons i out ih =>
  intro pre o s4 b A hi hlen hn
  have hB:pre.length + 1<=K.N:=by rw [List.length_cons] at hlen;lia
  have hil:=hi i (by simp)
  have hg:=QnT hil
  have hd:=hA _ (List.mem_of_getElem? hg)
  have hat:=Qqp hg
  have hpre:∀ q∈pre,q.1≠(at_ l i).1:=fun q hq z=>by
   rw [List.map_cons,List.map_append,List.map_cons,List.nodup_append] at hn
   exact hn.2.2 q.1 (List.mem_map_of_mem hq) _ (by simp) z
  obtain ⟨t,e,_,B,A'⟩:=Qnv K hB b A hd.1 hpre hd.2
  have eq:pre++at_ l i::out.map (at_ l)=(pre++[at_ l i])++out.map (at_ l):=by simp
  rw [List.map_cons,eq] at hn
  obtain ⟨o',s4',q,Bo⟩:=ih (pre++[at_ l i]) (some t) (.val (.int (i:Int))) B A' (fun j hj=>hi j (by simp [hj])) (by rw [List.length_append,List.length_singleton];rw [List.length_cons] at hlen;lia) hn
  refine ⟨o',s4',?_,by rw [List.map_cons,eq];exact Bo⟩
  rw [← q]
  have e':QX 64 [.obj K.C,EO K o,.int ((at_ l i).1:Int),(at_ l i).2]=.ok (EO K (some t)):=e
  rw [List.map_cons,List.map_cons]
  simp only [forL]
  generalize l.map prD=M at *
  generalize EO K (some t)=w' at *
  generalize EO K o=w at *
  generalize QX 64=P at *
  generalize ((at_ l i).1:Int)=a at *
  generalize (at_ l i).2=d at *
  generalize (i:Int)=j at *
  simp? [hat,e']
theorem QlD (l:List (Nat×D)):(List.range l.length).map (at_ l)=l:=by
 apply List.ext_getElem?
 intro i
 rw [List.getElem?_map]
 by_cases h:i < l.length
 ·rw [List.getElem?_range h,QnT h];rfl
 ·rw [List.getElem?_eq_none (by simpa using h),List.getElem?_eq_none (by simpa using h)];rfl
theorem Qm4 {out:List Int} {n:Nat} (h:out.Perm (nums n)):∃ ks:List Nat,ks.Perm (List.range n)/\out=ks.map fun (k:Nat)=>(k:Int):=by
 refine ⟨out.map Int.toNat,?_,?_⟩
 ·have:=h.map Int.toNat
  unfold nums at this
  rw [List.map_map] at this
  simpa [Function.comp_def] using this
 ·rw [List.map_map]
  refine (List.map_congr_left fun z hz=>?_).symm.trans (List.map_id _) |>.symm
  obtain ⟨k,_,rfl⟩:=List.mem_map.mp (h.mem_iff.mp hz)
  simp
theorem QkL (ns:List Int) {l:List (Nat×D)} (A:Al K l) (hn:(l.map (·.1)).Nodup) (hl:l.length < 64) (hN:l.length<=K.N):∃ o,QaR [.obj K.C,.lst (l.map prD),.frl (ns.map D.int)]=.ok (EO K o)/\Book l o:=by
 have go:∀ ks:List Nat,ks.Perm (List.range l.length)->∃ o' s4',forL (gNm 4) (sSeq (sSet 3 (Qg (QX 64) [(Qh 0),(Qh 3),(f2 gIx (f2 gIx (Qh 1) (fVar 4)) (fC (.int 0))),(f2 gIx (f2 gIx (Qh 1) (fVar 4)) (fC (.int 1)))])) Qf) ((ks.map fun (k:Nat)=>(k:Int)).map D.int)
   [.val (.obj K.C),.val (.lst (l.map prD)),.val (.frl (ns.map D.int)),.val .non,.un]=.ok (.nx [.val (.obj K.C),.val (.lst (l.map prD)),.val (.frl (ns.map D.int)),.val (EO K o'),s4'])/\Book (ks.map (at_ l)) o':=fun ks hk=>by
  have hp:(ks.map (at_ l)).Perm l:=(hk.map _).trans (by rw [QlD])
  obtain ⟨o',s4',q,B⟩:=Qne K A (.val (.frl (ns.map D.int))) ks [] none .un ⟨trivial,.refl _⟩ (fun p hp=>by cases hp) (fun i hi=>List.mem_range.mp (hk.mem_iff.mp hi)) (by rw [hk.length_eq,List.length_range,List.length_nil];lia) (by rw [List.nil_append];exact (hp.map _).nodup_iff.mpr hn)
  exact ⟨o',s4',q,by simpa using B⟩
 obtain ⟨o,s4,_,B⟩:=go _ (.refl _)
 rw [QlD] at B
 refine ⟨o,?_,B⟩
 have hfor:QjG [(fVar 2),(Qg gLen [(fVar 1)])] QbZ (gNm 4) (sSeq (sSet 3 (Qg (QX 64) [(Qh 0),(Qh 3),(f2 gIx (f2 gIx (Qh 1) (fVar 4)) (fC (.int 0))),(f2 gIx (f2 gIx (Qh 1) (fVar 4)) (fC (.int 1)))])) Qf) 4
   [.val (.obj K.C),.val (.lst (l.map prD)),.val (.frl (ns.map D.int)),.val .non,.un]=.ok (.nx [.val (.obj K.C),.val (.lst (l.map prD)),.val (.frl (ns.map D.int)),.val (EO K o),.un]):=by
  refine Qqc (ds:=[.frl (ns.map D.int),.int (l.length:Int)]) rfl ?_ (Qom ns hl) fun out hout=>?_
  ·have hlen:(l.map prD).length=l.length:=List.length_map ..
   generalize l.map prD=M at *
   generalize ns.map D.int=N at *
   simp? [hlen]
  ·obtain ⟨ks,hk,rfl⟩:=Qm4 hout
   obtain ⟨o',s4',q,B'⟩:=go ks hk
   have:=QoQ B' B ((hk.map _).trans (by rw [QlD]))
   subst this
   exact ⟨_,q,rfl⟩
 generalize l.map prD=M at *
 generalize ns.map D.int=N at *
 generalize EO K o=w at *
 simp? [QaR,QeC,hfor]
end
inductive Dk:D->Int->Prop
 | put (x:Int):Dk (.tup [.str "put",.int x]) 1
 | take:Dk (.tup [.str "take"]) (-1)
 | many:Dk (.tup [.str "many"]) 0
 | look (x:Int) (h:0<=x):Dk (.tup [.str "look",.int x]) 0
def lk:List Int->Int
 | []=>0
 | z::r=>if z=1 then max 0 (lk r - 1) else if z=-1 then 1 + lk r else lk r
def lf:List Int->Int
 | []=>0
 | z::r=>if z=1 then lf r + max 0 (1 - lk r) else lf r
theorem QfY:∀ xs,0<=lk xs
 | []=>by simp [lk]
 | z::r=>by have:=QfY r;simp only [lk];split <;> (try split) <;> lia
theorem Qiy:∀ xs,0<=lf xs
 | []=>by simp [lf]
 | z::r=>by have:=Qiy r;simp only [lf];split <;> lia
theorem QfH:∀ xs ys,lk (xs++ys)=lk xs + max 0 (lk ys - lf xs)
 | [],ys=>by have:=QfY ys;simp only [List.nil_append,lk,lf];lia
 | z::r,ys=>by
  have h1:=QfH r ys
  have h2:=QfY r
  have h3:=QfY ys
  have h4:=Qiy r
  simp only [List.cons_append,lk,lf,h1]
  split <;> (try split) <;> lia
theorem QlR:∀ xs ys,lf (xs++ys)=lf ys + max 0 (lf xs - lk ys)
 | [],ys=>by have:=QfY ys;simp only [List.nil_append,lf];lia
 | z::r,ys=>by
  have h0:=QlR r ys
  have h1:=QfH r ys
  have h2:=QfY r
  have h3:=QfY ys
  have h4:=Qiy r
  simp only [List.cons_append,lf,h0,h1]
  split <;> lia
theorem Qju (c:Int) {k:Nat} (hk:k < 100):∃ n,QW [.int c,.int k]=.ok (.int n):=by
 have c1:cMul 17 (k:Int)=true:=by simp [cMul]
 have c2:cMul (17 * (k:Int)) k=true:=by simp [cMul];lia
 have c3:cPow 10 30=true:=by decide
 have c4:cPow 10 60=true:=by decide
 have h:c % 4=0\/c % 4=1\/c % 4=2\/c % 4=3:=by lia
 rcases h with h | h | h | h
 ·exact ⟨_,by simp? [QW,QbA,h,c1,c2];rfl⟩
 ·exact ⟨_,by simp? [QW,QbA,h,c3];rfl⟩
 ·exact ⟨_,by simp? [QW,QbA,h];rfl⟩
 ·exact ⟨_,by simp? [QW,QbA,h,c4];rfl⟩
theorem Qpr (c t:Int) {k:Nat} (hk:k < 100):∃ d z,Qax [.int c,.int k,.int t]=.ok d/\Dk d z:=by
 obtain ⟨n,hn⟩:=Qju (c / 8) hk
 have c4:cPow 10 60=true:=by decide
 by_cases h1:c % 8 < 3 + t
 ·exact ⟨_,_,by simp? [Qax,QbD,h1,hn] <;> rfl,.put n⟩
 ·by_cases h2:c % 8 < 6
  ·exact ⟨_,_,by simp? [Qax,QbD,h1,h2] <;> rfl,.take⟩
  ·by_cases h3:c % 8=7
   ·have h1':¬ (7:Int) < 3 + t:=by lia
    exact ⟨_,_,by simp? [Qax,QbD,h1',h3] <;> rfl,.many⟩
   ·by_cases h4:c / 8 % 3=2
    ·have p:(0:Int) < 10 ^ 60:=by decide
     have h0:0<=c / 24 % 10 ^ 60:=Int.emod_nonneg _ (Int.ne_of_gt p)
     exact ⟨_,_,by simp? [Qax,QbD,h1,h2,h3,h4,c4],.look (c / 24 % 10 ^ 60) h0⟩
    ·have h0:0<=(c / 24 + (k:Int)) % 7:=Int.emod_nonneg _ (by decide)
     exact ⟨_,_,by simp? [Qax,QbD,h1,h2,h3,h4],.look ((c / 24 + (k:Int)) % 7) h0⟩
structure Ts (ts:List Int):Prop where
 inc:ts.Pairwise (· < ·)
 bnd:∀ t∈ts,0<=t/\t < 1073741824
theorem Qpn {cs:List Int} {k:Nat} (h:k < cs.length):∃ c,atI (cs.map D.int) ((k:Int) - 1)=some (.int c):=by
 cases k with
 | zero =>
  obtain ⟨r,x,rfl⟩:=snoc (xs:=cs) (by intro e;subst e;simp at h)
  refine ⟨x,?_⟩
  rw [List.map_append,List.map_cons,List.map_nil]
  exact QmO
 | succ k =>
  have e:(((k + 1:Nat):Int) - 1)=(k:Int):=by lia
  rw [e]
  exact ⟨_,Qhw (by lia)⟩
theorem QnQ {bs:List Int} {b s:Int} (h1:(bs++[b]).Pairwise (· < ·)) (h2:∀ t∈bs++[b],0<=t) (h3:0<=s) (h4:s < 1073741824 - b):Ts ((bs++[b]).map fun t=>s + t):=by
 refine ⟨?_,?_⟩
 ·rw [List.pairwise_map]
  exact h1.imp fun h=>by lia
 ·intro t ht
  obtain ⟨u,hu,rfl⟩:=List.mem_map.mp ht
  have h5:=h2 u hu
  have h6:u<=b:=by
   rcases List.mem_append.mp hu with hu | hu
   ·have:=(List.pairwise_append.mp h1).2.2 u hu b (by simp)
    lia
   ·simp at hu;lia
  lia
theorem Qop (cs:List Int) (cell:Int) (h:cs.length<=62):∃ ts:List Int,Qci [.lst (cs.map D.int),.int cell]=.ok (.lst (ts.map D.int))/\ts.length=cs.length/\Ts ts:=by
 obtain ⟨w,hw,hw1,hw2⟩:∃ w:Int,atI [D.int 1,.int 5,.int 16777216] (cell % 3)=some (.int w)/\1<=w/\w<=16777216:=by
  have h:cell % 3=0\/cell % 3=1\/cell % 3=2:=by lia
  rcases h with h | h | h <;> rw [h]
  ·exact ⟨1,at_0,by decide,by decide⟩
  ·exact ⟨5,at_1,by decide,by decide⟩
  ·exact ⟨16777216,at_2,by decide,by decide⟩
 simp -implicitDefEqProofs only [Qci,QdO,e_run,Q6,QpS,List.map_cons,List.map_nil,List.length_cons,List.length_nil,List.replicate,List.cons_append,List.nil_append,Nat.reduceAdd,Nat.reduceSub]
 have h1:(f2 gIx (fLst [(fC (.int 1)),(fC (.int 5)),(fC (.int 16777216))]) (f2 gMod (fVar 1) (fC (.int 3)))) [.val (.lst (cs.map D.int)),.val (.int cell),.un,.un,.un,.un,.un]=.ok (.int w):=by
  simp? [hw]
 simp -implicitDefEqProofs only [e_set,Qrb,e_lst,QoZ,e_c,Qad,Qnq,List.set,h1]
 refine Rng.useP (fun o:Ou D=>∃ ts:List Int,o=.ok (.lst (ts.map D.int))/\ts.length=cs.length/\Ts ts) (j:=(cs.length:Int)) (by simp? []) (by simp [rOk];lia) (fun i δ=>∃ (bs:List Int) (a:Int) (s5:Sl),δ=[.val (.lst (cs.map D.int)),.val (.int cell),.val (.int w),.own (.lst (bs.map D.int)),.val (.int a),s5,.un]/\bs.length=i/\bs.Pairwise (· < ·)/\(∀ b∈bs,0<=b/\b < a)/\0<=a/\a<=i * 16777217) ⟨[],0,.un,rfl,rfl,.nil,by simp,by lia,by lia⟩ ?_ ?_
 ·rintro k hk δ ⟨bs,a,s5,rfl,hl,hp,hb,a0,a1⟩
  have k1:k < cs.length:=by lia
  have e1:=Qhw k1
  obtain ⟨c',e2⟩:=Qpn k1
  generalize cs[k]=c at *
  have hs:bs.length < sizeLine:=Qap (by lia)
  have q1:0<=(c / 3 + c') % w:=Int.emod_nonneg _ (by lia)
  have q2:(c / 3 + c') % w < w:=Int.emod_lt_of_pos _ (by lia)
  have cm:cMod (c / 3 + c') w=true:=by simp [cMod];lia
  have em:bs.map D.int++[D.int a]=(bs++[a]).map D.int:=by simp
  have hp':(bs++[a]).Pairwise (· < ·):=by
   rw [List.pairwise_append]
   exact ⟨hp,by simp,fun x hx y hy=>by simp at hy;subst hy;exact (hb x hx).2⟩
  refine Goes.eq (δ2:=[.val (.lst (cs.map D.int)),.val (.int cell),.val (.int w),.own (.lst ((bs++[a]).map D.int)),.val (.int (a + 1 + (c / 3 + c') % w)),.val (.int k),.un]) ?_ ⟨bs++[a],_,_,rfl,by simp [hl],hp',?_,by lia,by lia⟩
  ·rw [← em]
   simp -implicitDefEqProofs only [e_nm,Qad,List.set]
   simp? [sApp,hs,e1,e2,cm]
  ·intro b hb'
   rcases List.mem_append.mp hb' with z | z
   ·have:=hb b z;lia
   ·simp at z;lia
 ·rintro δ ⟨bs,a,s5,rfl,hl,hp,hb,a0,a1⟩
  have hl2:bs.length=cs.length:=by lia
  by_cases hn:bs=[]
  ·subst hn
   refine ⟨[],?_,by simpa using hl2,⟨.nil,by simp⟩⟩
   simp? [thaw,Qmw]
  ·obtain ⟨bs',b,rfl⟩:=snoc hn
   have hbb:=hb b (by simp)
   have hlt:b < 1073741824:=by lia
   have e1:atI ((bs'++[b]).map D.int) (-1)=some (.int b):=by
    rw [List.map_append,List.map_cons,List.map_nil];exact QmO
   have q1:0<=cell / 3 % (1073741824 - b):=Int.emod_nonneg _ (by lia)
   have q2:cell / 3 % (1073741824 - b) < 1073741824 - b:=Int.emod_lt_of_pos _ (by lia)
   have cm:cMod (cell / 3) (1073741824 - b)=true:=by simp [cMod];lia
   refine ⟨(bs'++[b]).map fun t=>cell / 3 % (1073741824 - b) + t,?_,by simpa using hl2,QnQ hp (fun t ht=>(hb t ht).1) q1 q2⟩
   have hsz:((bs'++[b]).map D.int).length<=sizeLine:=Nat.le_of_lt (Qap (by rw [List.length_map];lia))
   generalize hsv:cell / 3 % (1073741824 - b)=s at q1 q2 ⊢
   have ec:QaE (gNm 0) fYes (f2 gAdd (fVar 1) (fVar 0)) ((bs'++[b]).map D.int) [.un,.val (.int s)]=.ok (((bs'++[b]).map fun t=>s + t).map D.int):=by
    rw [Qn0 (fun δ=>∃ s0,δ=[s0,.val (.int s)]) (fun d=>match d with | .int t=>.int (s + t) | d=>d) _ (fun d hd δ hI=>?_) _ ⟨_,rfl⟩]
    ·rw [List.map_map,List.map_map];rfl
    ·obtain ⟨s0,rfl⟩:=hI
     obtain ⟨t,_,rfl⟩:=List.mem_map.mp hd
     exact ⟨_,rfl,by simp? [],⟨_,rfl⟩⟩
   have hne:((bs'++[b]).map D.int=[])=False:=by simp
   generalize ((bs'++[b]).map fun t=>s + t).map D.int=R at ec ⊢
   generalize (bs'++[b]).map D.int=L at *
   simp? [thaw,Qmw,hne,e1,cm,QbT,Qd8,dsIn,slIn,hsz,hsv,ec]
def cp:List Int->Int
 | []=>0
 | z::r=>(if z=1 then 1 else 0) + cp r
def ct:List Int->Int
 | []=>0
 | z::r=>(if z=-1 then 1 else 0) + ct r
theorem QnO:∀ xs ys,cp (xs++ys)=cp xs + cp ys
 | [],ys=>by simp [cp]
 | x::r,ys=>by simp only [List.cons_append,cp,QnO r ys];lia
theorem Qj8:∀ xs ys,ct (xs++ys)=ct xs + ct ys
 | [],ys=>by simp [ct]
 | x::r,ys=>by simp only [List.cons_append,ct,Qj8 r ys];lia
theorem Qge:∀ zs,lf zs=cp zs - (ct zs - lk zs)
 | []=>by simp [lf,cp,ct,lk]
 | z::r=>by
  have h:=Qge r
  have g:=QfY r
  simp only [lf,cp,ct,lk]
  by_cases h1:z=1
  ·subst h1;simp;lia
  ·by_cases h2:z=-1
   ·subst h2;simp;lia
   ·simp [h1,h2];lia
theorem QqA (w:Str):Self 6 (.tup [.str w]):=(Self.tup (n:=1) fun y hy=>by
 simp only [List.mem_cons,List.not_mem_nil,or_false] at hy
 subst hy;exact Self.str _).mono (by decide)
theorem Qqt (w:Str) (x:Int):Self 6 (.tup [.str w,.int x]):=(Self.tup (n:=1) fun y hy=>by
 simp only [List.mem_cons,List.not_mem_nil,or_false] at hy
 rcases hy with rfl | rfl
 ·exact Self.str _
 ·exact Self.int _).mono (by decide)
theorem QpN (a b:Int):Self 6 (.tup [.int a,.int b]):=(Self.tup (n:=1) fun y hy=>by
 simp only [List.mem_cons,List.not_mem_nil,or_false] at hy
 rcases hy with rfl | rfl <;> exact Self.int _).mono (by decide)
theorem Qo4 (a b c:Int):Self 6 (.tup [.int a,.int b,.int c]):=(Self.tup (n:=1) fun y hy=>by
 simp only [List.mem_cons,List.not_mem_nil,or_false] at hy
 rcases hy with rfl | rfl | rfl <;> exact Self.int _).mono (by decide)
def zOf:D->Int
 | .tup (.str w::_)=>if w = "put" then 1 else if w = "take" then -1 else 0
 | _=>0
def zs (l:List (Nat×D)):List Int:=l.map fun p=>zOf p.2
theorem Qoy (xs ys:List (Nat×D)):zs (xs++ys)=zs xs++zs ys:=List.map_append ..
def OkR (d:D):Prop:=∃ z,Dk d z
theorem OkR.im {d:D} (h:OkR d):imm d=true:=by
 obtain ⟨z,h⟩:=h
 cases h <;> rfl
theorem OkR.sl {d:D} (h:OkR d):Self 6 d:=by
 obtain ⟨z,h⟩:=h
 cases h <;> first | exact QqA _ | exact Qqt _ _
def kPile:Kd where
 C:="Pile"
 en xs:=.tup [.int (lk (zs xs)),.int (lf (zs xs))]
 Okd:=OkR
 N:=63
 lonM:=Qbm
 jonM:=Qab
 notM:=Q0
 tl:=by first | exact Ql | exact (Qc rfl).trans Ql | exact (Qc rfl).trans ((Qc rfl).trans Ql) | exact (Qc rfl).trans ((Qc rfl).trans ((Qc rfl).trans Ql)) | exact (Qc rfl).trans ((Qc rfl).trans ((Qc rfl).trans ((Qc rfl).trans Ql))) | exact (Qc rfl).trans ((Qc rfl).trans ((Qc rfl).trans ((Qc rfl).trans ((Qc rfl).trans Ql))))
 tj:=by first | exact Ql | exact (Qc rfl).trans Ql | exact (Qc rfl).trans ((Qc rfl).trans Ql) | exact (Qc rfl).trans ((Qc rfl).trans ((Qc rfl).trans Ql)) | exact (Qc rfl).trans ((Qc rfl).trans ((Qc rfl).trans ((Qc rfl).trans Ql))) | exact (Qc rfl).trans ((Qc rfl).trans ((Qc rfl).trans ((Qc rfl).trans ((Qc rfl).trans Ql))))
 tn:=by first | exact Ql | exact (Qc rfl).trans Ql | exact (Qc rfl).trans ((Qc rfl).trans Ql) | exact (Qc rfl).trans ((Qc rfl).trans ((Qc rfl).trans Ql)) | exact (Qc rfl).trans ((Qc rfl).trans ((Qc rfl).trans ((Qc rfl).trans Ql))) | exact (Qc rfl).trans ((Qc rfl).trans ((Qc rfl).trans ((Qc rfl).trans ((Qc rfl).trans Ql))))
 lon a d h:=by
  obtain ⟨z,h⟩:=h
  cases h <;> simp? [Qbm,Qf0,QbJ,QdP,QcE,Qfa,zs,zOf,lk,lf]
 jon {xs ys} _:=by
  rw [Qoy,QfH,QlR]
  simp? [Qab,QeD,QY,Qb0]
 nt:=by simp? [Q0,Qei,zs,lk,lf]
 ime _:=rfl
 imd:=OkR.im
 slf _:=QpN _ _
 sld:=OkR.sl
def kLine:Kd where
 C:="Line"
 en xs:=.tup [.int (lk (zs xs)),.int (cp (zs xs)),.int (ct (zs xs))]
 Okd:=OkR
 N:=63
 lonM:=Qbs
 jonM:=Qaa
 notM:=QZ
 tl:=by first | exact Ql | exact (Qc rfl).trans Ql | exact (Qc rfl).trans ((Qc rfl).trans Ql) | exact (Qc rfl).trans ((Qc rfl).trans ((Qc rfl).trans Ql)) | exact (Qc rfl).trans ((Qc rfl).trans ((Qc rfl).trans ((Qc rfl).trans Ql))) | exact (Qc rfl).trans ((Qc rfl).trans ((Qc rfl).trans ((Qc rfl).trans ((Qc rfl).trans Ql))))
 tj:=by first | exact Ql | exact (Qc rfl).trans Ql | exact (Qc rfl).trans ((Qc rfl).trans Ql) | exact (Qc rfl).trans ((Qc rfl).trans ((Qc rfl).trans Ql)) | exact (Qc rfl).trans ((Qc rfl).trans ((Qc rfl).trans ((Qc rfl).trans Ql))) | exact (Qc rfl).trans ((Qc rfl).trans ((Qc rfl).trans ((Qc rfl).trans ((Qc rfl).trans Ql))))
 tn:=by first | exact Ql | exact (Qc rfl).trans Ql | exact (Qc rfl).trans ((Qc rfl).trans Ql) | exact (Qc rfl).trans ((Qc rfl).trans ((Qc rfl).trans Ql)) | exact (Qc rfl).trans ((Qc rfl).trans ((Qc rfl).trans ((Qc rfl).trans Ql))) | exact (Qc rfl).trans ((Qc rfl).trans ((Qc rfl).trans ((Qc rfl).trans ((Qc rfl).trans Ql))))
 lon a d h:=by
  obtain ⟨z,h⟩:=h
  cases h <;> simp? [Qbs,Qf7,QbJ,QdP,QcE,Qfa,zs,zOf,lk,cp,ct]
 jon {xs ys} _:=by
  rw [Qoy,QfH,QnO,Qj8,Qge]
  simp? [Qaa,QeY,QY,Qb0,Qcc,Qe3,Qaz,Qc5]
 nt:=by simp? [QZ,Qeg,zs,lk,cp,ct]
 ime _:=rfl
 imd:=OkR.im
 slf _:=Qo4 _ _ _
 sld:=OkR.sl
namespace Bgk
abbrev Pt:=Int×Int
abbrev le (a b:Pt):Prop:=Tim.plt b a=false
abbrev Srt (r:List Pt):Prop:=Tim.SB Tim.plt r
theorem QkR {a b c:Pt} (h1:le a b) (h2:le b c):le a c:=Tim.plt_ord.neg h2 h1
theorem le_or {a b:Pt} (h:¬ le a b):le b a:=by
 have h':Tim.plt b a=true:=by simpa using h
 cases e:Tim.plt a b with
 | false=>exact e
 | true=>have:=Tim.plt_ord.tr h' e;rw [Tim.plt_ord.irr] at this;cases this
theorem Qau (r:List Pt):(Qu r).Perm r:=Tim.srt_perm _ r
theorem QgD (r:List Pt):Srt (Qu r):=Tim.srt_sorted Tim.plt_ord r
theorem Qdt (r:List Pt):(Qu r).length=r.length:=(Qau r).length_eq
theorem ps_uniq {r q:List Pt} (h:r.Perm q) (hr:Srt r):Qu q=r:=(Tim.srt_uniq Tim.plt_ord Tim.plt_tot h hr).symm
theorem ps_self {r:List Pt} (hr:Srt r):Qu r=r:=ps_uniq (.refl _) hr
theorem Qdm {r q:List Pt} (h:r.Perm q):Qu r=Qu q:=ps_uniq ((Qau q).trans h.symm) (QgD q)
theorem Qhe {r a b:List Pt} (h:r.Perm (a++b)) (hl:∀ x∈a,∀ y∈b,le x y):Qu r=Qu a++Qu b:=by
 refine ps_uniq (((Qau a).append (Qau b)).trans h.symm) (List.pairwise_append.mpr ⟨QgD a,QgD b,fun x hx y hy=>?_⟩)
 exact hl x ((Qau a).mem_iff.mp hx) y ((Qau b).mem_iff.mp hy)
structure Bg where
 lack:Nat
 gone:List Pt
 left:List Pt
def Bg.nil:Bg:=⟨0,[],[]⟩
inductive Op
 | put (p:Pt) | take | oth
def Bg.step (b:Bg):Op->Bg
 | .put p=>⟨b.lack,b.gone,Qu (b.left++[p])⟩
 | .take=>match b.left with
  | []=>⟨b.lack + 1,b.gone,[]⟩
  | p::r=>⟨b.lack,Qu (b.gone++[p]),r⟩
 | .oth=>b
def Bg.join (a b:Bg):Bg :=
 ⟨a.lack + (b.lack - a.left.length),Qu (a.gone++(Qu (a.left++b.gone)).take (b.gone.length + min a.left.length b.lack)),Qu (b.left++(Qu (a.left++b.gone)).drop (b.gone.length + min a.left.length b.lack))⟩
structure Bg.Ok (b:Bg):Prop where
 gone:Srt b.gone
 left:Srt b.left
theorem Bg.nil_ok:Bg.nil.Ok:=⟨.nil,.nil⟩
theorem Bg.Ok.step {b:Bg} (h:b.Ok):∀ o,(b.step o).Ok
 | .put p=>⟨h.gone,QgD _⟩
 | .take=>by
  obtain ⟨l,g,f⟩:=b
  cases f with
  | nil=>exact ⟨h.gone,.nil⟩
  | cons p r=>exact ⟨QgD _,(List.pairwise_cons.mp h.left).2⟩
 | .oth=>h
theorem Bg.join_nil {a:Bg} (h:a.Ok):a.join Bg.nil=a:=by
 obtain ⟨l,g,f⟩:=a
 simp [Bg.join,Bg.nil,ps_self h.gone,ps_self h.left]
theorem Qnc {r:List Pt} (h:Srt r) (m:Nat):∀ x∈r.take m,∀ y∈r.drop m,le x y:=by
 have h':Srt (r.take m++r.drop m):=by rw [List.take_append_drop];exact h
 exact (List.pairwise_append.mp h').2.2
theorem Bg.join_step (a:Bg) {b:Bg} (hb:b.Ok):∀ o,a.join (b.step o)=(a.join b).step o
 | .put p=>by
  simp only [Bg.join,Bg.step,Bg.mk.injEq,true_and]
  refine Qdm (((Qau (b.left++[p])).append_right _).trans ?_)
  refine List.Perm.trans ?_ ((Qau _).symm.append_right [p])
  rw [List.append_assoc,List.append_assoc]
  exact (List.perm_append_comm).append_left _
 | .oth=>rfl
 | .take=>by
  obtain ⟨l,g,f⟩:=b
  obtain ⟨al,ag,af⟩:=a
  have hF:=QgD (af++g)
  have hn:(Qu (af++g)).length=af.length + g.length:=by rw [Qdt,List.length_append]
  cases f with
  | nil =>
   simp only [Bg.join,Bg.step,List.nil_append]
   by_cases c:af.length<=l
   ·have e1:min af.length (l + 1)=af.length:=by lia
    have e2:min af.length l=af.length:=by lia
    rw [e1,e2]
    have e3:(Qu (af++g)).drop (g.length + af.length)=[]:=List.drop_eq_nil_of_le (by lia)
    rw [e3]
    simp only [Bg.mk.injEq,show Qu ([]:List Pt)=[] from rfl,and_self,and_true]
    lia
   ·have e1:min af.length (l + 1)=l + 1:=by lia
    have e2:min af.length l=l:=by lia
    rw [e1,e2]
    have hm:g.length + l < (Qu (af++g)).length:=by lia
    generalize Qu (af++g)=F at hF hm
    have e3:=List.drop_eq_getElem_cons hm
    have hs:Srt (F.drop (g.length + l)):=hF.sublist (List.drop_sublist _ _)
    have hs':Srt (F.drop (g.length + l + 1)):=hF.sublist (List.drop_sublist _ _)
    rw [ps_self hs,e3]
    simp only [Bg.mk.injEq]
    refine ⟨by lia,Qdm ?_,ps_self hs'⟩
    have e4:F.take (g.length + (l + 1))=F.take (g.length + l)++[F[g.length + l]]:=List.take_succ_eq_append_getElem hm
    rw [e4,← List.append_assoc]
    exact (Qau _).symm.append_right _
  | cons p r =>
   have hp:=List.pairwise_cons.mp hb.left
   simp only [Bg.join,Bg.step]
   have eL:(Qu (g++[p])).length=g.length + 1:=by rw [Qdt,List.length_append];rfl
   have eF:Qu (af++Qu (g++[p]))=Qu (p::Qu (af++g)):=Qdm (by
    refine ((Qau (g++[p])).append_left af).trans ?_
    rw [← List.append_assoc]
    exact List.perm_append_comm.trans ((Qau (af++g)).symm.cons p))
   have eM:(Qu (g++[p])).length + min af.length l=(g.length + min af.length l) + 1:=by lia
   rw [eF,eM]
   generalize hmm:g.length + min af.length l=m
   have hm:m<=(Qu (af++g)).length:=by lia
   generalize Qu (af++g)=F at hF hm
   have spl:=Qnc hF m
   have len:=List.length_take_of_le hm
   cases ed:F.drop m with
   | nil =>
    rw [ed] at spl
    have eT:F.take m=F:=List.take_of_length_le (List.drop_eq_nil_iff.mp ed)
    have e1:(Qu (p::F)).drop (m + 1)=[]:=List.drop_eq_nil_of_le (by rw [Qdt,List.length_cons];have:=congrArg List.length eT;lia)
    have e2:(Qu (p::F)).take (m + 1)=Qu (p::F):=List.take_of_length_le (by rw [Qdt,List.length_cons];have:=congrArg List.length eT;lia)
    rw [e1,e2,List.append_nil,List.append_nil,ps_self hb.left,ps_self hp.2,eT]
    simp only [Bg.mk.injEq,true_and,and_true]
    refine Qdm (((Qau (p::F)).append_left ag).trans ?_)
    exact ((List.perm_append_comm (l₁:=[p]) (l₂:=F)).append_left ag).trans (by rw [← List.append_assoc];exact ((Qau (ag++F)).symm.append_right [p]))
   | cons y ys =>
    rw [ed] at spl
    have hd:Srt (y::ys):=by rw [← ed];exact hF.sublist (List.drop_sublist _ _)
    have hy:=List.pairwise_cons.mp hd
    have pF:F.Perm (F.take m++y::ys):=by rw [← ed,List.take_append_drop]
    by_cases c:le p y
    ·have e:Qu (p::F)=Qu (p::F.take m)++Qu (y::ys):=Qhe (pF.cons p) (fun x hx z hz=>by
      have hyz:le y z:=by
       rcases List.mem_cons.mp hz with rfl | hz
       ·exact Tim.plt_ord.irr _
       ·exact hy.1 z hz
      rcases List.mem_cons.mp hx with rfl | hx
      ·exact QkR c hyz
      ·exact spl x hx z hz)
     have el:(Qu (p::F.take m)).length=m + 1:=by rw [Qdt,List.length_cons,len]
     rw [e,← el,List.take_left,List.drop_left]
     have e2:Qu ((p::r)++y::ys)=Qu [p]++Qu (r++y::ys):=Qhe (.refl _) (fun x hx z hz=>by
      rw [List.mem_singleton.mp hx]
      rcases List.mem_append.mp hz with hz | hz
      ·exact hp.1 z hz
      ·rcases List.mem_cons.mp hz with rfl | hz
       ·exact c
       ·exact QkR c (hy.1 z hz))
     rw [e2,show Qu [p]=[p] from rfl,List.singleton_append]
     simp only [Bg.mk.injEq,true_and]
     refine ⟨Qdm ?_,Qdm ((Qau _).append_left r)⟩
     refine ((Qau _).append_left ag).trans ?_
     refine List.Perm.trans ?_ ((Qau _).symm.append_right [p])
     rw [List.append_assoc]
     exact (List.perm_append_comm (l₁:=[p])).append_left ag
    ·have c':=le_or c
     have e:Qu (p::F)=Qu (F.take m++[y])++Qu (p::ys):=Qhe ((pF.cons p).trans (by
      rw [List.append_assoc]
      exact (List.perm_middle (a:=p) (l₁:=F.take m) (l₂:=y::ys)).symm.trans ((List.Perm.swap y p ys).append_left _))) (fun x hx z hz=>by
      have hxy:le x y:=by
       rcases List.mem_append.mp hx with hx | hx
       ·exact spl x hx y (List.mem_cons_self ..)
       ·rw [List.mem_singleton.mp hx];exact Tim.plt_ord.irr _
      rcases List.mem_cons.mp hz with rfl | hz
      ·exact QkR hxy c'
      ·exact QkR hxy (hy.1 z hz))
     have el:(Qu (F.take m++[y])).length=m + 1:=by rw [Qdt,List.length_append,len];rfl
     rw [e,← el,List.take_left,List.drop_left]
     have e2:Qu ((p::r)++y::ys)=Qu [y]++Qu (p::r++ys):=Qhe List.perm_middle (fun x hx z hz=>by
      rw [List.mem_singleton.mp hx]
      rcases List.mem_append.mp hz with hz | hz
      ·rcases List.mem_cons.mp hz with rfl | hz
       ·exact c'
       ·exact QkR c' (hp.1 z hz)
      ·exact hy.1 z hz)
     rw [e2,show Qu [y]=[y] from rfl,List.singleton_append]
     simp only [Bg.mk.injEq,true_and]
     refine ⟨Qdm ?_,Qdm ?_⟩
     ·refine ((Qau _).append_left ag).trans ?_
      rw [← List.append_assoc]
      exact (Qau _).symm.append_right [y]
     ·refine ((Qau _).append_left r).trans ?_
      exact List.perm_middle.trans (.refl _)
def run (os:List Op):Bg:=os.foldl Bg.step Bg.nil
theorem QmB:∀ (os:List Op) {b:Bg},b.Ok->(os.foldl Bg.step b).Ok
 | [],_,h=>h
 | o::os,_,h=>QmB os (h.step o)
theorem Qja {a:Bg}:∀ (os:List Op) {b:Bg},b.Ok->a.join (os.foldl Bg.step b)=os.foldl Bg.step (a.join b)
 | [],_,_=>rfl
 | o::os,b,h=>by
  rw [List.foldl_cons,List.foldl_cons,Qja os (h.step o),Bg.join_step a h]
theorem QoP (os ps:List Op):(run os).join (run ps)=run (os++ps):=by
 rw [run,run,run,Qja ps Bg.nil_ok,Bg.join_nil (QmB os Bg.nil_ok),List.foldl_append]
theorem Qlj:∀ (os:List Op) (b:Bg),(os.foldl Bg.step b).gone.length + (os.foldl Bg.step b).left.length<=b.gone.length + b.left.length + os.length/\(os.foldl Bg.step b).lack<=b.lack + os.length
 | [],b=>by simp
 | o::os,b=>by
  have h:=Qlj os (b.step o)
  have h2:(b.step o).gone.length + (b.step o).left.length<=b.gone.length + b.left.length + 1/\(b.step o).lack<=b.lack + 1:=by
   obtain ⟨l,g,f⟩:=b
   cases o with
   | put p=>simp only [Bg.step,Qdt,List.length_append,List.length_singleton];lia
   | take=>cases f <;> simp only [Bg.step,Qdt,List.length_append,List.length_singleton,List.length_cons,List.length_nil] <;> lia
   | oth=>simp only [Bg.step];lia
  rw [List.foldl_cons,List.length_cons]
  lia
theorem Qhd (os:List Op):(run os).gone.length + (run os).left.length<=os.length/\(run os).lack<=os.length:=by
 have:=Qlj os Bg.nil
 simpa [run,Bg.nil] using this
def encB (b:Bg):D:=.tup [.int (b.lack:Nat),.tup (b.gone.map QS),.tup (b.left.map QS)]
def Bg.few (b:Bg) (n:Nat):Prop:=b.gone.length + b.left.length<=n
theorem QmN {os:List Op} {n:Nat} (h:os.length<=n):(run os).few n:=Nat.le_trans (Qhd os).1 h
theorem QpM {xs ys:List Pt} (h:xs.length + ys.length < 1000):QkK (.tup (xs.map QS)) (.tup (ys.map QS))=.ok (.tup ((xs++ys).map QS)):=by
 have hs:xs.length + ys.length<=sizeLine:=Nat.le_of_lt (Qap (Nat.le_of_lt h))
 simp only [QkK,List.length_map,hs,if_true,List.map_append]
theorem QmR {xs ys:List Pt} (h:xs.length + ys.length < 1000):gCat (.lst (xs.map QS)) (.lst (ys.map QS))=.ok (.lst ((xs++ys).map QS)):=by
 have hs:xs.length + ys.length<=sizeLine:=Nat.le_of_lt (Qap (Nat.le_of_lt h))
 simp only [gCat,List.length_map,hs,if_true,List.map_append]
theorem Qo1 (a b c:Nat):QY [.int a,.int b,.int c]=.ok (.int ((a + (c - b):Nat):Int)):=by
 simp? [QY,Qb0]
 lia
theorem Qm2 {a b:Bg} (ha:a.few 63) (hb:b.few 63) (h1:a.left.length + b.gone.length < 64) (h2:a.gone.length + (b.gone.length + min a.left.length b.lack) < 64) (h3:b.left.length + (a.left.length + b.gone.length) < 64):QV [.obj "Bag",encB a,encB b]=.ok (encB (a.join b)):=by
 obtain ⟨al,ag,af⟩:=a
 obtain ⟨bl,bg,bf⟩:=b
 simp only [Bg.few] at ha hb h1 h2 h3
 have e1:=QpM (xs:=af) (ys:=bg) (by lia)
 have e2:=Qmd (ps:=af++bg) (by rw [List.length_append];lia)
 have em:(bg.length:Int) + min (af.length:Int) (bl:Int)=((bg.length + min af.length bl:Nat):Int):=by lia
 have hm:bg.length + min af.length bl<=(Qu (af++bg)).length:=by rw [Qdt,List.length_append];lia
 have hm':bg.length + min af.length bl<=((Qu (af++bg)).map QS).length:=by rw [List.length_map];exact hm
 have e3:=Qon ((Qu (af++bg)).map QS) _ hm'
 have e4:=Qoh ((Qu (af++bg)).map QS) _ hm'
 rw [← List.map_take] at e3
 rw [← List.map_drop] at e4
 have l3:((Qu (af++bg)).take (bg.length + min af.length bl)).length=bg.length + min af.length bl:=List.length_take_of_le hm
 have l4:((Qu (af++bg)).drop (bg.length + min af.length bl)).length<=af.length + bg.length:=by rw [List.length_drop,Qdt,List.length_append];lia
 have e5:=QmR (xs:=ag) (ys:=(Qu (af++bg)).take (bg.length + min af.length bl)) (by lia)
 have e6:=QmR (xs:=bf) (ys:=(Qu (af++bg)).drop (bg.length + min af.length bl)) (by lia)
 have e7:=QhW (ps:=ag++(Qu (af++bg)).take (bg.length + min af.length bl)) (by rw [List.length_append];lia)
 have e8:=QhW (ps:=bf++(Qu (af++bg)).drop (bg.length + min af.length bl)) (by rw [List.length_append];lia)
 have e9:=Qo1 al af.length bl
 generalize hM:bg.length + min af.length bl=M at *
 generalize hF:Qu (af++bg)=F at *
 simp? [QV,Qfg,encB,e1,e2,em,fSl,QkQ,e3,e4,e5,e6,e7,e8,e9,Qj1,Bg.join,hM,hF,-List.map_append,-List.map_take,-List.map_drop]
theorem join_eq {os ps:List Op} (h:os.length + ps.length < 64):QV [.obj "Bag",encB (run os),encB (run ps)]=.ok (encB (run (os++ps))):=by
 rw [← QoP]
 have h1:=Qhd os
 have h2:=Qhd ps
 exact Qm2 (QmN (by lia)) (QmN (by lia)) (by lia) (by lia) (by lia)
theorem nothing_eq:QU [.obj "Bag"]=.ok (encB (run [])):=by
 simp? [QU,Qez,encB,run,Bg.nil]
def opOf (a:Nat):D->Op
 | .tup [.str w,.int x]=>if w = "put" then .put (x,(a:Int)) else .oth
 | .tup [.str w]=>if w = "take" then .take else .oth
 | _=>.oth
def opsL (l:List (Nat×D)):List Op:=l.map fun p=>opOf p.1 p.2
theorem opsL_app (a b:List (Nat×D)):opsL (a++b)=opsL a++opsL b:=List.map_append ..
theorem Qiu (a:List (Nat×D)):(opsL a).length=a.length:=List.length_map _
end Bgk
open Bgk in
def kBag:Kd where
 C:="Bag"
 en xs:=encB (Bgk.run (opsL xs))
 Okd:=OkR
 N:=63
 lonM:=Qaw
 jonM:=QV
 notM:=QU
 tl:=by first | exact Ql | exact (Qc rfl).trans Ql | exact (Qc rfl).trans ((Qc rfl).trans Ql) | exact (Qc rfl).trans ((Qc rfl).trans ((Qc rfl).trans Ql)) | exact (Qc rfl).trans ((Qc rfl).trans ((Qc rfl).trans ((Qc rfl).trans Ql))) | exact (Qc rfl).trans ((Qc rfl).trans ((Qc rfl).trans ((Qc rfl).trans ((Qc rfl).trans Ql))))
 tj:=by first | exact Ql | exact (Qc rfl).trans Ql | exact (Qc rfl).trans ((Qc rfl).trans Ql) | exact (Qc rfl).trans ((Qc rfl).trans ((Qc rfl).trans Ql)) | exact (Qc rfl).trans ((Qc rfl).trans ((Qc rfl).trans ((Qc rfl).trans Ql))) | exact (Qc rfl).trans ((Qc rfl).trans ((Qc rfl).trans ((Qc rfl).trans ((Qc rfl).trans Ql))))
 tn:=by first | exact Ql | exact (Qc rfl).trans Ql | exact (Qc rfl).trans ((Qc rfl).trans Ql) | exact (Qc rfl).trans ((Qc rfl).trans ((Qc rfl).trans Ql)) | exact (Qc rfl).trans ((Qc rfl).trans ((Qc rfl).trans ((Qc rfl).trans Ql))) | exact (Qc rfl).trans ((Qc rfl).trans ((Qc rfl).trans ((Qc rfl).trans ((Qc rfl).trans Ql))))
 lon a d h:=by
  have e:=Bgk.nothing_eq
  have p1:∀ x:Int,Qu [((x,(a:Int)):Pt)]=[(x,(a:Int))]:=fun _=>rfl
  obtain ⟨z,h⟩:=h
  cases h with
  | put x=>simp? [Qaw,QcP,opsL,opOf,encB,Bgk.run,Bg.step,Bg.nil,p1,QS]
  | take=>simp? [Qaw,QcP,opsL,opOf,encB,Bgk.run,Bg.step,Bg.nil]
  | many =>
   have:opOf a (.tup [.str "many"])=.oth:=by simp (decide:=true) [opOf]
   simp? [Qaw,QcP,e,opsL,this];rfl
  | look x hx =>
   have:opOf a (.tup [.str "look",.int x])=.oth:=by simp (decide:=true) [opOf]
   simp? [Qaw,QcP,e,opsL,this];rfl
 jon {xs ys} h:=by
  rw [opsL_app]
  exact Bgk.join_eq (by rw [Qiu,Qiu];lia)
 nt:=Bgk.nothing_eq
 ime xs:=by
  have h:∀ r:List Pt,imms (r.map QS)=true:=fun r=>by
   induction r with
   | nil=>rfl
   | cons p r ih=>simp [imms,imm,QS,ih]
  simp [encB,imm,imms,h]
 imd:=OkR.im
 slf xs:=by
  have hp:∀ r:List Pt,Self 5 (.tup (r.map QS)):=fun r=>Self.tup fun x hx=>by
   obtain ⟨p,_,rfl⟩:=List.mem_map.mp hx
   exact Self.tup fun y hy=>by
    simp only [List.mem_cons,List.not_mem_nil,or_false] at hy
    rcases hy with rfl | rfl <;> exact (Self.int _).mono (by lia)
  refine Self.tup fun d hd=>?_
  simp only [List.mem_cons,List.not_mem_nil,or_false] at hd
  rcases hd with rfl | rfl | rfl
  ·exact (Self.int _).mono (by lia)
  ·exact hp _
  ·exact hp _
 sld:=OkR.sl
section
open Tr
variable (K:Kd)
theorem Ql1 (t:T):Qz [E K t]=.ok (K.en t.ds):=by
 have t1:=QeR K t
 rw [show V t=t.ds from Qk9 t] at t1
 exact t1
theorem QkZ (s1:Sl):∀ (L:List T) (xs:List (Nat×D)) (s3:Sl),xs.length + (L.flatMap T.ds).length<=K.N->∃ s3',forL (gNm 3) (sSeq (sSet 2 (Qa2 tbJ (Qh 0) [(Qh 2),(Qg (Qz) [(Qh 3)])])) Qf) (L.map (E K)) [.val (.obj K.C),s1,.val (K.en xs),s3]=.ok (.nx [.val (.obj K.C),s1,.val (K.en (xs++L.flatMap T.ds)),s3'])
 | [],xs,s3,_=>⟨s3,by simp [forL]⟩
 | t::L,xs,s3,h=>by
  have t1:=Ql1 K t
  rw [List.flatMap_cons,List.length_append] at h
  obtain ⟨s3',q⟩:=QkZ s1 L (xs++t.ds) (.val (E K t)) (by rw [List.length_append];lia)
  have j:=K.jon (xs:=xs) (ys:=t.ds) (by lia)
  have tj:=K.tj
  have e:xs++(t::L).flatMap T.ds=xs++t.ds++L.flatMap T.ds:=by rw [List.flatMap_cons,List.append_assoc]
  rw [e]
  refine ⟨s3',?_⟩
  rw [← q,List.map_cons]
  simp only [forL,e_nm,Qad,List.set]
  generalize E K t=z at *
  generalize K.en (xs++t.ds)=z3 at *
  generalize K.en xs=z1 at *
  generalize K.en t.ds=z2 at *
  generalize K.C=cc at *
  simp? [t1,tj,j]
theorem Qcg {L:List T} (h:(L.flatMap T.ds).length<=K.N):Qp [.obj K.C,.lst (L.map (E K))]=.ok (K.en (L.flatMap T.ds)):=by
 obtain ⟨s3',q⟩:=QkZ K (.val (.lst (L.map (E K)))) L [] .un (by rw [List.length_nil];lia)
 rw [List.nil_append] at q
 have n:=K.nt
 have tn:=K.tn
 generalize K.en []=z0 at *
 generalize K.en (L.flatMap T.ds)=z at *
 generalize L.map (E K)=M at *
 generalize K.C=cc at *
 simp? [Qp,QeP,tn,n,sFor,q]
theorem Qlu (lo:Int) (n:Nat):rng lo (n + 1)=.int lo::rng (lo + 1) n:=by
 unfold rng
 rw [List.range_succ_eq_map,List.map_cons,List.map_map]
 congr 1
 ·simp
 ·refine List.map_congr_left fun k _=>?_
  simp only [Function.comp]
  congr 1
  lia
abbrev Pt2:=Int×Int
inductive Qs:D->Option Nat->Prop
 | take:Qs (.tup [.str "take"]) (some 0)
 | many:Qs (.tup [.str "many"]) none
 | look (n:Nat):Qs (.tup [.str "look",.int (n:Int)]) (some n)
def numO:Option Pt2->D
 | some p=>.int p.1
 | none=>.non
def timO:Option Pt2->D
 | some p=>.int p.2
 | none=>.non
def dueO (r:List Pt2):Option Nat->D
 | some n=>numO r[n]?
 | none=>.int (r.length:Int)
def srcO (r:List Pt2):Option Nat->D
 | some n=>timO r[n]?
 | none=>.non
theorem Qhm {q:D} {n:Nat} (h:Qs q (some n)):QF [q]=.ok (.int (n:Int)):=by
 cases h with
 | take=>simp? [QF,Qb2]
 | look n=>simp? [QF,Qb2]
theorem QdG {q:D} {n:Nat} (h:Qs q (some n)):∃ w r,q=.tup (.str w::r)/\w≠"many":=by
 cases h with
 | take=>exact ⟨_,_,rfl,by decide⟩
 | look n=>exact ⟨_,_,rfl,by decide⟩
def ptOf:Nat×D->Pt2
 | (a,.tup [_,.int x])=>(x,(a:Int))
 | (a,_)=>(0,(a:Int))
def OkL (L:List T):Prop:=∀ t∈L,Good t/\∀ p∈t.ds,OkR p.2
theorem QcZ {L:List T} (hL:OkL L):∀ p∈L.flatMap T.ds,OkR p.2:=fun p hp=>by
 obtain ⟨t,ht,h⟩:=List.mem_flatMap.mp hp
 exact (hL t ht).2 p h
theorem Qn4 {d:D} (h:OkR d) (hz:zOf d=1):∃ x,d=.tup [.str "put",.int x]:=by
 obtain ⟨z,h⟩:=h
 cases h with
 | put x=>exact ⟨x,rfl⟩
 | take=>exact absurd hz (by decide)
 | many=>exact absurd hz (by decide)
 | look x _=>exact absurd (show (0:Int)=1 from hz) (by decide)
end
section
open Tr Bgk
def bagL (l:List (Nat×D)):List Pt:=(Bgk.run (opsL l)).left
theorem Qod (l:List (Nat×D)):(bagL l).length<=l.length:=by
 have:=(Qhd (opsL l)).1
 rw [Qiu] at this
 unfold bagL
 lia
theorem Qkr {L:List T} (h:(L.flatMap T.ds).length<=63):∃ a b,Qp [.obj "Bag",.lst (L.map (E kBag))]=.ok (.tup [.int a,b,.tup ((bagL (L.flatMap T.ds)).map QS)]):=by
 have r:=Qcg kBag (L:=L) h
 exact ⟨_,_,r⟩
theorem Qjc {L:List T} (h:(L.flatMap T.ds).length<=63) {q:D} {n:Nat} (hq:Qs q (some n)):∃ z,Qw [.obj "Bag",.lst (L.map (E kBag)),q]=.ok z/\gIx z (.int 0)=.ok (numO (bagL (L.flatMap T.ds))[n]?)/\gIx z (.int 1)=.ok (timO (bagL (L.flatMap T.ds))[n]?):=by
 obtain ⟨a,b,r⟩:=Qkr h
 have ha:=Qhm hq
 by_cases c:n < (bagL (L.flatMap T.ds)).length
 ·have c':(n:Int) < (((bagL (L.flatMap T.ds)).map QS).length:Int):=by rw [List.length_map];lia
  have hat:atI ((bagL (L.flatMap T.ds)).map QS) (n:Int)=some (QS (bagL (L.flatMap T.ds))[n]):=by
   rw [Qgi (by rw [List.length_map];exact c)];simp
  refine ⟨QS (bagL (L.flatMap T.ds))[n],?_,by rw [List.getElem?_eq_getElem c];rfl,by rw [List.getElem?_eq_getElem c];rfl⟩
  generalize QS (bagL (L.flatMap T.ds))[n]=z at *
  generalize (bagL (L.flatMap T.ds)).map QS=R at *
  generalize L.map (E kBag)=M at *
  have c2:n < R.length:=by lia
  simp? [Qw,QcC,r,ha,c2,hat]
 ·have c':¬ (n:Int) < (((bagL (L.flatMap T.ds)).map QS).length:Int):=by rw [List.length_map];lia
  refine ⟨.tup [.non,.non],?_,by rw [List.getElem?_eq_none (by lia)];rfl,by rw [List.getElem?_eq_none (by lia)];rfl⟩
  generalize (bagL (L.flatMap T.ds)).map QS=R at *
  generalize L.map (E kBag)=M at *
  have c2:¬ n < R.length:=by lia
  simp? [Qw,QcC,r,ha,c2]
theorem QlA {L:List T} (h:(L.flatMap T.ds).length<=63) {q:D} {o:Option Nat} (hq:Qs q o):Q8 [.obj "Bag",.lst (L.map (E kBag)),q]=.ok (dueO (bagL (L.flatMap T.ds)) o):=by
 cases o with
 | none =>
  obtain ⟨a,b,r⟩:=Qkr h
  have hlen:(((bagL (L.flatMap T.ds)).map QS).length:Int)=((bagL (L.flatMap T.ds)).length:Int):=by rw [List.length_map]
  cases hq
  show _=Ou.ok (D.int ((bagL (L.flatMap T.ds)).length:Int))
  rw [← hlen]
  generalize (bagL (L.flatMap T.ds)).map QS=R at *
  generalize L.map (E kBag)=M at *
  simp? [Q8,Qdu,r]
 | some n =>
  obtain ⟨z,h1,h2,_⟩:=Qjc h hq
  obtain ⟨w,rr,rfl,hw⟩:=QdG hq
  show _=Ou.ok (numO (bagL (L.flatMap T.ds))[n]?)
  generalize numO (bagL (L.flatMap T.ds))[n]? = zz at *
  generalize L.map (E kBag)=M at *
  simp? [Q8,Qdu,hw,h1,h2]
theorem Qmf {L:List T} (h:(L.flatMap T.ds).length<=63) {q:D} {o:Option Nat} (hq:Qs q o):Q7 [.obj "Bag",.lst (L.map (E kBag)),q]=.ok (srcO (bagL (L.flatMap T.ds)) o):=by
 cases o with
 | none =>
  cases hq
  generalize L.map (E kBag)=M at *
  simp? [Q7,Qdy,srcO]
 | some n =>
  obtain ⟨z,h1,_,h2⟩:=Qjc h hq
  obtain ⟨w,rr,rfl,hw⟩:=QdG hq
  show _=Ou.ok (timO (bagL (L.flatMap T.ds))[n]?)
  generalize timO (bagL (L.flatMap T.ds))[n]? = zz at *
  generalize L.map (E kBag)=M at *
  simp? [Q7,Qdy,hw,h1,h2]
theorem QmV {L:List T} (h:(L.flatMap T.ds).length<=63):Qat [.obj "Bag",.lst (L.map (E kBag))]=.ok (.lst ((bagL (L.flatMap T.ds)).map fun p=>D.int p.1)):=by
 obtain ⟨a,b,r⟩:=Qkr h
 have hb:=Qod (L.flatMap T.ds)
 have c:∀ (R:List Pt) (s0:Sl),QaE (gNm 0) fYes (f2 gIx (Qh 0) (fC (.int 0))) (R.map QS) [s0]=.ok (R.map fun p=>D.int p.1):=fun R=>by
  induction R with
  | nil=>intro s0;rfl
  | cons p R ih =>
   intro s0
   have i:=ih (.val (QS p))
   simp only [List.map_cons,QaE,e_nm,Qad,List.set,fYes]
   generalize R.map QS=M at *
   simp (decide:=true) -implicitDefEqProofs [Qc,Q6,fVar,Qh,isT,at_0,at_1,at_2,at_3,at_4,QS] at i ⊢
   simp? [i]
 have c1:=c (bagL (L.flatMap T.ds)) .un
 have hz:((bagL (L.flatMap T.ds)).map QS).length<=sizeLine:=by rw [List.length_map];exact Nat.le_of_lt (Qap (by lia))
 generalize (bagL (L.flatMap T.ds)).map (fun p=>D.int p.1)=N at *
 generalize (bagL (L.flatMap T.ds)).map QS=R at *
 generalize L.map (E kBag)=M at *
 simp? [Qat,QfN,QbT,QjH,r,hz,dsIn,slIn,c1]
end
section
open Tr
namespace Ln
def pu (l:List (Nat×D)):List (Nat×D):=l.filter fun p=>decide (zOf p.2=1)
theorem pu_app (a b:List (Nat×D)):pu (a++b)=pu a++pu b:=List.filter_append ..
theorem QmE:∀ l:List (Nat×D),cp (zs l)=((pu l).length:Int)
 | []=>rfl
 | p::l=>by
  have h:=QmE l
  simp only [zs,List.map_cons,cp]
  simp only [zs] at h
  rw [h]
  by_cases c:zOf p.2=1
  ·rw [if_pos c]
   have:pu (p::l)=p::pu l:=List.filter_cons_of_pos (by simpa using c)
   rw [this,List.length_cons];lia
  ·rw [if_neg c]
   have:pu (p::l)=pu l:=List.filter_cons_of_neg (by simpa using c)
   rw [this];lia
def opK:Option (Nat×D)->D
 | some p=>E kLine (.lf p.1 p.2)
 | none=>.non
theorem Qgf (F:List D->Ou D) (L0 e0:Sl):∀ (L:List T),OkL L->(∀ t∈L,∀ q k l r,t=.nd q k l r->∀ e:Nat,F [.lst [E kLine l,E kLine r],.int (e:Int)]=.ok (opK ((pu (l.ds++r.ds))[e]?)))->∀ (e:Nat) (s3 s4:Sl),
  (∃ p,(pu (L.flatMap T.ds))[e]? = some p/\forL (gNm 3) (sSeq (sSet 4 (f2 gIx (Qg (Qz) [(Qh 3)]) (fC (.int 1)))) (sSeq (sIf (fAsB (f2 gLt (fVar 2) (fVar 4))) (sSeq (sRet (fIfE (fTru (Qg (QK) [(fVar 3)])) (fVar 3) (Qg (F) [(Qg (Qcx) [(fVar 3)]),(fVar 2)]))) Qf) Qf) (sSeq (sSet 2 (f2 gSub (fVar 2) (fVar 4))) Qf))) (L.map (E kLine)) [L0,e0,.val (.int (e:Int)),s3,s4]=.ok (.rt (E kLine (.lf p.1 p.2)))) \/
  ((pu (L.flatMap T.ds))[e]? = none/\∃ δ',forL (gNm 3) (sSeq (sSet 4 (f2 gIx (Qg (Qz) [(Qh 3)]) (fC (.int 1)))) (sSeq (sIf (fAsB (f2 gLt (fVar 2) (fVar 4))) (sSeq (sRet (fIfE (fTru (Qg (QK) [(fVar 3)])) (fVar 3) (Qg (F) [(Qg (Qcx) [(fVar 3)]),(fVar 2)]))) Qf) Qf) (sSeq (sSet 2 (f2 gSub (fVar 2) (fVar 4))) Qf))) (L.map (E kLine)) [L0,e0,.val (.int (e:Int)),s3,s4]=.ok (.nx δ'))
 | [],_,_,e,s3,s4=>.inr ⟨rfl,_,rfl⟩
 | t::L,hL,hF,e,s3,s4=>by
  have t1:Qz [E kLine t]=.ok (.tup [.int (lk (zs t.ds)),.int (cp (zs t.ds)),.int (ct (zs t.ds))]):=Ql1 kLine t
  have hcp:=QmE t.ds
  rw [List.flatMap_cons,pu_app,List.map_cons]
  simp only [forL,e_nm,Qad,List.set]
  by_cases c:e < (pu t.ds).length
  ·have c':(e:Int) < cp (zs t.ds):=by rw [hcp];lia
   rw [List.getElem?_append_left c]
   refine .inl ⟨(pu t.ds)[e],List.getElem?_eq_getElem c,?_⟩
   cases t with
   | lf a d =>
    have l:=QjO kLine a d
    have ep:(pu (T.lf a d).ds)[e]=(a,d):=by
     have hm:=List.getElem_mem c
     have:(pu (T.lf a d).ds)[e]∈(T.lf a d).ds:=(List.mem_filter.mp hm).1
     simpa [T.ds] using this
    rw [ep]
    generalize E kLine (.lf a d)=z at *
    simp? [t1,c',l]
   | nd q k l r =>
    have ln:=Qhg kLine q k l r
    have f:=hF (.nd q k l r) List.mem_cons_self q k l r rfl e
    have e1:(pu (l.ds++r.ds))[e]? = some (pu (T.nd q k l r).ds)[e]:=List.getElem?_eq_getElem c
    rw [e1] at f
    generalize (pu (T.nd q k l r).ds)[e]=p at *
    have ex:E kLine (.nd q k l r)=.tup [.int ((q * 2 ^ (k + 1):Nat):Int),.int ((2 ^ (k + 1):Nat):Int),kLine.en (QM (V l) (V r)),E kLine l,E kLine r]:=rfl
    rw [ex] at t1 ln ⊢
    change F [.lst [E kLine l,E kLine r],.int (e:Int)]=.ok (E kLine (.lf p.1 p.2)) at f
    generalize E kLine (.lf p.1 p.2)=z9 at *
    generalize ((q * 2 ^ (k + 1):Nat):Int)=z1 at *
    generalize ((2 ^ (k + 1):Nat):Int)=z22 at *
    generalize kLine.en (QM (V l) (V r))=z3 at *
    generalize E kLine l=z4 at *
    generalize E kLine r=z5 at *
    simp? [t1,c',ln,Qcx,Qhh,f]
  ·have c':¬ (e:Int) < cp (zs t.ds):=by rw [hcp];lia
   rw [List.getElem?_append_right (by lia)]
   have es:(e:Int) - cp (zs t.ds)=((e - (pu t.ds).length:Nat):Int):=by rw [hcp];lia
   rcases Qgf F L0 e0 L (fun t ht=>hL t (List.mem_cons_of_mem _ ht)) (fun t ht=>hF t (List.mem_cons_of_mem _ ht)) (e - (pu t.ds).length) (.val (E kLine t)) (.val (.int (cp (zs t.ds)))) with ⟨p,h1,h2⟩ | ⟨h1,δ',h2⟩
   ·refine .inl ⟨p,h1,?_⟩
    rw [← h2,← es]
    generalize E kLine t=z at *
    generalize cp (zs t.ds)=x1 at *
    generalize lk (zs t.ds)=x2 at *
    generalize ct (zs t.ds)=x3 at *
    simp? [t1,c']
   ·refine .inr ⟨h1,δ',?_⟩
    rw [← h2,← es]
    generalize E kLine t=z at *
    generalize cp (zs t.ds)=x1 at *
    generalize lk (zs t.ds)=x2 at *
    generalize ct (zs t.ds)=x3 at *
    simp? [t1,c']
theorem Qi8:∀ (n:Nat) (L:List T) (e:Nat),OkL L->(∀ t∈L,t.e < n)->0 < n->QL n [.lst (L.map (E kLine)),.int (e:Int)]=.ok (opK ((pu (L.flatMap T.ds))[e]?))
 | 0,_,_,_,_,h=>by lia
 | n + 1,L,e,hL,hn,_=>by
  have hu:QL (n + 1) [.lst (L.map (E kLine)),.int (e:Int)]=runD false 5 (Qcl (QL n)) [.lst (L.map (E kLine)),.int (e:Int)]:=rfl
  rw [hu]
  have hF:∀ t∈L,∀ q k l r,t=.nd q k l r->∀ e:Nat,QL n [.lst [E kLine l,E kLine r],.int (e:Int)]=.ok (opK ((pu (l.ds++r.ds))[e]?)):=by
   rintro t ht q k l r rfl e
   obtain ⟨G,hd⟩:=hL _ ht
   have he:=hn _ ht
   obtain ⟨hl,hr,el,er,_⟩:=QkB G
   have he':k + 1 < n + 1:=he
   have ih:=Qi8 n [l,r] e (fun t ht=>by
    simp only [List.mem_cons,List.not_mem_nil,or_false] at ht
    rcases ht with rfl | rfl
    ·exact ⟨hl,fun p hp=>hd p (List.mem_append_left _ hp)⟩
    ·exact ⟨hr,fun p hp=>hd p (List.mem_append_right _ hp)⟩) (fun t ht=>by
    simp only [List.mem_cons,List.not_mem_nil,or_false] at ht
    rcases ht with rfl | rfl <;> lia) (by lia)
   simpa using ih
  generalize QL n=F at *
  rcases Qgf F (.val (.lst (L.map (E kLine)))) (.val (.int (e:Int))) L hL hF e .un .un with ⟨p,h1,h2⟩ | ⟨h1,δ',h2⟩
  ·rw [h1]
   show _=Ou.ok (E kLine (.lf p.1 p.2))
   generalize E kLine (.lf p.1 p.2)=z at *
   generalize L.map (E kLine)=M at *
   simp? [Qcl,sFor,h2]
  ·rw [h1]
   show _=Ou.ok D.non
   generalize L.map (E kLine)=M at *
   simp? [Qcl,sFor,h2]
theorem QpV:∀ xs:List Int,lk xs<=ct xs
 | []=>by simp [lk,ct]
 | z::r=>by
  have h:=QpV r
  have g:=QfY r
  simp only [lk,ct]
  by_cases h1:z=1
  ·subst h1;simp;lia
  ·by_cases h2:z=-1
   ·subst h2;simp;lia
   ·simp [h1,h2];lia
def gn (l:List (Nat×D)):Nat:=(ct (zs l) - lk (zs l)).toNat
theorem Qhy (l:List (Nat×D)):((gn l:Nat):Int)=ct (zs l) - lk (zs l):=by
 have:=QpV (zs l)
 unfold gn;lia
theorem Qoj (l:List (Nat×D)):lf (zs l)=((pu l).length:Int) - (gn l:Int):=by
 rw [Qge,QmE,Qhy]
theorem gn_le (l:List (Nat×D)):gn l<=(pu l).length:=by
 have h:=Qoj l
 have:=Qiy (zs l)
 lia
theorem QlN {l:List (Nat×D)} (h:∀ p∈l,OkR p.2) {p:Nat×D} (hp:p∈pu l):∃ x,p.2=.tup [.str "put",.int x] :=
 Qn4 (h p (List.mem_filter.mp hp).1) (by simpa using (List.mem_filter.mp hp).2)
theorem Qgb {L:List T} (hL:OkL L) (h63:(L.flatMap T.ds).length<=63) {q:D} {n:Nat} (hq:Qs q (some n)):Qx [.obj "Line",.lst (L.map (E kLine)),q]=.ok (opK ((pu (L.flatMap T.ds))[gn (L.flatMap T.ds) + n]?)):=by
 have r:Qp [.obj "Line",.lst (L.map (E kLine))]=.ok (kLine.en (L.flatMap T.ds)):=Qcg kLine (L:=L) h63
 have g:Qaz [kLine.en (L.flatMap T.ds)]=.ok (.int (gn (L.flatMap T.ds):Int)):=by
  rw [Qhy]
  simp? [Qaz,Qc5,kLine]
 have a:=Qhm hq
 have b:=Qi8 64 L (gn (L.flatMap T.ds) + n) hL (fun t ht=>by have:=depth (hL t ht).1;lia) (by decide)
 have e:((gn (L.flatMap T.ds) + n:Nat):Int)=(gn (L.flatMap T.ds):Int) + (n:Int):=by lia
 rw [e] at b
 generalize opK ((pu (L.flatMap T.ds))[gn (L.flatMap T.ds) + n]?)=z1 at *
 generalize (gn (L.flatMap T.ds):Int)=z3 at *
 generalize kLine.en (L.flatMap T.ds)=z2 at *
 generalize L.map (E kLine)=M at *
 simp? [Qx,Qdr,r,g,a,b]
theorem Qm1 {L:List T} (hL:OkL L) (h63:(L.flatMap T.ds).length<=63) {q:D} {n:Nat} (hq:Qs q (some n)):QN [.obj "Line",.lst (L.map (E kLine)),q]=.ok (numO ((pu (L.flatMap T.ds))[gn (L.flatMap T.ds) + n]?.map ptOf)):=by
 have p:=Qgb hL h63 hq
 have hok:=QcZ hL
 obtain ⟨w,r,rfl,hw⟩:=QdG hq
 generalize hl:L.flatMap T.ds=l at *
 generalize L.map (E kLine)=M at *
 cases e:(pu l)[gn l + n]? with
 | none =>
  rw [e] at p
  change _=Ou.ok D.non at p
  simp? [QN,Qcu,hw,p,Qv,Qbr,numO,Option.map]
 | some x =>
  rw [e] at p
  obtain ⟨a,d⟩:=x
  obtain ⟨x,hx⟩:=QlN hok (List.mem_of_getElem? e)
  simp only at hx
  subst hx
  change _=Ou.ok (D.tup [.int (a:Int),.int 1,kLine.en (QO a (.tup [.str "put",.int x])),.tup [.str "put",.int x]]) at p
  generalize kLine.en (QO a (.tup [.str "put",.int x]))=z at *
  simp? [QN,Qcu,hw,p,Qv,Qbr,gIsN,numO,Option.map,ptOf]
theorem Qnl {L:List T} (hL:OkL L) (h63:(L.flatMap T.ds).length<=63) {q:D} {n:Nat} (hq:Qs q (some n)):QT [.obj "Line",.lst (L.map (E kLine)),q]=.ok (timO ((pu (L.flatMap T.ds))[gn (L.flatMap T.ds) + n]?.map ptOf)):=by
 have p:=Qgb hL h63 hq
 have hok:=QcZ hL
 obtain ⟨w,r,rfl,hw⟩:=QdG hq
 generalize hl:L.flatMap T.ds=l at *
 generalize L.map (E kLine)=M at *
 cases e:(pu l)[gn l + n]? with
 | none =>
  rw [e] at p
  change _=Ou.ok D.non at p
  simp? [QT,Qct,hw,p,QaW,QcA,timO,Option.map]
 | some x =>
  rw [e] at p
  obtain ⟨a,d⟩:=x
  obtain ⟨x,hx⟩:=QlN hok (List.mem_of_getElem? e)
  simp only at hx
  subst hx
  change _=Ou.ok (D.tup [.int (a:Int),.int 1,kLine.en (QO a (.tup [.str "put",.int x])),.tup [.str "put",.int x]]) at p
  generalize kLine.en (QO a (.tup [.str "put",.int x]))=z at *
  simp? [QT,Qct,hw,p,QaW,QcA,gIsN,timO,Option.map,ptOf]
theorem Qov {L:List T} (h63:(L.flatMap T.ds).length<=63):QN [.obj "Line",.lst (L.map (E kLine)),.tup [.str "many"]]=.ok (.int (((pu (L.flatMap T.ds)).drop (gn (L.flatMap T.ds))).length:Int)):=by
 have r:Qp [.obj "Line",.lst (L.map (E kLine))]=.ok (kLine.en (L.flatMap T.ds)):=Qcg kLine (L:=L) h63
 have g:Qcc [kLine.en (L.flatMap T.ds)]=.ok (.int (((pu (L.flatMap T.ds)).drop (gn (L.flatMap T.ds))).length:Int)):=by
  have h:=Qoj (L.flatMap T.ds)
  have h2:=gn_le (L.flatMap T.ds)
  have h3:(((pu (L.flatMap T.ds)).drop (gn (L.flatMap T.ds))).length:Int)=cp (zs (L.flatMap T.ds)) - (ct (zs (L.flatMap T.ds)) - lk (zs (L.flatMap T.ds))):=by
   rw [List.length_drop,← Qge,h];lia
  rw [h3]
  simp? [Qcc,Qe3,Qaz,Qc5,kLine]
 generalize (((pu (L.flatMap T.ds)).drop (gn (L.flatMap T.ds))).length:Int)=z1 at *
 generalize kLine.en (L.flatMap T.ds)=z2 at *
 generalize L.map (E kLine)=M at *
 simp? [QN,Qcu,r,g]
theorem gn_put {l:List (Nat×D)} {p:Nat×D} (h:zOf p.2≠-1):gn (l++[p])=gn l:=by
 have e:zs (l++[p])=zs l++[zOf p.2]:=by simp [zs]
 have h1:=QfH (zs l) [zOf p.2]
 have h2:=Qj8 (zs l) [zOf p.2]
 have h3:=Qiy (zs l)
 have h4:lk [zOf p.2]=0:=by
  simp only [lk,h,if_false]
  split <;> lia
 have h5:ct [zOf p.2]=0:=by simp [ct,h]
 unfold gn
 rw [e,h1,h2,h4,h5]
 lia
theorem gn_take {l:List (Nat×D)} {p:Nat×D} (h:zOf p.2=-1):gn (l++[p])=if gn l < (pu l).length then gn l + 1 else gn l:=by
 have e:zs (l++[p])=zs l++[zOf p.2]:=by simp [zs]
 have h1:=QfH (zs l) [zOf p.2]
 have h2:=Qj8 (zs l) [zOf p.2]
 have h3:=Qiy (zs l)
 have h4:lk [zOf p.2]=1:=by simp [lk,h]
 have h5:ct [zOf p.2]=1:=by simp [ct,h]
 have h6:=Qoj l
 have h7:=Qhy l
 have h8:=Qhy (l++[p])
 rw [e,h1,h2,h4,h5] at h8
 split <;> lia
def sd (l:List (Nat×D)):List Pt2:=((pu l).drop (gn l)).map ptOf
theorem QnI (l:List (Nat×D)) (n:Nat):(sd l)[n]? = (pu l)[gn l + n]?.map ptOf:=by
 unfold sd
 rw [List.getElem?_map,List.getElem?_drop]
theorem line_answer {L:List T} (hL:OkL L) (h63:(L.flatMap T.ds).length<=63) {q:D} {o:Option Nat} (hq:Qs q o):QN [.obj "Line",.lst (L.map (E kLine)),q]=.ok (dueO (sd (L.flatMap T.ds)) o):=by
 cases o with
 | none =>
  cases hq
  rw [Qov h63]
  unfold dueO sd
  rw [List.length_map]
 | some n =>
  rw [Qm1 hL h63 hq]
  show _=Ou.ok (numO (sd (L.flatMap T.ds))[n]?)
  rw [QnI]
theorem line_source {L:List T} (hL:OkL L) (h63:(L.flatMap T.ds).length<=63) {q:D} {o:Option Nat} (hq:Qs q o):QT [.obj "Line",.lst (L.map (E kLine)),q]=.ok (srcO (sd (L.flatMap T.ds)) o):=by
 cases o with
 | none =>
  cases hq
  generalize L.map (E kLine)=M at *
  simp? [QT,Qct,srcO]
 | some n =>
  rw [Qnl hL h63 hq]
  show _=Ou.ok (timO (sd (L.flatMap T.ds))[n]?)
  rw [QnI]
theorem QpI {l:List (Nat×D)} (hok:∀ p∈l,OkR p.2) {i:Nat} (h:i < (pu l).length):Qv [opK (pu l)[i]?]=.ok (.int (ptOf (pu l)[i]).1):=by
 rw [List.getElem?_eq_getElem h]
 obtain ⟨x,hx⟩:=QlN hok (List.getElem_mem h)
 generalize (pu l)[i]=p at *
 obtain ⟨a,d⟩:=p
 simp only at hx
 subst hx
 show Qv [.tup [.int (a:Int),.int 1,kLine.en (QO a (.tup [.str "put",.int x])),.tup [.str "put",.int x]]]=_
 generalize kLine.en (QO a (.tup [.str "put",.int x]))=z at *
 simp? [Qv,Qbr,gIsN,ptOf]
theorem Qde {L:List T} (hL:OkL L):∀ (n i:Nat) (s0:Sl),i + n=(pu (L.flatMap T.ds)).length->QaE (gNm 0) fYes (Qg (Qv) [(Qg (QL 64) [(Qh 1),(Qh 0)])]) (rng (i:Int) n) [s0,.val (.lst (L.map (E kLine)))]=.ok (((pu (L.flatMap T.ds)).drop i).map fun p=>D.int (ptOf p).1)
 | 0,i,s0,h=>by
  rw [List.drop_eq_nil_of_le (by lia)];rfl
 | n + 1,i,s0,h=>by
  have ih:=Qde hL n (i + 1) (.val (.int (i:Int))) (by lia)
  have e2:((i + 1:Nat):Int)=(i:Int) + 1:=by lia
  rw [e2] at ih
  have hi:i < (pu (L.flatMap T.ds)).length:=by lia
  have b:=Qi8 64 L i hL (fun t ht=>by have:=depth (hL t ht).1;lia) (by decide)
  have np:=QpI (QcZ hL) hi
  rw [Qlu,List.drop_eq_getElem_cons hi,List.map_cons]
  generalize opK (pu (L.flatMap T.ds))[i]? = w at *
  simp only [QaE,e_nm,Qad,List.set]
  generalize rng ((i:Int) + 1) n=R at *
  generalize ((pu (L.flatMap T.ds)).drop (i + 1)).map (fun p=>D.int (ptOf p).1)=Y at *
  generalize (ptOf (pu (L.flatMap T.ds))[i]).1=x at *
  generalize (i:Int)=k at *
  generalize L.map (E kLine)=M at *
  generalize QL 64=P at *
  simp? [fYes,b,np,ih]
theorem line_stand {L:List T} (hL:OkL L) (h63:(L.flatMap T.ds).length<=63):Qa0 [.obj "Line",.lst (L.map (E kLine))]=.ok (.lst ((sd (L.flatMap T.ds)).map fun p=>D.int p.1)):=by
 have r:Qp [.obj "Line",.lst (L.map (E kLine))]=.ok (.tup [.int (lk (zs (L.flatMap T.ds))),.int (cp (zs (L.flatMap T.ds))),.int (ct (zs (L.flatMap T.ds)))]):=Qcg kLine (L:=L) h63
 have g:Qaz [.tup [.int (lk (zs (L.flatMap T.ds))),.int (cp (zs (L.flatMap T.ds))),.int (ct (zs (L.flatMap T.ds)))]]=.ok (.int (gn (L.flatMap T.ds):Int)):=by
  rw [Qhy]
  simp? [Qaz,Qc5]
 have hle:=gn_le (L.flatMap T.ds)
 have hpl:(pu (L.flatMap T.ds)).length<=(L.flatMap T.ds).length:=List.length_filter_le _ _
 have c:=Qde hL ((pu (L.flatMap T.ds)).length - gn (L.flatMap T.ds)) (gn (L.flatMap T.ds)) .un (by lia)
 have e:((sd (L.flatMap T.ds)).map fun p=>D.int p.1)=((pu (L.flatMap T.ds)).drop (gn (L.flatMap T.ds))).map fun p=>D.int (ptOf p).1:=by
  unfold sd
  rw [List.map_map];rfl
 rw [e]
 have hcp:=QmE (L.flatMap T.ds)
 rw [hcp] at r g
 have h1:rOk (gn (L.flatMap T.ds):Int)=true:=by simp [rOk];lia
 have h2:rOk ((pu (L.flatMap T.ds)).length:Int)=true:=by simp [rOk];lia
 have h3:(((pu (L.flatMap T.ds)).length:Int) - (gn (L.flatMap T.ds):Int)).toNat=(pu (L.flatMap T.ds)).length - gn (L.flatMap T.ds):=by lia
 have h4:(pu (L.flatMap T.ds)).length - gn (L.flatMap T.ds)<=sizeLine:=Nat.le_of_lt (Qap (by lia))
 generalize ((pu (L.flatMap T.ds)).drop (gn (L.flatMap T.ds))).map (fun p=>D.int (ptOf p).1)=Y at *
 generalize lk (zs (L.flatMap T.ds))=x1 at *
 generalize ct (zs (L.flatMap T.ds))=x3 at *
 generalize (pu (L.flatMap T.ds)).length=x2 at *
 generalize gn (L.flatMap T.ds)=x4 at *
 generalize L.map (E kLine)=M at *
 simp? [Qa0,Qfm,r,g,QbT,QgB,h1,h2,h3,Qe9,h4,dsIn,slIn,c]
end Ln
end
section
open Tr
namespace Pl
def wOf:D->Int×Int
 | .tup (.str w::_)=>if w = "put" then (0,1) else if w = "take" then (1,0) else (0,0)
 | _=>(0,0)
def lpu (p:Nat×D):Nat:=if wOf p.2=(0,1) then 1 else 0
def ltk (p:Nat×D):Nat:=if wOf p.2=(1,0) then 1 else 0
def bel:List (Nat×D)->Nat->Option (Nat×D)
 | [],_=>none
 | p::r,n=>if n < lpu p then some p else bel r (n - lpu p + ltk p)
def ttR:List (Nat×D)->Nat×Nat
 | []=>(0,0)
 | p::r=>((ttR r).1 + (ltk p - (ttR r).2),lpu p + ((ttR r).2 - ltk p))
theorem Qp7 (p:Nat×D):(lpu p=0/\ltk p=0)\/(lpu p=1/\ltk p=0)\/(lpu p=0/\ltk p=1):=by
 unfold lpu ltk
 by_cases h:wOf p.2=(0,1)
 ·rw [h];simp
 ·by_cases h2:wOf p.2=(1,0)
  ·rw [h2];simp
  ·simp [h,h2]
theorem QeX (p:Nat×D) (r:List (Nat×D)) (n:Nat):bel (p::r) n=if n < lpu p then some p else bel r (n - lpu p + ltk p):=rfl
theorem Qmv (rs:List (Nat×D)):∀ (r:List (Nat×D)) (n:Nat),bel (r++rs) n=if n < (ttR r).2 then bel r n else bel rs (n - (ttR r).2 + (ttR r).1)
 | [],n=>by simp [ttR]
 | p::r,n=>by
  have ih:=Qmv rs r
  have e:ttR (p::r)=((ttR r).1 + (ltk p - (ttR r).2),lpu p + ((ttR r).2 - ltk p)):=rfl
  rw [List.cons_append,QeX,QeX,ih,e]
  generalize (ttR r).2=b
  generalize (ttR r).1=a
  rcases Qp7 p with ⟨h1,h2⟩ | ⟨h1,h2⟩ | ⟨h1,h2⟩ <;> rw [h1,h2]
  ·simp
  ·by_cases hn:n < 1
   ·rw [if_pos hn,if_pos hn,if_pos (by lia)]
   ·rw [if_neg hn,if_neg hn]
    have e1:(n - 1 + 0 < b)=(n < 1 + (b - 0)):=propext ⟨fun _=>by lia,fun _=>by lia⟩
    have e2:n - 1 + 0 - b + a=n - (1 + (b - 0)) + (a + (0 - b)):=by lia
    simp only [e1,e2]
  ·rw [if_neg (Nat.not_lt_zero n),if_neg (Nat.not_lt_zero n)]
   have e1:(n - 0 + 1 < b)=(n < 0 + (b - 1)):=propext ⟨fun _=>by lia,fun _=>by lia⟩
   have e2:n - 0 + 1 - b + a=n - (0 + (b - 1)) + (a + (1 - b)):=by lia
   simp only [e1,e2]
def stp (s:List (Nat×D)) (p:Nat×D):List (Nat×D):=if wOf p.2=(0,1) then p::s else if wOf p.2=(1,0) then s.tail else s
def stk (l:List (Nat×D)):List (Nat×D):=l.foldl stp []
theorem stk_snoc (l:List (Nat×D)) (p:Nat×D):stk (l++[p])=stp (stk l) p:=by simp [stk]
theorem QmA:∀ (r:List (Nat×D)) (n:Nat),bel r n=(stk r.reverse)[n]?
 | [],n=>by simp [bel,stk]
 | p::r,n=>by
  rw [List.reverse_cons,stk_snoc,QeX,QmA r]
  unfold stp lpu ltk
  by_cases h:wOf p.2=(0,1)
  ·rw [h]
   cases n with
   | zero=>simp
   | succ n=>simp
  ·by_cases h2:wOf p.2=(1,0)
   ·rw [h2];simp [List.getElem?_tail]
   ·simp [h,h2]
theorem QlM:∀ r:List (Nat×D),(∀ p∈r,OkR p.2)->(((ttR r).1:Nat):Int)=lk (zs r.reverse)/\(((ttR r).2:Nat):Int)=lf (zs r.reverse)
 | [],_=>⟨rfl,rfl⟩
 | p::r,h=>by
  obtain ⟨i1,i2⟩:=QlM r fun q hq=>h q (List.mem_cons_of_mem _ hq)
  have e:ttR (p::r)=((ttR r).1 + (ltk p - (ttR r).2),lpu p + ((ttR r).2 - ltk p)):=rfl
  have g:=Qiy (zs r.reverse)
  have e2:zs (p::r).reverse=zs r.reverse++[zOf p.2]:=by simp [zs]
  rw [e,e2,QfH,QlR]
  obtain ⟨z,hz⟩:=h p List.mem_cons_self
  obtain ⟨a,d⟩:=p
  cases hz <;> simp (decide:=true) [lpu,ltk,wOf,zOf,lk,lf] <;> lia
theorem Qqv {t:T} (h:∀ p∈t.ds,OkR p.2):Qz [E kPile t]=.ok (.tup [.int ((ttR t.ds.reverse).1:Int),.int ((ttR t.ds.reverse).2:Int)]):=by
 have t1:Qz [E kPile t]=.ok (.tup [.int (lk (zs t.ds)),.int (lf (zs t.ds))]):=Ql1 kPile t
 obtain ⟨e1,e2⟩:=QlM t.ds.reverse fun p hp=>h p (List.mem_reverse.mp hp)
 rw [List.reverse_reverse] at e1 e2
 rw [e1,e2];exact t1
def opK:Option (Nat×D)->D
 | some p=>E kPile (.lf p.1 p.2)
 | none=>.non
def back (L:List T):List (Nat×D):=L.flatMap fun t=>t.ds.reverse
theorem Qoc (L:List T):back L.reverse=(L.flatMap T.ds).reverse:=by
 induction L with
 | nil=>rfl
 | cons t L ih =>
  have e:back (L.reverse++[t])=back L.reverse++back [t]:=by simp [back]
  rw [List.reverse_cons,e,ih]
  simp [back]
theorem Qot:∀ (r:List (Nat×D)) (n:Nat),n < (ttR r).2->∃ p,bel r n=some p
 | [],n,h=>by simp [ttR] at h
 | p::r,n,h=>by
  rw [QeX]
  have e:(ttR (p::r)).2=lpu p + ((ttR r).2 - ltk p):=rfl
  rw [e] at h
  by_cases c:n < lpu p
  ·exact ⟨p,by rw [if_pos c]⟩
  ·rw [if_neg c]
   exact Qot r _ (by lia)
theorem Qgf (F:List D->Ou D) (L0 e0:Sl):∀ (L:List T),OkL L->(∀ t∈L,∀ q k l r,t=.nd q k l r->∀ e:Nat,F [.lst [E kPile l,E kPile r],.int (e:Int)]=.ok (opK (bel (l.ds++r.ds).reverse e)))->∀ (e:Nat) (s3 s4:Sl),
  (∃ p,bel (back L) e=some p/\forL (gNm 3) (sSeq (sSet 4 (Qg (Qz) [(Qh 3)])) (sSeq (sIf (fAsB (f2 gLt (fVar 2) (f2 gIx (fVar 4) (fC (.int 1))))) (sSeq (sRet (fIfE (fTru (Qg (QK) [(fVar 3)])) (fVar 3) (Qg (F) [(Qg (Qcx) [(fVar 3)]),(fVar 2)]))) Qf) Qf) (sSeq (sSet 2 (f2 gAdd (f2 gSub (fVar 2) (f2 gIx (fVar 4) (fC (.int 1)))) (f2 gIx (fVar 4) (fC (.int 0))))) Qf))) (L.map (E kPile)) [L0,e0,.val (.int (e:Int)),s3,s4]=.ok (.rt (E kPile (.lf p.1 p.2)))) \/
  (bel (back L) e=none/\∃ δ',forL (gNm 3) (sSeq (sSet 4 (Qg (Qz) [(Qh 3)])) (sSeq (sIf (fAsB (f2 gLt (fVar 2) (f2 gIx (fVar 4) (fC (.int 1))))) (sSeq (sRet (fIfE (fTru (Qg (QK) [(fVar 3)])) (fVar 3) (Qg (F) [(Qg (Qcx) [(fVar 3)]),(fVar 2)]))) Qf) Qf) (sSeq (sSet 2 (f2 gAdd (f2 gSub (fVar 2) (f2 gIx (fVar 4) (fC (.int 1)))) (f2 gIx (fVar 4) (fC (.int 0))))) Qf))) (L.map (E kPile)) [L0,e0,.val (.int (e:Int)),s3,s4]=.ok (.nx δ'))
 | [],_,_,e,s3,s4=>.inr ⟨rfl,_,rfl⟩
 | t::L,hL,hF,e,s3,s4=>by
  have t1:=Qqv (hL t List.mem_cons_self).2
  have eb:bel (back (t::L)) e=if e < (ttR t.ds.reverse).2 then bel t.ds.reverse e else bel (back L) (e - (ttR t.ds.reverse).2 + (ttR t.ds.reverse).1):=by
   show bel (t.ds.reverse++back L) e=_
   rw [Qmv]
  rw [eb,List.map_cons]
  by_cases c:e < (ttR t.ds.reverse).2
  ·rw [if_pos c]
   obtain ⟨p,hp⟩:=Qot _ _ c
   refine .inl ⟨p,hp,?_⟩
   have c':(e:Int) < ((ttR t.ds.reverse).2:Int):=by lia
   cases t with
   | lf a d =>
    have l:=QjO kPile a d
    have ep:p=(a,d):=by
     have e1:bel [(a,d)] e=some p:=hp
     rw [QeX] at e1
     by_cases h:e < lpu (a,d)
     ·rw [if_pos h] at e1;exact (Option.some.inj e1).symm
     ·rw [if_neg h] at e1;cases e1
    subst ep
    generalize ttR (T.lf a d).ds.reverse=z2 at *
    generalize E kPile (.lf a d)=z at *
    simp only [forL,e_nm,Qad,List.set]
    simp? [t1,c',l]
   | nd q k l r =>
    have ln:=Qhg kPile q k l r
    have f:=hF (.nd q k l r) List.mem_cons_self q k l r rfl e
    have e1:bel (l.ds++r.ds).reverse e=some p:=hp
    rw [e1] at f
    have ex:E kPile (.nd q k l r)=.tup [.int ((q * 2 ^ (k + 1):Nat):Int),.int ((2 ^ (k + 1):Nat):Int),kPile.en (QM (V l) (V r)),E kPile l,E kPile r]:=rfl
    rw [ex] at t1 ln ⊢
    change F [.lst [E kPile l,E kPile r],.int (e:Int)]=.ok (E kPile (.lf p.1 p.2)) at f
    generalize ttR (T.nd q k l r).ds.reverse=z2 at *
    generalize E kPile (.lf p.1 p.2)=z9 at *
    generalize ((q * 2 ^ (k + 1):Nat):Int)=z1 at *
    generalize ((2 ^ (k + 1):Nat):Int)=z22 at *
    generalize kPile.en (QM (V l) (V r))=z3 at *
    generalize E kPile l=z4 at *
    generalize E kPile r=z5 at *
    simp only [forL,e_nm,Qad,List.set]
    simp? [t1,c',ln,Qcx,Qhh,f]
  ·rw [if_neg c]
   have c':¬ (e:Int) < ((ttR t.ds.reverse).2:Int):=by lia
   have es:(e:Int) - ((ttR t.ds.reverse).2:Int) + ((ttR t.ds.reverse).1:Int)=((e - (ttR t.ds.reverse).2 + (ttR t.ds.reverse).1:Nat):Int):=by lia
   rcases Qgf F L0 e0 L (fun t ht=>hL t (List.mem_cons_of_mem _ ht)) (fun t ht=>hF t (List.mem_cons_of_mem _ ht)) (e - (ttR t.ds.reverse).2 + (ttR t.ds.reverse).1) (.val (E kPile t)) (.val (.tup [.int ((ttR t.ds.reverse).1:Int),.int ((ttR t.ds.reverse).2:Int)])) with ⟨p,h1,h2⟩ | ⟨h1,δ',h2⟩
   ·refine .inl ⟨p,h1,?_⟩
    rw [← h2,← es]
    generalize ttR t.ds.reverse=z2 at *
    generalize E kPile t=z at *
    simp only [forL,e_nm,Qad,List.set]
    simp? [t1,c']
   ·refine .inr ⟨h1,δ',?_⟩
    rw [← h2,← es]
    generalize ttR t.ds.reverse=z2 at *
    generalize E kPile t=z at *
    simp only [forL,e_nm,Qad,List.set]
    simp? [t1,c']
theorem Qi8:∀ (n:Nat) (L:List T) (e:Nat),OkL L->(∀ t∈L,t.e < n)->0 < n->QI n [.lst (L.map (E kPile)),.int (e:Int)]=.ok (opK (bel (L.flatMap T.ds).reverse e))
 | 0,_,_,_,_,h=>by lia
 | n + 1,L,e,hL,hn,_=>by
  have hu:QI (n + 1) [.lst (L.map (E kPile)),.int (e:Int)]=runD false 5 (QcU (QI n)) [.lst (L.map (E kPile)),.int (e:Int)]:=rfl
  rw [hu]
  have hF:∀ t∈L.reverse,∀ q k l r,t=.nd q k l r->∀ e:Nat,QI n [.lst [E kPile l,E kPile r],.int (e:Int)]=.ok (opK (bel (l.ds++r.ds).reverse e)):=by
   rintro t ht q k l r rfl e
   rw [List.mem_reverse] at ht
   obtain ⟨G,hd⟩:=hL _ ht
   have he:=hn _ ht
   obtain ⟨hl,hr,el,er,_⟩:=QkB G
   have he':k + 1 < n + 1:=he
   have ih:=Qi8 n [l,r] e (fun t ht=>by
    simp only [List.mem_cons,List.not_mem_nil,or_false] at ht
    rcases ht with rfl | rfl
    ·exact ⟨hl,fun p hp=>hd p (List.mem_append_left _ hp)⟩
    ·exact ⟨hr,fun p hp=>hd p (List.mem_append_right _ hp)⟩) (fun t ht=>by
    simp only [List.mem_cons,List.not_mem_nil,or_false] at ht
    rcases ht with rfl | rfl <;> lia) (by lia)
   simpa using ih
  generalize QI n=F at *
  have hv:∀ s3 s4 G B,QoN (Qh 0) G B [.val (.lst (L.map (E kPile))),.val (.int (e:Int)),.val (.int (e:Int)),s3,s4]=forL G B (L.reverse.map (E kPile)) [.val (.lst (L.map (E kPile))),.val (.int (e:Int)),.val (.int (e:Int)),s3,s4]:=by
   intro s3 s4 G B
   rw [List.map_reverse]
   rfl
  rw [← Qoc]
  rcases Qgf F (.val (.lst (L.map (E kPile)))) (.val (.int (e:Int))) L.reverse (fun t ht=>hL t (List.mem_reverse.mp ht)) hF e .un .un with ⟨p,h1,h2⟩ | ⟨h1,δ',h2⟩
  ·rw [h1]
   show _=Ou.ok (E kPile (.lf p.1 p.2))
   generalize E kPile (.lf p.1 p.2)=z at *
   generalize L.reverse.map (E kPile)=M' at *
   generalize L.map (E kPile)=M at *
   simp? [QcU,hv,h2]
  ·rw [h1]
   show _=Ou.ok D.non
   generalize L.reverse.map (E kPile)=M' at *
   generalize L.map (E kPile)=M at *
   simp? [QcU,hv,h2]
theorem QnU:∀ r:List (Nat×D),(ttR r).2=(stk r.reverse).length
 | []=>rfl
 | p::r=>by
  have ih:=QnU r
  have e:(ttR (p::r)).2=lpu p + ((ttR r).2 - ltk p):=rfl
  rw [e,List.reverse_cons,stk_snoc,ih]
  unfold stp lpu ltk
  by_cases h:wOf p.2=(0,1)
  ·rw [h];simp;lia
  ·by_cases h2:wOf p.2=(1,0)
   ·rw [h2];simp
   ·simp [h,h2]
theorem QjR:∀ r:List (Nat×D),(stk r.reverse).Sublist r
 | []=>List.Sublist.refl _
 | p::r=>by
  have ih:=QjR r
  rw [List.reverse_cons,stk_snoc]
  unfold stp
  split
  ·exact ih.cons₂ p
  ·split
   ·exact ((List.tail_sublist _).trans ih).cons p
   ·exact ih.cons p
theorem stk_put {l:List (Nat×D)}:∀ p∈stk l,p∈l/\wOf p.2=(0,1):=by
 suffices h:∀ r:List (Nat×D),∀ p∈stk r.reverse,wOf p.2=(0,1) by
  intro p hp
  have e:l.reverse.reverse=l:=List.reverse_reverse l
  refine ⟨?_,h l.reverse p (by rw [e];exact hp)⟩
  have:=(QjR l.reverse).subset
  rw [e] at this
  exact List.mem_reverse.mp (this hp)
 intro r
 induction r with
 | nil=>intro p hp;cases hp
 | cons x r ih =>
  intro p hp
  rw [List.reverse_cons,stk_snoc] at hp
  unfold stp at hp
  split at hp
  ·rename_i hx
   rcases List.mem_cons.mp hp with rfl | hp
   ·exact hx
   ·exact ih p hp
  ·split at hp
   ·exact ih p (List.mem_of_mem_tail hp)
   ·exact ih p hp
theorem put_form2 {d:D} (h:OkR d) (hz:wOf d=(0,1)):∃ x,d=.tup [.str "put",.int x]:=by
 obtain ⟨z,h⟩:=h
 cases h with
 | put x=>exact ⟨x,rfl⟩
 | take=>exact absurd hz (by decide)
 | many=>exact absurd hz (by decide)
 | look x _=>exact absurd (show ((0,0):Int×Int)=(0,1) from hz) (by decide)
def sd (l:List (Nat×D)):List Pt2:=(stk l).map ptOf
theorem Qij {L:List T} (hL:OkL L) (n:Nat):QI 64 [.lst (L.map (E kPile)),.int (n:Int)]=.ok (opK (stk (L.flatMap T.ds))[n]?):=by
 have b:=Qi8 64 L n hL (fun t ht=>by have:=depth (hL t ht).1;lia) (by decide)
 rw [QmA,List.reverse_reverse] at b
 exact b
theorem QlG {l:List (Nat×D)} (hok:∀ p∈l,OkR p.2) (n:Nat):Qv [opK (stk l)[n]?]=.ok (numO (sd l)[n]?)/\QaW [opK (stk l)[n]?]=.ok (timO (sd l)[n]?):=by
 have e:(sd l)[n]? = (stk l)[n]?.map ptOf:=by unfold sd;rw [List.getElem?_map]
 rw [e]
 cases h:(stk l)[n]? with
 | none=>exact ⟨by simp? [Qv,Qbr,opK,numO,Option.map,gIsN],by simp? [QaW,QcA,opK,timO,Option.map,gIsN]⟩
 | some p =>
  obtain ⟨h1,h2⟩:=stk_put p (List.mem_of_getElem? h)
  obtain ⟨x,hx⟩:=put_form2 (hok p h1) h2
  obtain ⟨a,d⟩:=p
  simp only at hx
  subst hx
  have eo:opK (some (a,.tup [.str "put",.int x]))=.tup [.int (a:Int),.int 1,kPile.en (QO a (.tup [.str "put",.int x])),.tup [.str "put",.int x]]:=rfl
  rw [eo]
  generalize kPile.en (QO a (.tup [.str "put",.int x]))=z at *
  exact ⟨by simp? [Qv,Qbr,gIsN,numO,Option.map,ptOf],by simp? [QaW,QcA,gIsN,timO,Option.map,ptOf]⟩
theorem Qlr {L:List T} (hL:OkL L) (h63:(L.flatMap T.ds).length<=63):∃ a,Qp [.obj "Pile",.lst (L.map (E kPile))]=.ok (.tup [.int a,.int ((stk (L.flatMap T.ds)).length:Int)]):=by
 have r:Qp [.obj "Pile",.lst (L.map (E kPile))]=.ok (.tup [.int (lk (zs (L.flatMap T.ds))),.int (lf (zs (L.flatMap T.ds)))]):=Qcg kPile (L:=L) h63
 obtain ⟨_,e2⟩:=QlM (L.flatMap T.ds).reverse fun p hp=>QcZ hL p (List.mem_reverse.mp hp)
 have t:=QnU (L.flatMap T.ds).reverse
 rw [List.reverse_reverse] at e2 t
 rw [← e2,t] at r
 exact ⟨_,r⟩
theorem pile_answer {L:List T} (hL:OkL L) (h63:(L.flatMap T.ds).length<=63) {q:D} {o:Option Nat} (hq:Qs q o):Qal [.obj "Pile",.lst (L.map (E kPile)),q]=.ok (dueO (sd (L.flatMap T.ds)) o):=by
 cases o with
 | none =>
  obtain ⟨a,r⟩:=Qlr hL h63
  cases hq
  have e:dueO (sd (L.flatMap T.ds)) none=.int ((stk (L.flatMap T.ds)).length:Int):=by unfold dueO sd;rw [List.length_map]
  rw [e]
  generalize ((stk (L.flatMap T.ds)).length:Int)=x at *
  generalize L.map (E kPile)=M at *
  simp? [Qal,Qdg,r]
 | some n =>
  have b:=Qij hL n
  have p:=(QlG (QcZ hL) n).1
  have a:=Qhm hq
  obtain ⟨w,r,rfl,hw⟩:=QdG hq
  show _=Ou.ok (numO (sd (L.flatMap T.ds))[n]?)
  generalize numO (sd (L.flatMap T.ds))[n]? = x at *
  generalize opK (stk (L.flatMap T.ds))[n]? = y at *
  generalize L.map (E kPile)=M at *
  simp? [Qal,Qdg,hw,a,b,p]
theorem pile_source {L:List T} (hL:OkL L) {q:D} {o:Option Nat} (hq:Qs q o):Qaj [.obj "Pile",.lst (L.map (E kPile)),q]=.ok (srcO (sd (L.flatMap T.ds)) o):=by
 cases o with
 | none =>
  cases hq
  generalize L.map (E kPile)=M at *
  simp? [Qaj,Qdd,srcO]
 | some n =>
  have b:=Qij hL n
  have p:=(QlG (QcZ hL) n).2
  have a:=Qhm hq
  obtain ⟨w,r,rfl,hw⟩:=QdG hq
  show _=Ou.ok (timO (sd (L.flatMap T.ds))[n]?)
  generalize timO (sd (L.flatMap T.ds))[n]? = x at *
  generalize opK (stk (L.flatMap T.ds))[n]? = y at *
  generalize L.map (E kPile)=M at *
  simp? [Qaj,Qdd,hw,a,b,p]
theorem QnY (m:Nat):rngS ((m:Int) - 1) (-1) m=(List.range m).reverse.map fun (k:Nat)=>D.int (k:Int):=by
 apply List.ext_getElem?
 intro i
 unfold rngS
 rw [List.getElem?_map,List.getElem?_map]
 by_cases h:i < m
 ·rw [List.getElem?_range h,List.getElem?_reverse (by rw [List.length_range];exact h),List.length_range,List.getElem?_range (by lia)]
  simp only [Option.map_some]
  congr 2
  lia
 ·rw [List.getElem?_eq_none (by rw [List.length_range];lia),List.getElem?_eq_none (by rw [List.length_reverse,List.length_range];lia)];rfl
theorem Qde {L:List T} (hL:OkL L):∀ (ks:List Nat) (s0:Sl),QaE (gNm 0) fYes (Qg (Qv) [(Qg (QI 64) [(Qh 1),(Qh 0)])]) (ks.map fun (k:Nat)=>D.int (k:Int)) [s0,.val (.lst (L.map (E kPile)))]=.ok (ks.map fun k=>numO (sd (L.flatMap T.ds))[k]?)
 | [],s0=>rfl
 | k::ks,s0=>by
  have ih:=Qde hL ks (.val (.int (k:Int)))
  have b:=Qij hL k
  have np:=(QlG (QcZ hL) k).1
  rw [List.map_cons,List.map_cons]
  simp only [QaE,e_nm,Qad,List.set]
  generalize opK (stk (L.flatMap T.ds))[k]? = w at *
  generalize numO (sd (L.flatMap T.ds))[k]? = x at *
  generalize (ks.map fun (k:Nat)=>D.int (k:Int))=R at *
  generalize (ks.map fun k=>numO (sd (L.flatMap T.ds))[k]?)=Y at *
  generalize (k:Int)=j at *
  generalize L.map (E kPile)=M at *
  generalize QI 64=P at *
  simp? [fYes,b,np,ih]
theorem Qoi (r:List Pt2):((List.range r.length).map fun k=>numO r[k]?)=r.map fun p=>D.int p.1:=by
 apply List.ext_getElem?
 intro i
 rw [List.getElem?_map,List.getElem?_map]
 by_cases h:i < r.length
 ·rw [List.getElem?_range h,List.getElem?_eq_getElem h,Option.map_some,List.getElem?_eq_getElem h];rfl
 ·rw [List.getElem?_eq_none (by rw [List.length_range];lia),List.getElem?_eq_none (by lia)];rfl
theorem Qo6 (l:List (Nat×D)):(stk l).length<=l.length:=by
 have:=(QjR l.reverse).length_le
 rw [List.reverse_reverse,List.length_reverse] at this
 exact this
theorem pile_stand {L:List T} (hL:OkL L) (h63:(L.flatMap T.ds).length<=63):QaV [.obj "Pile",.lst (L.map (E kPile))]=.ok (.lst ((sd (L.flatMap T.ds)).map fun p=>D.int p.1).reverse):=by
 obtain ⟨a,r⟩:=Qlr hL h63
 have hsl:=Qo6 (L.flatMap T.ds)
 have c:=Qde hL (List.range (stk (L.flatMap T.ds)).length).reverse .un
 rw [← QnY,List.map_reverse] at c
 have e:=Qoi (sd (L.flatMap T.ds))
 have el:(sd (L.flatMap T.ds)).length=(stk (L.flatMap T.ds)).length:=by unfold sd;rw [List.length_map]
 rw [el] at e
 rw [e] at c
 have h1:rOkD (((stk (L.flatMap T.ds)).length:Int) - 1)=true:=by simp [rOkD];lia
 have h2:rOkD (-1)=true:=by decide
 have h3:Qfn (((stk (L.flatMap T.ds)).length:Int) - 1) (-1)=(stk (L.flatMap T.ds)).length:=by unfold Qfn;lia
 have h4:(stk (L.flatMap T.ds)).length<=sizeLine:=Nat.le_of_lt (Qap (by lia))
 generalize ((sd (L.flatMap T.ds)).map fun p=>D.int p.1).reverse=Y at *
 generalize (stk (L.flatMap T.ds)).length=m at *
 generalize L.map (E kPile)=M at *
 simp? [QaV,Qff,r,QbT,Qkc,h1,h2,h3,Qf1,h4,dsIn,slIn,c]
end Pl
end
section
open Tr
def vs (l:List (Nat×D)):List Int:=(Ln.pu l).map fun p=>(ptOf p).1
def Mon (f:Bool) (l:List (Nat×D)):Prop:=(vs l).Pairwise fun a b=>if f=true then b < a else a < b
theorem QjV (a b:List (Nat×D)):vs (a++b)=vs a++vs b:=by unfold vs;rw [Ln.pu_app,List.map_append]
theorem Qim (l:List (Nat×D)) (p:Nat×D):bagL (l++[p])=(Bgk.Bg.step (Bgk.run (Bgk.opsL l)) (Bgk.opOf p.1 p.2)).left:=by
 unfold bagL
 rw [Bgk.opsL_app]
 unfold Bgk.run
 rw [List.foldl_append]
 rfl
theorem Qmt (l:List (Nat×D)) (a:Nat) (x:Int):bagL (l++[(a,.tup [.str "put",.int x])])=Qu (bagL l++[(x,(a:Int))]):=by
 rw [Qim]
 have eo:Bgk.opOf a (.tup [.str "put",.int x])=.put (x,(a:Int)):=by simp [Bgk.opOf]
 rw [eo];rfl
theorem Qlb (l:List (Nat×D)) (a:Nat):bagL (l++[(a,.tup [.str "take"])])=(bagL l).tail:=by
 rw [Qim]
 have eo:Bgk.opOf a (.tup [.str "take"])=.take:=by simp [Bgk.opOf]
 rw [eo]
 unfold bagL
 generalize Bgk.run (Bgk.opsL l)=b
 obtain ⟨k,g,r⟩:=b
 cases r <;> rfl
theorem QmP (l:List (Nat×D)) {a:Nat} {d:D} (h:OkR d) (h0:zOf d=0):bagL (l++[(a,d)])=bagL l:=by
 rw [Qim]
 have eo:Bgk.opOf a d=.oth:=by
  obtain ⟨z,h⟩:=h
  cases h with
  | put x=>exact absurd (show (1:Int)=0 from h0) (by decide)
  | take=>exact absurd h0 (by decide)
  | many=>simp (decide:=true) [Bgk.opOf]
  | look x hx=>simp (decide:=true) [Bgk.opOf]
 show (Bgk.Bg.step (Bgk.run (Bgk.opsL l)) (Bgk.opOf a d)).left=_
 rw [eo];rfl
theorem Qgp {p:Nat×D}:Ln.pu [p]=if zOf p.2=1 then [p] else []:=by
 unfold Ln.pu
 by_cases h:zOf p.2=1
 ·rw [List.filter_cons_of_pos (by simpa using h),if_pos h];rfl
 ·rw [List.filter_cons_of_neg (by simpa using h),if_neg h];rfl
theorem Qqi {l:List (Nat×D)} {q:Pt2} (h:q∈Ln.sd l):q.1∈vs l:=by
 unfold Ln.sd at h
 obtain ⟨p,hp,rfl⟩:=List.mem_map.mp h
 exact List.mem_map.mpr ⟨p,List.mem_of_mem_drop hp,rfl⟩
theorem QoR {a b:Int×Int} (h:a.1 < b.1):Tim.plt b a=false:=by
 cases e:Tim.plt b a with
 | false=>rfl
 | true=>rcases Tim.plt_iff.mp e with h' | ⟨h',_⟩ <;> lia
theorem Qlq:∀ r:List (Nat×D),(∀ p∈r,OkR p.2)->Mon false r.reverse->bagL r.reverse=Ln.sd r.reverse
 | [],_,_=>rfl
 | (a,d)::r,hok,hm=>by
  rw [List.reverse_cons] at hm ⊢
  have hd:=hok (a,d) List.mem_cons_self
  unfold Mon at hm
  rw [QjV,List.pairwise_append] at hm
  obtain ⟨m1,_,m3⟩:=hm
  have ih:=Qlq r (fun p hp=>hok p (List.mem_cons_of_mem _ hp)) m1
  generalize r.reverse=l at *
  have hgl:=Ln.gn_le l
  obtain ⟨z,hz⟩:=hd
  have oth:zOf d=0->bagL (l++[(a,d)])=Ln.sd (l++[(a,d)]):=fun h0=>by
   rw [QmP l ⟨z,hz⟩ h0,ih]
   unfold Ln.sd
   rw [Ln.pu_app,Qgp,if_neg (show ¬ zOf d=1 by rw [h0];decide),List.append_nil,Ln.gn_put (show zOf d≠-1 by rw [h0];decide)]
  cases hz with
  | many=>exact oth rfl
  | look x hx=>exact oth rfl
  | put x =>
   have e:Ln.sd (l++[(a,.tup [.str "put",.int x])])=Ln.sd l++[(x,(a:Int))]:=by
    unfold Ln.sd
    rw [Ln.pu_app,Qgp,if_pos (show zOf (.tup [.str "put",.int x])=1 from rfl),Ln.gn_put (show zOf (.tup [.str "put",.int x])≠-1 by show (1:Int)≠-1;decide),List.drop_append_of_le_length hgl,List.map_append]
    rfl
   rw [e,Qmt,ih]
   refine Bgk.ps_self ?_
   have hs:Bgk.Srt (Ln.sd l):=by
    have h0:((Ln.pu l).map ptOf).Pairwise (fun a b=>Tim.plt b a=false):=by
     unfold vs at m1
     rw [List.pairwise_map] at m1 ⊢
     exact m1.imp fun h=>QoR (by simpa using h)
    exact h0.sublist ((List.drop_sublist _ _).map _)
   refine List.pairwise_append.mpr ⟨hs,List.pairwise_singleton _ _,fun q hq p hp=>?_⟩
   simp only [List.mem_singleton] at hp
   subst hp
   refine QoR ?_
   have:=m3 q.1 (Qqi hq) x (by unfold vs;rw [Qgp,if_pos (show zOf (.tup [.str "put",.int x])=1 from rfl)];simp [ptOf])
   simpa using this
  | take =>
   rw [Qlb,ih]
   unfold Ln.sd
   rw [Ln.pu_app,Qgp,if_neg (show ¬ zOf (.tup [.str "take"])=1 by decide),List.append_nil,Ln.gn_take (show zOf (.tup [.str "take"])=-1 from rfl)]
   by_cases c:Ln.gn l < (Ln.pu l).length
   ·rw [if_pos c,← List.map_tail,List.tail_drop]
   ·rw [if_neg c,List.drop_eq_nil_of_le (by lia)];rfl
theorem Qpb {l:List (Nat×D)} (hok:∀ p∈l,OkR p.2) {q:Pt2} (h:q∈Pl.sd l):q.1∈vs l:=by
 unfold Pl.sd at h
 obtain ⟨p,hp,rfl⟩:=List.mem_map.mp h
 obtain ⟨h1,h2⟩:=Pl.stk_put p hp
 obtain ⟨x,hx⟩:=Pl.put_form2 (hok p h1) h2
 refine List.mem_map.mpr ⟨p,List.mem_filter.mpr ⟨h1,?_⟩,rfl⟩
 rw [hx];rfl
theorem Qld:∀ r:List (Nat×D),(∀ p∈r,OkR p.2)->Mon true r.reverse->bagL r.reverse=Pl.sd r.reverse/\Bgk.Srt (Pl.sd r.reverse)
 | [],_,_=>⟨rfl,.nil⟩
 | (a,d)::r,hok,hm=>by
  rw [List.reverse_cons] at hm ⊢
  have hd:=hok (a,d) List.mem_cons_self
  unfold Mon at hm
  rw [QjV,List.pairwise_append] at hm
  obtain ⟨m1,_,m3⟩:=hm
  have hok':∀ p∈r.reverse,OkR p.2:=fun p hp=>hok p (List.mem_cons_of_mem _ (List.mem_reverse.mp hp))
  obtain ⟨ih,is⟩:=Qld r (fun p hp=>hok p (List.mem_cons_of_mem _ hp)) m1
  generalize r.reverse=l at *
  obtain ⟨z,hz⟩:=hd
  have oth:zOf d=0->Pl.wOf d=(0,0)->bagL (l++[(a,d)])=Pl.sd (l++[(a,d)])/\Bgk.Srt (Pl.sd (l++[(a,d)])):=fun h0 h1=>by
   have e:Pl.sd (l++[(a,d)])=Pl.sd l:=by
    unfold Pl.sd
    rw [Pl.stk_snoc]
    unfold Pl.stp
    rw [if_neg (show ¬ Pl.wOf d=(0,1) by rw [h1];decide),if_neg (show ¬ Pl.wOf d=(1,0) by rw [h1];decide)]
   rw [e,QmP l ⟨z,hz⟩ h0]
   exact ⟨ih,is⟩
  cases hz with
  | many=>exact oth rfl rfl
  | look x hx=>exact oth rfl rfl
  | put x =>
   have e:Pl.sd (l++[(a,.tup [.str "put",.int x])])=(x,(a:Int))::Pl.sd l:=by
    unfold Pl.sd
    rw [Pl.stk_snoc]
    unfold Pl.stp
    rw [if_pos (show Pl.wOf (.tup [.str "put",.int x])=(0,1) from rfl)]
    rfl
   have hs:Bgk.Srt ((x,(a:Int))::Pl.sd l):=by
    refine List.pairwise_cons.mpr ⟨fun q hq=>QoR ?_,is⟩
    have:=m3 q.1 (Qpb hok' hq) x (by unfold vs;rw [Qgp,if_pos (show zOf (.tup [.str "put",.int x])=1 from rfl)];simp [ptOf])
    simpa using this
   rw [e,Qmt,ih]
   refine ⟨Bgk.ps_uniq ?_ hs,hs⟩
   exact (List.perm_append_singleton _ _).symm
  | take =>
   have e:Pl.sd (l++[(a,.tup [.str "take"])])=(Pl.sd l).tail:=by
    unfold Pl.sd
    rw [Pl.stk_snoc]
    unfold Pl.stp
    rw [if_neg (show ¬ Pl.wOf (.tup [.str "take"])=(0,1) by decide),if_pos (show Pl.wOf (.tup [.str "take"])=(1,0) from rfl),List.map_tail]
   rw [e,Qlb,ih]
   exact ⟨rfl,is.sublist (List.tail_sublist _)⟩
theorem Mon.filter {f:Bool} {l:List (Nat×D)} (h:Mon f l) (g:Nat×D->Bool):Mon f (l.filter g):=by
 refine List.Pairwise.sublist ?_ h
 exact (List.filter_sublist.filter _).map _
def kOf:Bool->Kd
 | true=>kPile
 | false=>kLine
def sdO:Bool->List (Nat×D)->List Pt2
 | true=>Pl.sd
 | false=>Ln.sd
theorem QnZ {f:Bool} {l:List (Nat×D)} (hok:∀ p∈l,OkR p.2) (h:Mon f l):bagL l=sdO f l:=by
 have e:l.reverse.reverse=l:=List.reverse_reverse l
 cases f with
 | true =>
  have:=(Qld l.reverse (fun p hp=>hok p (List.mem_reverse.mp hp)) (by rw [e];exact h)).1
  rw [e] at this;exact this
 | false =>
  have:=Qlq l.reverse (fun p hp=>hok p (List.mem_reverse.mp hp)) (by rw [e];exact h)
  rw [e] at this;exact this
theorem QnS (r:List Pt2) (o:Option Nat):QA [dueO r o]=.ok (.bl true)/\gEq (dueO r o) (dueO r o)=.ok (.bl true):=by
 have i:∀ x:Int,QA [.int x]=.ok (.bl true)/\gEq (.int x) (.int x)=.ok (.bl true):=fun x=>⟨by simp? [QA,Qcd,Qcq,Qc4,gIsN],(Self.int x).eq (by decide)⟩
 have n:QA [.non]=.ok (.bl true)/\gEq .non .non=.ok (.bl true):=⟨by simp? [QA,Qcd,gIsN],Self.non.eq (by decide)⟩
 cases o with
 | none=>exact i _
 | some k =>
  show QA [numO r[k]?]=_/\gEq (numO r[k]?) (numO r[k]?)=_
  cases r[k]? with
  | none=>exact n
  | some p=>exact i p.1
theorem Qow (r:List Pt2) (o:Option Nat):QA [srcO r o]=.ok (.bl true)/\gEq (srcO r o) (srcO r o)=.ok (.bl true):=by
 have i:∀ x:Int,QA [.int x]=.ok (.bl true)/\gEq (.int x) (.int x)=.ok (.bl true):=fun x=>⟨by simp? [QA,Qcd,Qcq,Qc4,gIsN],(Self.int x).eq (by decide)⟩
 have n:QA [.non]=.ok (.bl true)/\gEq .non .non=.ok (.bl true):=⟨by simp? [QA,Qcd,gIsN],Self.non.eq (by decide)⟩
 cases o with
 | none=>exact n
 | some k =>
  show QA [timO r[k]?]=_/\gEq (timO r[k]?) (timO r[k]?)=_
  cases r[k]? with
  | none=>exact n
  | some p=>exact i p.2
theorem QoI {f:Bool} {L L':List T} (hL:OkL L) (hL':OkL L') (he:L'.flatMap T.ds=L.flatMap T.ds) (hm:Mon f (L.flatMap T.ds)) (h63:(L.flatMap T.ds).length<=63) {q:D} {o:Option Nat} (hq:Qs q o):Q9 [.obj "Bag",.lst (L.map (E kBag)),.obj (kOf f).C,.lst (L'.map (E (kOf f))),q]=.ok (.bl true):=by
 have c:=QnZ (QcZ hL) hm
 have a1:=QlA h63 hq
 have s1:=Qmf h63 hq
 rw [c] at a1 s1
 have h63':(L'.flatMap T.ds).length<=63:=by rw [he];exact h63
 obtain ⟨t1,g1⟩:=QnS (sdO f (L.flatMap T.ds)) o
 obtain ⟨t2,g2⟩:=Qow (sdO f (L.flatMap T.ds)) o
 cases f with
 | true =>
  have a2:=Pl.pile_answer hL' h63' hq
  have s2:=Pl.pile_source hL' hq
  rw [he] at a2 s2
  have a1':Q8 [.obj "Bag",.lst (L.map (E kBag)),q]=.ok (dueO (Pl.sd (L.flatMap T.ds)) o):=a1
  have s1':Q7 [.obj "Bag",.lst (L.map (E kBag)),q]=.ok (srcO (Pl.sd (L.flatMap T.ds)) o):=s1
  show Q9 [.obj "Bag",.lst (L.map (E kBag)),.obj "Pile",.lst (L'.map (E kPile)),q]=_
  change QA [dueO (Pl.sd (L.flatMap T.ds)) o]=_ at t1
  change QA [srcO (Pl.sd (L.flatMap T.ds)) o]=_ at t2
  change gEq (dueO (Pl.sd (L.flatMap T.ds)) o) (dueO (Pl.sd (L.flatMap T.ds)) o)=_ at g1
  change gEq (srcO (Pl.sd (L.flatMap T.ds)) o) (srcO (Pl.sd (L.flatMap T.ds)) o)=_ at g2
  generalize dueO (Pl.sd (L.flatMap T.ds)) o=x at *
  generalize srcO (Pl.sd (L.flatMap T.ds)) o=y at *
  generalize L.map (E kBag)=M at *
  generalize L'.map (E kPile)=M' at *
  simp? [Q9,Qc2,a1',s1',a2,s2,t1,t2,g1,g2]
 | false =>
  have a2:=Ln.line_answer hL' h63' hq
  have s2:=Ln.line_source hL' h63' hq
  rw [he] at a2 s2
  have a1':Q8 [.obj "Bag",.lst (L.map (E kBag)),q]=.ok (dueO (Ln.sd (L.flatMap T.ds)) o):=a1
  have s1':Q7 [.obj "Bag",.lst (L.map (E kBag)),q]=.ok (srcO (Ln.sd (L.flatMap T.ds)) o):=s1
  show Q9 [.obj "Bag",.lst (L.map (E kBag)),.obj "Line",.lst (L'.map (E kLine)),q]=_
  change QA [dueO (Ln.sd (L.flatMap T.ds)) o]=_ at t1
  change QA [srcO (Ln.sd (L.flatMap T.ds)) o]=_ at t2
  change gEq (dueO (Ln.sd (L.flatMap T.ds)) o) (dueO (Ln.sd (L.flatMap T.ds)) o)=_ at g1
  change gEq (srcO (Ln.sd (L.flatMap T.ds)) o) (srcO (Ln.sd (L.flatMap T.ds)) o)=_ at g2
  generalize dueO (Ln.sd (L.flatMap T.ds)) o=x at *
  generalize srcO (Ln.sd (L.flatMap T.ds)) o=y at *
  generalize L.map (E kBag)=M at *
  generalize L'.map (E kLine)=M' at *
  simp? [Q9,Qc2,a1',s1',a2,s2,t1,t2,g1,g2]
theorem Qm9 {f:Bool} {L L':List T} (hL:OkL L) (hL':OkL L') (he:L'.flatMap T.ds=L.flatMap T.ds) (hm:Mon f (L.flatMap T.ds)) (h63:(L.flatMap T.ds).length<=63):Qag [.obj "Bag",.lst (L.map (E kBag)),.obj (kOf f).C,.lst (L'.map (E (kOf f))),.bl f]=.ok (.bl true):=by
 have c:=QnZ (QcZ hL) hm
 have a1:=QmV h63
 rw [c] at a1
 have h63':(L'.flatMap T.ds).length<=63:=by rw [he];exact h63
 have sf:gEq (.lst ((sdO f (L.flatMap T.ds)).map fun p=>D.int p.1)) (.lst ((sdO f (L.flatMap T.ds)).map fun p=>D.int p.1))=.ok (.bl true):=(Self.lst (n:=1) fun x hx=>by
  obtain ⟨p,_,rfl⟩:=List.mem_map.mp hx
  exact Self.int _).eq (by decide)
 cases f with
 | true =>
  have a2:=Pl.pile_stand hL' h63'
  rw [he] at a2
  have a1':Qat [.obj "Bag",.lst (L.map (E kBag))]=.ok (.lst ((Pl.sd (L.flatMap T.ds)).map fun p=>D.int p.1)):=a1
  show Qag [.obj "Bag",.lst (L.map (E kBag)),.obj "Pile",.lst (L'.map (E kPile)),.bl true]=_
  change gEq (.lst ((Pl.sd (L.flatMap T.ds)).map fun p=>D.int p.1)) (.lst ((Pl.sd (L.flatMap T.ds)).map fun p=>D.int p.1))=_ at sf
  generalize ((Pl.sd (L.flatMap T.ds)).map fun p=>D.int p.1)=x at *
  generalize L.map (E kBag)=M at *
  generalize L'.map (E kPile)=M' at *
  simp? [Qag,QcI,a1',a2,QoA,List.reverse_reverse,sf]
 | false =>
  have a2:=Ln.line_stand hL' h63'
  rw [he] at a2
  have a1':Qat [.obj "Bag",.lst (L.map (E kBag))]=.ok (.lst ((Ln.sd (L.flatMap T.ds)).map fun p=>D.int p.1)):=a1
  show Qag [.obj "Bag",.lst (L.map (E kBag)),.obj "Line",.lst (L'.map (E kLine)),.bl false]=_
  change gEq (.lst ((Ln.sd (L.flatMap T.ds)).map fun p=>D.int p.1)) (.lst ((Ln.sd (L.flatMap T.ds)).map fun p=>D.int p.1))=_ at sf
  generalize ((Ln.sd (L.flatMap T.ds)).map fun p=>D.int p.1)=x at *
  generalize L.map (E kBag)=M at *
  generalize L'.map (E kLine)=M' at *
  simp? [Qag,QcI,a1',a2,sf]
end
section
open Tr
def Bnd (f:Bool) (l:List (Nat×D)) (x:Int):Prop:=∀ v∈vs l,if f=true then x<=v else v<=x
abbrev bRow:Sm:=(sSeq (sSet 8 (Qg (Qax) [(f2 gIx (Qh 2) (fVar 7)),(Qh 7),(Qh 3)])) (sSeq (sIf (fAsB (f2 gEq (f2 gIx (fVar 8) (fC (.int 0))) (fC (.str "put")))) (sSeq (sSet 9 (f2 gAdd (fC (.int 1)) (f2 gMod (f2 gIx (fVar 8) (fC (.int 1))) (f2 gPow (fC (.int 10)) (fC (.int 60)))))) (sSeq (sIf (fTru (fVar 1)) (sSeq (sSet 9 (f2 gSub (fC (.int 0)) (fVar 9))) Qf) Qf) (sSeq (sSet 5 (f2 gAdd (fVar 5) (fVar 9))) (sSeq (sSet 8 (fTup [(fC (.str "put")),(Qh 5)])) Qf)))) Qf) (sSeq (sApp 6 (fTup [(f2 gIx (Qh 4) (fVar 7)),(Qh 8)])) Qf)))
theorem Qqq (l:List (Nat×D)) (a:Nat) (x:Int):vs (l++[(a,.tup [.str "put",.int x])])=vs l++[x]:=by
 rw [QjV]
 congr 1
theorem Qqk (l:List (Nat×D)) {a:Nat} {d:D} (h:¬ zOf d=1):vs (l++[(a,d)])=vs l:=by
 rw [QjV]
 have:vs [(a,d)]=[]:=by unfold vs;rw [Qgp,if_neg h];rfl
 rw [this,List.append_nil]
theorem QoF (s0:Sl) {cs ts:List Int} (t:Int) (f:Bool) {i:Nat} (hi:i < cs.length) (hti:i < ts.length) (h100:cs.length<=62) (hb:0<=ts[i]) {l:List (Nat×D)} (hl:l.length<=100) (x:Int) (s8 s9:Sl) (hm:Mon f l) (hx:Bnd f l x):∃ d x' s8' s9',bRow [s0,.val (.bl f),.val (.lst (cs.map D.int)),.val (.int t),.val (.lst (ts.map D.int)),.val (.int x),.own (.lst (l.map prD)),.val (.int (i:Int)),s8,s9]=.ok (.nx [s0,.val (.bl f),.val (.lst (cs.map D.int)),.val (.int t),.val (.lst (ts.map D.int)),.val (.int x'),.own (.lst ((l++[(ts[i].toNat,d)]).map prD)),.val (.int (i:Int)),s8',s9'])/\OkR d/\Mon f (l++[(ts[i].toNat,d)])/\Bnd f (l++[(ts[i].toNat,d)]) x':=by
 have e1:=Qhw (ns:=ts) (k:=i) hti
 have e2:=Qhw (ns:=cs) (k:=i) hi
 obtain ⟨d,z,hd,hz⟩:=Qpr cs[i] t (k:=i) (by lia)
 have hM:(l.map prD).length < sizeLine:=by rw [List.length_map];exact Qap (by lia)
 have et:((ts[i].toNat:Nat):Int)=ts[i]:=by lia
 have em:∀ d,(l++[(ts[i].toNat,d)]).map prD=l.map prD++[.tup [.int ts[i],d]]:=fun d=>by
  rw [List.map_append,← et];rfl
 have oth:(∀ w r,d=.tup (.str w::r)->w≠"put")->(∃ w r,d=.tup (.str w::r))->∃ d x' s8' s9',bRow [s0,.val (.bl f),.val (.lst (cs.map D.int)),.val (.int t),.val (.lst (ts.map D.int)),.val (.int x),.own (.lst (l.map prD)),.val (.int (i:Int)),s8,s9]=.ok (.nx [s0,.val (.bl f),.val (.lst (cs.map D.int)),.val (.int t),.val (.lst (ts.map D.int)),.val (.int x'),.own (.lst ((l++[(ts[i].toNat,d)]).map prD)),.val (.int (i:Int)),s8',s9'])/\OkR d/\Mon f (l++[(ts[i].toNat,d)])/\Bnd f (l++[(ts[i].toNat,d)]) x':=fun h1 h2=>by
  obtain ⟨w,r,rfl⟩:=h2
  have hw:=h1 w r rfl
  have hv:=Qqk l (a:=ts[i].toNat) (d:=.tup (.str w::r)) (by
   show ¬ (if w = "put" then (1:Int) else if w = "take" then -1 else 0)=1
   rw [if_neg hw];split <;> decide)
  refine ⟨.tup (.str w::r),x,.val (.tup (.str w::r)),s9,?_,⟨z,hz⟩,by unfold Mon;rw [hv];exact hm,by unfold Bnd;rw [hv];exact hx⟩
  rw [em]
  generalize l.map prD=M at *
  generalize ts[i]=tt at *
  generalize ts.map D.int=TT at *
  generalize cs.map D.int=CC at *
  simp? [e2,hd,hw,e1,sApp,hM]
 cases hz with
 | take=>exact oth (fun w r h=>by cases h;decide) ⟨_,_,rfl⟩
 | many=>exact oth (fun w r h=>by cases h;decide) ⟨_,_,rfl⟩
 | look n hn=>exact oth (fun w r h=>by cases h;decide) ⟨_,_,rfl⟩
 | put v =>
  have g:0<=v % 10 ^ 60:=Int.emod_nonneg _ (by decide)
  have go:∀ x',(∀ u∈vs l,if f=true then x' < u else u < x')->Mon f (l++[(ts[i].toNat,.tup [.str "put",.int x'])])/\Bnd f (l++[(ts[i].toNat,.tup [.str "put",.int x'])]) x':=fun x' h=>by
   unfold Mon Bnd
   rw [Qqq]
   refine ⟨List.pairwise_append.mpr ⟨hm,List.pairwise_singleton _ _,fun u hu w hw=>?_⟩,fun u hu=>?_⟩
   ·simp only [List.mem_singleton] at hw
    subst hw
    exact h u hu
   ·rcases List.mem_append.mp hu with hu | hu
    ·have:=h u hu
     cases f <;> simp at this ⊢ <;> lia
    ·simp only [List.mem_singleton] at hu
     subst hu
     cases f <;> simp
  cases f with
  | true =>
   obtain ⟨g1,g2⟩:=go (x + (0 - (1 + v % 10 ^ 60))) (fun u hu=>by have:=hx u hu;simp at this ⊢;lia)
   refine ⟨.tup [.str "put",.int (x + (0 - (1 + v % 10 ^ 60)))],x + (0 - (1 + v % 10 ^ 60)),.val (.tup [.str "put",.int (x + (0 - (1 + v % 10 ^ 60)))]),.val (.int (0 - (1 + v % 10 ^ 60))),?_,⟨1,.put _⟩,g1,g2⟩
   rw [em]
   generalize l.map prD=M at *
   generalize ts[i]=tt at *
   generalize ts.map D.int=TT at *
   generalize cs.map D.int=CC at *
   simp? [e2,hd,e1,sApp,hM]
  | false =>
   obtain ⟨g1,g2⟩:=go (x + (1 + v % 10 ^ 60)) (fun u hu=>by have:=hx u hu;simp at this ⊢;lia)
   refine ⟨.tup [.str "put",.int (x + (1 + v % 10 ^ 60))],x + (1 + v % 10 ^ 60),.val (.tup [.str "put",.int (x + (1 + v % 10 ^ 60))]),.val (.int (1 + v % 10 ^ 60)),?_,⟨1,.put _⟩,g1,g2⟩
   rw [em]
   generalize l.map prD=M at *
   generalize ts[i]=tt at *
   generalize ts.map D.int=TT at *
   generalize cs.map D.int=CC at *
   simp? [e2,hd,e1,sApp,hM]
structure Rw47 (f:Bool) (ts:List Int) (i:Nat) (l:List (Nat×D)):Prop where
 key:l.map (fun p=>(p.1:Int))=ts.take i
 ok:∀ p∈l,OkR p.2
 mon:Mon f l
theorem Qih (s0:Sl) {cs ts:List Int} (t:Int) (f:Bool) (hc:ts.length=cs.length) (h62:cs.length<=62) (hb:∀ z∈ts,0<=z):∀ (n i:Nat) (l:List (Nat×D)) (x:Int) (s7 s8 s9:Sl),i + n=cs.length->Rw47 f ts i l->Bnd f l x->∃ l' s5' s7' s8' s9',forL (gNm 7) bRow (rng (i:Int) n) [s0,.val (.bl f),.val (.lst (cs.map D.int)),.val (.int t),.val (.lst (ts.map D.int)),.val (.int x),.own (.lst (l.map prD)),s7,s8,s9]=.ok (.nx [s0,.val (.bl f),.val (.lst (cs.map D.int)),.val (.int t),.val (.lst (ts.map D.int)),s5',.own (.lst (l'.map prD)),s7',s8',s9'])/\Rw47 f ts cs.length l'
 | 0,i,l,x,s7,s8,s9,h,R,_=>⟨l,_,s7,s8,s9,rfl,by rw [Nat.add_zero] at h;rw [← h];exact R⟩
 | n + 1,i,l,x,s7,s8,s9,h,R,B=>by
  have hi:i < cs.length:=by lia
  have hti:i < ts.length:=by lia
  have hlen:l.length=i:=by
   have:=congrArg List.length R.key
   rw [List.length_map,List.length_take] at this
   lia
  have hz:=hb ts[i] (List.getElem_mem hti)
  obtain ⟨d,x',s8',s9',q,od,m,b⟩:=QoF s0 (cs:=cs) (ts:=ts) t f hi hti h62 hz (l:=l) (by lia) x s8 s9 R.mon B
  obtain ⟨l',s5',s7',s8'',s9'',Q,R'⟩:=Qih s0 t f hc h62 hb n (i + 1) (l++[(ts[i].toNat,d)]) x' (.val (.int (i:Int))) s8' s9' (by lia) ⟨by
   rw [List.map_append,R.key,List.take_add_one,List.getElem?_eq_getElem hti]
   show _++[((ts[i].toNat:Nat):Int)]=_++[ts[i]]
   have:((ts[i].toNat:Nat):Int)=ts[i]:=by lia
   rw [this],fun p hp=>by
    rcases List.mem_append.mp hp with hp | hp
    ·exact R.ok p hp
    ·simp only [List.mem_singleton] at hp;subst hp;exact od,m⟩ b
  refine ⟨l',s5',s7',s8'',s9'',?_,R'⟩
  have e2:((i + 1:Nat):Int)=(i:Int) + 1:=by lia
  rw [e2] at Q
  rw [Qlu,← Q]
  exact Qmr (δ1:=[s0,.val (.bl f),.val (.lst (cs.map D.int)),.val (.int t),.val (.lst (ts.map D.int)),.val (.int x),.own (.lst (l.map prD)),.val (.int (i:Int)),s8,s9]) rfl q
theorem Qob (ns:List Int):∃ cs:List Int,cutD (ns.map D.int) (some 1) (some 21)=cs.map D.int/\cs.length<=20:=by
 obtain ⟨cs,e,hl⟩:=QpB ns (some 1) (some 21)
 refine ⟨cs,e,?_⟩
 have e1:HT.sIx ns.length 0 (some 1)=min 1 ns.length:=HT.sIx_nat _ _ 1
 have e2:HT.sIx ns.length ns.length (some 21)=min 21 ns.length:=HT.sIx_nat _ _ 21
 have h2:(cutD (ns.map D.int) (some 1) (some 21)).length<=20:=by
  unfold cutD
  rw [List.length_take,List.length_drop,List.length_map,e1,e2]
  lia
 rw [e,List.length_map] at h2
 exact h2
theorem Qqx (ns:List Int) (f:Bool):∃ l:List (Nat×D),Qcz [.frl (ns.map D.int),.bl f]=.ok (.lst (l.map prD))/\l.length<=20/\l.Pairwise (fun x y=>x.1 < y.1)/\(∀ p∈l,p.1 < all/\OkR p.2)/\Mon f l:=by
 obtain ⟨c0,hc0⟩:=QeA ns (k:=0) (by decide)
 obtain ⟨c1,hc1⟩:=QeA ns (k:=1) (by decide)
 obtain ⟨cs,hcut,hcl⟩:=Qob ns
 obtain ⟨ts,ht,htl,hts⟩:=Qop cs c0 (by lia)
 obtain ⟨x0,hx0⟩:=Qju c1 (k:=1) (by decide)
 obtain ⟨l,s5',s7',s8',s9',q,R⟩:=Qih (.val (.frl (ns.map D.int))) (cs:=cs) (ts:=ts) (c0 / 7 % 3) f htl (by lia) (fun z hz=>(hts.bnd z hz).1) cs.length 0 [] x0 .un .un .un (by lia) ⟨rfl,fun p hp=>(by cases hp),List.Pairwise.nil⟩ (fun v hv=>(by cases hv))
 have key:=R.key
 rw [← htl,List.take_length] at key
 have hmem:∀ p∈l,(p.1:Int)∈ts:=fun p hp=>by rw [← key];exact List.mem_map.mpr ⟨p,hp,rfl⟩
 refine ⟨l,?_,?_,?_,fun p hp=>⟨?_,R.ok p hp⟩,R.mon⟩
 ·have hro:rOk (cs.length:Int)=true:=by simp [rOk];lia
  have tn:((cs.length:Int)).toNat=cs.length:=by lia
  have lc:(cs.map D.int).length=cs.length:=List.length_map _
  have x1:QW [.int c1,.int 1]=.ok (.int x0):=hx0
  have e0:((0:Nat):Int)=0:=rfl
  rw [e0] at q
  have q':forL (gNm 7) bRow (rng 0 cs.length) [.val (.frl (ns.map D.int)),.val (.bl f),.val (.lst (cs.map D.int)),.val (.int (c0 / 7 % 3)),.val (.lst (ts.map D.int)),.val (.int x0),.own (.lst []),.un,.un,.un]=_:=q
  generalize l.map prD=Y at *
  generalize ns.map D.int=N at *
  generalize hcc:cs.map D.int=CC at *
  generalize ts.map D.int=TT at *
  simp? [Qcz,QfD,fSl,QkQ,hcut,hc0,hc1,ht,x1,sRng,lc,hro,tn,q',QjE]
 ·have:=congrArg List.length key
  rw [List.length_map] at this
  lia
 ·have h1:=hts.inc
  rw [← key,List.pairwise_map] at h1
  exact h1.imp fun h=>by lia
 ·have:=hts.bnd _ (hmem p hp)
  have hall:all=1073741824:=rfl
  lia
theorem law_true (ns:List Int) (hns:ns.length<=63):QkV [.frl (ns.map D.int)]=.ok (.bl true):=by
 obtain ⟨c0,hc0⟩:=QeA ns (k:=0) (by decide)
 obtain ⟨c1,hc1⟩:=QeA ns (k:=1) (by decide)
 obtain ⟨f,hf⟩:∃ f:Bool,f=decide (c0 / 21 % 2=1):=⟨_,rfl⟩
 obtain ⟨l,hrow,hl,hs,hok,hm⟩:=Qqx ns f
 have hnd:(l.map (·.1)).Nodup:=by
  rw [List.Nodup,List.pairwise_map]
  exact hs.imp fun h=>Nat.ne_of_lt h
 have h63:(kOf f).N=63:=by cases f <;> rfl
 have AB:Al kBag l:=hok
 have AO:Al (kOf f) l:=by cases f <;> exact hok
 obtain ⟨o,t1,B1⟩:=QkL kBag ns AB hnd (by lia) (show l.length<=63 by lia)
 obtain ⟨o',t2,B2⟩:=QkL (kOf f) ns AO hnd (by lia) (by lia)
 have el:dsO o=l:=B1.perm.eq_of_pairwise (le:=fun x y=>x.1 < y.1) (fun x y _ _ h1 h2=>by lia) B1.sorted hs
 have el':dsO o'=l:=B2.perm.eq_of_pairwise (le:=fun x y=>x.1 < y.1) (fun x y _ _ h1 h2=>by lia) B2.sorted hs
 have G:=gd B1
 have G':=gd B2
 have m5:=QqT c1 (m:=5) (by decide)
 obtain ⟨k5,hk5⟩:∃ k:Nat,c1 % 5=(k:Int):=⟨(c1 % 5).toNat,by lia⟩
 have one:∀ e:Nat,e<=all->(∀ q o2,Qs q o2->Q9 [.obj "Bag",.lst ((ahd o e).map (E kBag)),.obj (kOf f).C,.lst ((ahd o' e).map (E (kOf f))),q]=.ok (.bl true))/\Qag [.obj "Bag",.lst ((ahd o e).map (E kBag)),.obj (kOf f).C,.lst ((ahd o' e).map (E (kOf f))),.bl f]=.ok (.bl true):=fun e he=>by
  obtain ⟨d1,g1⟩:=Qn2 G he
  obtain ⟨d2,g2⟩:=Qn2 G' he
  rw [el] at d1
  rw [el'] at d2
  have okp:∀ (L:List T),L.flatMap T.ds=l.filter (fun p=>decide (p.1 < e))->(∀ s∈L,Good s)->OkL L:=fun L h1 h2 t ht=>⟨h2 t ht,fun p hp=>by
   have:p∈L.flatMap T.ds:=List.mem_flatMap.mpr ⟨t,ht,hp⟩
   rw [h1] at this
   exact (hok p (List.mem_filter.mp this).1).2⟩
  have O1:=okp _ d1 g1
  have O2:=okp _ d2 g2
  have hm':Mon f ((ahd o e).flatMap T.ds):=by rw [d1];exact hm.filter _
  have hl':((ahd o e).flatMap T.ds).length<=63:=by
   rw [d1]
   have:=List.length_filter_le (fun p:Nat×D=>decide (p.1 < e)) l
   lia
  exact ⟨fun q o2 hq=>QoI O1 O2 (d2.trans d1.symm) hm' hl' hq,Qm9 O1 O2 (d2.trans d1.symm) hm' hl'⟩
 have kc:∀ g:Bool,(sIf (fTru (fVar 2)) (sSeq (sSet 3 (Qgn "Pile")) Qf) Qf) [.val (.frl (ns.map D.int)),.val (.obj "Bag"),.val (.bl g),.val (.obj "Line"),.un,.un,.un,.un,.un]=.ok (.nx [.val (.frl (ns.map D.int)),.val (.obj "Bag"),.val (.bl g),.val (.obj (kOf g).C),.un,.un,.un,.un,.un]):=fun g=>by
  cases g with
  | true=>show _=Ou.ok (Fl.nx [.val (.frl (ns.map D.int)),.val (.obj "Bag"),.val (.bl true),.val (.obj "Pile"),.un,.un,.un,.un,.un]);simp? []
  | false=>show _=Ou.ok (Fl.nx [.val (.frl (ns.map D.int)),.val (.obj "Bag"),.val (.bl false),.val (.obj "Line"),.un,.un,.un,.un,.un]);simp? []
 refine Qit ((Qj3 (i:=1) (d:=.obj "Bag") rfl).trans ((Qj3 (i:=2) (d:=.bl f) ?_).trans ((Qj3 (i:=3) (d:=.obj "Line") rfl).trans ((QlI (kc f)).trans ((Qj3 (i:=4) (d:=.lst (l.map prD)) ?_).trans ((QlI (δ':=[.val (.frl (ns.map D.int)),.val (.obj "Bag"),.val (.bl f),.val (.obj (kOf f).C),.val (.lst (l.map prD)),.val (EO kBag o),.un,.un,.un]) ?_).trans ((QlI (δ':=[.val (.frl (ns.map D.int)),.val (.obj "Bag"),.val (.bl f),.val (.obj (kOf f).C),.val (.lst (l.map prD)),.val (EO kBag o),.val (EO (kOf f) o'),.un,.un]) ?_).trans ?_)))))))
 ·show (f2 gEq (f2 gMod (f2 gDiv (Qg (QC) [(fVar 0),(fC (.int 0))]) (fC (.int 21))) (fC (.int 2))) (fC (.int 1))) [.val (.frl (ns.map D.int)),.val (.obj "Bag"),.un,.un,.un,.un,.un,.un,.un]=_
  rw [hf]
  simp? [hc0]
 ·show (Qg (Qcz) [(Qh 0),(Qh 2)]) [.val (.frl (ns.map D.int)),.val (.obj "Bag"),.val (.bl f),.val (.obj (kOf f).C),.un,.un,.un,.un,.un]=_
  generalize l.map prD=M at *
  generalize (kOf f).C=cc at *
  simp? [hrow]
 ·show (QgK 5 (Qg (QaR) [(fVar 1),(fVar 4),(fVar 0)])) [.val (.frl (ns.map D.int)),.val (.obj "Bag"),.val (.bl f),.val (.obj (kOf f).C),.val (.lst (l.map prD)),.un,.un,.un,.un]=_
  have t1':QaR [.obj "Bag",.lst (l.map prD),.frl (ns.map D.int)]=.ok (EO kBag o):=t1
  generalize l.map prD=M at *
  generalize (kOf f).C=cc at *
  generalize EO kBag o=w at *
  simp? [QgK,QgJ,t1']
 ·show (QgK 6 (Qg (QaR) [(fVar 3),(fVar 4),(fVar 0)])) [.val (.frl (ns.map D.int)),.val (.obj "Bag"),.val (.bl f),.val (.obj (kOf f).C),.val (.lst (l.map prD)),.val (EO kBag o),.un,.un,.un]=_
  generalize l.map prD=M at *
  generalize EO kBag o=w at *
  generalize EO (kOf f) o'=w' at *
  generalize (kOf f).C=cc at *
  simp? [QgK,QgJ,t2]
 have inner:∀ (e:Nat) (a1 a2:List D) (s4:Sl),Qb1 [EO kBag o,.int (e:Int)]=.ok (.lst a1)->Qb1 [EO (kOf f) o',.int (e:Int)]=.ok (.lst a2)->(∀ q o2,Qs q o2->Q9 [.obj "Bag",.lst a1,.obj (kOf f).C,.lst a2,q]=.ok (.bl true))->∀ (qs:List D),(∀ q∈qs,∃ o2,Qs q o2)->∀ (s8:Sl),∃ s8',forL (gNm 8) (sSeq (sIf (Qey (fTru (Qg (Q9) [(fVar 1),(Qg (Qb1) [(Qh 5),(Qh 7)]),(fVar 3),(Qg (Qb1) [(Qh 6),(Qh 7)]),(fVar 8)]))) (sSeq (sRet (fC (.bl false))) Qf) Qf) Qf) qs [.val (.frl (ns.map D.int)),.val (.obj "Bag"),.val (.bl f),.val (.obj (kOf f).C),s4,.val (EO kBag o),.val (EO (kOf f) o'),.val (.int (e:Int)),s8]=.ok (.nx [.val (.frl (ns.map D.int)),.val (.obj "Bag"),.val (.bl f),.val (.obj (kOf f).C),s4,.val (EO kBag o),.val (EO (kOf f) o'),.val (.int (e:Int)),s8']):=fun e a1 a2 s4 h1 h2 h3 qs=>by
  induction qs with
  | nil=>intro _ s8;exact ⟨s8,rfl⟩
  | cons q qs ih =>
   intro hq s8
   obtain ⟨s8',i⟩:=ih (fun q hq'=>hq q (List.mem_cons_of_mem _ hq')) (.val q)
   refine ⟨s8',?_⟩
   obtain ⟨o2,hq2⟩:=hq q List.mem_cons_self
   have a:=h3 q o2 hq2
   rw [← i]
   refine Qmr (δ1:=[.val (.frl (ns.map D.int)),.val (.obj "Bag"),.val (.bl f),.val (.obj (kOf f).C),s4,.val (EO kBag o),.val (EO (kOf f) o'),.val (.int (e:Int)),.val q]) rfl ?_
   generalize EO kBag o=w at *
   generalize EO (kOf f) o'=w' at *
   generalize (kOf f).C=cc at *
   generalize ns.map D.int=N at *
   simp? [h1,h2,a]
 have hfi:(f2 gCat (QbT (Qd8 (Qh 4)) (gNm2 0 1) fYes (Qh 0) 2 []) (fLst [(fC (.int 1073741824))])) [.val (.frl (ns.map D.int)),.val (.obj "Bag"),.val (.bl f),.val (.obj (kOf f).C),.val (.lst (l.map prD)),.val (EO kBag o),.val (EO (kOf f) o'),.un,.un]=.ok (.lst ((l.map Prod.fst++[1073741824]).map fun (n:Nat)=>D.int (n:Int))):=by
  have c:∀ (l:List (Nat×D)) (s0 s1:Sl),QaE (gNm2 0 1) fYes (Qh 0) (l.map prD) [s0,s1]=.ok ((l.map Prod.fst).map fun (n:Nat)=>D.int (n:Int)):=fun l=>by
   induction l with
   | nil=>intro s0 s1;rfl
   | cons p l ih =>
    intro s0 s1
    have i:=ih (.val (.int (p.1:Int))) (.val p.2)
    rw [List.map_cons,List.map_cons,List.map_cons]
    generalize (l.map Prod.fst).map (fun (n:Nat)=>D.int (n:Int))=Y at *
    generalize l.map prD=M at *
    simp only [QaE]
    simp? [gNm2,prD,fYes,i]
  have c1:=c l .un .un
  have hz:(l.map prD).length<=sizeLine:=by rw [List.length_map];exact Nat.le_of_lt (Qap (by lia))
  have hy:((l.map Prod.fst).map fun (n:Nat)=>D.int (n:Int)).length + 1<=sizeLine:=by rw [List.length_map,List.length_map];exact Nat.le_of_lt (Qap (by lia))
  rw [List.map_append]
  show _=Ou.ok (D.lst (((l.map Prod.fst).map fun (n:Nat)=>D.int (n:Int))++[.int 1073741824]))
  generalize ((l.map Prod.fst).map fun (n:Nat)=>D.int (n:Int))=Y at *
  generalize l.map prD=M at *
  generalize EO kBag o=w at *
  generalize EO (kOf f) o'=w' at *
  generalize (kOf f).C=cc at *
  generalize ns.map D.int=N at *
  have hc:gCat (.lst Y) (.lst [.int 1073741824])=.ok (.lst (Y++[.int 1073741824])):=by
   have:Y.length + [D.int 1073741824].length<=sizeLine:=by simp only [List.length_cons,List.length_nil];lia
   simp only [gCat,this,if_true]
  simp? [QbT,Qd8,hz,dsIn,c1,hc]
 rw [QpS,Qqr hfi]
 refine For.useP (fun r:Ou Fl=>r=.ok (.rt (.bl true))) (fun i δ=>∃ s7 s8,δ=[.val (.frl (ns.map D.int)),.val (.obj "Bag"),.val (.bl f),.val (.obj (kOf f).C),.val (.lst (l.map prD)),.val (EO kBag o),.val (EO (kOf f) o'),s7,s8]) ⟨.un,.un,rfl⟩ ?_ ?_
 ·rintro i d hd hi δ ⟨s7,s8,rfl⟩
  obtain ⟨e,he,rfl⟩:=List.mem_map.mp (List.mem_of_getElem? hd)
  have hea:e<=all:=by
   have hall:all=1073741824:=rfl
   rcases List.mem_append.mp he with h | h
   ·obtain ⟨p,hp,rfl⟩:=List.mem_map.mp h
    have:=(hok p hp).1
    lia
   ·simp only [List.mem_singleton] at h;lia
  have h1:=Qlk kBag G e
  have h2:=Qlk (kOf f) G' e
  obtain ⟨h3,h4⟩:=one e hea
  obtain ⟨s8',q⟩:=inner e _ _ (.val (.lst (l.map prD))) h1 h2 h3 [.tup [.str "take"],.tup [.str "look",.int 1],.tup [.str "look",.int (k5:Int)],.tup [.str "many"]] (fun q hq=>by
   simp only [List.mem_cons,List.not_mem_nil,or_false] at hq
   rcases hq with rfl | rfl | rfl | rfl
   ·exact ⟨_,.take⟩
   ·exact ⟨_,.look 1⟩
   ·exact ⟨_,.look k5⟩
   ·exact ⟨_,.many⟩) s8
  refine Goes.eq (δ2:=[.val (.frl (ns.map D.int)),.val (.obj "Bag"),.val (.bl f),.val (.obj (kOf f).C),.val (.lst (l.map prD)),.val (EO kBag o),.val (EO (kOf f) o'),.val (.int (e:Int)),s8']) ?_ ⟨_,_,rfl⟩
  generalize (ahd o e).map (E kBag)=M1 at *
  generalize (ahd o' e).map (E (kOf f))=M2 at *
  generalize EO kBag o=w at *
  generalize EO (kOf f) o'=w' at *
  generalize (kOf f).C=cc at *
  generalize l.map prD=M at *
  generalize ns.map D.int=N at *
  generalize (e:Int)=ee at *
  simp? [hc1,hk5,sFor,q,h1,h2,h4]
 ·rintro δ ⟨s7,s8,rfl⟩
  generalize EO kBag o=w at *
  generalize EO (kOf f) o'=w' at *
  generalize (kOf f).C=cc at *
  generalize l.map prD=M at *
  simp? []
end
end Pr
open PySem PySem.W PyProof.Rows
set_option maxRecDepth 100000 in
set_option maxHeartbeats 0 in
theorem PySem.Challenge.cw_pastdesk_k47_rising_and_falling_holds : PySem.Challenge.rw_pastdesk_k47_rising_and_falling.Holds := by
 w_on;o_law;k_head;(case hw=>w_witness2)
 k_fill
 refine' Pr.walk (l := PySem.Challenge.rw_pastdesk_k47_rising_and_falling) rfl rfl (fun w h Y => PySem.W.km_in_of Y) Pr.law_true (fun w h Y => PySem.W.km_tabs_of Y _ (List.mem_cons_self ..)) ?hCd ?hTK ?F
 case F =>
  intro w mg fa h KX G hmg
  refine' Pr.all_mk KX G hmg ?htab ?aC_Bag ?aC_Kind ?aC_Line ?aC_Pile ?a0 ?l0 ?c0 ?k0 ?a1 ?l1 ?c1 ?k1 ?a2 ?l2 ?c2 ?k2 ?a3 ?l3 ?c3 ?k3 ?a4 ?l4 ?c4 ?k4 ?a5 ?l5 ?c5 ?k5 ?a6 ?l6 ?c6 ?k6 ?a7 ?l7 ?c7 ?k7 ?a8 ?l8 ?c8 ?k8 ?a9 ?l9 ?c9 ?k9 ?a10 ?l10 ?c10 ?k10 ?a11 ?l11 ?c11 ?k11 ?i11 ?a12 ?l12 ?c12 ?k12 ?i12 ?a13 ?l13 ?c13 ?k13 ?i13 ?a14 ?l14 ?c14 ?k14 ?i14 ?a15 ?l15 ?c15 ?k15 ?a16 ?l16 ?c16 ?k16 ?a17 ?l17 ?c17 ?k17 ?i17 ?a18 ?l18 ?c18 ?k18 ?i18 ?a19 ?l19 ?c19 ?k19 ?i19 ?a20 ?l20 ?c20 ?k20 ?i20 ?a21 ?l21 ?c21 ?k21 ?a22 ?l22 ?c22 ?k22 ?i22 ?a23 ?l23 ?c23 ?k23 ?i23 ?a24 ?l24 ?c24 ?k24 ?a25 ?l25 ?c25 ?k25 ?a26 ?l26 ?c26 ?k26 ?i26 ?a27 ?l27 ?c27 ?k27 ?i27 ?a28 ?l28 ?c28 ?k28 ?a29 ?l29 ?c29 ?k29 ?a30 ?l30 ?c30 ?k30 ?a31 ?l31 ?c31 ?k31 ?a32 ?l32 ?c32 ?k32 ?a33 ?l33 ?c33 ?k33 ?a34 ?l34 ?c34 ?k34 ?a35 ?l35 ?c35 ?k35 ?a36 ?l36 ?c36 ?k36 ?a37 ?l37 ?c37 ?k37 ?a38 ?l38 ?c38 ?k38 ?a39 ?l39 ?c39 ?k39 ?a40 ?l40 ?c40 ?k40 ?a41 ?l41 ?c41 ?k41 ?a42 ?l42 ?c42 ?k42 ?a43 ?l43 ?c43 ?k43 ?a44 ?l44 ?c44 ?k44 ?a45 ?l45 ?c45 ?k45 ?a46 ?l46 ?c46 ?k46 ?a47 ?l47 ?c47 ?k47 ?a48 ?l48 ?c48 ?k48 ?a49 ?l49 ?c49 ?k49 ?a50 ?l50 ?c50 ?k50 ?i50 ?a51 ?l51 ?c51 ?k51 ?i51 ?a52 ?l52 ?c52 ?k52 ?i52 ?a53 ?l53 ?c53 ?k53 ?i53 ?a54 ?l54 ?c54 ?k54 ?i54 ?a55 ?l55 ?c55 ?k55 ?i55 ?a56 ?l56 ?c56 ?k56 ?i56 ?a57 ?l57 ?c57 ?k57 ?i57 ?a58 ?l58 ?c58 ?k58 ?i58 ?a59 ?l59 ?c59 ?k59 ?i59 ?a60 ?l60 ?c60 ?k60 ?a61 ?l61 ?c61 ?k61 ?i61 ?a62 ?l62 ?c62 ?k62 ?i62 ?a63 ?l63 ?c63 ?k63 ?i63 ?a64 ?l64 ?c64 ?k64 ?i64 ?a65 ?l65 ?c65 ?k65 ?a66 ?l66 ?c66 ?k66 ?pg_Bag ?hd_Bag ?po_Bag ?sa_Bag ?mk_Bag ?in_Bag ?kc_Bag ?pg_Kind ?hd_Kind ?po_Kind ?sa_Kind ?pg_Line ?hd_Line ?po_Line ?sa_Line ?mk_Line ?in_Line ?kc_Line ?pg_Pile ?hd_Pile ?po_Pile ?sa_Pile ?mk_Pile ?in_Pile ?kc_Pile ?z_bool ?z_int ?z_isinstance ?z_len ?z_list ?z_max ?z_min ?z_range ?z_reversed ?z_sorted ?z_tuple ?g_ALL_TIMES ?r_ALL_TIMES
  (case htab=>rfl)
  (case aC_Bag=>k_is)
  (case aC_Kind=>k_is)
  (case aC_Line=>k_is)
  (case aC_Pile=>k_is)
  (case a0=>k_is)
  (case l0=>k_is)
  (case c0=>k_is)
  (case k0=>k_is)
  (case a1=>k_is)
  (case l1=>k_is)
  (case c1=>k_is)
  (case k1=>k_is)
  (case a2=>k_is)
  (case l2=>k_is)
  (case c2=>k_is)
  (case k2=>k_is)
  (case a3=>k_is)
  (case l3=>k_is)
  (case c3=>k_is)
  (case k3=>k_is)
  (case a4=>k_is)
  (case l4=>k_is)
  (case c4=>k_is)
  (case k4=>k_is)
  (case a5=>k_is)
  (case l5=>k_is)
  (case c5=>k_is)
  (case k5=>k_is)
  (case a6=>k_is)
  (case l6=>k_is)
  (case c6=>k_is)
  (case k6=>k_is)
  (case a7=>k_is)
  (case l7=>k_is)
  (case c7=>k_is)
  (case k7=>k_is)
  (case a8=>k_is)
  (case l8=>k_is)
  (case c8=>k_is)
  (case k8=>k_is)
  (case a9=>k_is)
  (case l9=>k_is)
  (case c9=>k_is)
  (case k9=>k_is)
  (case a10=>k_is)
  (case l10=>k_is)
  (case c10=>k_is)
  (case k10=>k_is)
  (case a11=>k_is)
  (case l11=>k_is)
  (case c11=>k_is)
  (case k11=>k_is)
  (case i11=>k_is)
  (case a12=>k_is)
  (case l12=>k_is)
  (case c12=>k_is)
  (case k12=>k_is)
  (case i12=>k_is)
  (case a13=>k_is)
  (case l13=>k_is)
  (case c13=>k_is)
  (case k13=>k_is)
  (case i13=>k_is)
  (case a14=>k_is)
  (case l14=>k_is)
  (case c14=>k_is)
  (case k14=>k_is)
  (case i14=>k_is)
  (case a15=>k_is)
  (case l15=>k_is)
  (case c15=>k_is)
  (case k15=>k_is)
  (case a16=>k_is)
  (case l16=>k_is)
  (case c16=>k_is)
  (case k16=>k_is)
  (case a17=>k_is)
  (case l17=>k_is)
  (case c17=>k_is)
  (case k17=>k_is)
  (case i17=>k_is)
  (case a18=>k_is)
  (case l18=>k_is)
  (case c18=>k_is)
  (case k18=>k_is)
  (case i18=>k_is)
  (case a19=>k_is)
  (case l19=>k_is)
  (case c19=>k_is)
  (case k19=>k_is)
  (case i19=>k_is)
  (case a20=>k_is)
  (case l20=>k_is)
  (case c20=>k_is)
  (case k20=>k_is)
  (case i20=>k_is)
  (case a21=>k_is)
  (case l21=>k_is)
  (case c21=>k_is)
  (case k21=>k_is)
  (case a22=>k_is)
  (case l22=>k_is)
  (case c22=>k_is)
  (case k22=>k_is)
  (case i22=>k_is)
  (case a23=>k_is)
  (case l23=>k_is)
  (case c23=>k_is)
  (case k23=>k_is)
  (case i23=>k_is)
  (case a24=>k_is)
  (case l24=>k_is)
  (case c24=>k_is)
  (case k24=>k_is)
  (case a25=>k_is)
  (case l25=>k_is)
  (case c25=>k_is)
  (case k25=>k_is)
  (case a26=>k_is)
  (case l26=>k_is)
  (case c26=>k_is)
  (case k26=>k_is)
  (case i26=>k_is)
  (case a27=>k_is)
  (case l27=>k_is)
  (case c27=>k_is)
  (case k27=>k_is)
  (case i27=>k_is)
  (case a28=>k_is)
  (case l28=>k_is)
  (case c28=>k_is)
  (case k28=>k_is)
  (case a29=>k_is)
  (case l29=>k_is)
  (case c29=>k_is)
  (case k29=>k_is)
  (case a30=>k_is)
  (case l30=>k_is)
  (case c30=>k_is)
  (case k30=>k_is)
  (case a31=>k_is)
  (case l31=>k_is)
  (case c31=>k_is)
  (case k31=>k_is)
  (case a32=>k_is)
  (case l32=>k_is)
  (case c32=>k_is)
  (case k32=>k_is)
  (case a33=>k_is)
  (case l33=>k_is)
  (case c33=>k_is)
  (case k33=>k_is)
  (case a34=>k_is)
  (case l34=>k_is)
  (case c34=>k_is)
  (case k34=>k_is)
  (case a35=>k_is)
  (case l35=>k_is)
  (case c35=>k_is)
  (case k35=>k_is)
  (case a36=>k_is)
  (case l36=>k_is)
  (case c36=>k_is)
  (case k36=>k_is)
  (case a37=>k_is)
  (case l37=>k_is)
  (case c37=>k_is)
  (case k37=>k_is)
  (case a38=>k_is)
  (case l38=>k_is)
  (case c38=>k_is)
  (case k38=>k_is)
  (case a39=>k_is)
  (case l39=>k_is)
  (case c39=>k_is)
  (case k39=>k_is)
  (case a40=>k_is)
  (case l40=>k_is)
  (case c40=>k_is)
  (case k40=>k_is)
  (case a41=>k_is)
  (case l41=>k_is)
  (case c41=>k_is)
  (case k41=>k_is)
  (case a42=>k_is)
  (case l42=>k_is)
  (case c42=>k_is)
  (case k42=>k_is)
  (case a43=>k_is)
  (case l43=>k_is)
  (case c43=>k_is)
  (case k43=>k_is)
  (case a44=>k_is)
  (case l44=>k_is)
  (case c44=>k_is)
  (case k44=>k_is)
  (case a45=>k_is)
  (case l45=>k_is)
  (case c45=>k_is)
  (case k45=>k_is)
  (case a46=>k_is)
  (case l46=>k_is)
  (case c46=>k_is)
  (case k46=>k_is)
  (case a47=>k_is)
  (case l47=>k_is)
  (case c47=>k_is)
  (case k47=>k_is)
  (case a48=>k_is)
  (case l48=>k_is)
  (case c48=>k_is)
  (case k48=>k_is)
  (case a49=>k_is)
  (case l49=>k_is)
  (case c49=>k_is)
  (case k49=>k_is)
  (case a50=>k_is)
  (case l50=>k_is)
  (case c50=>k_is)
  (case k50=>k_is)
  (case i50=>k_is)
  (case a51=>k_is)
  (case l51=>k_is)
  (case c51=>k_is)
  (case k51=>k_is)
  (case i51=>k_is)
  (case a52=>k_is)
  (case l52=>k_is)
  (case c52=>k_is)
  (case k52=>k_is)
  (case i52=>k_is)
  (case a53=>k_is)
  (case l53=>k_is)
  (case c53=>k_is)
  (case k53=>k_is)
  (case i53=>k_is)
  (case a54=>k_is)
  (case l54=>k_is)
  (case c54=>k_is)
  (case k54=>k_is)
  (case i54=>k_is)
  (case a55=>k_is)
  (case l55=>k_is)
  (case c55=>k_is)
  (case k55=>k_is)
  (case i55=>k_is)
  (case a56=>k_is)
  (case l56=>k_is)
  (case c56=>k_is)
  (case k56=>k_is)
  (case i56=>k_is)
  (case a57=>k_is)
  (case l57=>k_is)
  (case c57=>k_is)
  (case k57=>k_is)
  (case i57=>k_is)
  (case a58=>k_is)
  (case l58=>k_is)
  (case c58=>k_is)
  (case k58=>k_is)
  (case i58=>k_is)
  (case a59=>k_is)
  (case l59=>k_is)
  (case c59=>k_is)
  (case k59=>k_is)
  (case i59=>k_is)
  (case a60=>k_is)
  (case l60=>k_is)
  (case c60=>k_is)
  (case k60=>k_is)
  (case a61=>k_is)
  (case l61=>k_is)
  (case c61=>k_is)
  (case k61=>k_is)
  (case i61=>k_is)
  (case a62=>k_is)
  (case l62=>k_is)
  (case c62=>k_is)
  (case k62=>k_is)
  (case i62=>k_is)
  (case a63=>k_is)
  (case l63=>k_is)
  (case c63=>k_is)
  (case k63=>k_is)
  (case i63=>k_is)
  (case a64=>k_is)
  (case l64=>k_is)
  (case c64=>k_is)
  (case k64=>k_is)
  (case i64=>k_is)
  (case a65=>k_is)
  (case l65=>k_is)
  (case c65=>k_is)
  (case k65=>k_is)
  (case a66=>k_is)
  (case l66=>k_is)
  (case c66=>k_is)
  (case k66=>k_is)
  (case pg_Bag=>k_is)
  (case hd_Bag=>k_is)
  (case po_Bag=>k_is)
  (case sa_Bag=>k_is)
  (case mk_Bag=>k_is)
  (case in_Bag=>k_is)
  (case kc_Bag=>k_is)
  (case pg_Kind=>k_is)
  (case hd_Kind=>k_is)
  (case po_Kind=>k_is)
  (case sa_Kind=>k_is)
  (case pg_Line=>k_is)
  (case hd_Line=>k_is)
  (case po_Line=>k_is)
  (case sa_Line=>k_is)
  (case mk_Line=>k_is)
  (case in_Line=>k_is)
  (case kc_Line=>k_is)
  (case pg_Pile=>k_is)
  (case hd_Pile=>k_is)
  (case po_Pile=>k_is)
  (case sa_Pile=>k_is)
  (case mk_Pile=>k_is)
  (case in_Pile=>k_is)
  (case kc_Pile=>k_is)
  (case z_bool=>k_is)
  (case z_int=>k_is)
  (case z_isinstance=>k_is)
  (case z_len=>k_is)
  (case z_list=>k_is)
  (case z_max=>k_is)
  (case z_min=>k_is)
  (case z_range=>k_is)
  (case z_reversed=>k_is)
  (case z_sorted=>k_is)
  (case z_tuple=>k_is)
  (case g_ALL_TIMES=>k_is)
  (case r_ALL_TIMES=>exact ⟨_,rfl⟩)
 (case hCd=>intro w;first | rfl | kernel_rfl)
 (case hTK=>intro w;first | rfl | kernel_rfl)
