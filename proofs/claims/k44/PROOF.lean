import PyProof.Rows.All
import Wide.All
import OpenK.AllK
import Wide.FinOn
import Lean
import PyProof.EqAt
import PyProof.EqKinds
import PyProof.TupleCall
import PySem.Challenge.RW_pastdesk_k44_sources_in_a_bag
set_option Elab.async false
set_option linter.all false
/- The head would lay equations by these names, for constants of its own; nothing needs them, and they take much room: with the names taken the head goes on without. -/
def PySem.W.Fast.tw17299362924224838586:Unit:=()
def PySem.W.Fast.tw8554070450601799503:Unit:=()
def PySem.W.Fast.tw6209525890671262009:Unit:=()
def PySem.W.Fast.tw18039852727366343610:Unit:=()
def PySem.W.Fast.tw6726826689282260876:Unit:=()
def PySem.W.Fast.tw13442336275208153610:Unit:=()
def PySem.W.Fast.tw13604327305955908961:Unit:=()
def PySem.W.Fast.tw7896227491502887725:Unit:=()
def PySem.W.Fast.tw10602470202690251981:Unit:=()
def PySem.W.Fast.tw10799440997668397516:Unit:=()
def PySem.W.Fast.tw9374824727320800392:Unit:=()
def PySem.W.Fast.tw8481127072679798038:Unit:=()
def PySem.W.Fast.tw422710575783112387:Unit:=()
def PySem.W.Fast.tw13482121467777207978:Unit:=()
def PySem.W.Fast.tw572013894144136797:Unit:=()
def PySem.W.Fast.tw2645622163778861019:Unit:=()
def PySem.W.Fast.tw7534982867649758809:Unit:=()
def PySem.W.Fast.tw1287309727914984918:Unit:=()
def PySem.W.Fast.tw1870450487138263407:Unit:=()
def PySem.W.Fast.tw6785014173178792430:Unit:=()
def PySem.W.Fast.tw5568683047236669859:Unit:=()
def PySem.W.Fast.tw13902930648683197551:Unit:=()
def PySem.W.Fast.tw7731174191662324267:Unit:=()
def PySem.W.Fast.tw5742501302403151767:Unit:=()
def PySem.W.Fast.tw386481863361890989:Unit:=()
def PySem.W.Fast.tw15904552597322513464:Unit:=()
def PySem.W.Fast.tw6323489754357228991:Unit:=()
def PySem.W.Fast.tw14739277055910517293:Unit:=()
def PySem.W.Fast.tw11792636840822841845:Unit:=()
def PySem.W.Fast.tw9907499250100971166:Unit:=()
def PySem.W.Fast.tw6525035219272297898:Unit:=()
def PySem.W.Fast.tw2759325010642013176:Unit:=()
def PySem.W.Fast.tw4121489287417621266:Unit:=()
set_option maxRecDepth 100000
namespace L2
open PySem PySem.Spec PyProof.Rows
abbrev Key:=Sum Int Str
def keyIs:Key->Value->Bool
 | .inl k,v=>Value.isInt k v
 | .inr x,v=>Value.isStrOf x v
def keyH (w:World):Key->Int
 | .inl k=>hashInt k
 | .inr x=>hashStr w x
theorem keyIs_shape:∀ {k:Key} {v:Value},keyIs k v=true->(∃ i t,k=Sum.inl i/\v=Value.int i t)\/(∃ x t,k=Sum.inr x/\v=Value.str x t)
 | .inl i,v,h=>by
  obtain ⟨t,e⟩:=Value.isInt_shape (k:=i) (v:=v) h
  exact .inl ⟨i,t,rfl,e⟩
 | .inr x,v,h=>by
  obtain ⟨t,e⟩:=Value.isStrOf_shape (x:=x) (v:=v) h
  exact .inr ⟨x,t,rfl,e⟩
theorem keyIs_int (i:Int) (t:Tok):keyIs (.inl i) (.int i t)=true:=by simp [keyIs,Value.isInt]
theorem keyIs_str (x:Str) (t:Tok):keyIs (.inr x) (.str x t)=true:=by simp [keyIs,Value.isStrOf]
theorem key_ll (a b:Int):decide ((Sum.inl a:Key)=Sum.inl b)=(a == b):=by
 by_cases e:a=b
 ·subst e;simp
 ·have h:¬ (Sum.inl a:Key)=Sum.inl b:=fun q=>e (Sum.inl.inj q)
  rw [decide_eq_false h]
  exact (beq_eq_false_iff_ne.mpr e).symm
theorem key_rr (a b:Str):decide ((Sum.inr a:Key)=Sum.inr b)=decide (a=b):=by
 by_cases e:a=b
 ·subst e;simp
 ·have h:¬ (Sum.inr a:Key)=Sum.inr b:=fun q=>e (Sum.inr.inj q)
  rw [decide_eq_false h,decide_eq_false e]
theorem key_lr (a:Int) (b:Str):decide ((Sum.inl a:Key)=Sum.inr b)=false:=decide_eq_false (fun q=>nomatch q)
theorem key_rl (a:Str) (b:Int):decide ((Sum.inr a:Key)=Sum.inl b)=false:=decide_eq_false (fun q=>nomatch q)
def mixKind (prog:Program) (w:World):PySem.KeyKind prog w Key where
 is:=keyIs
 hash:=keyH w
 inj:=fun v a b ha hb=>by
  rcases keyIs_shape ha with ⟨i,t,rfl,rfl⟩ | ⟨x,t,rfl,rfl⟩
  ·rcases keyIs_shape hb with ⟨j,u,rfl,e⟩ | ⟨y,u,rfl,e⟩
   ·injection e with e1 _;rw [e1]
   ·exact nomatch e
  ·rcases keyIs_shape hb with ⟨j,u,rfl,e⟩ | ⟨y,u,rfl,e⟩
   ·exact nomatch e
   ·injection e with e1 _;rw [e1]
 byValue:=fun k v h=>by
  rcases keyIs_shape h with ⟨i,t,rfl,rfl⟩ | ⟨x,t,rfl,rfl⟩ <;> rfl
 pyHash:=fun hv h=>by
  rcases keyIs_shape hv with ⟨i,t,rfl,rfl⟩ | ⟨x,t,rfl,rfl⟩
  ·exact wpAny_pyHash_int h
  ·exact wpAny_pyHash_str h
 eqBool:=fun hu hv h=>by
  rcases keyIs_shape hu with ⟨i,t,rfl,rfl⟩ | ⟨x,t,rfl,rfl⟩
  ·rcases keyIs_shape hv with ⟨j,u,rfl,rfl⟩ | ⟨y,u,rfl,rfl⟩
   ·rw [key_ll] at h;exact wpAny_eqBool_int h
   ·rw [key_lr] at h;exact SeqAt.EqAt.int_str i t y u _ _ _ _ h
  ·rcases keyIs_shape hv with ⟨j,u,rfl,rfl⟩ | ⟨y,u,rfl,rfl⟩
   ·rw [key_rl] at h;exact SeqAt.EqAt.str_int x t j u _ _ _ _ h
   ·rw [key_rr] at h;exact wpAny_eqBool_str h
 «strs»:=fun k x t v h=>by
  rcases keyIs_shape h with ⟨i,u,rfl,e⟩ | ⟨y,u,rfl,e⟩
  ·exact nomatch e
  ·injection e with e1 _
   subst e1
   cases v <;> rfl
theorem mixKind_int (prog:Program) (w:World) (i:Int) (t:Tok):(mixKind prog w).is (.inl i) (.int i t)=true:=keyIs_int i t
theorem mixKind_str (prog:Program) (w:World) (x:Str) (t:Tok):(mixKind prog w).is (.inr x) (.str x t)=true:=keyIs_str x t
end L2
namespace L2
open PySem PySem.Spec PyProof.Rows
inductive V where
 | non | bl (b:Bool) | int (i:Int) | str (x:Str) | byt (b:Array UInt8) | flt (b:UInt64) | ref (a:Addr) | ty (n:String)
 deriving DecidableEq
def RelV:V->Value->Prop
 | .non,u=>u=Value.none
 | .bl b,u=>u=Value.bool b
 | .int i,u=>∃ t,u=Value.int i t
 | .str x,u=>∃ t,u=Value.str x t
 | .byt b,u=>∃ t,u=Value.bytes b t
 | .flt b,u=>∃ t,u=Value.float b t
 | .ref a,u=>u=Value.ref a
 | .ty n,u=>u=Value.type n
abbrev Vals:List V->List Value->Prop:=Paired RelV
theorem Vals.length {xs:List V} {us:List Value} (r:Vals xs us):xs.length=us.length:=Paired.length r
theorem Vals.get:∀ {xs:List V} {us:List Value} {i:Nat} {x:V},Vals xs us->xs[i]? = some x->∃ u,us[i]? = some u/\RelV x u
 | _,_,_,_,.nil,e=>by simp at e
 | _,_,0,_,.cons r _,e=>by simp at e;subst e;exact ⟨_,rfl,r⟩
 | _,_,i + 1,x,.cons _ t,e=>by
  obtain ⟨u,h1,h2⟩:=Vals.get (i:=i) (x:=x) t (by simpa using e)
  exact ⟨u,by simpa using h1,h2⟩
theorem Vals.append:∀ {xs ys:List V} {us ws:List Value},Vals xs us->Vals ys ws->Vals (xs++ys) (us++ws)
 | _,_,_,_,.nil,s=>s
 | _,_,_,_,.cons r t,s=>.cons r (Vals.append t s)
theorem Vals.take:∀ {xs:List V} {us:List Value} (n:Nat),Vals xs us->Vals (xs.take n) (us.take n)
 | _,_,0,_=>.nil
 | _,_,_ + 1,.nil=>.nil
 | _,_,n + 1,.cons r t=>.cons r (Vals.take n t)
theorem Vals.drop:∀ {xs:List V} {us:List Value} (n:Nat),Vals xs us->Vals (xs.drop n) (us.drop n)
 | _,_,0,r=>r
 | _,_,_ + 1,.nil=>.nil
 | _,_,n + 1,.cons _ t=>Vals.drop n t
def RelO:Option V->Option Value->Prop
 | some v,some u=>RelV v u
 | none,none=>True
 | _,_=>False
def KV {κ:Type}:List (κ×V)->List (κ×Value)->Prop:=Paired fun (p:κ×V) (q:κ×Value)=>p.1=q.1/\RelV p.2 q.2
def kV:Key->V
 | .inl i=>.int i
 | .inr x=>.str x
inductive HO where
 | lst (xs:List V)
 | tup (xs:List V)
 | dK (kvs:List (Key×V)) | dT (kvs:List (List Key×V))
 | set (S:Int->Bool) (n:Nat)
 | ins (C dx:Addr) (fs:List (Str×V))
 | own (x:Addr)
 | xd (fs:List (Str×V))
 | met (f x:Addr)
 | rng (lo hi:Int)
 | frz (o:Obj) (u:HO)
 | tbl (ps:Array Value)
 | ext (φ:Heap->Prop)
abbrev Hp:=Addr->Option HO
def upd (H:Hp) (a:Addr) (o:HO):Hp:=fun b=>if b=a then some o else H b
theorem upd_same {H:Hp} {a:Addr} {o:HO}:upd H a o a=some o:=by unfold upd;rw [if_pos rfl]
theorem upd_ne {H:Hp} {a b:Addr} {o:HO} (h:b≠a):upd H a o b=H b:=by unfold upd;rw [if_neg h]
theorem ne_of {H:Hp} {a b:Addr} {o u:HO} (h:H a=some o) (h':H b=some u) (d:o≠u):a≠b:=by
 intro e;subst e;rw [h] at h';exact d (Option.some.inj h')
theorem ne_of_none {H:Hp} {a b:Addr} {o:HO} (h:H a=some o) (h':H b=none):a≠b:=by
 intro e;subst e;rw [h] at h';cases h'
section
variable (P:Program) (w:World)
def ObjOk (H:Hp) (h:Heap) (a:Addr):HO->Prop
 | .lst xs=>xs.length<=sizeLine/\∃ (its:List Value) (n:Nat),Vals xs its/\h.get? a=some { cls:=.type "list",data:=.seq its.toArray n }
 | .tup xs=>xs.length<=sizeLine/\∃ its:List Value,Vals xs its/\IsTup h a its.toArray
 | .dK kvs=>kvs.length<=sizeLine/\(a == sysModules)=false/\∃ vs,KV kvs vs/\h.DictOf (mixKind P w) a vs
 | .dT kvs=>kvs.length<=sizeLine/\(a == sysModules)=false/\∃ xs:List (List Key×Addr×Value),
   Paired (fun (p:List Key×V) (q:List Key×Addr×Value)=>p.1=q.1/\H q.2.1=some (.tup (p.1.map kV))/\RelV p.2 q.2.2) kvs xs /\
   ∃ o es ep,h.get? a=some o/\o.ExactDict/\o.data=.dict es ep/\es.toList=xs.map (entryOfKey (tupleKind (mixKind P w)))/\(xs.map (·.1)).Nodup
 | .set S n=>h.SetOf (intKind P w) a S n
 | .ins C dx fs=>H dx=some (.own a)/\fs.length<=1000/\dx≠a/\h.get? a=some (PySem.W.instObj C dx) /\
   ∃ mA,h.Ns1 dx mA/\(∀ f,RelO (fs.lookup f) (mA f))/\PySem.Within mA (fs.map (·.1))
 | .own _=>∃ o,h.get? a=some o
 | .xd fs=>∃ mA,h.Ns1 a mA/\∀ f,RelO (fs.lookup f) (mA f)
 | .rng lo hi=>∃ t u v,h.get? a=some { cls:=.type "range",data:=.fields #[.int lo t,.int hi u,.int 1 v] }
 | .frz o u=>h.get? a=some o/\ObjOk H h a u
 | .tbl ps=>h.get? a=some { cls:=.none,data:=.fields ps }
 | .met f x=>h.get? a=some (PySem.W.methodObj (.ref f) (.ref x))
 | .ext φ=>φ h/\(∃ o,h.get? a=some o)/\∀ h1 h2:Heap,φ h1->(∀ o,h1.get? a=some o->h2.get? a=some o)->φ h2
def HOk (H:Hp) (h:Heap):Prop:=∀ a o,H a=some o->ObjOk P w H h a o
end
section
variable {P:Program} {w:World} {H H':Hp} {h h':Heap} {a:Addr} {o:HO}
theorem ObjOk.lt (x:ObjOk P w H h a o):a < h.objs.size:=by
 cases o with
 | lst xs=>obtain ⟨_,_,_,_,e⟩:=x;exact Heap.lt_size e
 | tup xs=>obtain ⟨_,_,_,p⟩:=x;exact p.lt
 | dK kvs=>obtain ⟨_,_,_,_,o,_,_,e,_⟩:=x;exact Heap.lt_size e
 | dT kvs=>obtain ⟨_,_,_,_,o,_,_,e,_⟩:=x;exact Heap.lt_size e
 | set S n=>obtain ⟨o,_,_,_,e,_⟩:=x;exact Heap.lt_size e
 | ins C dx fs=>obtain ⟨_,_,_,e,_⟩:=x;exact Heap.lt_size e
 | own y=>obtain ⟨_,e⟩:=x;exact Heap.lt_size e
 | xd fs=>obtain ⟨_,⟨_,_,_,e,_⟩,_⟩:=x;exact Heap.lt_size e
 | rng lo hi=>obtain ⟨_,_,_,e⟩:=x;exact Heap.lt_size e
 | frz ob u=>obtain ⟨e,_⟩:=x;exact Heap.lt_size e
 | tbl ps=>exact Heap.lt_size (show h.get? a=some _ from x)
 | met f y=>exact Heap.lt_size (show h.get? a=some _ from x)
 | ext φ=>obtain ⟨_,⟨_,e⟩,_⟩:=x;exact Heap.lt_size e
theorem Paired.mapP {α β:Type} {F G:α->β->Prop}:∀ {l₁:List α} {l₂:List β},Paired F l₁ l₂->(∀ a b,F a b->G a b)->Paired G l₁ l₂
 | _,_,.nil,_=>.nil
 | _,_,.cons r t,f=>.cons (f _ _ r) (Paired.mapP t f)
theorem ObjOk.stay (x:ObjOk P w H h a o) (k:∀ b u,(b=a\/H b=some (.own a))->h.get? b=some u->h'.get? b=some u)
  (ho:∀ b,H b=some (.own a)->H' b=some (.own a)) (ht:∀ b xs,H b=some (.tup xs)->H' b=some (.tup xs)):ObjOk P w H' h' a o:=by
 induction o with
 | lst xs=>obtain ⟨z,its,n,r,e⟩:=x;exact ⟨z,its,n,r,k _ _ (.inl rfl) e⟩
 | tup xs=>obtain ⟨z,its,r,ob,e,c⟩:=x;exact ⟨z,its,r,ob,k _ _ (.inl rfl) e,c⟩
 | dK kvs=>obtain ⟨z,y,vs,r,ob,es,ep,e,c⟩:=x;exact ⟨z,y,vs,r,ob,es,ep,k _ _ (.inl rfl) e,c⟩
 | dT kvs =>
  obtain ⟨z,y,xs,r,ob,es,ep,e,c⟩:=x
  exact ⟨z,y,xs,Paired.mapP r fun p q z=>⟨z.1,ht _ _ z.2.1,z.2.2⟩,ob,es,ep,k _ _ (.inl rfl) e,c⟩
 | set S n=>obtain ⟨ob,es,ep,t,e,c⟩:=x;exact ⟨ob,es,ep,t,k _ _ (.inl rfl) e,c⟩
 | ins C dx fs =>
  obtain ⟨d,z,ne,e,mA,⟨od,es,ep,e2,c⟩,r⟩:=x
  exact ⟨ho _ d,z,ne,k _ _ (.inl rfl) e,mA,⟨od,es,ep,k _ _ (.inr d) e2,c⟩,r⟩
 | own y=>obtain ⟨ob,e⟩:=x;exact ⟨ob,k _ _ (.inl rfl) e⟩
 | xd fs=>obtain ⟨mA,⟨od,es,ep,e,c⟩,r⟩:=x;exact ⟨mA,⟨od,es,ep,k _ _ (.inl rfl) e,c⟩,r⟩
 | rng lo hi=>obtain ⟨t,u,v,e⟩:=x;exact ⟨t,u,v,k _ _ (.inl rfl) e⟩
 | frz ob u ih=>obtain ⟨e,q⟩:=x;exact ⟨k _ _ (.inl rfl) e,ih q⟩
 | tbl ps =>
  have e:h.get? a=some { cls:=.none,data:=.fields ps }:=x
  show h'.get? a=some { cls:=.none,data:=.fields ps }
  exact k a _ (.inl rfl) e
 | met f y =>
  have e:h.get? a=some (PySem.W.methodObj (.ref f) (.ref y)):=x
  show h'.get? a=some (PySem.W.methodObj (.ref f) (.ref y))
  exact k a _ (.inl rfl) e
 | ext φ=>obtain ⟨p,⟨o,e⟩,st⟩:=x;exact ⟨st _ _ p fun o q=>k _ _ (.inl rfl) q,⟨o,k _ _ (.inl rfl) e⟩,st⟩
theorem HOk.lt (x:HOk P w H h) (e:H a=some o):a < h.objs.size:=(x a o e).lt
theorem HOk.fresh (x:HOk P w H h) (e:h.objs.size<=a):H a=none:=by
 cases q:H a with
 | none=>rfl
 | some u=>exact absurd (Nat.lt_of_lt_of_le (x.lt q) e) (Nat.lt_irrefl _)
theorem HOk.kept (x:HOk P w H h) (k:∀ b u,h.get? b=some u->h'.get? b=some u):HOk P w H h':=fun a o e =>
 (x a o e).stay (fun b u _ q=>k b u q) (fun _ q=>q) fun _ _ q=>q
theorem HOk.laid (x:HOk P w H h) (k:∀ b u,h.get? b=some u->h'.get? b=some u) (hp:h.objs.size<=a) (new:ObjOk P w (upd H a o) h' a o):HOk P w (upd H a o) h':=fun b u e=>by
 have hn:=x.fresh hp
 by_cases hb:b=a
 ·subst hb;rw [upd_same] at e;cases e;exact new
 ·rw [upd_ne hb] at e
  exact (x b u e).stay (fun c v _ q=>k c v q) (fun c q=>by rw [upd_ne (ne_of_none q hn)];exact q) fun c xs q=>by rw [upd_ne (ne_of_none q hn)];exact q
end
def Rd (H:Hp) (a:Addr) (u:HO):Prop:=H a=some u\/∃ o,H a=some (.frz o u)
theorem Rd.ok {P:Program} {w:World} {H:Hp} {h:Heap} {a:Addr} {u:HO} (r:Rd H a u) (x:HOk P w H h):ObjOk P w H h a u:=by
 rcases r with r | ⟨o,r⟩
 ·exact x a u r
 ·obtain ⟨_,q⟩:=x a _ r
  exact q
def Mut:Option HO->Prop
 | some (.lst _)=>True
 | some (.dK _)=>True
 | some (.dT _)=>True
 | some (.set _ _)=>True
 | some (.ins _ _ _)=>True
 | some (.ext _)=>True
 | _=>False
section
variable {P:Program} {w:World} {H:Hp} {h h':Heap} {x e:Addr} {o':HO}
theorem HOk.write (ok:HOk P w H h) (mu:Mut (H x)) (he:e=x\/H e=some (.own x)) (k:∀ b u,b≠e->h.get? b=some u->h'.get? b=some u) (heo:∃ u,h'.get? e=some u)
  (new:ObjOk P w (upd H x o') h' x o'):HOk P w (upd H x o') h':=fun b u q=>by
 have nown:∀ c y,H c=some (.own y)->c≠x:=fun c y r z=>by subst z;rw [r] at mu;exact mu
 have ntup:∀ c xs,H c=some (.tup xs)->c≠x:=fun c xs r z=>by subst z;rw [r] at mu;exact mu
 by_cases hb:b=x
 ·subst hb;rw [upd_same] at q;cases q;exact new
 ·rw [upd_ne hb] at q
  by_cases hbe:b=e
  ·have q':H b=some (.own x):=by
    rcases he with z | z
    ·exact absurd (hbe.trans z) hb
    ·rw [hbe];exact z
   rw [q] at q';cases q'
   obtain ⟨v,hv⟩:=heo
   exact ⟨v,by rw [hbe];exact hv⟩
  ·refine (ok b u q).stay (fun c v hc r=>k c v ?_ r) (fun c r=>by rw [upd_ne (nown c b r)];exact r) fun c xs r=>by rw [upd_ne (ntup c xs r)];exact r
   rcases hc with rfl | hc
   ·exact hbe
   ·rintro rfl
    rcases he with z | z
    ·exact nown c b hc z
    ·rw [hc] at z;cases z;exact hb rfl
end
structure Un (fs ex:List Addr) (H H':Hp) (h h':Heap):Prop where
 keep:∀ b o,h.get? b=some o->H b=none->b ∉ fs->b ∉ ex->h'.get? b=some o
 slot:∀ b o,h.get? b=some o->H b=none->b∈fs->b ∉ ex->∃ sl,h'.get? b=some { o with slots:=sl }
 free:∀ b o,h.get? b=some o->H b=none->b ∉ ex->H' b=none
 there:∀ b o,h.get? b=some o->b ∉ ex->∃ o',h'.get? b=some o'
 tups:∀ b xs,H b=some (.tup xs)->H' b=some (.tup xs)
 frzs:∀ b o u,H b=some (.frz o u)->H' b=some (.frz o u)
 tbls:∀ b ps,H b=some (.tbl ps)->∃ more,H' b=some (.tbl (ps++more))
section
variable {fs fs' ex ex':List Addr} {H H1 H2:Hp} {h h1 h2 h':Heap} {a x e:Addr} {o:HO}
theorem Un.any (u:Un fs ex H H1 h h1) {b:Addr} {ob:Obj} (q:h.get? b=some ob) (n:H b=none) (hx:b ∉ ex):∃ sl,h1.get? b=some { ob with slots:=sl }:=by
 by_cases hb:b∈fs
 ·exact u.slot b ob q n hb hx
 ·exact ⟨ob.slots,u.keep b ob q n hb hx⟩
theorem Un.trans (a:Un fs ex H H1 h h1) (b:Un fs ex H1 H2 h1 h2):Un fs ex H H2 h h2 where
 keep:=fun c ob q n hc hx=>b.keep c ob (a.keep c ob q n hc hx) (a.free c ob q n hx) hc hx
 slot:=fun c ob q n hc hx=>by
  obtain ⟨sl,e1⟩:=a.slot c ob q n hc hx
  obtain ⟨sl',e2⟩:=b.slot c _ e1 (a.free c ob q n hx) hc hx
  exact ⟨sl',e2⟩
 free:=fun c ob q n hx=>by
  obtain ⟨o',e1⟩:=a.there c ob q hx
  exact b.free c o' e1 (a.free c ob q n hx) hx
 there:=fun c ob q hx=>by
  obtain ⟨o',e1⟩:=a.there c ob q hx
  exact b.there c o' e1 hx
 tups:=fun c xs q=>b.tups c xs (a.tups c xs q)
 frzs:=fun c ob xs q=>b.frzs c ob xs (a.frzs c ob xs q)
 tbls:=fun c ps q=>by
  obtain ⟨m1,e1⟩:=a.tbls c ps q
  obtain ⟨m2,e2⟩:=b.tbls c _ e1
  exact ⟨m1++m2,by rw [e2,Array.append_assoc]⟩
theorem Un.kept (k:∀ b u,h.get? b=some u->h'.get? b=some u):Un fs ex H H h h' :=
 ⟨fun b ob q _ _ _=>k b ob q,fun b ob q _ _ _=>⟨ob.slots,k b ob q⟩,fun _ _ _ n _=>n,fun b ob q _=>⟨ob,k b ob q⟩,fun _ _ q=>q,fun _ _ _ q=>q,fun _ ps q=>⟨#[],by rw [q];simp⟩⟩
theorem Un.refl:Un fs ex H H h h:=Un.kept fun _ _ q=>q
theorem Un.laid (k:∀ b u,h.get? b=some u->h'.get? b=some u) (hp:h.objs.size<=a) (hn:H a=none):Un fs ex H (upd H a o) h h' where
 keep:=fun b u q _ _ _=>k b u q
 slot:=fun b u q _ _ _=>⟨u.slots,k b u q⟩
 free:=fun b u q n _=>by rw [upd_ne (Nat.ne_of_lt (Nat.lt_of_lt_of_le (Heap.lt_size q) hp))];exact n
 there:=fun b u q _=>⟨u,k b u q⟩
 tups:=fun b xs q=>by rw [upd_ne (ne_of_none q hn)];exact q
 frzs:=fun b u xs q=>by rw [upd_ne (ne_of_none q hn)];exact q
 tbls:=fun b ps q=>⟨#[],by rw [upd_ne (ne_of_none q hn),q];simp⟩
theorem Un.write (mu:Mut (H x)) (he:e=x\/H e=some (.own x)) (k:∀ b u,b≠e->h.get? b=some u->h'.get? b=some u) (heo:∃ u,h'.get? e=some u):Un fs ex H (upd H x o) h h':=by
 have hx:∀ b,H b=none->b≠x:=fun b n z=>by subst z;rw [n] at mu;exact mu
 have hb:∀ b,H b=none->b≠e:=fun b n z=>by
  subst z
  rcases he with r | r
  ·exact hx b n r
  ·rw [n] at r;cases r
 have hm:∀ b u,H b=some u->¬ Mut (some u)->b≠x:=fun b u q nm z=>by subst z;rw [q] at mu;exact nm mu
 refine ⟨fun b u q n _ _=>k b u (hb b n) q,fun b u q n _ _=>⟨u.slots,k b u (hb b n) q⟩,fun b u q n _=>by rw [upd_ne (hx b n)];exact n,fun b u q _=>?_,
  fun b xs q=>by rw [upd_ne (hm b _ q fun z=>z)];exact q,fun b u xs q=>by rw [upd_ne (hm b _ q fun z=>z)];exact q,fun b ps q=>⟨#[],by rw [upd_ne (hm b _ q fun z=>z),q];simp⟩⟩
 by_cases hbe:b=e
 ·subst hbe;exact heo
 ·exact ⟨u,k b u hbe q⟩
theorem Un.mono (u:Un fs ex H H1 h h1) (hs:∀ b∈fs,b∈fs') (hx:∀ b∈ex,b∈ex'):Un fs' ex' H H1 h h1 :=
 ⟨fun b ob q n hb he=>u.keep b ob q n (fun z=>hb (hs b z)) fun z=>he (hx b z),fun _ _ q n _ he=>u.any q n fun z=>he (hx _ z),fun b ob q n he=>u.free b ob q n fun z=>he (hx b z),fun b ob q he=>u.there b ob q fun z=>he (hx b z),u.tups,u.frzs,u.tbls⟩
end
def trk (h:Heap) (H:Hp):List Addr:=(List.range h.objs.size).filter fun a=>(H a).isSome
def hidT (h:Heap) (H:Hp):Heap:=PySem.W.hideAll h (trk h H)
theorem hidT_size (h:Heap) (H:Hp):(hidT h H).objs.size=h.objs.size:=PySem.W.hideAll_size _ _
theorem hidT_get {h:Heap} {H:Hp} {b:Addr} {o:Obj} (e:h.get? b=some o) (n:H b=none):(hidT h H).get? b=some o :=
 PySem.W.hideAll_get _ e fun hm=>by
  have q:(H b).isSome=true:=(List.mem_filter.mp hm).2
  rw [n] at q;simp at q
theorem of_hidT {h:Heap} {H:Hp} {b:Addr} {o:Obj} (e:(hidT h H).get? b=some o):h.get? b=some o/\H b=none:=by
 have e':h.get? b=some o:=PySem.W.of_hideAll (trk h H) e
 refine ⟨e',?_⟩
 cases q:H b with
 | none=>rfl
 | some x =>
  have hm:b∈trk h H:=List.mem_filter.mpr ⟨List.mem_range.mpr (Heap.lt_size e'),by simp [q]⟩
  have z:(hidT h H).get? b=none:=PySem.W.hideAll_none (trk h H) hm
  rw [z] at e;cases e
def allNews (g h:Heap) (L:Addr):List (Addr×Obj):=(List.range h.objs.size).filterMap fun a=>if a=L\/(g.get? a).isSome=true then none else (h.get? a).map fun o=>(a,o)
def rest (g h:Heap) (L d:Addr):List (Addr×Obj):=(allNews g h L).filter fun p=>decide (p.1≠d)
end L2
namespace L2
open PySem PySem.Spec PyProof.Rows
structure Mod (K:PySem.W.Frag) (mg:Str->Option Value) (base:Heap):Prop where
 kin:K.In base
 glob:base.Ns mainGlobals mg
 blt:∃ mb,base.Ns builtinsNs mb/\∀ x:Str,x≠"__name__"->mb x=bootBuiltins x
 nolimit:base.NoLimit
structure Cx where
 prog:Program
 w:World
 K:PySem.W.Frag
 mg:Str->Option Value
 base:Heap
 A:Around
 N:List Str
 s₀:Shared
 H₀:Hp
 env:Env
 outer:List Env
 stack:List Env
 ex:List Addr
 fn:Str->Bool
 calm:Bool
 pn:List (Addr×Obj)
 xe:Value->Shared->Prop
def frs (l:List Env):List Addr:=l.filterMap (·.frame)
abbrev Cx.fs (X:Cx):List Addr:=frs X.outer
def Vis (sc:Scope) (x:Str):Prop:=sc.names.lookup x=some .local\/sc.names.lookup x=some .cell\/sc.names.lookup x=some .free
def Loc (sc:Scope) (x:Str):Prop:=sc.names.lookup x=some .local\/sc.names.lookup x=some .cell
def Look (env:Env) (h:Heap) (m:Str->Option Value) (x:Str) (u:Value):Prop :=
 (env.kindOf x=some .local/\m x=some u)\/((env.kindOf x=some .cell\/env.kindOf x=some .free)/\∃ c,env.cells.lookup x=some c/\h.IsCell c (some u))
structure Cx.Ok (X:Cx):Prop where
 mod:Mod X.K X.mg X.base
 kind:X.env.scope.kind=.function
 glob:X.env.globals=mainGlobals
 blt:X.env.builtins=builtinsNs
 above:X.s₀.heap.objs.size<=X.env.locals
 inj:∀ x y c,X.env.cells.lookup x=some c->X.env.cells.lookup y=some c->x=y
 has:∀ x,(X.env.kindOf x=some .cell\/X.env.kindOf x=some .free)->∃ c,X.env.cells.lookup x=some c
 cab:∀ x c,X.fn x=true->X.env.cells.lookup x=some c->X.s₀.heap.objs.size<=c
 hd:X.calm=true->X.A.handled=none
 frames:X.A.frames=some X.stack
 stk:X.stack=X.outer\/(X.stack=X.env::X.outer/\X.env.frame=some X.env.locals)
 exf:∀ b∈X.ex,b≠X.env.locals/\∀ x c,X.env.cells.lookup x=some c->c≠b
 bs:∀ b o,X.base.get? b=some o->X.s₀.heap.get? b=some o/\X.H₀ b=none
 bsz:X.base.objs.size<=X.s₀.heap.objs.size
 noex:∀ b o,X.base.get? b=some o->b ∉ X.ex
 exfs:∀ b∈X.ex,b ∉ X.fs
 funs:X.s₀.heap.FunFrames X.base X.outer
 frf:∀ b∈X.fs,X.H₀ b=none
structure Inv (X:Cx) (pins:List (Addr×Obj)) (σ:List (Option V)) (H:Hp) (s:Shared):Prop where
 ok:X.Ok
 os:s.os=X.s₀.os
 bare:AllBare s.gens
 base:Un X.fs X.ex X.H₀ H X.s₀.heap s.heap
 loc:∃ m,s.heap.Ns X.env.locals m/\∀ (i:Nat) (x:Str) (v:V),X.N[i]? = some x->σ[i]? = some (some v)->Vis X.env.scope x->∃ u,RelV v u/\Look X.env s.heap m x u
 cell:∀ x c,X.env.cells.lookup x=some c->∃ v,s.heap.IsCell c v
 free:H X.env.locals=none
 freeC:∀ x c,X.env.cells.lookup x=some c->H c=none
 pin:∀ p∈X.pn++pins,s.heap.get? p.1=some p.2/\H p.1=none/\p.1≠X.env.locals/\p.1 ∉ X.fs/\∀ v,p.2.data≠.cell v
 hok:HOk X.prog X.w H s.heap
 len:σ.length=X.N.length
section
variable {X:Cx} {pins:List (Addr×Obj)} {σ:List (Option V)} {H H':Hp} {s:Shared} {h':Heap}
theorem Cx.Ok.nofr (ok:X.Ok) {b:Addr} {o:Obj} (e:X.base.get? b=some o):b ∉ X.fs:=fun hb=>by
 have:=(ok.funs.mem hb).1
 rw [e] at this;cases this
theorem Inv.bs (I:Inv X pins σ H s):∀ b o,X.base.get? b=some o->s.heap.get? b=some o/\H b=none:=fun b o e =>
 ⟨I.base.keep b o (I.ok.bs b o e).1 (I.ok.bs b o e).2 (I.ok.nofr e) (I.ok.noex b o e),I.base.free b o (I.ok.bs b o e).1 (I.ok.bs b o e).2 (I.ok.noex b o e)⟩
theorem Inv.bk (I:Inv X pins σ H s):∀ b o,X.base.get? b=some o->s.heap.get? b=some o:=fun b o e=>(I.bs b o e).1
theorem Inv.mod (I:Inv X pins σ H s):Mod X.K X.mg X.base:=I.ok.mod
theorem Inv.kIn (I:Inv X pins σ H s):X.K.In s.heap:=I.ok.mod.kin.keeps I.bk
theorem Inv.nolimit (I:Inv X pins σ H s):s.heap.NoLimit:=I.ok.mod.nolimit.keeps I.bk
theorem Inv.lt (I:Inv X pins σ H s):X.env.locals < s.heap.objs.size:=let ⟨_,hn,_⟩:=I.loc;hn.lt
theorem Inv.sz (I:Inv X pins σ H s):X.s₀.heap.objs.size<=s.heap.objs.size:=Nat.le_trans I.ok.above (Nat.le_of_lt I.lt)
theorem Inv.nofs (I:Inv X pins σ H s) {a:Addr} (h:s.heap.objs.size<=a):a ∉ X.fs:=fun hb=>by
 obtain ⟨_,o,ho,_⟩:=I.ok.funs.mem hb
 exact absurd (Nat.lt_of_lt_of_le (Heap.lt_size ho) (Nat.le_trans I.sz h)) (Nat.lt_irrefl _)
theorem Inv.cne (I:Inv X pins σ H s):∀ x c,X.env.cells.lookup x=some c->c≠X.env.locals:=fun x c e z=>by
 obtain ⟨v,o,ho,hd⟩:=I.cell x c e
 obtain ⟨m,⟨o',es,ep,ho',hd',_⟩,_⟩:=I.loc
 rw [z,ho'] at ho;cases ho;rw [hd'] at hd;cases hd
theorem Inv.funs (I:Inv X pins σ H s):s.heap.FunFrames X.base X.outer:=by
 have all:∀ (l:List Env),(∀ b∈frs l,b∈X.fs)->X.s₀.heap.FunFrames X.base l->s.heap.FunFrames X.base l:=by
  intro l
  induction l with
  | nil=>intro _ _;trivial
  | cons env r ih =>
   intro hs hl
   obtain ⟨hk,⟨L,o,hf,hn,ho,hd⟩,hr⟩:=hl
   have hL:L∈X.fs:=hs L (by unfold frs;rw [List.filterMap_cons,hf];exact List.mem_cons_self)
   obtain ⟨sl,e⟩:=I.base.slot L o ho (I.ok.frf L hL) hL fun z=>I.ok.exfs L z hL
   exact ⟨hk,⟨L,_,hf,hn,e,hd⟩,ih (fun b hb=>hs b (by unfold frs;rw [List.filterMap_cons,hf];exact List.mem_cons_of_mem _ hb)) hr⟩
 exact all X.outer (fun _ hb=>hb) I.ok.funs
theorem Inv.stack (I:Inv X pins σ H s):s.heap.FunFrames X.base X.stack:=by
 rcases I.ok.stk with e | ⟨e,hf⟩
 ·rw [e];exact I.funs
 ·rw [e]
  obtain ⟨m,hn,_⟩:=I.loc
  refine .cons (by rw [I.ok.kind];decide) hf hn ?_ I.funs
  exact Heap.get?_none_of_le (Nat.le_trans I.ok.bsz I.ok.above)
theorem Inv.stkSub (I:Inv X pins σ H s):∀ b∈frs X.stack,b∈X.env.locals::X.fs:=fun b hb=>by
 rcases I.ok.stk with e | ⟨e,hf⟩
 ·rw [e] at hb;exact List.mem_cons_of_mem _ hb
 ·rw [e] at hb
  unfold frs at hb
  rw [List.filterMap_cons,hf] at hb
  exact hb
theorem Inv.stkFree (I:Inv X pins σ H s):∀ b∈frs X.stack,H b=none:=fun b hb=>by
 rcases List.mem_cons.mp (I.stkSub b hb) with e | hb
 ·rw [e];exact I.free
 ·obtain ⟨_,o,ho,_⟩:=I.ok.funs.mem hb
  exact I.base.free b o ho (I.ok.frf b hb) fun z=>I.ok.exfs b z hb
theorem Inv.step {g':Array GenState} {t':Nat} {d':Drawn} {ch:List Addr} (I:Inv X pins σ H s)
  (hch:∀ b∈ch,(b∈X.ex\/X.s₀.heap.objs.size<=b)/\b≠X.env.locals/\(∀ x c,X.env.cells.lookup x=some c->c≠b)/\∀ p∈X.pn++pins,p.1≠b)
  (keep:∀ b o,b≠X.env.locals->b ∉ X.fs->b ∉ ch->s.heap.get? b=some o->H b=none->h'.get? b=some o)
  (slot:∀ b o,b≠X.env.locals->b∈X.fs->b ∉ ch->s.heap.get? b=some o->H b=none->∃ sl,h'.get? b=some { o with slots:=sl }) (free:∀ b o,b ∉ ch->s.heap.get? b=some o->H b=none->H' b=none)
  (there:∀ b o,b ∉ ch->s.heap.get? b=some o->∃ o',h'.get? b=some o')
  (tups:∀ b xs,H b=some (.tup xs)->H' b=some (.tup xs)) (frzs:∀ b o u,H b=some (.frz o u)->H' b=some (.frz o u)) (tbls:∀ b ps,H b=some (.tbl ps)->∃ more,H' b=some (.tbl (ps++more)))
  (ns:∀ m,s.heap.Ns X.env.locals m->h'.Ns X.env.locals m) (hok:HOk X.prog X.w H' h') (hg:AllBare g') :
  Inv X pins σ H' { s with heap:=h',gens:=g',drawn:=d',toks:=t' }:=by
 have neL:∀ b o,X.s₀.heap.get? b=some o->b≠X.env.locals:=fun b o e=>Nat.ne_of_lt (Nat.lt_of_lt_of_le (Heap.lt_size e) I.ok.above)
 have neC:∀ b o,X.s₀.heap.get? b=some o->b ∉ X.ex->b ∉ ch:=fun b o e hx hb=>by
  rcases (hch b hb).1 with z | z
  ·exact hx z
  ·exact absurd (Nat.lt_of_lt_of_le (Heap.lt_size e) z) (Nat.lt_irrefl _)
 have cellK:∀ x c,X.env.cells.lookup x=some c->∀ v,s.heap.IsCell c v->h'.IsCell c v:=fun x c e v ⟨o,ho,hd⟩=>by
  have nch:c ∉ ch:=fun z=>(hch c z).2.2.1 x c e rfl
  by_cases hc:c∈X.fs
  ·obtain ⟨sl,q⟩:=slot c o (I.cne x c e) hc nch ho (I.freeC x c e)
   exact ⟨_,q,hd⟩
  ·exact ⟨o,keep c o (I.cne x c e) hc nch ho (I.freeC x c e),hd⟩
 refine ⟨I.ok,I.os,hg,⟨fun b o e n hb hx=>?_,fun b o e n hb hx=>?_,fun b o e n hx=>?_,fun b o e hx=>?_,fun b xs e=>tups b xs (I.base.tups b xs e),fun b o xs e=>frzs b o xs (I.base.frzs b o xs e),fun b ps e=>?_⟩,?_,fun x c e=>?_,?_,fun x c e=>?_,fun p hp=>?_,hok,I.len⟩
 ·exact keep b o (neL b o e) hb (neC b o e hx) (I.base.keep b o e n hb hx) (I.base.free b o e n hx)
 ·obtain ⟨sl,e1⟩:=I.base.slot b o e n hb hx
  obtain ⟨sl',e2⟩:=slot b _ (neL b o e) hb (neC b o e hx) e1 (I.base.free b o e n hx)
  exact ⟨sl',e2⟩
 ·obtain ⟨o',e1⟩:=I.base.there b o e hx
  exact free b o' (neC b o e hx) e1 (I.base.free b o e n hx)
 ·obtain ⟨o',e1⟩:=I.base.there b o e hx
  exact there b o' (neC b o e hx) e1
 ·obtain ⟨m1,e1⟩:=I.base.tbls b ps e
  obtain ⟨m2,e2⟩:=tbls b _ e1
  exact ⟨m1++m2,by rw [e2,Array.append_assoc]⟩
 ·obtain ⟨m,hn,hl⟩:=I.loc
  refine ⟨m,ns m hn,fun i x v e1 e2 e3=>?_⟩
  obtain ⟨u,r,l⟩:=hl i x v e1 e2 e3
  refine ⟨u,r,?_⟩
  rcases l with l | ⟨k,c,e,z⟩
  ·exact .inl l
  ·exact .inr ⟨k,c,e,cellK x c e _ z⟩
 ·obtain ⟨v,z⟩:=I.cell x c e
  exact ⟨v,cellK x c e v z⟩
 ·obtain ⟨m,⟨o,_,_,ho,_⟩,_⟩:=I.loc
  exact free _ o (fun z=>(hch _ z).2.1 rfl) ho I.free
 ·obtain ⟨v,o,ho,hd⟩:=I.cell x c e
  exact free c o (fun z=>(hch c z).2.2.1 x c e rfl) ho (I.freeC x c e)
 ·obtain ⟨e,n,ne,nf,d⟩:=I.pin p hp
  have nch:p.1 ∉ ch:=fun z=>(hch p.1 z).2.2.2 p hp rfl
  exact ⟨keep p.1 p.2 ne nf nch e n,free p.1 p.2 nch e n,ne,nf,d⟩
theorem Inv.un {t':Nat} (I:Inv X pins σ H s) (u:Un X.fs [] H H' s.heap h') (hok:HOk X.prog X.w H' h'):Inv X pins σ H' { s with heap:=h',toks:=t' }:=by
 obtain ⟨m,⟨o,es,ep,ho,r⟩,_⟩:=id I.loc
 obtain ⟨sl,hL⟩:=u.any ho I.free (by simp)
 exact I.step (g':=s.gens) (d':=s.drawn) (ch:=[]) (fun _ z=>nomatch z) (fun b o _ hb _ e n=>u.keep b o e n hb (by simp)) (fun b o _ hb _ e n=>u.slot b o e n hb (by simp)) (fun b o _ e n=>u.free b o e n (by simp)) (fun b o _ e=>u.there b o e (by simp)) u.tups u.frzs u.tbls (fun m' hm=>by
  obtain ⟨o',es',ep',ho',r'⟩:=hm
  rw [ho] at ho';cases ho'
  exact ⟨_,es',ep',hL,r'⟩) hok I.bare
theorem Inv.call {g':Array GenState} {t':Nat} {d':Drawn} {ch:List Addr} (I:Inv X pins σ H s) (u:Un (frs X.stack) ch H H' s.heap h') (hok:HOk X.prog X.w H' h') (hg:AllBare g')
  (hch:∀ b∈ch,(b∈X.ex\/X.s₀.heap.objs.size<=b)/\b≠X.env.locals/\(∀ x c,X.env.cells.lookup x=some c->c≠b)/\∀ p∈X.pn++pins,p.1≠b) :
  Inv X pins σ H' { s with heap:=h',gens:=g',drawn:=d',toks:=t' }:=by
 obtain ⟨m,⟨o,es,ep,ho,r⟩,_⟩:=id I.loc
 obtain ⟨sl,hL⟩:=u.any ho I.free fun z=>(hch _ z).2.1 rfl
 exact I.step (ch:=ch) hch (fun b o hL hb hc e n=>u.keep b o e n (fun z=>(List.mem_cons.mp (I.stkSub b z)).elim hL hb) hc) (fun b o _ _ hc e n=>u.any e n hc) (fun b o hc e n=>u.free b o e n hc) (fun b o hc e=>u.there b o e hc) u.tups u.frzs u.tbls (fun m' hm=>by
  obtain ⟨o',es',ep',ho',r'⟩:=hm
  rw [ho] at ho';cases ho'
  exact ⟨_,es',ep',hL,r'⟩) hok hg
theorem Inv.turned {t':Nat} {it:Addr} (I:Inv X pins σ H s) (k:∀ b o,b≠it->s.heap.get? b=some o->h'.get? b=some o) (hn:H it=none) (hL:it≠X.env.locals)
  (h1:it∈X.ex\/X.s₀.heap.objs.size<=it) (h2:∀ x c,X.env.cells.lookup x=some c->c≠it) (h3:∀ p∈X.pn++pins,p.1≠it):Inv X pins σ H { s with heap:=h',toks:=t' }:=by
 have nit:∀ b u,H b=some u->b≠it:=fun b u e z=>by rw [z,hn] at e;cases e
 refine I.step (g':=s.gens) (d':=s.drawn) (ch:=[it]) (fun b hb=>?_) (fun b o _ _ hc e _=>k b o (fun z=>hc (by simp [z])) e) (fun b o _ _ hc e _=>⟨o.slots,k b o (fun z=>hc (by simp [z])) e⟩) (fun _ _ _ _ n=>n)
  (fun b o hc e=>⟨o,k b o (fun z=>hc (by simp [z])) e⟩) (fun _ _ e=>e) (fun _ _ _ e=>e) (fun b ps e=>⟨#[],by rw [e];simp⟩) (fun m hm=>?_) (fun b u e=>?_) I.bare
 ·have e:b=it:=by simpa using hb
  subst e
  exact ⟨h1,hL,h2,h3⟩
 ·obtain ⟨o,es,ep,ho,r⟩:=hm
  exact ⟨o,es,ep,k _ o (Ne.symm hL) ho,r⟩
 ·refine (I.hok b u e).stay (fun c v hc q=>k c v ?_ q) (fun _ q=>q) fun _ _ q=>q
  rcases hc with z | z
  ·rw [z];exact nit b u e
  ·exact nit c _ z
theorem Inv.tok (I:Inv X pins σ H s) (t:Nat):Inv X pins σ H { s with toks:=t }:=I.un (h':=s.heap) (t':=t) Un.refl I.hok
theorem Inv.kept {t':Nat} (I:Inv X pins σ H s) (k:∀ b u,s.heap.get? b=some u->h'.get? b=some u):Inv X pins σ H { s with heap:=h',toks:=t' }:=I.un (Un.kept k) (I.hok.kept k)
theorem Inv.laid {a:Addr} {o:HO} {t':Nat} (I:Inv X pins σ H s) (k:∀ b u,s.heap.get? b=some u->h'.get? b=some u) (hp:s.heap.objs.size<=a) (new:ObjOk X.prog X.w (upd H a o) h' a o) :
  Inv X pins σ (upd H a o) { s with heap:=h',toks:=t' }:=I.un (Un.laid k hp (I.hok.fresh hp)) (I.hok.laid k hp new)
theorem Inv.write {x e:Addr} {o:HO} {t':Nat} (I:Inv X pins σ H s) (mu:Mut (H x)) (he:e=x\/H e=some (.own x)) (k:∀ b u,b≠e->s.heap.get? b=some u->h'.get? b=some u) (heo:∃ u,h'.get? e=some u)
  (new:ObjOk X.prog X.w (upd H x o) h' x o):Inv X pins σ (upd H x o) { s with heap:=h',toks:=t' }:=I.un (Un.write mu he k heo) (I.hok.write mu he k heo new)
theorem Inv.pins_of {pins':List (Addr×Obj)} (I:Inv X pins σ H s) (h:∀ p∈pins',s.heap.get? p.1=some p.2/\H p.1=none/\p.1≠X.env.locals/\p.1 ∉ X.fs/\∀ v,p.2.data≠.cell v):Inv X pins' σ H s :=
 ⟨I.ok,I.os,I.bare,I.base,I.loc,I.cell,I.free,I.freeC,fun p hp=>(List.mem_append.mp hp).elim (fun z=>I.pin p (List.mem_append_left _ z)) (h p),I.hok,I.len⟩
theorem nodup_ix {N:List Str} (hN:N.Nodup) {i j:Nat} {x:Str} (a:N[i]? = some x) (b:N[j]? = some x):i=j:=by
 obtain ⟨h1,e1⟩:=List.getElem?_eq_some_iff.mp a
 obtain ⟨h2,e2⟩:=List.getElem?_eq_some_iff.mp b
 exact (List.getElem_inj hN).mp (e1.trans e2.symm)
theorem store_ok2 {M:Model} {A:Around} {E:Value->Shared->Prop} {i:Nat} {x:Str} {v:V} {u:Value} {Q:Unit->Shared->Prop} (I:Inv X pins σ H s) (hN:X.N.Nodup) (hi:X.N[i]? = some x) (hx:Loc X.env.scope x) (r:RelV v u)
  (h:∀ s',Inv X pins (σ.set i (some v)) H s'->(∃ a,Heap.SameBut a s.heap s'.heap/\(a=X.env.locals\/X.env.cells.lookup x=some a))->Q () s') (hf:X.fn x=true\/X.env.scope.names.lookup x=some .local:=by first | exact .inl rfl | exact .inr rfl | assumption):wpAny M A (storeName X.env x u) Q E s:=by
 obtain ⟨m,hn,hl⟩:=id I.loc
 have hcls:(X.env.scope.kind == .class || (X.env.scope.kind == .module && X.env.locals != X.env.globals))=false:=by rw [I.ok.kind];rfl
 have hiσ:i < σ.length:=by rw [I.len];exact (List.getElem?_eq_some_iff.mp hi).1
 have cne:=I.cne
 have tracked:∀ {a:Addr} {h':Heap},(∃ o,s.heap.get? a=some o/\H a=none)->Heap.SameBut a s.heap h'->HOk X.prog X.w H h':=fun {a h'} ha hs b ob e=>by
  obtain ⟨_,_,hfree⟩:=ha
  refine (I.hok b ob e).stay (fun c w' hc q=>(hs.2 c ?_).trans q) (fun _ q=>q) fun _ _ q=>q
  rintro rfl
  rcases hc with rfl | hc
  ·rw [hfree] at e;cases e
  ·rw [hfree] at hc;cases hc
 rcases hx with hk | hk
 ·refine wpAny_storeName_local hk hn (fun h' hn' hs=>?_) hcls
  obtain ⟨oL,_,_,hoL,_⟩:=id hn
  refine h _ ⟨I.ok,I.os,I.bare,⟨fun b o e n hb hx=>?_,fun b o e n hb hx=>?_,I.base.free,fun b o e hx=>?_,I.base.tups,I.base.frzs,I.base.tbls⟩,⟨_,hn',fun j y v' e1 e2 e3=>?_⟩,fun y c e=>?_,I.free,I.freeC,fun p hp=>?_,tracked ⟨oL,hoL,I.free⟩ hs,by simpa using I.len⟩ ⟨_,hs,.inl rfl⟩
  ·exact (hs.2 b (Nat.ne_of_lt (Nat.lt_of_lt_of_le (Heap.lt_size e) I.ok.above))).trans (I.base.keep b o e n hb hx)
  ·obtain ⟨sl,e1⟩:=I.base.slot b o e n hb hx
   exact ⟨sl,(hs.2 b (Nat.ne_of_lt (Nat.lt_of_lt_of_le (Heap.lt_size e) I.ok.above))).trans e1⟩
  ·obtain ⟨o',e1⟩:=I.base.there b o e hx
   exact ⟨o',(hs.2 b (Nat.ne_of_lt (Nat.lt_of_lt_of_le (Heap.lt_size e) I.ok.above))).trans e1⟩
  ·by_cases hj:j=i
   ·subst hj
    rw [hi] at e1;cases e1
    rw [List.getElem?_set_self hiσ] at e2
    cases e2
    exact ⟨u,r,.inl ⟨hk,by simp⟩⟩
   ·rw [List.getElem?_set_ne (Ne.symm hj)] at e2
    obtain ⟨u',r',q⟩:=hl j y v' e1 e2 e3
    refine ⟨u',r',?_⟩
    rcases q with ⟨k,e⟩ | ⟨k,c,e,z⟩
    ·refine .inl ⟨k,?_⟩
     have:y≠x:=fun e=>hj (nodup_ix hN e1 (e ▸ hi))
     simp [this,e]
    ·exact .inr ⟨k,c,e,z.sameBut hs (cne y c e)⟩
  ·obtain ⟨w',z⟩:=I.cell y c e
   exact ⟨w',z.sameBut hs (cne y c e)⟩
  ·obtain ⟨e,n,ne,nf,d⟩:=I.pin p hp
   exact ⟨(hs.2 p.1 ne).trans e,n,ne,nf,d⟩
 ·have hfn:X.fn x=true:=by
   rcases hf with z | z
   ·exact z
   ·rw [z] at hk;cases hk
  obtain ⟨c,hc⟩:=I.ok.has x (.inl hk)
  obtain ⟨w',z⟩:=I.cell x c hc
  refine wpAny_storeName_cell I.ok.kind hk hc z (fun h' hc' hs=>?_)
  obtain ⟨oc,hoc,hocd⟩:=id z
  refine h { s with heap:=h' } ⟨I.ok,I.os,I.bare,⟨fun b o e n hb hx=>?_,fun b o e n hb hx=>?_,I.base.free,fun b o e hx=>?_,I.base.tups,I.base.frzs,I.base.tbls⟩,⟨m,hn.sameBut hs (Ne.symm (cne x c hc)),fun j y v' e1 e2 e3=>?_⟩,fun y c' e=>?_,I.free,I.freeC,fun p hp=>?_,tracked ⟨oc,hoc,I.freeC x c hc⟩ hs,by simpa using I.len⟩ ⟨c,hs,.inr hc⟩
  ·exact (hs.2 b (Nat.ne_of_lt (Nat.lt_of_lt_of_le (Heap.lt_size e) (I.ok.cab x c hfn hc)))).trans (I.base.keep b o e n hb hx)
  ·obtain ⟨sl,e1⟩:=I.base.slot b o e n hb hx
   exact ⟨sl,(hs.2 b (Nat.ne_of_lt (Nat.lt_of_lt_of_le (Heap.lt_size e) (I.ok.cab x c hfn hc)))).trans e1⟩
  ·obtain ⟨o',e1⟩:=I.base.there b o e hx
   exact ⟨o',(hs.2 b (Nat.ne_of_lt (Nat.lt_of_lt_of_le (Heap.lt_size e) (I.ok.cab x c hfn hc)))).trans e1⟩
  ·by_cases hj:j=i
   ·subst hj
    rw [hi] at e1;cases e1
    rw [List.getElem?_set_self hiσ] at e2
    cases e2
    exact ⟨u,r,.inr ⟨.inl hk,c,hc,hc'⟩⟩
   ·rw [List.getElem?_set_ne (Ne.symm hj)] at e2
    obtain ⟨u',r',q⟩:=hl j y v' e1 e2 e3
    refine ⟨u',r',?_⟩
    rcases q with q | ⟨k,c',e,z'⟩
    ·exact .inl q
    ·refine .inr ⟨k,c',e,z'.sameBut hs ?_⟩
     rintro rfl
     exact hj (nodup_ix hN e1 (I.ok.inj _ _ _ e hc ▸ hi))
  ·by_cases hcc:c'=c
   ·subst hcc;exact ⟨_,hc'⟩
   ·obtain ⟨w2,z2⟩:=I.cell y c' e
    exact ⟨w2,z2.sameBut hs hcc⟩
  ·obtain ⟨e,n,ne,nf,d⟩:=I.pin p hp
   refine ⟨(hs.2 p.1 ?_).trans e,n,ne,nf,d⟩
   intro q
   rw [q,hoc] at e
   have q':oc=p.2:=Option.some.inj e
   exact d w' (by rw [← q'];exact hocd)
theorem store_ok {M:Model} {A:Around} {E:Value->Shared->Prop} {i:Nat} {x:Str} {v:V} {u:Value} {Q:Unit->Shared->Prop} (I:Inv X pins σ H s) (hN:X.N.Nodup) (hi:X.N[i]? = some x) (hx:Loc X.env.scope x) (r:RelV v u)
  (h:∀ s',Inv X pins (σ.set i (some v)) H s'->Q () s') (hf:X.fn x=true\/X.env.scope.names.lookup x=some .local:=by first | exact .inl rfl | exact .inr rfl | assumption):wpAny M A (storeName X.env x u) Q E s :=
 store_ok2 I hN hi hx r (fun s' I' _=>h s' I') hf
theorem Inv.call' {s':Shared} {ch:List Addr} (I:Inv X pins σ H s) (ho:s'.os=s.os) (u:Un (frs X.stack) ch H H' s.heap s'.heap) (hok:HOk X.prog X.w H' s'.heap) (hg:AllBare s'.gens)
  (hch:∀ b∈ch,(b∈X.ex\/X.s₀.heap.objs.size<=b)/\b≠X.env.locals/\(∀ x c,X.env.cells.lookup x=some c->c≠b)/\∀ p∈X.pn++pins,p.1≠b):Inv X pins σ H' s':=by
 obtain ⟨h',g',d',t',o'⟩:=s'
 have e:o'=s.os:=ho
 subst e
 exact I.call (g':=g') (t':=t') (d':=d') u hok hg hch
end
abbrev XK:=Value->Option Addr->Hp->Prop
abbrev St:=List (Option V)
abbrev VK:=V->Hp->Prop
abbrev TE:=St->Hp->VK->Prop
abbrev TT:=St->Hp->(Bool->Hp->Prop)->Prop
abbrev TA:=St->Hp->(List V->Hp->Prop)->Prop
structure Ends where
 nx:St->Hp->Prop
 rt:VK
 bk:St->Hp->Prop:=fun _ _=>False
 ct:St->Hp->Prop:=fun _ _=>False
abbrev TS:=Ends->St->Hp->Prop
def EP (X:Cx) (pins:List (Addr×Obj)) (σ:St) (Q:VK) (u:Value) (s':Shared):Prop:=∃ v H',Inv X pins σ H' s'/\RelV v u/\Q v H'
def TP (X:Cx) (pins:List (Addr×Obj)) (σ:St) (Q:Bool->Hp->Prop) (b:Bool) (s':Shared):Prop:=∃ H',Inv X pins σ H' s'/\Q b H'
def AP (X:Cx) (pins:List (Addr×Obj)) (σ:St) (Q:List V->Hp->Prop) (us:List Value) (s':Shared):Prop:=∃ vs H',Inv X pins σ H' s'/\Vals vs us/\Q vs H'
def SP (X:Cx) (pins:List (Addr×Obj)) (D:Ends) (f:Flow) (s':Shared):Prop :=
 match f with
 | .next=>∃ σ' H',Inv X pins σ' H' s'/\D.nx σ' H'
 | .brk=>∃ σ' H',Inv X pins σ' H' s'/\D.bk σ' H'
 | .cont=>∃ σ' H',Inv X pins σ' H' s'/\D.ct σ' H'
 | .ret u=>∃ v σ' H',Inv X pins σ' H' s'/\RelV v u/\D.rt v H'
def PE (X:Cx) (e:Expr) (t:TE):Prop :=
 ∀ (pins:List (Addr×Obj)) (s:Shared) (σ:St) (H:Hp) (Q:VK),Inv X pins σ H s->t σ H Q->wpAny (model X.prog X.w) X.A (eval e X.env) (EP X pins σ Q) X.xe s
def PT (X:Cx) (e:Expr) (t:TT):Prop :=
 ∀ (pins:List (Addr×Obj)) (s:Shared) (σ:St) (H:Hp) (Q:Bool->Hp->Prop),Inv X pins σ H s->t σ H Q->wpAny (model X.prog X.w) X.A (isTrue e X.env (eval e X.env)) (TP X pins σ Q) X.xe s
def PW (X:Cx) (e:Expr) (t:TT):Prop :=
 ∀ (whole:Sem Value) (pins:List (Addr×Obj)) (s:Shared) (σ:St) (H:Hp) (Q:Bool->Hp->Prop),Inv X pins σ H s->t σ H Q->wpAny (model X.prog X.w) X.A (isTrue e X.env whole) (TP X pins σ Q) X.xe s
theorem PW.pt {X:Cx} {e:Expr} {t:TT} (h:PW X e t):PT X e t:=h _
def PA (X:Cx) (es:List Expr) (t:TA):Prop :=
 ∀ (pos:Pos) (pins:List (Addr×Obj)) (s:Shared) (σ:St) (H:Hp) (Q:List V->Hp->Prop),Inv X pins σ H s->t σ H Q->wpAny (model X.prog X.w) X.A (spliced (backTo pos (starEach es X.env))) (AP X pins σ Q) X.xe s
def PS (X:Cx) (st:Stmt) (t:TS):Prop :=
 ∀ (pins:List (Addr×Obj)) (s:Shared) (σ:St) (H:Hp) (D:Ends),Inv X pins σ H s->t D σ H->wpAny (model X.prog X.w) X.A (exec st X.env) (SP X pins D) X.xe s
def PSs (X:Cx) (st:List Stmt) (t:TS):Prop :=
 ∀ (pins:List (Addr×Obj)) (s:Shared) (σ:St) (H:Hp) (D:Ends),Inv X pins σ H s->t D σ H->wpAny (model X.prog X.w) X.A (execs st X.env) (SP X pins D) X.xe s
theorem thn {α:Type} {t:Sem α} {Q Q':α->Shared->Prop} {M:Model} {A:Around} {E:Value->Shared->Prop} {s:Shared} (h:wpAny M A t Q E s) (hQ:∀ a s,Q a s->Q' a s):wpAny M A t Q' E s:=wpAny_mono h hQ fun _ _ x=>x
end L2
namespace L2
open PySem PySem.Spec PyProof.Rows
section
variable {X:Cx}
def tVar (i:Nat):TE:=fun σ H Q=>∃ v,σ[i]? = some (some v)/\Q v H
def tC (v:V):TE:=fun _ H Q=>Q v H
theorem pe_var {i:Nat} {x:Str} {pos:Pos} (hN:X.N[i]? = some x) (hv:Vis X.env.scope x) (hd:(x == ("__debug__":Str))=false:=by decide) (hcd:(x == ("__classdict__":Str))=false:=by decide):PE X (.Name x pos) (tVar i):=by
 intro pins s σ H Q I h
 obtain ⟨v,e,h⟩:=h
 obtain ⟨m,hn,hl⟩:=I.loc
 obtain ⟨u,r,l⟩:=hl i x v hN e hv
 have fin:EP X pins σ Q u s:=⟨v,H,I,r,h⟩
 rcases l with ⟨hk,hm⟩ | ⟨hk,c,hc,hcell⟩
 ·exact wpAny_Name (wpAny_loadName_local I.ok.kind hk hn hm fin) hd
 ·rcases hk with hk | hk
  ·exact wpAny_Name (wpAny_loadName_cell I.ok.kind hk hc hcell fin) hd
  ·exact wpAny_Name (wpAny_loadName_free I.ok.kind hk hc hcell fin hcd) hd
theorem pe_int {i j pos}:PE X (.Constant (.int i) j pos) (tC (.int i)):=fun _ _ _ H _ I h=>wpAny_Constant_int ⟨.int i,H,I.tok _,⟨_,rfl⟩,h⟩
theorem pe_bl {b j pos}:PE X (.Constant (.bool b) j pos) (tC (.bl b)):=fun _ _ _ H _ I h=>Constant_bool ⟨.bl b,H,I,rfl,h⟩
theorem pe_non {j pos}:PE X (.Constant .none j pos) (tC .non):=fun _ _ _ H _ I h=>Constant_none ⟨.non,H,I,rfl,h⟩
theorem pe_str {x j pos}:PE X (.Constant (.str x) j pos) (tC (.str x)):=fun _ _ _ H _ I h=>Calls.Constant_str ⟨.str x,H,I.tok _,⟨_,rfl⟩,h⟩
def Gl (X:Cx) (x:Str):Prop:=X.env.kindOf x=some .globalImplicit
theorem ld_glob {E:Value->Shared->Prop} {pins:List (Addr×Obj)} {s:Shared} {σ:St} {H:Hp} {x:Str} {u:Value} {pos:Pos} {Q:Value->Shared->Prop} (I:Inv X pins σ H s) (hg:Gl X x) (hm:X.mg x=some u) (h:Q u s)
  (hd:(x == ("__debug__":Str))=false:=by decide):wpAny (model X.prog X.w) X.A (eval (.Name x pos) X.env) Q E s :=
 Calls.Name_function_global I.ok.kind hg (Calls.loadGlobal_global (by rw [I.ok.glob];exact I.mod.glob.keeps I.bk) hm h) hd
theorem ld_blt {E:Value->Shared->Prop} {pins:List (Addr×Obj)} {s:Shared} {σ:St} {H:Hp} {x:Str} {u:Value} {pos:Pos} {Q:Value->Shared->Prop} (I:Inv X pins σ H s) (hg:Gl X x) (hm:X.mg x=none) (hv:bootBuiltins x=some u) (h:Q u s)
  (hn:x≠"__name__":=by decide) (hd:(x == ("__debug__":Str))=false:=by decide):wpAny (model X.prog X.w) X.A (eval (.Name x pos) X.env) Q E s:=by
 obtain ⟨mb,h1,h2⟩:=I.mod.blt
 exact Calls.Name_function_global I.ok.kind hg (Calls.loadGlobal_builtin (by rw [I.ok.glob];exact I.mod.glob.keeps I.bk) hm (by rw [I.ok.blt];exact h1.keeps I.bk) ((h2 x hn).trans hv) h) hd
theorem pe_glob {x:Str} {v:V} {u:Value} {pos:Pos} (hg:Gl X x) (hm:X.mg x=some u) (r:RelV v u) (hd:(x == ("__debug__":Str))=false:=by decide):PE X (.Name x pos) (tC v) :=
 fun _ _ _ H _ I h=>ld_glob I hg hm ⟨v,H,I,r,h⟩ hd
theorem pe_bltn {x:Str} {v:V} {u:Value} {pos:Pos} (hg:Gl X x) (hm:X.mg x=none) (hv:bootBuiltins x=some u) (r:RelV v u) (hn:x≠"__name__":=by decide) (hd:(x == ("__debug__":Str))=false:=by decide):PE X (.Name x pos) (tC v) :=
 fun _ _ _ H _ I h=>ld_blt I hg hm hv ⟨v,H,I,r,h⟩ hn hd
variable {a b:Expr} {ta tb:TE} {pos:Pos}
def PC (X:Cx) (op:CmpOp) (a b:Expr) (t:TE):Prop :=
 ∀ (pins:List (Addr×Obj)) (s:Shared) (σ:St) (H:Hp) (Q:VK),Inv X pins σ H s->t σ H Q ->
  wpAny (model X.prog X.w) X.A (eval a X.env) (fun v s₁=>wpAny (model X.prog X.w) X.A (eval b X.env) (fun u s₂=>wpAny (model X.prog X.w) X.A (compareOp op v u) (EP X pins σ Q) X.xe s₂) X.xe s₁) X.xe s
theorem nobehind (b:Expr) {op:CmpOp} (h:op≠.In) (h2:op≠.NotIn):behindInMarks op b=false:=by
 have e1:(op == CmpOp.In)=false:=by cases op <;> first | rfl | exact absurd rfl h
 have e2:(op == CmpOp.NotIn)=false:=by cases op <;> first | rfl | exact absurd rfl h2
 cases b <;> simp [behindInMarks,e1,e2]
def tIsN (ta:TE):TE:=fun σ H Q=>ta σ H fun x H1=>Q (.bl (decide (x=.non))) H1
def tNotN (ta:TE):TE:=fun σ H Q=>ta σ H fun x H1=>Q (.bl (!decide (x=.non))) H1
theorem RelV.none_iff {x:V} {v:Value} (r:RelV x v):(v == Value.none)=decide (x=.non):=by
 cases x with
 | non=>cases r;rfl
 | bl _=>cases r;rfl
 | int _=>obtain ⟨t,rfl⟩:=r;rfl
 | str _=>obtain ⟨t,rfl⟩:=r;rfl
 | byt _=>obtain ⟨t,rfl⟩:=r;rfl
 | flt _=>obtain ⟨t,rfl⟩:=r;rfl
 | ref _=>cases r;rfl
 | ty _=>cases r;rfl
theorem pc_isN {j pos'} (ha:PE X a ta):PC X .Is a (.Constant .none j pos') (tIsN ta):=by
 intro pins s σ H Q I h
 refine thn (ha pins s σ H _ I h) fun v s1 ⟨x,H1,I1,r1,q1⟩=>?_
 exact Constant_none (is_none_gen ⟨.bl _,H1,I1,by rw [r1.none_iff];rfl,q1⟩)
theorem pc_notN {j pos'} (ha:PE X a ta):PC X .IsNot a (.Constant .none j pos') (tNotN ta):=by
 intro pins s σ H Q I h
 refine thn (ha pins s σ H _ I h) fun v s1 ⟨x,H1,I1,r1,q1⟩=>?_
 exact Constant_none (isnot_none_gen ⟨.bl _,H1,I1,by rw [r1.none_iff];rfl,q1⟩)
def tB (t:TE):TT:=fun σ H Q=>t σ H fun x H1=>∃ c,x=.bl c/\Q c H1
theorem pe_cmp {op:CmpOp} {t:TE} (h:PC X op a b t) (h1:behindInMarks op b=false:=by first | exact nobehind _ (by decide) (by decide) | rfl):PE X (.Compare a [op] [b] pos) t:=fun pins s σ H Q I hw=>wpAny_Compare1 (h pins s σ H Q I hw) h1
theorem pt_cmp {op:CmpOp} {t:TE} (h:PC X op a b t) (h1:behindInMarks op b=false:=by first | exact nobehind _ (by decide) (by decide) | rfl):PT X (.Compare a [op] [b] pos) (tB t):=by
 intro pins s σ H Q I hw
 refine wpAny_isTrue_Compare1 (thn (h pins s σ H _ I hw) fun v s1 h1=>thn h1 fun u s2 h2=>thn h2 fun c s3 ⟨x,H1,I1,r1,q1⟩=>?_) h1
 obtain ⟨d,rfl,q⟩:=q1
 cases r1
 exact wpAny_truthy_bool ⟨H1,I1,q⟩
variable {tA tB':TT} {rest:List Expr}
def tAnd (t u:TT):TT:=fun σ H Q=>t σ H fun c H1=>if c=true then u σ H1 Q else Q false H1
def tOr (t u:TT):TT:=fun σ H Q=>t σ H fun c H1=>if c=true then Q true H1 else u σ H1 Q
def tNot (t:TT):TT:=fun σ H Q=>t σ H fun c H1=>Q (!c) H1
theorem pw_and1 (ha:PT X a tA):PW X (.BoolOp .And [a] pos) tA:=by
 intro wh pins s σ H Q I h
 refine isTrue_and (thn (ha pins s σ H Q I h) fun c s1 e=>?_)
 cases c with
 | true=>exact isTrue_and_nil e
 | false=>exact e
theorem pw_or1 (ha:PT X a tA):PW X (.BoolOp .Or [a] pos) tA:=by
 intro wh pins s σ H Q I h
 refine isTrue_or (thn (ha pins s σ H Q I h) fun c s1 e=>?_)
 cases c with
 | false=>exact isTrue_or_nil e
 | true=>exact e
theorem pw_and (ha:PT X a tA) (hb:PW X (.BoolOp .And (b::rest) pos) tB'):PW X (.BoolOp .And (a::b::rest) pos) (tAnd tA tB'):=by
 intro wh pins s σ H Q I h
 refine isTrue_and (thn (ha pins s σ H _ I h) fun c s1 ⟨H1,I1,q1⟩=>?_)
 cases c with
 | true=>exact hb wh pins s1 σ H1 Q I1 q1
 | false=>exact ⟨H1,I1,q1⟩
theorem pw_or (ha:PT X a tA) (hb:PW X (.BoolOp .Or (b::rest) pos) tB'):PW X (.BoolOp .Or (a::b::rest) pos) (tOr tA tB'):=by
 intro wh pins s σ H Q I h
 refine isTrue_or (thn (ha pins s σ H _ I h) fun c s1 ⟨H1,I1,q1⟩=>?_)
 cases c with
 | true=>exact ⟨H1,I1,q1⟩
 | false=>exact hb wh pins s1 σ H1 Q I1 q1
theorem pt_not (ha:PT X a tA):PT X (.UnaryOp .Not a pos) (tNot tA):=by
 intro pins s σ H Q I h
 exact isTrue_not (ha pins s σ H (fun c H1=>Q (!c) H1) I h)
def tAndV (ta tb:TE):TE:=fun σ H Q=>ta σ H fun x H1=>∃ c,x=.bl c/\if c=true then tb σ H1 Q else Q (.bl false) H1
def tNotV (ta:TE):TE:=fun σ H Q=>ta σ H fun x H1=>∃ c,x=.bl c/\Q (.bl (!c)) H1
theorem pe_one {op} {t:TE} (h:PE X a t):PE X (.BoolOp op [a] pos) t:=fun pins s σ H Q I hw=>BoolOp_one (h pins s σ H Q I hw)
theorem pe_and (ha:PE X a ta) (hb:PE X (.BoolOp .And (b::rest) pos) tb):PE X (.BoolOp .And (a::b::rest) pos) (tAndV ta tb):=by
 intro pins s σ H Q I h
 refine BoolOp_and (thn (ha pins s σ H _ I h) fun v s1 ⟨x,H1,I1,r1,q1⟩=>?_)
 obtain ⟨c,rfl,q1⟩:=q1
 cases r1
 refine wpAny_truthy_bool ?_
 cases c with
 | true=>exact hb pins s1 σ H1 Q I1 q1
 | false=>exact ⟨.bl false,H1,I1,rfl,q1⟩
theorem pe_not (ha:PE X a ta):PE X (.UnaryOp .Not a pos) (tNotV ta):=by
 intro pins s σ H Q I h
 refine UnaryOp_ (thn (ha pins s σ H _ I h) fun v s1 ⟨x,H1,I1,r1,q1⟩=>?_)
 obtain ⟨c,rfl,q1⟩:=q1
 cases r1
 exact not_of (wpAny_truthy_bool ⟨.bl (!c),H1,I1,rfl,q1⟩)
def tIf (t:TT) (ta tb:TE):TE:=fun σ H Q=>t σ H fun c H1=>if c=true then ta σ H1 Q else tb σ H1 Q
theorem pe_ifExp {c:Expr} (hc:PT X c tA) (ha:PE X a ta) (hb:PE X b tb):PE X (.IfExp c a b pos) (tIf tA ta tb):=by
 intro pins s σ H Q I h
 refine wpAny_IfExp (thn (hc pins s σ H _ I h) fun d s1 ⟨H1,I1,q1⟩=>?_)
 cases d with
 | true=>exact ha pins s1 σ H1 Q I1 q1
 | false=>exact hb pins s1 σ H1 Q I1 q1
end
end L2
namespace L2
open PySem PySem.Spec PyProof.Rows
def SqL (K:PySem.W.Frag) (H:Hp) (a:Addr) (xs:List V):Prop :=
 Rd H a (.lst xs) \/
  ∃ (o:Obj) (its:Array Value) (n:Nat),K.lookup a=some o/\o.cls=.type "list"/\o.dict=none/\o.data=.seq its n/\its.size<=sizeLine/\Vals xs its.toList
def SqT (K:PySem.W.Frag) (H:Hp) (a:Addr) (xs:List V):Prop :=
 Rd H a (.tup xs) \/
  ∃ (o:Obj) (its:Array Value) (n:Nat),K.lookup a=some o/\o.cls=.type "tuple"/\o.data=.seq its n/\its.size<=sizeLine/\Vals xs its.toList
def absV:Value->Option V
 | .none=>some .non
 | .bool b=>some (.bl b)
 | .int i _=>some (.int i)
 | .str x _=>some (.str x)
 | .bytes b _=>some (.byt b)
 | .float b _=>some (.flt b)
 | .ref a=>some (.ref a)
 | .type n=>some (.ty n)
 | _=>none
theorem RelV.abs {x:V} {u:Value} (r:RelV x u):absV u=some x:=by
 cases x with
 | non=>cases r;rfl
 | bl _=>cases r;rfl
 | int _=>obtain ⟨t,rfl⟩:=r;rfl
 | str _=>obtain ⟨t,rfl⟩:=r;rfl
 | byt _=>obtain ⟨t,rfl⟩:=r;rfl
 | flt _=>obtain ⟨t,rfl⟩:=r;rfl
 | ref _=>cases r;rfl
 | ty _=>cases r;rfl
theorem RelV.inj {x y:V} {u:Value} (r:RelV x u) (q:RelV y u):x=y:=Option.some.inj (r.abs.symm.trans q.abs)
theorem Vals.inj:∀ {xs ys:List V} {us:List Value},Vals xs us->Vals ys us->xs=ys
 | _,_,_,.nil,.nil=>rfl
 | _,_,_,.cons r t,.cons r' t'=>by rw [r.inj r',Vals.inj t t']
section
variable {X:Cx} {pins:List (Addr×Obj)} {σ:St} {H:Hp} {s:Shared} {a:Addr} {xs ys:List V}
theorem SqL.of {K:PySem.W.Frag} (h:H a=some (.lst xs)):SqL K H a xs:=.inl (.inl h)
theorem Inv.list (I:Inv X pins σ H s) (h:SqL X.K H a xs):∃ its:List Value,Vals xs its/\PlainL s.heap a its.toArray/\xs.length<=sizeLine:=by
 rcases h with h | ⟨o,its,n,hk,hc,hd,hs,hz,r⟩
 ·obtain ⟨z,its,n,r,e⟩:=h.ok I.hok
  exact ⟨its,r,⟨_,n,e,rfl,rfl,rfl⟩,z⟩
 ·refine ⟨its.toList,r,⟨o,n,I.kIn a o hk,hc,hd,by simpa using hs⟩,?_⟩
  have e:=r.length
  simp only [Array.length_toList] at e
  omega
theorem Inv.tuple (I:Inv X pins σ H s) (h:SqT X.K H a xs):∃ its:List Value,Vals xs its/\IsTup s.heap a its.toArray/\xs.length<=sizeLine:=by
 rcases h with h | ⟨o,its,n,hk,hc,hs,hz,r⟩
 ·obtain ⟨z,its,r,p⟩:=h.ok I.hok
  exact ⟨its,r,p,z⟩
 ·refine ⟨its.toList,r,⟨o,I.kIn a o hk,hc,n,by simpa using hs⟩,?_⟩
  have e:=r.length
  simp only [Array.length_toList] at e
  omega
theorem Inv.list_inj (I:Inv X pins σ H s) (h:SqL X.K H a xs) (h':SqL X.K H a ys):xs=ys:=by
 obtain ⟨its,r,⟨o,n,e,_,_,d⟩,_⟩:=I.list h
 obtain ⟨its',r',⟨o',n',e',_,_,d'⟩,_⟩:=I.list h'
 rw [e] at e';cases e'
 rw [d] at d'
 injection d' with d1 _
 have:its=its':=by simpa using congrArg Array.toList d1
 subst this
 exact r.inj r'
theorem Inv.tuple_inj (I:Inv X pins σ H s) (h:SqT X.K H a xs) (h':SqT X.K H a ys):xs=ys:=by
 obtain ⟨its,r,⟨o,e,_,n,d⟩,_⟩:=I.tuple h
 obtain ⟨its',r',⟨o',e',_,n',d'⟩,_⟩:=I.tuple h'
 rw [e] at e';cases e'
 rw [d] at d'
 injection d' with d1 _
 have:its=its':=by simpa using congrArg Array.toList d1
 subst this
 exact r.inj r'
end
abbrev Cx.wish (X:Cx) (E:Value->Shared->Prop):Cx:={ X with xe:=E }
abbrev Cx.nox (X:Cx):Cx:=X.wish fun _ _=>False
theorem Cx.Ok.wish {X:Cx} (ok:X.Ok) (E:Value->Shared->Prop):(X.wish E).Ok :=
 ⟨ok.mod,ok.kind,ok.glob,ok.blt,ok.above,ok.inj,ok.has,ok.cab,ok.hd,ok.frames,ok.stk,ok.exf,ok.bs,ok.bsz,ok.noex,ok.exfs,ok.funs,ok.frf⟩
theorem Cx.Ok.unwish {X:Cx} {E:Value->Shared->Prop} (ok:(X.wish E).Ok):X.Ok :=
 ⟨ok.mod,ok.kind,ok.glob,ok.blt,ok.above,ok.inj,ok.has,ok.cab,ok.hd,ok.frames,ok.stk,ok.exf,ok.bs,ok.bsz,ok.noex,ok.exfs,ok.funs,ok.frf⟩
section
variable {X:Cx} {pins:List (Addr×Obj)} {σ:St} {H:Hp} {s:Shared} {E:Value->Shared->Prop}
theorem Inv.wish (I:Inv X pins σ H s) (E:Value->Shared->Prop):Inv (X.wish E) pins σ H s:=⟨I.ok.wish E,I.os,I.bare,I.base,I.loc,I.cell,I.free,I.freeC,I.pin,I.hok,I.len⟩
theorem Inv.unwish (I:Inv (X.wish E) pins σ H s):Inv X pins σ H s:=⟨I.ok.unwish,I.os,I.bare,I.base,I.loc,I.cell,I.free,I.freeC,I.pin,I.hok,I.len⟩
theorem SP.unwish {D:Ends} {f:Flow} {s':Shared} (h:SP (X.wish E) pins D f s'):SP X pins D f s':=by
 cases f with
 | next=>obtain ⟨σ',H',I,q⟩:=h;exact ⟨σ',H',I.unwish,q⟩
 | brk=>obtain ⟨σ',H',I,q⟩:=h;exact ⟨σ',H',I.unwish,q⟩
 | cont=>obtain ⟨σ',H',I,q⟩:=h;exact ⟨σ',H',I.unwish,q⟩
 | ret u=>obtain ⟨v,σ',H',I,r,q⟩:=h;exact ⟨v,σ',H',I.unwish,r,q⟩
theorem PSs.nox {st:List Stmt} {t:TS} (h:PSs X.nox st t):PSs X st t:=fun pins s σ H D I hw =>
 wpAny_mono (h pins s σ H D (I.wish _) hw) (fun _ _ q=>q.unwish) fun _ _ z=>False.elim z
end
section
variable {X:Cx} {st:Stmt} {rest:List Stmt} {t u:TS} {e:Expr} {te:TE} {pos:Pos}
def tNext:TS:=fun D σ H=>D.nx σ H
def tSeq (t u:TS):TS:=fun D σ H=>t { D with nx:=u D } σ H
theorem pss_nil:PSs X [] tNext:=fun _ _ σ H _ I h=>wpAny_execs_nil ⟨σ,H,I,h⟩
theorem pss_cons (h1:PS X st t) (h2:PSs X rest u):PSs X (st::rest) (tSeq t u):=by
 intro pins s σ H D I h
 refine wpAny_execs_cons (thn (h1 pins s σ H { D with nx:=u D } I h) fun f s1 q=>?_)
 cases f with
 | next =>
  obtain ⟨σ',H',I',q⟩:=q
  exact h2 pins s1 σ' H' D I' q
 | ret v=>exact q
 | brk=>exact q
 | cont=>exact q
theorem Inv.quiet {pins:List (Addr×Obj)} {σ:St} {H:Hp} {s:Shared} (I:Inv X pins σ H s):interactive X.env=false:=by simp [interactive,I.ok.kind]
def tDrop (te:TE):TS:=fun D σ H=>te σ H fun _ H1=>D.nx σ H1
theorem ps_expr (he:PE X e te) (hs:swapsWith e none pos.line X.env=pure false:=by rfl):PS X (.Expr e pos) (tDrop te):=by
 intro pins s σ H D I h
 exact wpAny_Expr_any (thn (he pins s σ H _ I h) fun v s1 ⟨x,H1,I1,r1,q1⟩=>⟨σ,H1,I1,q1⟩) I.quiet hs
def tRet (te:TE):TS:=fun D σ H=>te σ H D.rt
theorem ps_ret (he:PE X e te):PS X (.Return (some e) pos) (tRet te):=by
 intro pins s σ H D I h
 exact wpAny_Return_some (thn (he pins s σ H _ I h) fun v s1 ⟨x,H1,I1,r1,q1⟩=>⟨x,σ,H1,I1,r1,q1⟩)
def tIfS (c:TT) (t u:TS):TS:=fun D σ H=>c σ H fun b H1=>if b=true then t D σ H1 else u D σ H1
theorem ps_if {c:Expr} {a b:List Stmt} {tc:TT} (hc:PT X c tc) (ha:PSs X a t) (hb:PSs X b u):PS X (.If c a b pos) (tIfS tc t u):=by
 intro pins s σ H D I h
 refine wpAny_If (thn (hc pins s σ H _ I h) fun d s1 ⟨H1,I1,q1⟩=>?_)
 cases d with
 | true=>exact ha pins s1 σ H1 D I1 q1
 | false=>exact hb pins s1 σ H1 D I1 q1
end
abbrev TG:=V->St->Hp->(St->Hp->Prop)->Prop
abbrev TGs:=List V->St->Hp->(St->Hp->Prop)->Prop
def PG (X:Cx) (target:Expr) (t:TG):Prop :=
 ∀ (pins:List (Addr×Obj)) (s:Shared) (σ:St) (H:Hp) (v:V) (u:Value) (Q:St->Hp->Prop),Inv X pins σ H s->RelV v u->t v σ H Q ->
  wpAny (model X.prog X.w) X.A (assign target X.env u) (fun _ s'=>∃ σ' H',Inv X pins σ' H' s'/\Q σ' H') X.xe s
def PGs (X:Cx) (ts:List Expr) (t:TGs):Prop :=
 ∀ (pins:List (Addr×Obj)) (s:Shared) (σ:St) (H:Hp) (vs:List V) (us:List Value) (Q:St->Hp->Prop),Inv X pins σ H s->Vals vs us->t vs σ H Q ->
  wpAny (model X.prog X.w) X.A (assignInOrder ((assignEach ts X.env).map (·.2)) us) (fun _ s'=>∃ σ' H',Inv X pins σ' H' s'/\Q σ' H') X.xe s
abbrev TSet:=V->V->V->Hp->(Hp->Prop)->Prop
section
variable {X:Cx} {pos:Pos}
def gName (i:Nat):TG:=fun v σ H Q=>Q (σ.set i (some v)) H
theorem pg_name {i:Nat} {x:Str} (hN:X.N.Nodup) (hi:X.N[i]? = some x) (hx:Loc X.env.scope x) (hf:X.fn x=true\/X.env.scope.names.lookup x=some .local:=by first | exact .inl rfl | exact .inr rfl | assumption):PG X (.Name x pos) (gName i):=by
 intro pins s σ H v u Q I r h
 exact wpAny_assign_Name (store_ok I hN hi hx r (fun s' I'=>⟨_,H,I',h⟩) hf)
def gNil:TGs:=fun vs σ H Q=>vs=[]/\Q σ H
def gCons (t:TG) (u:TGs):TGs:=fun vs σ H Q=>∃ v r,vs=v::r/\t v σ H fun σ' H'=>u r σ' H' Q
theorem pgs_nil:PGs X [] gNil:=by
 intro pins s σ H vs us Q I r h
 obtain ⟨e,h⟩:=h
 subst e
 cases r
 exact assignInOrder_nil ⟨σ,H,I,h⟩
theorem pgs_cons {e:Expr} {es:List Expr} {t:TG} {u:TGs} (h1:PG X e t) (h2:PGs X es u)
  (hs:(assignEach (e::es) X.env).map (·.2)=assign e X.env::(assignEach es X.env).map (·.2):=by rfl):PGs X (e::es) (gCons t u):=by
 intro pins s σ H vs us Q I r h
 obtain ⟨v,vr,e1,h⟩:=h
 subst e1
 cases r with
 | cons r rr =>
  rw [hs]
  refine assignInOrder_cons (thn (h1 pins s σ H _ _ _ I r h) fun _ s1 ⟨σ1,H1,I1,q1⟩=>?_)
  exact h2 pins s1 σ1 H1 _ _ Q I1 rr q1
def gTup (K:PySem.W.Frag) (n:Nat) (t:TGs):TG:=fun v σ H Q=>∃ a xs,v=.ref a/\SqT K H a xs/\xs.length=n/\t xs σ H Q
theorem pg_tup {es:List Expr} {k:Nat} {t:TGs} {n:Nat} (hc:X.calm=true) (h:PGs X es t)
  (hn:(assignEach es X.env).length=n:=by rfl) (hst:(assignEach es X.env).findIdx? (·.1)=none:=by rfl):PG X (.Tuple es k pos) (gTup X.K n t):=by
 intro pins s σ H v u Q I r hw
 obtain ⟨a,xs,e1,hq,hl,hw⟩:=hw
 subst e1
 cases r
 obtain ⟨its,rv,ht,hz⟩:=I.tuple hq
 refine assign_Tuple_tuple (I.ok.hd hc) ht (by simp [hn,← hl,rv.length]) hst fun h' hx=>?_
 have I1:Inv X pins σ H { s with heap:=h' }:=I.kept (t':=s.toks) fun b o e=>hx b o (Nat.ne_of_lt (Heap.lt_size e)) e
 exact h pins _ σ H xs _ Q I1 (by simpa using rv) hw
def gSub (to ti:TE) (t:TSet):TG:=fun v σ H Q=>to σ H fun o H1=>ti σ H1 fun i H2=>t o i v H2 fun H3=>Q σ H3
def tAsg (te:TE) (g:TG):TS:=fun D σ H=>te σ H fun x H1=>g x σ H1 D.nx
theorem ps_asg {tg e:Expr} {te:TE} {g:TG} (he:PE X e te) (hg:PG X tg g) (hs:swapsWithSole [tg] e pos.line X.env=pure false:=by rfl) (hw:swappedStores [tg] e X.env=pure none:=by rfl)
  (h1:(assignEach [tg] X.env).map (·.2)=[assign tg X.env]:=by rfl):PS X (.Assign [tg] e pos) (tAsg te g):=by
 intro pins s σ H D I h
 refine wpAny_Assign_stores (thn (he pins s σ H _ I h) fun v s1 ⟨x,H1,I1,r1,q1⟩=>?_) hs hw
 rw [h1]
 exact thn (hg pins s1 σ H1 x v _ I1 r1 q1) fun _ s2 q=>q
theorem ps_set {i:Nat} {x:Str} {e:Expr} {te:TE} {pos':Pos} (hN:X.N.Nodup) (hi:X.N[i]? = some x) (hx:Loc X.env.scope x) (he:PE X e te) (hs:swapsWith e (some (.Name x pos')) pos.line X.env=pure false:=by rfl) (hf:X.fn x=true\/X.env.scope.names.lookup x=some .local:=by first | exact .inl rfl | exact .inr rfl | assumption) :
  PS X (.Assign [.Name x pos'] e pos) (tAsg te (gName i)):=by
 intro pins s σ H D I h
 refine wpAny_Assign_Name (thn (he pins s σ H _ I h) fun v s1 ⟨y,H1,I1,r1,q1⟩=>?_) hs
 exact store_ok I1 hN hi hx r1 (fun s2 I2=>⟨_,H1,I2,q1⟩) hf
end
section
variable {X:Cx} {pos:Pos}
def tWhile (c:TT) (tb:TS):TS:=fun D σ H=>∃ W:Nat->St->Hp->Prop,(∃ m,W m σ H)/\∀ m σ H,W m σ H ->
 c σ H fun b H1=>if b=true then ∃ N:St->Hp->Prop,(∀ σ' H',N σ' H'->∃ m',m' < m/\W m' σ' H')/\tb { D with nx:=N,ct:=N,bk:=D.nx } σ H1 else D.nx σ H1
theorem ps_while {c:Expr} {body:List Stmt} {tc:TT} {tb:TS} (hp:PassesOwn (model X.prog X.w) X.A X.env X.xe) (hc:PT X c tc) (hb:PSs X body tb):PS X (.While c body [] pos) (tWhile tc tb):=by
 intro pins s σ H D I h
 obtain ⟨W,⟨m0,w0⟩,turn⟩:=h
 refine wpAny_While (codeAny_whileLoop (fun n s'=>∃ σ' H',Inv X pins σ' H' s'/\W n σ' H') ?_ m0 ⟨σ,H,I,w0⟩)
 rintro n s1 ⟨σ1,H1,I1,w1⟩
 refine wpAny_passesOwn hp (thn (hc pins s1 σ1 H1 _ I1 (turn n σ1 H1 w1)) fun b s2 ⟨H2,I2,q2⟩=>?_)
 cases b with
 | true =>
  obtain ⟨N,hN,q2⟩:=q2
  rw [if_pos rfl]
  refine wpAny_passesOwn hp (thn (hb pins s2 σ1 H2 _ I2 q2) fun f s3 q3=>?_)
  cases f with
  | next =>
   obtain ⟨σ3,H3,I3,n3⟩:=q3
   obtain ⟨m',hm,w3⟩:=hN σ3 H3 n3
   exact ⟨m',hm,σ3,H3,I3,w3⟩
  | cont =>
   obtain ⟨σ3,H3,I3,n3⟩:=q3
   obtain ⟨m',hm,w3⟩:=hN σ3 H3 n3
   exact ⟨m',hm,σ3,H3,I3,w3⟩
  | brk=>exact q3
  | ret v=>exact q3
 | false =>
  rw [if_neg Bool.false_ne_true]
  exact wpAny_execs_nil ⟨σ1,H2,I2,q2⟩
end
structure It where
 go:Nat->Hp->Prop
 yld:Nat->Hp->V->Hp->Prop
 stop:Nat->Hp->Prop
def FpOk (X:Cx) (pins:List (Addr×Obj)) (H:Hp) (b:Addr):Prop :=
 H b=none/\b≠X.env.locals/\b ∉ X.fs/\(b∈X.ex\/X.s₀.heap.objs.size<=b)/\(∀ x c,X.env.cells.lookup x=some c->c≠b)/\∀ p∈X.pn++pins,p.1≠b
theorem Inv.fpOk {X:Cx} {pins:List (Addr×Obj)} {σ:St} {H H':Hp} {s:Shared} {b:Addr} (I:Inv X pins σ H s) (hb:s.heap.objs.size<=b) (hn:H' b=none):FpOk X pins H' b:=by
 refine ⟨hn,Nat.ne_of_gt (Nat.lt_of_lt_of_le I.lt hb),I.nofs hb,.inr (Nat.le_trans I.sz hb),fun x c e z=>?_,fun p hp z=>?_⟩
 ·obtain ⟨v,q⟩:=I.cell x c e
  exact absurd (Nat.lt_of_lt_of_le q.lt (by rw [z];exact hb)) (Nat.lt_irrefl _)
 ·exact absurd (Nat.lt_of_lt_of_le (Heap.lt_size (I.pin p hp).1) (by rw [z];exact hb)) (Nat.lt_irrefl _)
structure Turn (P:Program) (w:World) (K:PySem.W.Frag) (tg:Expr) (J:It) (fp:List Addr) (it:Addr) (tn:Nat->Heap->Prop):Prop where
 mem:it∈fp
 obj:∀ i h,tn i h->∀ b∈fp,∃ o,h.get? b=some o/\∀ v,o.data≠.cell v
 keep:∀ i h h',tn i h->(∀ b∈fp,∀ o,h.get? b=some o->h'.get? b=some o)->tn i h'
 item:∀ (X:Cx),X.prog=P->X.w=w->X.K=K->X.calm=true->∀ (i:Nat) (pins:List (Addr×Obj)) (s:Shared) (σ:St) (H:Hp) (E:Value->Shared->Prop),Inv X pins σ H s->(∀ b∈fp,FpOk X pins H b)->tn i s.heap->J.go i H ->
  wpAny (model P w) X.A (pyNext (.ref it)) (fun r s1=>∃ u,r=some u /\
   wpAny (model P w) X.A (letOwnedTupleGo tg (.ref it) u) (fun _ s2=>∃ x H',Inv X pins σ H' s2/\RelV x u/\J.yld i H x H'/\tn (i + 1) s2.heap/\∀ b∈fp,H' b=none) E s1) E s
 done:∀ (X:Cx),X.prog=P->X.w=w->X.K=K->X.calm=true->∀ (i:Nat) (pins:List (Addr×Obj)) (s:Shared) (σ:St) (H:Hp) (E:Value->Shared->Prop),Inv X pins σ H s->(∀ b∈fp,FpOk X pins H b)->tn i s.heap->J.stop i H ->
  wpAny (model P w) X.A (pyNext (.ref it)) (fun r s1=>r=none/\Inv X pins σ H s1) E s
 self:∀ (A:Around) (i:Nat) (s:Shared) (Q:Value->Shared->Prop) (E:Value->Shared->Prop),tn i s.heap->Q (.ref it) s->wpAny (model P w) A (pyIter (.ref it)) Q E s
abbrev TI:=St->Hp->(It->Hp->Prop)->Prop
def PIE (X:Cx) (pins:List (Addr×Obj)) (σ:St) (tg:Expr) (R:It->Hp->Prop) (itv:Value) (s2:Shared):Prop :=
 ∃ (it:Addr) (fp:List Addr) (tn:Nat->Heap->Prop) (J:It) (H':Hp),itv=.ref it/\Inv X pins σ H' s2/\Turn X.prog X.w X.K tg J fp it tn/\tn 0 s2.heap/\(∀ b∈fp,FpOk X pins H' b)/\R J H'
def PI (X:Cx) (tg iter:Expr) (wi:TI):Prop :=
 ∀ (pins:List (Addr×Obj)) (s:Shared) (σ:St) (H:Hp) (R:It->Hp->Prop),Inv X pins σ H s->wi σ H R ->
  wpAny (model X.prog X.w) X.A (eval iter X.env) (fun v s1=>wpAny (model X.prog X.w) X.A (pyIter v) (PIE X pins σ tg R) X.xe s1) X.xe s
theorem go_of {M : Model} {A : Around} {E : Value → Shared → Prop} {s : Shared} {tg : Expr} {it : Addr} {u : Value} {o : Obj} {n : String} {vs : Array Value} {Q : Unit → Shared → Prop} (ho : s.heap.get? it = some o) (hc : o.cls = .type n) (hd : o.data = .fields vs)
    (hn : ["enumerate", "zip", "dict_itemiterator", "dict_reverseitemiterator", "odict_iterator", "itertools.zip_longest", "itertools.pairwise"].contains n = false) (hQ : Q () s) : wpAny M A (letOwnedTupleGo tg (.ref it) u) Q E s := by
  unfold letOwnedTupleGo
  cases tg <;> first
    | exact wpAny_pure hQ
    | (cases u <;> first
        | exact wpAny_pure hQ
        | (refine wpAny_bind (wpAny_load ho ?_)
           rw [hc, hd]
           show wpAny M A (if (["enumerate", "zip", "dict_itemiterator", "dict_reverseitemiterator", "odict_iterator", "itertools.zip_longest", "itertools.pairwise"].contains n && vs[0]? == some (rawInt _)) = true then _ else _) Q E s
           rw [if_neg (by intro h; rw [hn, Bool.false_and] at h; cases h)]
           exact wpAny_pure hQ))
def Itl (K:PySem.W.Frag) (a:Addr):It :=
 ⟨fun i H=>∃ xs x,SqL K H a xs/\xs[i]? = some x,fun i H x H'=>H'=H/\∀ xs,SqL K H a xs->xs[i]? = some x,fun i H=>∃ xs,SqL K H a xs/\xs.length<=i⟩
def Itr (lo:Int) (n:Nat):It:=⟨fun i _=>i < n,fun i H x H'=>H'=H/\x=.int (lo + i),fun i _=>n<=i⟩
theorem turn_list {P:Program} {w:World} {K:PySem.W.Frag} {tg:Expr} (a it:Addr):Turn P w K tg (Itl K a) [it] it (fun i h=>h.IsListIter it a i) where
 mem:=by simp
 obj:=fun i h st b hb=>by
  have e:b=it:=by simpa using hb
  subst e
  obtain ⟨o,e,c,d⟩:=st
  exact ⟨o,e,fun v z=>by rw [d] at z;cases z⟩
 keep:=fun i h h' st k=>st.at fun o e=>k it (by simp) o e
 item:=by
  intro X hP hw hK hc i pins s σ H E I hf st hg
  subst hP hw hK
  obtain ⟨xs,x,hq,hx⟩:=hg
  obtain ⟨its,rv,p,hz⟩:=I.list hq
  obtain ⟨u,hu,ru⟩:=rv.get hx
  obtain ⟨f0,f1,f2,f3,f4,f5⟩:=hf it (by simp)
  refine wpAny_pyNext_list_item st p.isList (x:=u) (by simpa using hu) fun h' st' sb=>?_
  have I1:Inv X pins σ H { s with heap:=h' }:=I.turned (t':=s.toks) (fun b o hb e=>(sb.2 b hb).trans e) f0 f1 f3 f4 f5
  obtain ⟨o,e,c,d⟩:=id st'
  exact ⟨u,rfl,go_of (s:={ s with heap:=h' }) e c d (by decide) ⟨x,H,I1,ru,⟨rfl,fun ys hy=>by rw [I.list_inj hy hq];exact hx⟩,st',fun b hb=>(hf b hb).1⟩⟩
 done:=by
  intro X hP hw hK hc i pins s σ H E I hf st hg
  subst hP hw hK
  obtain ⟨xs,hq,hx⟩:=hg
  obtain ⟨its,rv,p,hz⟩:=I.list hq
  obtain ⟨f0,f1,f2,f3,f4,f5⟩:=hf it (by simp)
  have hl:=rv.length
  exact wpAny_pyNext_list_end (I.ok.hd hc) st p.isList (by simp;omega) fun h' eb=>⟨rfl,I.turned (t':=s.toks) (fun b o hb e=>eb b o hb e) f0 f1 f3 f4 f5⟩
 self:=fun _ _ _ _ _ st h=>wpAny_pyIter_listiter st h
theorem turn_range {P:Program} {w:World} {K:PySem.W.Frag} {tg:Expr} (it:Addr) (lo:Int) (n:Nat):Turn P w K tg (Itr lo n) [it] it (fun i h=>IsRangeIter h it (lo + (i:Nat) * 1) ((n:Int) - (i:Nat)) 1) where
 mem:=by simp
 obj:=fun i h st b hb=>by
  have e:b=it:=by simpa using hb
  subst e
  exact ⟨_,st,fun v z=>by
   have z':Data.fields _=Data.cell v:=z
   cases z'⟩
 keep:=fun i h h' st k=>k it (by simp) _ st
 item:=by
  intro X hP hw hK hc i pins s σ H E I hf st hg
  subst hP hw hK
  obtain ⟨f0,f1,f2,f3,f4,f5⟩:=hf it (by simp)
  have W:=Walks.range (prog:=X.prog) (w:=X.w) (I.ok.hd hc) it lo 1 n
  refine W.item i s _ _ hg st fun v h' tk hv st' kk=>?_
  obtain ⟨t,rfl⟩:=hv
  have I1:Inv X pins σ H { s with heap:=h',toks:=tk }:=I.turned (fun b o hb e=>kk b o (by simpa using hb) e) f0 f1 f3 f4 f5
  refine ⟨_,rfl,go_of (s:={ s with heap:=h',toks:=tk }) (n:="range_iterator") st' rfl rfl (by decide) ⟨.int (lo + i),H,I1,⟨t,?_⟩,⟨rfl,rfl⟩,st',fun b hb=>(hf b hb).1⟩⟩
  rw [Int.mul_one]
 done:=by
  intro X hP hw hK hc i pins s σ H E I hf st hg
  subst hP hw hK
  obtain ⟨f0,f1,f2,f3,f4,f5⟩:=hf it (by simp)
  exact wpAny_pyNext_range_end (I.ok.hd hc) st (by have:n<=i:=hg;omega) fun h' eb=>⟨rfl,I.turned (t':=s.toks) (fun b o hb e=>eb b o hb e) f0 f1 f3 f4 f5⟩
 self:=fun _ _ _ _ _ st h=>wpAny_pyIter_rangeiter st h
end L2
namespace L2
open PySem PySem.Spec PyProof.Rows
section
variable {X:Cx} {tg:Expr}
def iList (K:PySem.W.Frag) (tl:TE):TI:=fun σ H R=>tl σ H fun x H1=>∃ a,x=.ref a/\(∃ xs,SqL K H1 a xs)/\R (Itl K a) H1
theorem pi_list {l:Expr} {tl:TE} (hl:PE X l tl):PI X tg l (iList X.K tl):=by
 intro pins s σ H R I h
 refine thn (hl pins s σ H _ I h) fun v s1 ⟨x,H1,I1,r1,q1⟩=>?_
 obtain ⟨a,e,⟨xs,hq⟩,q⟩:=q1
 subst e
 cases r1
 obtain ⟨its,rv,p,hz⟩:=I1.list hq
 refine wpAny_pyIter_list p.isList ?_
 refine ⟨s1.heap.objs.size,[s1.heap.objs.size],_,_,H1,rfl,I1.kept (t':=s1.toks) fun b o e=>Heap.get?_push_of_some _ e,turn_list a _,⟨_,Heap.get?_push_size _ rfl,rfl,rfl⟩,fun b hb=>?_,q⟩
 have e:b=s1.heap.objs.size:=by simpa using hb
 subst e
 exact I1.fpOk (Nat.le_refl _) (I1.hok.fresh (Nat.le_refl _))
theorem range_it {pins:List (Addr×Obj)} {σ:St} {H:Hp} {s:Shared} {R:It->Hp->Prop} {E:Value->Shared->Prop} {lo hi:Int} {t u v:Tok} {tk:Nat} (I:Inv X pins σ H s) (h1:-(2 ^ 62)<=lo) (h2:lo < 2 ^ 62) (h3:-(2 ^ 62)<=hi) (h4:hi < 2 ^ 62)
  (q:R (Itr lo (hi - lo).toNat) H):wpAny (model X.prog X.w) X.A (pyIter (.ref s.heap.objs.size)) (PIE X pins σ tg R) E { s with heap:=s.heap.push { cls:=.type "range",data:=.fields #[.int lo t,.int hi u,.int 1 v] },toks:=tk }:=by
 refine wpAny_pyIter_range (IsRange.new ..) (small_one h1 h2 h3 h4) ?_
 have I1:Inv X pins σ H { s with heap:=s.heap.push { cls:=.type "range",data:=.fields #[.int lo t,.int hi u,.int 1 v] },toks:=tk }:=I.kept fun b o e=>Heap.get?_push_of_some _ e
 refine ⟨(s.heap.push { cls:=.type "range",data:=.fields #[.int lo t,.int hi u,.int 1 v] }).objs.size,[(s.heap.push { cls:=.type "range",data:=.fields #[.int lo t,.int hi u,.int 1 v] }).objs.size],_,_,H,rfl,
  I1.kept (t':=tk) fun b o e=>Heap.get?_push_of_some _ e,turn_range _ lo (hi - lo).toNat,?_,fun b hb=>?_,q⟩
 ·have e1:lo + ((0:Nat):Int) * 1=lo:=by simp
  have e2:(((hi - lo).toNat:Nat):Int) - ((0:Nat):Int)=Builtin.Range.rangeSize lo hi 1:=by rw [rangeSize_one];split <;> omega
  show IsRangeIter _ _ (lo + ((0:Nat):Int) * 1) ((((hi - lo).toNat:Nat):Int) - ((0:Nat):Int)) 1
  rw [e1,e2]
  exact Heap.get?_push_size _ rfl
 ·have e:b=(s.heap.push { cls:=.type "range",data:=.fields #[.int lo t,.int hi u,.int 1 v] }).objs.size:=by simpa using hb
  subst e
  exact I1.fpOk (Nat.le_refl _) (I1.hok.fresh (Nat.le_refl _))
def iRng1 (ta:TA):TI:=fun σ H R=>ta σ H fun vs H1=>∃ j:Int,vs=[.int j]/\-(2 ^ 62)<=j/\j < 2 ^ 62/\R (Itr 0 j.toNat) H1
theorem pi_range1 {a:Expr} {ta:TA} {p pos:Pos} (hg:Gl X "range") (hm:X.mg "range" = none) (ha:PA X [a] ta) (hs:starEach [a] X.env=[(false,eval a X.env)]:=by rfl):PI X tg (.Call (.Name "range" p) [a] [] pos) (iRng1 ta):=by
 intro pins s σ H R I h
 refine Call_ (ld_blt I hg hm boot_range (PyProof.Rows.callWith_type1 (thn (ha pos pins s σ H _ I h) fun us s1 ⟨vs,H1,I1,r1,q1⟩=>?_) hs rfl))
 obtain ⟨j,e,q1,q2,q⟩:=q1
 subst e
 cases r1 with
 | cons r rr =>
  cases rr
  obtain ⟨t,rfl⟩:=r
  exact call_range_1 (range_it I1 (by omega) (by omega) q1 q2 (by simpa using q))
def tFor (wi:TI) (g:TG) (tb:TS):TS:=fun D σ H=>wi σ H fun J H1=>∃ W:Nat->Nat->St->Hp->Prop,(∃ m,W 0 m σ H1)/\∀ i m σ H,W i m σ H ->
 (J.stop i H/\D.nx σ H)\/(J.go i H/\∃ N:St->Hp->Prop,(∀ σ' H',N σ' H'->∃ m',m' < m/\W (i + 1) m' σ' H')/\∀ x H',J.yld i H x H'->g x σ H' fun σ2 H2=>tb { D with nx:=N,ct:=N,bk:=D.nx } σ2 H2)
def pinsAt (fp:List Addr) (h:Heap):List (Addr×Obj):=fp.filterMap fun b=>(h.get? b).map fun o=>(b,o)
theorem mem_pinsAt {fp:List Addr} {h:Heap} {b:Addr} {o:Obj} (hb:b∈fp) (e:h.get? b=some o):(b,o)∈pinsAt fp h:=List.mem_filterMap.mpr ⟨b,hb,by rw [e];rfl⟩
theorem of_pinsAt {fp:List Addr} {h:Heap} {p:Addr×Obj} (hp:p∈pinsAt fp h):p.1∈fp/\h.get? p.1=some p.2:=by
 obtain ⟨b,hb,e⟩:=List.mem_filterMap.mp hp
 cases q:h.get? b with
 | none=>rw [q] at e;cases e
 | some o =>
  rw [q] at e
  have e':(b,o)=p:=Option.some.inj e
  subst e'
  exact ⟨hb,q⟩
theorem Inv.pinned {pins:List (Addr×Obj)} {σ:St} {H:Hp} {s:Shared} {fp:List Addr} (I:Inv X pins σ H s) (hf:∀ b∈fp,FpOk X pins H b) (ho:∀ b∈fp,∃ o,s.heap.get? b=some o/\∀ v,o.data≠.cell v):Inv X (pins++pinsAt fp s.heap) σ H s :=
 I.pins_of fun p hp=>(List.mem_append.mp hp).elim (fun z=>I.pin p (List.mem_append_right _ z)) fun z=>by
  obtain ⟨hb,e⟩:=of_pinsAt z
  obtain ⟨f0,f1,f2,_⟩:=hf p.1 hb
  obtain ⟨o,e',d⟩:=ho p.1 hb
  rw [e] at e';cases e'
  exact ⟨e,f0,f1,f2,d⟩
theorem Inv.unpinned {pins pl:List (Addr×Obj)} {σ:St} {H:Hp} {s:Shared} (I:Inv X (pins++pl) σ H s):Inv X pins σ H s:=I.pins_of fun p hp=>I.pin p (List.mem_append_right _ (List.mem_append_left _ hp))
theorem ps_for {iter:Expr} {body:List Stmt} {wi:TI} {g:TG} {tb:TS} {pos:Pos} (hp:PassesOwn (model X.prog X.w) X.A X.env X.xe) (hc:X.calm=true) (hi:PI X tg iter wi) (hg:PG X tg g) (hb:PSs X body tb)
  (hs:∀ x,foldedSetIterable iter X.env x=pure x:=by intro _;rfl):PS X (.For tg iter body [] pos) (tFor wi g tb):=by
 intro pins s σ H D I h
 refine wpAny_For (thn (hi pins s σ H _ I h) fun v s1 h1=>thn h1 fun itv s2 h2=>?_) hs
 obtain ⟨it,fp,tn,J,H2,e,I2,T,st2,f2,W,⟨m0,w0⟩,turn⟩:=h2
 subst e
 have stat:∀ {H':Hp},(∀ b∈fp,H' b=none)->∀ b∈fp,FpOk X pins H' b:=fun hn b hb=>⟨hn b hb,(f2 b hb).2⟩
 refine codeAny_forLoop_any (fun n s'=>∃ i σ' H',Inv X pins σ' H' s'/\tn i s'.heap/\(∀ b∈fp,H' b=none)/\W i n σ' H') ?_ m0 ⟨0,σ,H2,I2,st2,fun b hb=>(f2 b hb).1,w0⟩
 rintro n s3 ⟨i,σ3,H3,I3,st3,fr3,w3⟩
 rcases turn i n σ3 H3 w3 with ⟨stop,qn⟩ | ⟨go,N,hN,step⟩
 ·refine wpAny_passesOwn hp (thn (T.done X rfl rfl rfl hc i pins s3 σ3 H3 X.xe I3 (stat fr3) st3 stop) fun r s4 ⟨hr,I4⟩=>?_)
  subst hr
  exact wpAny_execs_nil ⟨σ3,H3,I4,qn⟩
 ·refine wpAny_passesOwn hp (thn (T.item X rfl rfl rfl hc i pins s3 σ3 H3 X.xe I3 (stat fr3) st3 go) fun r s4 ⟨u,hr,h4⟩=>?_)
  subst hr
  refine wpAny_passesOwn hp (thn h4 fun _ s5 ⟨x,H5,I5,r5,y5,st5,fr5⟩=>?_)
  have I5':=I5.pinned (stat fr5) (T.obj _ _ st5)
  refine wpAny_passesOwn hp (thn (hg _ s5 σ3 H5 x u _ I5' r5 (step x H5 y5)) fun _ s6 ⟨σ6,H6,I6,q6⟩=>?_)
  refine wpAny_passesOwn hp (thn (hb _ s6 σ6 H6 _ I6 q6) fun f s7 q7=>?_)
  have again:∀ {σ7:St} {H7:Hp},Inv X (pins++pinsAt fp s5.heap) σ7 H7 s7->N σ7 H7->∃ m,m < n/\∃ i σ' H',Inv X pins σ' H' s7/\tn i s7.heap/\(∀ b∈fp,H' b=none)/\W i m σ' H':=fun {σ7 H7} I7 n7=>by
   obtain ⟨m',hm,w7⟩:=hN σ7 H7 n7
   refine ⟨m',hm,i + 1,σ7,H7,I7.unpinned,T.keep _ _ _ st5 fun b hb o e=>(I7.pin (b,o) (List.mem_append_right _ (List.mem_append_right _ (mem_pinsAt hb e)))).1,fun b hb=>?_,w7⟩
   obtain ⟨o,e,d⟩:=T.obj _ _ st5 b hb
   exact (I7.pin (b,o) (List.mem_append_right _ (List.mem_append_right _ (mem_pinsAt hb e)))).2.1
  cases f with
  | next=>obtain ⟨σ7,H7,I7,n7⟩:=q7;exact again I7 n7
  | cont=>obtain ⟨σ7,H7,I7,n7⟩:=q7;exact again I7 n7
  | brk=>obtain ⟨σ7,H7,I7,q7⟩:=q7;exact ⟨σ7,H7,I7.unpinned,q7⟩
  | ret v=>obtain ⟨x7,σ7,H7,I7,r7,q7⟩:=q7;exact ⟨x7,σ7,H7,I7.unpinned,r7,q7⟩
end
end L2
namespace L2
open PySem PySem.Spec PyProof.Rows
abbrev R2:=V->V->Hp->VK->Prop
def OpR (X:Cx) (f:Value->Value->Sem Value) (r:R2):Prop :=
 ∀ (pins:List (Addr×Obj)) (s:Shared) (σ:St) (H:Hp) (x y:V) (v u:Value) (Q:VK),Inv X pins σ H s->RelV x v->RelV y u->r x y H Q ->
  wpAny (model X.prog X.w) X.A (f v u) (EP X pins σ Q) X.xe s
def UnR (X:Cx) (f:Value->Sem Value) (r:V->Hp->VK->Prop):Prop :=
 ∀ (pins:List (Addr×Obj)) (s:Shared) (σ:St) (H:Hp) (x:V) (v:Value) (Q:VK),Inv X pins σ H s->RelV x v->r x H Q ->
  wpAny (model X.prog X.w) X.A (f v) (EP X pins σ Q) X.xe s
def CallR (X:Cx) (f:Value) (r:List V->Hp->VK->Prop):Prop :=
 ∀ (pins:List (Addr×Obj)) (s:Shared) (σ:St) (H:Hp) (xs:List V) (us:List Value) (Q:VK),Inv X pins σ H s->Vals xs us->r xs H Q ->
  wpAny (model X.prog X.w) X.A (call f us) (EP X pins σ Q) X.xe s
def TruR (X:Cx) (r:V->Hp->(Bool->Hp->Prop)->Prop):Prop :=
 ∀ (pins:List (Addr×Obj)) (s:Shared) (σ:St) (H:Hp) (x:V) (v:Value) (Q:Bool->Hp->Prop),Inv X pins σ H s->RelV x v->r x H Q ->
  wpAny (model X.prog X.w) X.A (truthy v) (TP X pins σ Q) X.xe s
def tOp (r:R2) (ta tb:TE):TE:=fun σ H Q=>ta σ H fun x H1=>tb σ H1 fun y H2=>r x y H2 Q
def tUn (r:V->Hp->VK->Prop) (ta:TE):TE:=fun σ H Q=>ta σ H fun x H1=>r x H1 Q
def rI (C:Int->Int->Prop) (g:Int->Int->V):R2:=fun x y H Q=>∃ i j,x=.int i/\y=.int j/\C i j/\Q (g i j) H
def rI0 (g:Int->Int->V):R2:=fun x y H Q=>∃ i j,x=.int i/\y=.int j/\Q (g i j) H
def rU (g:Int->V):V->Hp->VK->Prop:=fun x H Q=>∃ i,x=.int i/\Q (g i) H
section
variable {X:Cx} {a b c:Expr} {ta tb tc:TE} {pos:Pos}
theorem binT (ha:PE X a ta) (hb:PE X b tb) {pins:List (Addr×Obj)} {s:Shared} {σ:St} {H:Hp} {R:V->V->Hp->Prop} (I:Inv X pins σ H s)
  (h:ta σ H fun x H1=>tb σ H1 fun y H2=>R x y H2) {Q:Value->Shared->Prop} {f:Value->Value->Sem Value}
  (hf:∀ v u s2 x y H2,Inv X pins σ H2 s2->RelV x v->RelV y u->R x y H2->wpAny (model X.prog X.w) X.A (f v u) Q X.xe s2) :
  wpAny (model X.prog X.w) X.A (eval a X.env) (fun v s₁=>wpAny (model X.prog X.w) X.A (eval b X.env) (fun u s₂=>wpAny (model X.prog X.w) X.A (f v u) Q X.xe s₂) X.xe s₁) X.xe s:=by
 refine thn (ha pins s σ H _ I h) fun v s1 ⟨x,H1,I1,r1,q1⟩=>?_
 refine thn (hb pins s1 σ H1 _ I1 q1) fun u s2 ⟨y,H2,I2,r2,q2⟩=>?_
 exact hf v u s2 x y H2 I2 r1 r2 q2
theorem pe_op {op:Operator} {r:R2} (ho:OpR X (binaryOp op) r) (ha:PE X a ta) (hb:PE X b tb):PE X (.BinOp a op b pos) (tOp r ta tb):=by
 intro pins s σ H Q I h
 exact wpAny_BinOp (binT ha hb I h fun v u s2 x y H2 I2 rx ry q=>ho pins s2 σ H2 x y v u Q I2 rx ry q)
theorem pe_un {op:UnaryOp} {r:V->Hp->VK->Prop} (ho:UnR X (unaryOp op) r) (ha:PE X a ta):PE X (.UnaryOp op a pos) (tUn r ta):=by
 intro pins s σ H Q I h
 exact UnaryOp_ (thn (ha pins s σ H _ I h) fun v s1 ⟨x,H1,I1,r1,q1⟩=>ho pins s1 σ H1 x v Q I1 r1 q1)
theorem opI {f:Value->Value->Sem Value} {C:Int->Int->Prop} {g:Int->Int->Int}
  (rule:∀ (i j:Int) (t u:Tok) (s:Shared) (Q:Value->Shared->Prop) (E:Value->Shared->Prop),C i j->Q (.int (g i j) s.toks) { s with toks:=s.toks + 1 }->wpAny (model X.prog X.w) X.A (f (.int i t) (.int j u)) Q E s) :
  OpR X f (rI C fun i j=>.int (g i j)):=by
 intro pins s σ H x y v u Q I rx ry h
 obtain ⟨i,j,rfl,rfl,hc,q⟩:=h
 obtain ⟨t,rfl⟩:=rx
 obtain ⟨t',rfl⟩:=ry
 exact rule i j t t' s _ _ hc ⟨.int (g i j),H,I.tok _,⟨_,rfl⟩,q⟩
theorem opI0 {f:Value->Value->Sem Value} {g:Int->Int->Int}
  (rule:∀ (i j:Int) (t u:Tok) (s:Shared) (Q:Value->Shared->Prop) (E:Value->Shared->Prop),Q (.int (g i j) s.toks) { s with toks:=s.toks + 1 }->wpAny (model X.prog X.w) X.A (f (.int i t) (.int j u)) Q E s) :
  OpR X f (rI0 fun i j=>.int (g i j)):=by
 intro pins s σ H x y v u Q I rx ry h
 obtain ⟨i,j,rfl,rfl,q⟩:=h
 obtain ⟨t,rfl⟩:=rx
 obtain ⟨t',rfl⟩:=ry
 exact rule i j t t' s _ _ ⟨.int (g i j),H,I.tok _,⟨_,rfl⟩,q⟩
theorem opB0 {f:Value->Value->Sem Value} {g:Int->Int->Bool}
  (rule:∀ (i j:Int) (t u:Tok) (s:Shared) (Q:Value->Shared->Prop) (E:Value->Shared->Prop),Q (.bool (g i j)) s->wpAny (model X.prog X.w) X.A (f (.int i t) (.int j u)) Q E s) :
  OpR X f (rI0 fun i j=>.bl (g i j)):=by
 intro pins s σ H x y v u Q I rx ry h
 obtain ⟨i,j,rfl,rfl,q⟩:=h
 obtain ⟨t,rfl⟩:=rx
 obtain ⟨t',rfl⟩:=ry
 exact rule i j t t' s _ _ ⟨.bl (g i j),H,I,rfl,q⟩
def CPow (i j:Int):Prop:=0<=j/\j<=1000000/\i.natAbs < 2 ^ 64
def CMul (i j:Int):Prop:=(-(2 ^ 64) < i/\i < 2 ^ 64)\/(-(2 ^ 64) < j/\j < 2 ^ 64)
theorem CMul.ok {i j:Int} (h:CMul i j):IntMulOk i j:=by
 rcases h with ⟨h1,h2⟩ | ⟨h1,h2⟩
 ·exact .of_left (intBits_le_64 h1 h2)
 ·exact .of_right (intBits_le_64 h1 h2)
theorem op_add:OpR X (binaryOp .Add) (rI0 fun i j=>.int (i + j)):=opI0 fun _ _ _ _ _ _ _ q=>add_int q
theorem op_sub:OpR X (binaryOp .Sub) (rI0 fun i j=>.int (i - j)):=opI0 fun _ _ _ _ _ _ _ q=>sub_int q
theorem op_mul:OpR X (binaryOp .Mult) (rI CMul fun i j=>.int (i * j)):=opI fun _ _ _ _ _ _ _ hc q=>mul_int q hc.ok
theorem op_mod:OpR X (binaryOp .Mod) (rI (fun _ j=>0 < j) fun i j=>.int (i % j)):=opI fun i j _ _ _ _ _ hc q=>by
 have h1:(0:Int) < j:=hc
 exact mod_int' (by omega) (by rw [Int.fmod_eq_emod_of_nonneg i (by omega)];exact q)
theorem op_pow:OpR X (binaryOp .Pow) (rI CPow fun i j=>.int (i ^ j.toNat)):=opI fun _ _ _ _ _ _ _ hc q=>pow_int_small hc.1 hc.2.1 hc.2.2 q
theorem op_shl:OpR X (binaryOp .LShift) (rI CPow fun i j=>.int (i * 2 ^ j.toNat)):=opI fun _ _ _ _ _ _ _ hc q=>lshift_int_small hc.1 hc.2.1 hc.2.2 q
theorem op_xor:OpR X (binaryOp .BitXor) (rI0 fun i j=>.int (Builtin.bitXor i j)):=opI0 fun _ _ _ _ _ _ _ q=>xor_int q
theorem unI {f:Value->Sem Value} {g:Int->Int}
  (rule:∀ (i:Int) (t:Tok) (s:Shared) (Q:Value->Shared->Prop) (E:Value->Shared->Prop),Q (.int (g i) s.toks) { s with toks:=s.toks + 1 }->wpAny (model X.prog X.w) X.A (f (.int i t)) Q E s) :
  UnR X f (rU fun i=>.int (g i)):=by
 intro pins s σ H x v Q I rx h
 obtain ⟨i,rfl,q⟩:=h
 obtain ⟨t,rfl⟩:=rx
 exact rule i t s _ _ ⟨.int (g i),H,I.tok _,⟨_,rfl⟩,q⟩
theorem un_neg:UnR X (unaryOp .USub) (rU fun i=>.int (-i)):=unI fun _ _ _ _ _ q=>neg_int q
end
section
variable {X:Cx} {a b c:Expr} {ta tb tc:TE} {pos:Pos}
theorem op_lt:OpR X (compareOp .Lt) (rI0 fun i j=>.bl (decide (i < j))):=opB0 fun _ _ _ _ _ _ _ q=>lt_int q
theorem op_le:OpR X (compareOp .LtE) (rI0 fun i j=>.bl (decide (i<=j))):=opB0 fun _ _ _ _ _ _ _ q=>le_int q
theorem op_gt:OpR X (compareOp .Gt) (rI0 fun i j=>.bl (decide (j < i))):=opB0 fun _ _ _ _ _ _ _ q=>gt_int q
theorem op_ge:OpR X (compareOp .GtE) (rI0 fun i j=>.bl (decide (j<=i))):=opB0 fun _ _ _ _ _ _ _ q=>ge_int q
theorem OpR.or {f:Value->Value->Sem Value} {r r':R2} (h:OpR X f r) (h':OpR X f r'):OpR X f (fun x y H Q=>r x y H Q\/r' x y H Q):=by
 intro pins s σ H x y v u Q I rx ry q
 rcases q with q | q
 ·exact h pins s σ H x y v u Q I rx ry q
 ·exact h' pins s σ H x y v u Q I rx ry q
theorem nomark (b:Expr) {op:CmpOp} (h:op≠.In:=by decide) (h2:op≠.NotIn:=by decide):behindInMarks op b=false:=by
 have e1:(op == CmpOp.In)=false:=by cases op <;> first | rfl | exact absurd rfl h
 have e2:(op == CmpOp.NotIn)=false:=by cases op <;> first | rfl | exact absurd rfl h2
 cases b <;> simp [behindInMarks,e1,e2]
theorem pe_cmpR {op:CmpOp} {r:R2} (ho:OpR X (compareOp op) r) (ha:PE X a ta) (hb:PE X b tb) (hm:behindInMarks op b=false):PE X (.Compare a [op] [b] pos) (tOp r ta tb):=by
 intro pins s σ H Q I h
 exact wpAny_Compare1 (binT ha hb I h fun v u s2 x y H2 I2 rx ry q=>ho pins s2 σ H2 x y v u Q I2 rx ry q) hm
def tTest (t:TE):TT:=fun σ H Q=>t σ H fun x H'=>∃ k,x=.bl k/\Q k H'
theorem pt_cmpR {op:CmpOp} {r:R2} (ho:OpR X (compareOp op) r) (ha:PE X a ta) (hb:PE X b tb) (hm:behindInMarks op b=false):PT X (.Compare a [op] [b] pos) (tTest (tOp r ta tb)):=by
 intro pins s σ H Q I h
 refine wpAny_isTrue_Compare1 (thn (ha pins s σ H _ I h) fun v s1 ⟨x,H1,I1,r1,q1⟩=>thn (hb pins s1 σ H1 _ I1 q1) fun u s2 ⟨y,H2,I2,r2,q2⟩ =>
  thn (ho pins s2 σ H2 x y v u _ I2 r1 r2 q2) fun c s3 ⟨z,H3,I3,r3,k,e,q3⟩=>?_) hm
 subst e
 cases r3
 exact wpAny_truthy_bool ⟨H3,I3,q3⟩
def tChain (r r':R2) (ta tb tc:TE):TE:=fun σ H Q=>ta σ H fun x H1=>tb σ H1 fun y H2=>r x y H2 fun z H3=>∃ k,z=.bl k /\
 (if k=true then tc σ H3 fun w' H4=>r' y w' H4 Q else Q (.bl false) H3)
theorem pe_chain {op op':CmpOp} {r r':R2} (ho:OpR X (compareOp op) r) (ho':OpR X (compareOp op') r') (ha:PE X a ta) (hb:PE X b tb) (hc:PE X c tc)
  (hm:lastMarks [op,op'] [b,c]=false:=by with_unfolding_all rfl):PE X (.Compare a [op,op'] [b,c] pos) (tChain r r' ta tb tc):=by
 intro pins s σ H Q I h
 refine Compare_chain (thn (ha pins s σ H _ I h) fun v s1 ⟨x,H1,I1,r1,q1⟩=>chain_link (thn (hb pins s1 σ H1 _ I1 q1) fun u s2 ⟨y,H2,I2,r2,q2⟩ =>
  thn (ho pins s2 σ H2 x y v u _ I2 r1 r2 q2) fun d s3 ⟨z,H3,I3,r3,k,e,q3⟩=>?_)) hm
 subst e
 cases r3
 refine wpAny_truthy_bool ?_
 cases k with
 | false=>exact ite_ff ⟨.bl false,H3,I3,rfl,q3⟩
 | true=>exact ite_tt (chain_last (thn (hc pins s3 σ H3 _ I3 q3) fun w' s4 ⟨z',H4,I4,r4,q4⟩=>ho' pins s4 σ H4 y z' u w' Q I4 r2 r4 q4))
def TruV (K:PySem.W.Frag) (x:V) (H:Hp) (k:Bool):Prop :=
 match x with
 | .non=>k=false
 | .bl b=>k=b
 | .int i=>k=(i != 0)
 | .str y=>y.length<=sizeLine/\k=((y.length:Int) != 0)
 | .byt y=>y.size<=sizeLine/\k=((y.size:Int) != 0)
 | .ref p=>(∃ xs,SqL K H p xs/\k=!xs.isEmpty)\/(∃ xs,SqT K H p xs/\k=!xs.isEmpty)\/∃ kvs,H p=some (.dK kvs)/\k=!kvs.isEmpty
 | _=>False
theorem isEmpty_kv {κ:Type} {kvs:List (κ×V)} {vs:List (κ×Value)} (r:KV kvs vs):(!vs.isEmpty)=!kvs.isEmpty:=by
 cases r <;> rfl
theorem isEmpty_of {xs:List V} {its:List Value} (r:Vals xs its):(!its.toArray.isEmpty)=!xs.isEmpty:=by
 cases r <;> simp
theorem line63:(sizeLine:Nat) < 2 ^ 63:=by rw [sizeLine_eq];decide
theorem tru_ok:TruR X (fun x H Q=>∃ k,TruV X.K x H k/\Q k H):=by
 intro pins s σ H x v Q I rx h
 obtain ⟨k,e,q⟩:=h
 have hl:=line63
 have hs:sizeLine=16777216:=sizeLine_eq
 cases x with
 | non =>
  cases rx
  have e':k=false:=e
  subst e'
  exact truthy_none ⟨H,I,q⟩
 | bl b =>
  cases rx
  have e':k=b:=e
  subst e'
  exact wpAny_truthy_bool ⟨H,I,q⟩
 | int i =>
  obtain ⟨t,rfl⟩:=rx
  have e':k=(i != 0):=e
  subst e'
  exact PySem.P.truthy_int ⟨H,I,q⟩
 | str y =>
  obtain ⟨t,rfl⟩:=rx
  obtain ⟨hy,e'⟩:y.length<=sizeLine/\k=((y.length:Int) != 0):=e
  subst e'
  exact PySem.P.truthy_str (by omega) ⟨H,I.tok _,q⟩
 | byt y =>
  obtain ⟨t,rfl⟩:=rx
  obtain ⟨hy,e'⟩:y.size<=sizeLine/\k=((y.size:Int) != 0):=e
  subst e'
  exact PySem.W.truthy_bytes (by omega) ⟨H,I.tok _,q⟩
 | ref p =>
  cases rx
  have e':(∃ xs,SqL X.K H p xs/\k=!xs.isEmpty)\/(∃ xs,SqT X.K H p xs/\k=!xs.isEmpty)\/∃ kvs,H p=some (.dK kvs)/\k=!kvs.isEmpty:=e
  rcases e' with ⟨xs,hx,e'⟩ | ⟨xs,hx,e'⟩ | ⟨kvs,hx,e'⟩
  ·subst e'
   obtain ⟨its,r,pl,hz⟩:=I.list hx
   have hlen:=r.length
   exact wpAny_truthy_list pl.isList (by simp only [List.size_toArray];omega) ⟨H,I.tok _,by rw [isEmpty_of r];exact q⟩
  ·subst e'
   obtain ⟨its,r,pl,hz⟩:=I.tuple hx
   have hlen:=r.length
   exact truthy_tuple pl (by simp only [List.size_toArray];omega) ⟨H,I.tok _,by rw [isEmpty_of r];exact q⟩
  ·subst e'
   obtain ⟨hz,hS,vs,r,m⟩:kvs.length<=sizeLine/\(p == sysModules)=false/\∃ vs,KV kvs vs/\s.heap.DictOf (mixKind X.prog X.w) p vs:=I.hok p _ hx
   have hlen:kvs.length=vs.length:=Paired.length r
   exact wpAny_truthy_dict hS m (by omega) ⟨H,I.tok _,by rw [isEmpty_kv r];exact q⟩
 | _=>exact (show False from e).elim
theorem pt_truth (ha:PE X a ta) (he:∀ whole,isTrue a X.env whole=(do let v ← whole;standAt a.pos;holding [v] (truthy v))) :
  PT X a (fun σ H Q=>ta σ H fun x H'=>∃ k,TruV X.K x H' k/\Q k H'):=by
 intro pins s σ H Q I h
 exact isTrue_plain (thn (ha pins s σ H _ I h) fun v s1 ⟨x,H1,I1,r1,q1⟩=>tru_ok pins s1 σ H1 x v Q I1 r1 q1) (he _)
theorem op_add_str:OpR X (binaryOp .Add) (fun x y H Q=>∃ i j,x=.str i/\y=.str j/\i.length + j.length<=sizeLine/\Q (.str (i++j)) H):=by
 intro pins s σ H x y v u Q I rx ry h
 obtain ⟨i,j,rfl,rfl,hz,q⟩:=h
 obtain ⟨t,rfl⟩:=rx
 obtain ⟨t',rfl⟩:=ry
 exact add_str (fun t' tk=>⟨.str (i++j),H,I.tok _,⟨_,rfl⟩,q⟩) hz
theorem vals1 {x:V} {us:List Value} (r:Vals [x] us):∃ u,us=[u]/\RelV x u:=by
 cases r with
 | cons r1 r2=>cases r2;exact ⟨_,rfl,r1⟩
theorem vals2 {x y:V} {us:List Value} (r:Vals [x,y] us):∃ u w',us=[u,w']/\RelV x u/\RelV y w':=by
 cases r with
 | cons r1 r2 =>
  cases r2 with
  | cons r3 r4=>cases r4;exact ⟨_,_,rfl,r1,r3⟩
theorem call_max2 (hc:X.calm=true):CallR X (.builtin "max") (fun xs H Q=>∃ i j,xs=[.int i,.int j]/\Q (.int (if j > i then j else i)) H):=by
 intro pins s σ H xs us Q I r h
 obtain ⟨i,j,rfl,q⟩:=h
 obtain ⟨u,w',rfl,⟨t,rfl⟩,⟨t',rfl⟩⟩:=vals2 r
 refine max_two_ints (I.ok.hd hc) fun h' tk k=>⟨_,H,I.kept k,?_,q⟩
 by_cases hj:j > i
 ·rw [if_pos hj,if_pos hj];exact ⟨_,rfl⟩
 ·rw [if_neg hj,if_neg hj];exact ⟨_,rfl⟩
theorem call_min2 (hc:X.calm=true):CallR X (.builtin "min") (fun xs H Q=>∃ i j,xs=[.int i,.int j]/\Q (.int (if j < i then j else i)) H):=by
 intro pins s σ H xs us Q I r h
 obtain ⟨i,j,rfl,q⟩:=h
 obtain ⟨u,w',rfl,⟨t,rfl⟩,⟨t',rfl⟩⟩:=vals2 r
 refine min_two_ints (I.ok.hd hc) fun h' tk k=>⟨_,H,I.kept k,?_,q⟩
 by_cases hj:j < i
 ·rw [if_pos hj,if_pos hj];exact ⟨_,rfl⟩
 ·rw [if_neg hj,if_neg hj];exact ⟨_,rfl⟩
end
end L2
namespace L2
open PySem PySem.Spec PyProof.Rows
structure ObjM (h:Heap) (x dx C:Addr) (mA:Str->Option Value):Prop where
 obj:h.get? x=some (PySem.W.instObj C dx)
 ns:h.Ns1 dx mA
 ne:dx≠x
theorem lookIn_ns {h:Heap} {dx:Addr} {mA:Str->Option Value} (n:h.Ns1 dx mA):∃ od,h.get? dx=some od/\∀ name,PySem.W.lookIn name od=some (mA name):=by
 obtain ⟨o,es,ep,ho,hd,hk,_,hm⟩:=n
 refine ⟨o,ho,fun name=>?_⟩
 have e:=hm name
 unfold nsFind findBy at e
 rw [← Array.find?_toList] at e
 unfold PySem.W.lookIn
 rw [hd]
 dsimp only
 split
 ·rename_i y q
  rw [q] at e
  exact congrArg some e
 ·rename_i q
  rw [q] at e
  have a:es.toList.any (·.refKey)=false:=by
   rw [List.any_eq_false]
   intro y hy
   obtain ⟨z,t,hkey⟩:=hk y (Array.mem_toList_iff.mp hy)
   simp [DictEntry.refKey,hkey]
  have a':¬ es.toList.any (·.refKey)=true:=by rw [a];exact Bool.false_ne_true
  rw [if_neg a']
  exact congrArg some e
theorem ObjM.look {h:Heap} {x dx C:Addr} {mA:Str->Option Value} (I:ObjM h x dx C mA):∃ od,PySem.W.InstAt h x (PySem.W.instObj C dx) C (some od)/\∀ name,PySem.W.lookIn name od=some (mA name) :=
 let ⟨od,ho,hl⟩:=lookIn_ns I.ns
 ⟨od,⟨I.obj,rfl,rfl,ho⟩,hl⟩
section
variable {prog:Program} {w:World} {A:Around} {E:Value->Shared->Prop} {s:Shared} {K:PySem.W.Frag} {x dx C f:Addr} {mA:Str->Option Value} {name:Str} {v:Value}
theorem get_meth {pl:Sem Bool} {Q:Value×List Value->Shared->Prop} (X:K.In s.heap) (I:ObjM s.heap x dx C mA) (hg:PySem.W.plainGet K C name=true)
  (hf:PySem.W.findIn K (.ref C) name=some (some (.ref f))) (ht:PySem.W.isFn K (.ref f)=true) (hv:mA name=none) (h:Q (.ref f,[.ref x]) s) :
  wpAny (model prog w) A (getMethod (.ref x) name pl) Q E s:=by
 obtain ⟨od,J,hl⟩:=I.look
 exact PySem.W.method_fn X J (PySem.W.plainGet_of hg).1 (PySem.W.plainGet_of hg).2 hf (beq_iff_eq.mp ht) (by show (PySem.W.lookIn name od).map (·.isSome)=some false;rw [hl,hv];rfl) h
theorem make_map0 {R:Result->Shared->Prop} (X:K.In s.heap) (hm:PySem.W.makesIn K C=true)
  (hi:PySem.W.findIn K (.ref C) "__init__" = some (some (.builtin "object.__init__")))
  (hb:∀ self,PySem.W.Looks (model prog w) s.heap (bindSpecial (.builtin "object.__init__") self) (.builtin "object.__init__",[self]))
  (h:codeAny (model prog w) (A.under (.builtin "type.__call__" ⟨[.ref C],[]⟩)) (.call (.builtin "object.__init__") ⟨[.ref (s.heap.objs.size + 1)],[]⟩) (PySem.W.InitBack (s.heap.objs.size + 1) R)
   { s with heap:=(s.heap.push PySem.W.emptyDict).push (PySem.W.instObj C s.heap.objs.size) }) :
  codeAny (model prog w) A (.call (.ref C) ⟨[],[]⟩) R s:=by
 obtain ⟨hh,g,d,t,os⟩:=s
 exact PySem.W.make_core (PySem.W.makes_of X hm) (PySem.W.looks_findIn X hi) hb (.inr ⟨rfl,rfl⟩) h
end
theorem RelO.none_of {o:Option Value} (r:RelO none o):o=none:=by
 cases o with
 | none=>rfl
 | some u=>exact (show False from r).elim
section
variable {P:Program} {w:World} {H H':Hp} {h h':Heap} {a C dx:Addr} {fs fs':List (Str×V)}
theorem ins_get (hok:HOk P w H h) (e:H a=some (.ins C dx fs)):∃ mA,ObjM h a dx C mA/\(∀ f,RelO (fs.lookup f) (mA f))/\PySem.Within mA (fs.map (·.1))/\fs.length<=1000/\H dx=some (.own a):=by
 obtain ⟨d,z,ne,ob,mA,n,r,q⟩:=(show ObjOk P w H h a (.ins C dx fs) from hok a _ e)
 exact ⟨mA,⟨ob,n,ne⟩,r,q,z,d⟩
end
structure Cls (K:PySem.W.Frag) (C:Addr):Prop where
 pg:PySem.W.plainGet K C Str.empty=true
 hd:PySem.W.hasDictIn K C=true
 po:PySem.W.plainOver K C=true
 sa:PySem.W.findIn K (.ref C) "__setattr__" = some (some (.builtin "object.__setattr__"))
theorem Cls.get {K:PySem.W.Frag} {C:Addr} (c:Cls K C) (f:Str):PySem.W.plainGet K C f=true:=c.pg
structure Con (K:PySem.W.Frag) (C:Addr) (f:Str) (v:V) (u:Value):Prop where
 at_:PySem.W.findIn K (.ref C) f=some (some u)
 rel:RelV v u
 get:PySem.W.specialIn K u "__get__" = some none
 cp:PySem.W.copiedNames.contains f=false
structure Meth (K:PySem.W.Frag) (C:Addr) (m:Str) (f:Addr):Prop where
 at_:PySem.W.findIn K (.ref C) m=some (some (.ref f))
 fn:PySem.W.isFn K (.ref f)=true
 kp:PySem.W.keepIn K (.ref f)=true
section
variable {X:Cx} {pins:List (Addr×Obj)} {σ:St} {H:Hp} {s:Shared} {a C dx:Addr} {fs:List (Str×V)} {f:Str} {v:V} {A:Around} {E:Value->Shared->Prop}
theorem getmeth_ok {m:Str} {g:Addr} {pl:Sem Bool} {Q:Value×List Value->Shared->Prop} (I:Inv X pins σ H s) (e:H a=some (.ins C dx fs)) (c:Cls X.K C) (k:Meth X.K C m g) (l:fs.lookup m=none)
  (h:Q (.ref g,[.ref a]) s):wpAny (model X.prog X.w) A (getMethod (.ref a) m pl) Q E s:=by
 obtain ⟨mA,O,r,_,_,_⟩:=ins_get I.hok e
 have hn:mA m=none:=RelO.none_of (by rw [← l];exact r m)
 exact get_meth I.kIn O (c.get m) k.at_ k.fn hn h
theorem Inv.made (I:Inv X pins σ H s):Inv X pins σ (upd (upd H s.heap.objs.size (.own (s.heap.objs.size + 1))) (s.heap.objs.size + 1) (.ins C s.heap.objs.size []))
  { s with heap:=(s.heap.push PySem.W.emptyDict).push (PySem.W.instObj C s.heap.objs.size) }:=by
 have e1:(s.heap.push PySem.W.emptyDict).get? s.heap.objs.size=some PySem.W.emptyDict:=Heap.get?_push_size s.heap rfl
 have e2:((s.heap.push PySem.W.emptyDict).push (PySem.W.instObj C s.heap.objs.size)).get? (s.heap.objs.size + 1)=some (PySem.W.instObj C s.heap.objs.size):=by
  have:=Heap.get?_push_size (s.heap.push PySem.W.emptyDict) (o:=PySem.W.instObj C s.heap.objs.size) rfl
  rwa [Heap.size_push] at this
 have e3:(s.heap.push PySem.W.emptyDict).Ns s.heap.objs.size (fun _=>none):=⟨PySem.W.emptyDict,#[],_,e1,rfl,(fun e he=>absurd he (by simp)),fun _=>rfl⟩
 have I1:=I.laid (a:=s.heap.objs.size) (o:=.own (s.heap.objs.size + 1)) (h':=s.heap.push PySem.W.emptyDict) (t':=s.toks) (fun b u q=>Heap.get?_push_of_some _ q) (Nat.le_refl _) ⟨_,e1⟩
 refine I1.laid (a:=s.heap.objs.size + 1) (o:=.ins C s.heap.objs.size []) (t':=s.toks) (fun b u q=>Heap.get?_push_of_some _ q) (Nat.le_of_eq (Heap.size_push _ _)) ?_
 have ne:s.heap.objs.size≠s.heap.objs.size + 1:=Nat.ne_of_lt (Nat.lt_succ_self _)
 refine ⟨by rw [upd_ne ne,upd_same],Nat.zero_le _,ne,e2,fun _=>none,(Heap.Ns1.of_empty e3).at fun o q=>Heap.get?_push_of_some _ q,fun _=>True.intro,fun y hy=>absurd rfl hy⟩
end
section
variable {X:Cx} {o e value:Expr} {f:Str} {pos pos' tpos:Pos} {ta tv:TE}
end
section
variable {X:Cx} {pins:List (Addr×Obj)} {σ:St} {H:Hp} {s:Shared} {A:Around} {E:Value->Shared->Prop} {Q:Value->Shared->Prop} {c:Value} {b:Bool}
inductive TyOf (K:PySem.W.Frag) (H:Hp):V->Value->Prop where
 | non:TyOf K H .non (.type "NoneType")
 | bl (x:Bool):TyOf K H (.bl x) (.type "bool")
 | int (i:Int):TyOf K H (.int i) (.type "int")
 | str (x:Str):TyOf K H (.str x) (.type "str")
 | flt (x:UInt64):TyOf K H (.flt x) (.type "float")
 | lst {a:Addr} {xs:List V} (e:H a=some (.lst xs)):TyOf K H (.ref a) (.type "list")
 | frz {a:Addr} {o:Obj} {xs:List V} (e:H a=some (.frz o (.lst xs))):TyOf K H (.ref a) (.type "list")
 | tup {a:Addr} {xs:List V} (e:H a=some (.tup xs)):TyOf K H (.ref a) (.type "tuple")
 | dK {a:Addr} {kvs:List (Key×V)} (e:H a=some (.dK kvs)):TyOf K H (.ref a) (.type "dict")
 | dT {a:Addr} {kvs:List (List Key×V)} (e:H a=some (.dT kvs)):TyOf K H (.ref a) (.type "dict")
 | ins {a C dx:Addr} {fs:List (Str×V)} (e:H a=some (.ins C dx fs)) (cl:Cls K C) (ha:PySem.W.findIn K (.ref C) "__class__" = some (some (.builtin "object.__class__")))
   (hn:PySem.W.specialIn K (.builtin "object.__class__") "__get__" = some (some (.builtin "getset_descriptor.__get__"))) (htk:PySem.W.takesIn K (.builtin "object.__class__")=some true)
   (hm:PySem.W.mroIn K C (.type "object")=some true):TyOf K H (.ref a) (.ref C)
end
end L2
namespace L2
open PySem PySem.Spec PyProof.Rows
structure Room (k:Nat) (A:Around):Prop where
 hd:A.handled=none
 dp:A.depth + 3 * k + 5 < recursionLimit
 un:A.units + 16 * k + 200 < cLine
theorem Room.mono {j k:Nat} {A:Around} (r:Room k A) (h:j<=k):Room j A:=⟨r.hd,by have:=r.dp;omega,by have:=r.un;omega⟩
theorem Room.deeper {k:Nat} {A:Around} (r:Room (k + 1) A) (env:Env):Room k (A.deeper env) :=
 ⟨r.hd,by have:=r.dp;show A.depth + 1 + 3 * k + 5 < _;omega,by have:=r.un;show A.units + 3 + 16 * k + 200 < _;omega⟩
theorem Room.in1 {k:Nat} {A:Around} (r:Room (k + 1) A):Room k A.in1 :=
 ⟨r.hd,by have:=r.dp;show A.depth + 3 * k + 5 < _;omega,by have:=r.un;show A.units + 1 + 16 * k + 200 < _;omega⟩
theorem Room.depth {k:Nat} {A:Around} (r:Room k A):A.depth < recursionLimit:=by have:=r.dp;omega
theorem Room.units {k:Nat} {A:Around} (r:Room k A):A.units + 64 < cLine:=by have:=r.un;omega
def tNil:TA:=fun _ H Q=>Q [] H
def tCons (ta:TE) (tr:TA):TA:=fun σ H Q=>ta σ H fun x H1=>tr σ H1 fun xs H2=>Q (x::xs) H2
section
variable {X:Cx} {e:Expr} {es:List Expr} {te:TE} {t:TA} {pos:Pos}
theorem pa_nil:PA X [] tNil:=fun _ _ _ _ H Q I h=>Calls.spliced_nil ⟨[],H,I,.nil,h⟩
theorem pa_cons (ha:PE X e te) (hr:PA X es t) (hs:starEach (e::es) X.env=(false,eval e X.env)::starEach es X.env:=by rfl):PA X (e::es) (tCons te t):=by
 intro pos pins s σ H Q I h
 rw [hs]
 show wpAny _ _ (spliced ((false,eval e X.env)::backTo pos (starEach es X.env))) _ _ s
 refine Calls.spliced_cons (thn (ha pins s σ H _ I h) fun u s1 ⟨x,H1,I1,r1,q1⟩=>?_)
 exact thn (hr pos pins s1 σ H1 _ I1 q1) fun us s2 ⟨xs,H2,I2,r2,q2⟩=>⟨x::xs,H2,I2,.cons r1 r2,q2⟩
def tTup (t:TA):TE:=fun σ H Q=>t σ H fun xs H1=>xs.length<=sizeLine/\∀ p,H1 p=none->Q (.ref p) (upd H1 p (.tup xs))
def tLst (t:TA):TE:=fun σ H Q=>t σ H fun xs H1=>xs.length<=sizeLine/\∀ p,H1 p=none->Q (.ref p) (upd H1 p (.lst xs))
theorem pe_tup {x1} (h:PA X es t):PE X (.Tuple es x1 pos) (tTup t):=by
 intro pins s σ H Q I hq
 refine wpAny_Tuple_spliced (thn (h pos pins s σ H _ I hq) fun us s1 ⟨xs,H1,I1,r,z,q⟩=>⟨by rw [← r.length];exact z,?_⟩)
 have hf:H1 s1.heap.objs.size=none:=I1.hok.fresh (Nat.le_refl _)
 refine ⟨.ref s1.heap.objs.size,upd H1 s1.heap.objs.size (.tup xs),I1.laid (t':=s1.toks) (fun b u e=>Heap.get?_push_of_some _ e) (Nat.le_refl _) ?_,rfl,q _ hf⟩
 exact ⟨z,us,r,⟨_,Heap.get?_push_size _ rfl,rfl,_,rfl⟩⟩
theorem pe_lst (h:PA X es t):PE X (.List es pos) (tLst t):=by
 intro pins s σ H Q I hq
 refine wpAny_List_spliced (thn (h pos pins s σ H _ I hq) fun us s1 ⟨xs,H1,I1,r,z,q⟩=>⟨by rw [← r.length];exact z,?_⟩)
 have hf:H1 s1.heap.objs.size=none:=I1.hok.fresh (Nat.le_refl _)
 refine ⟨.ref s1.heap.objs.size,upd H1 s1.heap.objs.size (.lst xs),I1.laid (t':=s1.toks) (fun b u e=>Heap.get?_push_of_some _ e) (Nat.le_refl _) ?_,rfl,q _ hf⟩
 exact ⟨z,us,0,r,Heap.get?_push_size _ rfl⟩
end
abbrev Sp:=List V->Hp->VK->XK->Prop
abbrev CXT:=List Env->Hp->Shared->XK->Value->Shared->Prop
structure Env0 (P:Program) (w:World) (K:PySem.W.Frag) (mg:Str->Option Value) (base:Heap) (A:Around) (outer:List Env) (s:Shared) (H:Hp):Prop where
 frames:A.frames=some outer
 mod:Mod K mg base
 bs:∀ b o,base.get? b=some o->s.heap.get? b=some o/\H b=none
 bsz:base.objs.size<=s.heap.objs.size
 funs:s.heap.FunFrames base outer
 frf:∀ b∈frs outer,H b=none
 hok:HOk P w H s.heap
 bare:AllBare s.gens
def CE (outer:List Env) (P:Program) (w:World) (H:Hp) (s:Shared) (Q:VK) (u:Value) (s':Shared):Prop :=
 ∃ v H',s'.os=s.os/\AllBare s'.gens/\Un (frs outer) [] H H' s.heap s'.heap/\HOk P w H' s'.heap/\RelV v u/\Q v H'
def CR (CX:CXT) (outer:List Env) (P:Program) (w:World) (H:Hp) (s:Shared) (Q:VK) (E:XK) (r:Result) (s':Shared):Prop :=
 match r with
 | .ok (.ret u)=>CE outer P w H s Q u s'
 | .ok _=>False
 | .error e=>CX outer H s E e s'
structure FnOk (P:Program) (w:World) (K:PySem.W.Frag) (mg:Str->Option Value) (base:Heap) (CX:CXT) (k:Nat) (f:Addr) (fd:FuncData) (ps:List Str) (sp:Sp):Prop where
 len:∀ vs H Q E,sp vs H Q E->vs.length=ps.length
 run:∀ (A:Around) (outer:List Env) (s:Shared) (H:Hp) (args:Args) (us:List Value) (vs:List V) (Q:VK) (E:XK),Room k A->Env0 P w K mg base A outer s H->BindsTo s fd args (ps.zip us)->Vals vs us->sp vs H Q E ->
  codeAny (model P w) A (.call (.ref f) args) (CR CX outer P w H s Q E) s
theorem FnOk.mono {P:Program} {w:World} {K:PySem.W.Frag} {mg:Str->Option Value} {base:Heap} {CX:CXT} {j k:Nat} {f:Addr} {fd:FuncData} {ps:List Str} {sp:Sp} (F:FnOk P w K mg base CX j f fd ps sp) (h:j<=k) :
  FnOk P w K mg base CX k f fd ps sp:=⟨F.len,fun A outer s H args us vs Q E hr=>F.run A outer s H args us vs Q E (hr.mono h)⟩
section
variable {X:Cx} {pins:List (Addr×Obj)} {σ:St} {H:Hp} {s s':Shared}
theorem Inv.env0 (I:Inv X pins σ H s):Env0 X.prog X.w X.K X.mg X.base X.A X.stack s H :=
 ⟨I.ok.frames,I.ok.mod,I.bs,Nat.le_trans I.ok.bsz I.sz,I.stack,I.stkFree,I.hok,I.bare⟩
theorem Inv.after {Q:VK} {u:Value} (I:Inv X pins σ H s) (h:CE X.stack X.prog X.w H s Q u s'):EP X pins σ Q u s':=by
 obtain ⟨v,H',os,bare,un,hok,r,q⟩:=h
 obtain ⟨hh,g,d,t,os'⟩:=s'
 obtain rfl:os'=s.os:=os
 exact ⟨v,H',I.call (h':=hh) (g':=g) (d':=d) (t':=t) (ch:=[]) un hok bare (fun b z=>absurd z (by simp)),r,q⟩
end
def tCall (sp:Sp) (dvs:List V) (E:XK) (t:TA):TE:=fun σ H Q=>t σ H fun vs H1=>sp (vs++dvs) H1 Q E
def tMeth (C:Addr) (m:Str) (sp:Sp) (dvs:List V) (E:XK) (ta:TE) (t:TA):TE:=fun σ H Q=>ta σ H fun x H1=>∃ a dx fs,x=.ref a/\H1 a=some (.ins C dx fs)/\fs.lookup m=none /\
 t σ H1 fun vs H2=>sp (x::(vs++dvs)) H2 Q E
def Binds (K:PySem.W.Frag) (fd:FuncData) (ps:List Str) (ds:List Value):Prop :=
 ∀ (s:Shared) (us:List Value),K.In s.heap->(us++ds).length=ps.length->BindsTo s fd ⟨us,[]⟩ (ps.zip (us++ds))
theorem Binds.all {K:PySem.W.Frag} {fd:FuncData} {ps:List Str} (h:∀ us:List Value,us.length=ps.length->bindArgs fd ⟨us,[]⟩=pure (ps.zip us)):Binds K fd ps []:=fun s us _ hl=>by
 rw [List.append_nil] at hl ⊢
 exact .of_eq (h us hl)
def Passes (CX:CXT) (X:Cx) (E:XK):Prop:=∀ (pins:List (Addr×Obj)) (σ:St) (H:Hp) (s:Shared) (e:Value) (s':Shared),Inv X pins σ H s->CX X.stack H s E e s'->X.xe e s'
section
variable {X:Cx} {CX:CXT} {k:Nat} {f C:Addr} {fd:FuncData} {ps:List Str} {sp:Sp} {dvs:List V} {ds:List Value} {E:XK} {x m:Str} {p pos apos:Pos} {e o:Expr} {es:List Expr} {ta:TE} {t:TA}
theorem run_fn {pins:List (Addr×Obj)} {σ:St} {H:Hp} {s:Shared} {Q:VK} {us:List Value} {vs:List V} (F:FnOk X.prog X.w X.K X.mg X.base CX k f fd ps sp) (hr:Room k X.A) (hb:Binds X.K fd ps ds) (hd:Vals dvs ds) (hx:Passes CX X E)
  (I:Inv X pins σ H s) (r:Vals vs us) (h:sp (vs++dvs) H Q E):wpAny (model X.prog X.w) X.A (call (.ref f) us) (EP X pins σ Q) X.xe s:=by
 have r2:Vals (vs++dvs) (us++ds):=r.append hd
 have hl:(us++ds).length=ps.length:=by rw [← r2.length];exact F.len _ _ _ _ h
 refine wpAny_call (codeAny_mono (F.run X.A X.stack s H ⟨us,[]⟩ (us++ds) (vs++dvs) Q E hr I.env0 (hb s us I.kIn hl) r2 h) fun r s' hq=>?_)
 cases r with
 | error e=>exact hx pins σ H s e s' I hq
 | ok fl =>
  cases fl with
  | ret u=>exact I.after hq
  | next=>exact False.elim hq
  | brk=>exact False.elim hq
  | cont=>exact False.elim hq
theorem pe_call (F:FnOk X.prog X.w X.K X.mg X.base CX k f fd ps sp) (hr:Room k X.A) (hg:Gl X x) (hm:X.mg x=some (.ref f)) (hk:PySem.W.keepIn X.K (.ref f)=true) (hb:Binds X.K fd ps ds) (hd:Vals dvs ds) (hx:Passes CX X E)
  (ha:PA X (e::es) t) (hdb:(x == ("__debug__":Str))=false:=by decide) (he:starEach (e::es) X.env=(false,eval e X.env)::starEach es X.env:=by rfl) (hpl:(backTo pos (starEach es X.env)).any (·.1)=false:=by rfl) :
  PE X (.Call (.Name x p) (e::es) [] pos) (tCall sp dvs E t):=by
 intro pins s σ H Q I h
 refine wpAny_Call_Name_kw (ld_glob I hg hm ?_ hdb)
 refine PySem.W.callWith_K (h₀:=X.base) I.ok.mod.kin hk (thn (ha pos pins s σ H _ I h) fun us s1 ⟨vs,H1,I1,r,q⟩=>⟨I1.kIn,?_⟩) he hpl
 exact run_fn F hr hb hd hx I1 r q
theorem pe_meth {pl:Sem Bool} (he:PE X o ta) (c:Cls X.K C) (hm:Meth X.K C m f) (F:FnOk X.prog X.w X.K X.mg X.base CX k f fd ps sp) (hr:Room k X.A) (hb:Binds X.K fd ps ds) (hd:Vals dvs ds) (hx:Passes CX X E) (ha:PA X (e::es) t)
  (hst:starEach (e::es) X.env=(false,eval e X.env)::starEach es X.env:=by rfl) (hpl:(backTo pos (starEach es X.env)).any (·.1)=false:=by rfl)
  (ht:eval (.Call (.Attribute o m apos) (e::es) [] pos) X.env=(do
   let ov ← eval o X.env
   standAt apos.atName
   let (f,first) ← holding [ov] (getMethod ov m pl)
   callWith pos f first (backTo pos (starEach (e::es) X.env)) (backToKw pos (keywordEach [] X.env))):=by rfl) :
  PE X (.Call (.Attribute o m apos) (e::es) [] pos) (tMeth C m sp dvs E ta t):=by
 intro pins s σ H Q I h
 refine PySem.W.methodCall_KW (pl:=pl) (thn (he pins s σ H _ I h) fun u s1 ⟨x,H1,I1,rx,a,dx,fs,ex,ea,l,q⟩=>?_) ht
 subst ex
 obtain rfl:u=Value.ref a:=rx
 refine getmeth_ok I1 ea c hm l ?_
 refine PySem.W.callWith_K (first:=[.ref a]) (h₀:=X.base) I.ok.mod.kin hm.kp (thn (ha pos pins s1 σ H1 _ I1 q) fun us s2 ⟨vs,H2,I2,r,q2⟩=>⟨I2.kIn,?_⟩) hst hpl
 exact run_fn (us:=.ref a::us) (vs:=.ref a::vs) F hr hb hd hx I2 (.cons rfl r) q2
theorem pe_meth0 {pl:Sem Bool} (he:PE X o ta) (c:Cls X.K C) (hm:Meth X.K C m f) (F:FnOk X.prog X.w X.K X.mg X.base CX k f fd ps sp) (hr:Room k X.A) (hb:Binds X.K fd ps ds) (hd:Vals dvs ds) (hx:Passes CX X E)
  (ht:eval (.Call (.Attribute o m apos) [] [] pos) X.env=(do
   let ov ← eval o X.env
   standAt apos.atName
   let (f,first) ← holding [ov] (getMethod ov m pl)
   callWith pos f first (backTo pos (starEach [] X.env)) (backToKw pos (keywordEach [] X.env))):=by rfl) :
  PE X (.Call (.Attribute o m apos) [] [] pos) (tMeth C m sp dvs E ta tNil):=by
 intro pins s σ H Q I h
 refine PySem.W.methodCall_KW (pl:=pl) (thn (he pins s σ H _ I h) fun u s1 ⟨x,H1,I1,rx,a,dx,fs,ex,ea,l,q⟩=>?_) ht
 subst ex
 obtain rfl:u=Value.ref a:=rx
 refine getmeth_ok I1 ea c hm l ?_
 exact PySem.W.callWith_K0 (first:=[.ref a]) I1.kIn hm.kp (run_fn (us:=[.ref a]) (vs:=[.ref a]) F hr hb hd hx I1 (.cons rfl .nil) q)
structure Mk (K:PySem.W.Frag) (C f:Addr):Prop where
 makes:PySem.W.makesIn K C=true
 init:PySem.W.findIn K (.ref C) "__init__" = some (some (.ref f))
 fn:PySem.W.isFn K (.ref f)=true
 kp:PySem.W.keepIn K (.ref C)=true
end
section
variable {X:Cx} {CX:CXT} {k:Nat} {f C:Addr} {fd:FuncData} {ps ks:List Str} {sp:Sp} {E:XK} {x m:Str} {p pos apos kpos:Pos} {e o:Expr} {es:List Expr} {kws:List Keyword} {te ta:TE} {t tk:TA} {nm:Option Str}
structure KBinds (K:PySem.W.Frag) (fd:FuncData) (ps ks:List Str) (g:List Value->List Value->List Value) (gV:List V->List V->List V):Prop where
 to:∀ (s:Shared) (us ws:List Value),K.In s.heap->(g us ws).length=ps.length->BindsTo s fd ⟨us,ks.zip ws⟩ (ps.zip (g us ws))
 rel:∀ {vs:List V} {us:List Value} {zs:List V} {ws:List Value},Vals vs us->Vals zs ws->Vals (gV vs zs) (g us ws)
variable {g:List Value->List Value->List Value} {gV:List V->List V->List V}
end
structure FnScope (N P:List Str) (sc:Scope):Prop where
 kind:sc.kind=.function
 co:sc.isCoroutine=false
 gen:sc.isGenerator=false
 nd:N.Nodup
 pre:N.take P.length=P
 par:∀ x∈P,sc.names.lookup x=some .local\/sc.names.lookup x=some .cell
 nofree:∀ y∈sc.names,y.2≠.free
theorem bindL_out {kindOf:Str->Option NameKind} {x:Str}:∀ {binds:List (Str×Value)} {m:Str->Option Value},(∀ v,(x,v) ∉ binds)->bindL kindOf binds m x=m x
 | [],_,_=>rfl
 | (n,v)::r,m,h=>by
  unfold bindL
  rw [bindL_out fun w hw=>h w (List.mem_cons_of_mem _ hw)]
  split
  ·have:x≠n:=by rintro rfl;exact h v List.mem_cons_self
   simp [this]
  ·rfl
theorem bindC_out {kindOf:Str->Option NameKind} {x:Str}:∀ {binds:List (Str×Value)} {m:Str->Option Value},(∀ v,(x,v) ∉ binds)->bindC kindOf binds m x=m x
 | [],_,_=>rfl
 | (n,v)::r,m,h=>by
  unfold bindC
  rw [bindC_out fun w hw=>h w (List.mem_cons_of_mem _ hw)]
  split
  ·rfl
  ·have:x≠n:=by rintro rfl;exact h v List.mem_cons_self
   simp [this]
theorem bindL_get {kindOf:Str->Option NameKind} {x:Str} {v:Value}:∀ {P:List Str} {vs:List Value} {i:Nat} {m:Str->Option Value},P.Nodup->P[i]? = some x->vs[i]? = some v->kindOf x=some .local ->
  bindL kindOf (P.zip vs) m x=some v
 | [],_,_,_,_,h,_,_=>by simp at h
 | _::_,[],_,_,_,_,h,_=>by simp at h
 | p::P,w::vs,0,m,nd,h1,h2,hk=>by
  simp at h1 h2;subst h1;subst h2
  show bindL kindOf ((p,w)::P.zip vs) m p=_
  unfold bindL
  rw [bindL_out fun v hv=>(List.nodup_cons.mp nd).1 (List.of_mem_zip hv).1,if_pos hk]
  simp
 | p::P,w::vs,i + 1,m,nd,h1,h2,hk=>by
  show bindL kindOf ((p,w)::P.zip vs) m x=_
  unfold bindL
  exact bindL_get (i:=i) (List.nodup_cons.mp nd).2 (by simpa using h1) (by simpa using h2) hk
theorem bindC_get {kindOf:Str->Option NameKind} {x:Str} {v:Value}:∀ {P:List Str} {vs:List Value} {i:Nat} {m:Str->Option Value},P.Nodup->P[i]? = some x->vs[i]? = some v->kindOf x≠some .local ->
  bindC kindOf (P.zip vs) m x=some v
 | [],_,_,_,_,h,_,_=>by simp at h
 | _::_,[],_,_,_,_,h,_=>by simp at h
 | p::P,w::vs,0,m,nd,h1,h2,hk=>by
  simp at h1 h2;subst h1;subst h2
  show bindC kindOf ((p,w)::P.zip vs) m p=_
  unfold bindC
  rw [bindC_out fun v hv=>(List.nodup_cons.mp nd).1 (List.of_mem_zip hv).1,if_neg hk]
  simp
 | p::P,w::vs,i + 1,m,nd,h1,h2,hk=>by
  show bindC kindOf ((p,w)::P.zip vs) m x=_
  unfold bindC
  exact bindC_get (i:=i) (List.nodup_cons.mp nd).2 (by simpa using h1) (by simpa using h2) hk
def start (N:List Str) (vs:List V):St:=vs.map some++List.replicate (N.length - vs.length) none
def cxOf (CX:CXT) (P:Program) (w:World) (K:PySem.W.Frag) (mg:Str->Option Value) (base:Heap) (N:List Str) (qual:Str) (scope:Scope) (f:Addr) (cd:Value) (A:Around) (outer:List Env) (s:Shared) (H:Hp) (E:XK):Cx where
 prog:=P
 w:=w
 K:=K
 mg:=mg
 base:=base
 A:=A.deeper (envOfC qual scope s.heap.objs.size f cd)
 N:=N
 s₀:=s
 H₀:=H
 env:=envOfC qual scope s.heap.objs.size f cd
 outer:=outer
 stack:=envOfC qual scope s.heap.objs.size f cd::outer
 ex:=[]
 calm:=true
 fn:=fun _=>true
 pn:=[]
 xe:=fun e s'=>wpAny (model P w) (A.deeper (envOfC qual scope s.heap.objs.size f cd)) (leaving (envOfC qual scope s.heap.objs.size f cd) e) (fun _ s''=>CX outer H s E e s'') (fun e' s''=>CX outer H s E e' s'') s'
theorem cell_has {sc:Scope} {n:Nat} {x:Str} (h:sc.names.lookup x=some .cell):∃ c,(cellsFrom n sc.names []).lookup x=some c:=by
 have q:=PySem.W.cellsFrom_some sc.names n [] (.inl h)
 exact Option.isSome_iff_exists.mp q
theorem inv_start {CX:CXT} {P:Program} {w:World} {K:PySem.W.Frag} {mg:Str->Option Value} {base:Heap} {N ps:List Str} {qual:Str} {scope:Scope} {f:Addr} {cd:Value} {A:Around} {outer:List Env} {s s1:Shared} {H:Hp} {E:XK} {us:List Value} {vs:List V}
  (S:FnScope N ps scope) (hd:A.handled=none) (e0:Env0 P w K mg base A outer s H) (hl:vs.length=ps.length) (r:Vals vs us)
  (x:InCallC s s.heap.objs.size (bindL (envOfC qual scope s.heap.objs.size f cd).kindOf (ps.zip us) fun _=>none) (cellsFrom (s.heap.objs.size + 1) scope.names []) (bindC (envOfC qual scope s.heap.objs.size f cd).kindOf (ps.zip us) fun _=>none) s1) :
  Inv (cxOf CX P w K mg base N qual scope f cd A outer s H E) [] (start N vs) H s1:=by
 have hpl:ps.length<=N.length:=by have:=congrArg List.length S.pre;rw [List.length_take] at this;omega
 obtain ⟨h1,tk,rfl,hk⟩:=x.done
 have noA:∀ b:Addr,b ∉ (cxOf CX P w K mg base N qual scope f cd A outer s H E).ex:=fun b z=>absurd (show b∈([]:List Addr) from z) (by simp)
 refine ⟨⟨e0.mod,S.kind,rfl,rfl,Nat.le_refl _,fun y z c h1 h2=>?_,fun y hy=>?_,fun y c _ h=>?_,fun _=>hd,Around.frames_deeper e0.frames,.inr ⟨rfl,rfl⟩,fun b z=>absurd z (noA b),e0.bs,e0.bsz,fun b _ _=>noA b,fun b z=>absurd z (noA b),e0.funs,e0.frf⟩,
  rfl,e0.bare,Un.kept hk,⟨_,x.toInCall.ns,fun i y v h1 h2 h3=>?_⟩,fun y c h=>⟨_,x.cell y c h⟩,e0.hok.fresh (Nat.le_refl _),fun y c h=>?_,fun p hp=>absurd (show p∈([]:List (Addr×Obj)) from hp) (by simp),e0.hok.kept hk,?_⟩
 ·exact name_of_addr x.apart (PySem.mem_of_lookup h1) (PySem.mem_of_lookup h2)
 ·have hy:scope.names.lookup y=some .cell\/scope.names.lookup y=some .free:=hy
  rcases hy with hy | hy
  ·exact cell_has hy
  ·exact absurd rfl (S.nofree _ (PySem.mem_of_lookup hy))
 ·exact Nat.le_of_lt (x.above y c (PySem.mem_of_lookup h))
 ·have hi:i < vs.length:=by
   unfold start at h2
   by_cases hi:i < vs.length
   ·exact hi
   ·rw [List.getElem?_append_right (by simpa using hi)] at h2
    rw [List.getElem?_replicate] at h2
    split at h2 <;> cases h2
  have ha:vs[i]? = some v:=by
   unfold start at h2
   rw [List.getElem?_append_left (by simpa using hi),List.getElem?_map] at h2
   cases e:vs[i]? with
   | none=>rw [e] at h2;cases h2
   | some a=>rw [e] at h2;cases h2;rfl
  obtain ⟨u,hu,rv⟩:=r.get ha
  have hp:ps[i]? = some y:=by
   rw [← S.pre,List.getElem?_take_of_lt (by omega)];exact h1
  have ndP:ps.Nodup:=by rw [← S.pre];exact S.nd.sublist (List.take_sublist _ _)
  refine ⟨u,rv,?_⟩
  rcases S.par y (List.mem_of_getElem? hp) with k | k
  ·exact .inl ⟨k,bindL_get ndP hp hu k⟩
  ·obtain ⟨c,e⟩:=cell_has (n:=s.heap.objs.size + 1) k
   refine .inr ⟨.inl k,c,e,?_⟩
   have q:=x.cell y c e
   rw [bindC_get ndP hp hu (by show scope.names.lookup y≠_;rw [k];decide)] at q
   exact q
 ·exact e0.hok.fresh (Nat.le_of_lt (x.above y c (PySem.mem_of_lookup h)))
 ·unfold start
  show _=N.length
  rw [List.length_append,List.length_map,List.length_replicate]
  omega
theorem fn_of {CX:CXT} {P:Program} {w:World} {K:PySem.W.Frag} {mg:Str->Option Value} {base:Heap} {k:Nat} {f:Addr} {name qual:Str} {params:Arguments} {body:List Stmt} {scope:Scope} {dV kV doc pm cdv ct oc:Value} {an od:Option Addr}
  {osl:Array (Option Value)} {N ps:List Str} {sp:Sp} (lk:K.lookup f=some ⟨oc,od,.func (PySem.W.fnOf name qual params body scope dV kV doc pm an cdv ct),osl⟩) (hcd:PySem.W.codeIn K cdv qual=true) (S:FnScope N ps scope)
  (len:∀ vs H Q E,sp vs H Q E->vs.length=ps.length)
  (hbody:∀ (A:Around) (outer:List Env) (s:Shared) (H:Hp) (vs:List V) (Q:VK) (E:XK),Room k (A.deeper (envOfC qual scope s.heap.objs.size f cdv))->sp vs H Q E ->
   ∃ t,PSs (cxOf CX P w K mg base N qual scope f cdv A outer s H E) body t/\t { nx:=fun _ H'=>Q .non H',rt:=Q } (start N vs) H) :
  FnOk P w K mg base CX (k + 1) f (PySem.W.fnOf name qual params body scope dV kV doc pm an cdv ct) ps sp:=by
 refine ⟨len,fun A outer s H args us vs Q E hr e0 hb r hsp=>?_⟩
 have hl:=len _ _ _ _ hsp
 have KX:K.In s.heap:=e0.mod.kin.keeps fun b o e=>(e0.bs b o e).1
 have lim:s.heap.NoLimit:=e0.mod.nolimit.keeps fun b o e=>(e0.bs b o e).1
 have hkind:∀ y∈ps.zip us,scope.names.lookup y.1=some .local\/(scope.names.lookup y.1=some .cell/\((cellsFrom (s.heap.objs.size + 1) scope.names []).lookup y.1).isSome=true):=fun ⟨n,v⟩ hy=>by
  rcases S.par n (List.of_mem_zip hy).1 with q | q
  ·exact .inl q
  ·exact .inr ⟨q,PySem.W.cellsFrom_some _ _ _ (.inl q)⟩
 refine codeAny_call_function hr.depth (KX _ _ lk) rfl S.co S.gen rfl (PySem.W.codeRec_of KX hcd) (hb _ _ _ _ ?_)
 refine wpAny_newFunctionEnv_cells S.kind hkind fun env he s1 x=>?_
 subst he
 refine ⟨lim.keeps x.toInCall.keep,codeAny_func ?_⟩
 obtain ⟨t,ht,hq⟩:=hbody A outer s H vs Q E (hr.deeper _) hsp
 have I:Inv (cxOf CX P w K mg base N qual scope f cdv A outer s H E) [] (start N vs) H s1:=inv_start S hr.hd e0 hl r x
 refine wpAny_mono (ht [] s1 (start N vs) H _ I hq) (fun fl s' hs=>?_) fun e s' hs=>hs
 have fin:∀ {σ':St} {H':Hp} {v:V} {u:Value},Inv (cxOf CX P w K mg base N qual scope f cdv A outer s H E) [] σ' H' s'->RelV v u->Q v H'->CE outer P w H s Q u s' :=
  fun {σ' H' v u} J rv q=>⟨v,H',J.os,J.bare,J.base,J.hok,rv,q⟩
 cases fl with
 | ret u =>
  obtain ⟨v,σ',H',J,rv,q⟩:=hs
  exact fin J rv q
 | next =>
  obtain ⟨σ',H',J,q⟩:=hs
  exact fin (v:=V.non) (u:=Value.none) J rfl q
 | brk =>
  obtain ⟨_,_,_,q⟩:=hs
  exact False.elim q
 | cont =>
  obtain ⟨_,_,_,q⟩:=hs
  exact False.elim q
end L2
namespace L2
open PySem PySem.Spec PyProof.Rows
section
variable {X:Cx} {x:Str} {p pos:Pos} {e:Expr} {es:List Expr} {t:TA} {id T:String} {r:List V->Hp->VK->Prop}
def tCB (r:List V->Hp->VK->Prop) (t:TA):TE:=fun σ H Q=>t σ H fun vs H1=>r vs H1 Q
theorem pe_callB (hc:CallR X (.builtin id) r) (hg:Gl X x) (hm:X.mg x=none) (hv:bootBuiltins x=some (.builtin id)) (ha:PA X (e::es) t) (hn:x≠"__name__":=by decide) (hdb:(x == ("__debug__":Str))=false:=by decide)
  (he:starEach (e::es) X.env=(false,eval e X.env)::starEach es X.env:=by rfl) (hpl:(backTo pos (starEach es X.env)).any (·.1)=false:=by rfl):PE X (.Call (.Name x p) (e::es) [] pos) (tCB r t):=by
 intro pins s σ H Q I h
 refine wpAny_Call_Name_kw (ld_blt I hg hm hv ?_ hn hdb)
 exact PyProof.Rows.callWith_builtin1 (thn (ha pos pins s σ H _ I h) fun us s1 ⟨vs,H1,I1,r1,q1⟩=>hc pins s1 σ H1 vs us Q I1 r1 q1) he hpl
theorem pe_callTy (hc:CallR X (.type T) r) (hg:Gl X x) (hm:X.mg x=none) (hv:bootBuiltins x=some (.type T)) (ha:PA X (e::es) t) (hn:x≠"__name__":=by decide) (hdb:(x == ("__debug__":Str))=false:=by decide)
  (he:starEach (e::es) X.env=(false,eval e X.env)::starEach es X.env:=by rfl) (hpl:(backTo pos (starEach es X.env)).any (·.1)=false:=by rfl):PE X (.Call (.Name x p) (e::es) [] pos) (tCB r t):=by
 intro pins s σ H Q I h
 refine wpAny_Call_Name_kw (ld_blt I hg hm hv ?_ hn hdb)
 exact PyProof.Rows.callWith_type1 (thn (ha pos pins s σ H _ I h) fun us s1 ⟨vs,H1,I1,r1,q1⟩=>hc pins s1 σ H1 vs us Q I1 r1 q1) he hpl
end
end L2
namespace HT
open PySem PyProof.Rows
def lexLt:List Int->List Int->Bool
 | [],[]=>false
 | [],_::_=>true
 | _::_,[]=>false
 | x::xs,y::ys=>if x=y then lexLt xs ys else decide (x < y)
theorem lexLt_cons (x y:Int) (xs ys:List Int):lexLt (x::xs) (y::ys)=if x=y then lexLt xs ys else decide (x < y):=rfl
theorem lexLt_nil_nil:lexLt [] []=false:=rfl
theorem lexLt_nil_cons (y:Int) (ys:List Int):lexLt [] (y::ys)=true:=rfl
theorem lexLt_cons_nil (x:Int) (xs:List Int):lexLt (x::xs) []=false:=rfl
theorem eqAt_int (A:Around) (s:Shared) (a:Int) (t:Tok) (c:Int) (u:Tok):∃ e,SeqAt.EqAt A s (.int a t) (.int c u) e/\(e=true ↔ a=c) :=
 ⟨(a == c),SeqAt.EqAt.int_int a t c u,by simp⟩
theorem rcLt_int (A:Around) (s:Shared) (a:Int) (t:Tok) (c:Int) (u:Tok) (prog:Program) (w:World) (E:Value->Shared->Prop) (Q:Value->Shared->Prop) (h:Q (.bool (decide (a < c))) s) :
  wpAny (model prog w) A (richCompare .Lt (.int a t) (.int c u)) Q E s :=
 (PyProof.Rows.lt_int h:wpAny (model prog w) A (compareOp .Lt (.int a t) (.int c u)) Q E s)
section
open PySem.SeqAt
open PySem.AutoSeq1 (wpAny_loadPart')
open PySem.MeetsSeq PySem.MeetsSeq2 PySem.MeetsSeq3
theorem tuple_lt_ints (l b:Addr) (items items2:Array Value) (n n2:Nat) (dd dd2:Option Addr) (sl sl2:Array (Option Value)) (ns ms:List Int) (hi:IntsAre items.toList ns) (hj:IntsAre items2.toList ms) :
  Meets (Builtin.«tuple.__lt__» ⟨[.ref l,.ref b],[]⟩)
   (fun _ R s=>s.heap.get? l=some { cls:=.type "tuple",dict:=dd,data:=.seq items n,slots:=sl }/\s.heap.get? b=some { cls:=.type "tuple",dict:=dd2,data:=.seq items2 n2,slots:=sl2 } /\
    R (.ok (.ret (.bool (lexLt ns ms)))) s) :=
 .of_wp fun prog w A R s h=>by
  obtain ⟨hp,g,d,tk,os⟩:=s;obtain ⟨hl,hb,h⟩:=h
  have f2:=AutoSeq1.sub_tuple_tuple
  have z1:items.size=ns.length:=by rw [← hi.length];simp
  have z2:items2.size=ms.length:=by rw [← hj.length];simp
  wp_walk using wpAny_loadPart' hl,wpAny_loadPart' hb,wpAny_forIn_list _ (fun rest b s'=>b.1=none/\s'=⟨hp,g,d,tk,os⟩/\∃ (vs ws:List Value) (ns' ms':List Int),rest=vs.zip ws /\
   IntsAre vs ns'/\IntsAre ws ms'/\ns'.length + items2.size=ms'.length + items.size/\R (.ok (.ret (.bool (lexLt ns' ms')))) ⟨hp,g,d,tk,os⟩) _
  case turn =>
   rintro ⟨y,x⟩ rest b s' ⟨hb',rfl,vs,ws,ns',ms',hz,hvi,hwi,hlen,hR⟩
   cases hvi with
   | nil=>rw [List.zip_nil_left] at hz;cases hz
   | cons a t hvi' =>
    cases hwi with
    | nil=>rw [List.zip_nil_right] at hz;cases hz
    | cons c u hwi' =>
     rw [List.zip_cons_cons] at hz
     injection hz with hyx hrest
     injection hyx with hy hx
     subst hy hx
     rw [lexLt_cons] at hR
     simp only [List.length_cons] at hlen
     obtain ⟨e,he,hiff⟩:=eqAt_int A.in1 ⟨hp,g,d,tk,os⟩ a t c u
     refine wpAny_bind (he prog w _ _ ?_)
     cases e with
     | true =>
      rw [if_pos (hiff.mp rfl)] at hR
      wp_walk
      exact ⟨rfl,rfl,_,_,_,_,hrest,hvi',hwi',by omega,hR⟩
     | false =>
      rw [if_neg (fun q=>absurd (hiff.mpr q) Bool.false_ne_true)] at hR
      have hri:=rcLt_int A.in1 ⟨hp,g,d,tk,os⟩ a t c u prog w
      wp_walk using hri
      exact ⟨_,rfl,by simpa using hR⟩
  case fin =>
   rintro ⟨b1,b2⟩ s' ⟨hb',rfl,vs,ws,ns',ms',hz,hvi,hwi,hlen,hR⟩
   simp only at hb'
   subst hb'
   have hv:lexLt ns' ms'=decide (items.size < items2.size):=by
    cases hvi with
    | nil =>
     cases hwi with
     | nil =>
      simp only [List.length_nil] at hlen
      rw [lexLt_nil_nil]
      exact (decide_eq_false (by omega)).symm
     | cons c u hw =>
      simp only [List.length_nil,List.length_cons] at hlen
      rw [lexLt_nil_cons]
      exact (decide_eq_true (by omega)).symm
    | cons a t hv =>
     cases hwi with
     | nil =>
      simp only [List.length_nil,List.length_cons] at hlen
      rw [lexLt_cons_nil]
      exact (decide_eq_false (by omega)).symm
     | cons c u hw =>
      rw [List.zip_cons_cons] at hz
      cases hz
   rw [hv] at hR
   wp_walk
   exact ⟨_,rfl,by simpa [Builtin.Tuple.tupleCompareSizes] using hR⟩
  case h =>
   exact ⟨rfl,rfl,items.toList,items2.toList,ns,ms,rfl,hi,hj,by omega,h⟩
end
section
variable {prog:Program} {w:World} {A:Around} {E:Value->Shared->Prop} {s:Shared}
theorem lt_tupInts {l b:Addr} {items items2:Array Value} {ns ms:List Int} {Q:Value->Shared->Prop} (hl:IsTup s.heap l items) (hb:IsTup s.heap b items2) (hi:IntsAre items.toList ns) (hj:IntsAre items2.toList ms)
  (hu:A.units < cLine) (h:Q (.bool (lexLt ns ms)) s):wpAny (model prog w) A (compareOp .Lt (.ref l) (.ref b)) Q E s:=by
 obtain ⟨⟨cls,dd,data,sl⟩,ho,hc,n,hd⟩:=id hl
 obtain ⟨⟨cls2,dd2,data2,sl2⟩,ho2,hc2,n2,hd2⟩:=id hb
 simp only at hc hd hc2 hd2
 subst hc hd hc2 hd2
 exact richCompare_meets_room (op:=.Lt) ⟨_,ho,rfl⟩ ⟨_,ho2,rfl⟩ PySem.F.slot_tuple_lt PySem.F.entry_tuple_lt (PySem.F.args_tuple_lt_2 _ _) (tuple_lt_ints l b items items2 n n2 dd dd2 sl sl2 ns ms hi hj)
  ⟨ho,ho2,show Value.bool (lexLt ns ms)≠Value.notImplemented/\Q (.bool (lexLt ns ms)) s from ⟨(fun x=>nomatch x),h⟩⟩ hu
theorem cat_tup {t b:Addr} {vs ws:List Value} {Q:Value->Shared->Prop} (ht:IsTup s.heap t vs.toArray) (hb:IsTup s.heap b ws.toArray) (hv:vs≠[])
  (h1:ws=[]->Q (.ref t) s) (h2:ws≠[]->Q (.ref s.heap.objs.size) { s with heap:=s.heap.push { cls:=.type "tuple",data:=.seq (vs++ws).toArray } })
  (hsz:vs.length + ws.length<=sizeLine):wpAny (model prog w) A (binaryOp .Add (.ref t) (.ref b)) Q E s:=by
 obtain ⟨⟨cls,dd,data,sl⟩,ho,hc,n,hd⟩:=id ht
 obtain ⟨⟨cls2,dd2,data2,sl2⟩,ho2,hc2,n2,hd2⟩:=id hb
 simp only at hc hd hc2 hd2
 subst hc hd hc2 hd2
 have e:vs.toArray++ws.toArray=(vs++ws).toArray:=by simp
 by_cases hw:ws=[]
 ·exact concat_meets ⟨_,ho,rfl⟩ ⟨_,ho2,rfl⟩ noFill_tuple_add seq_tuple_add PySem.F.slot_tuple_add PySem.F.entry_tuple_add (PySem.F.args_tuple_add_2 _ _)
   (tuple_addW1 t b vs.toArray ws.toArray n n2 dd dd2 sl sl2 (by simpa using hv) (by simp [hw])) ⟨ho,ho2,h1 hw⟩
 ·refine concat_meets ⟨_,ho,rfl⟩ ⟨_,ho2,rfl⟩ noFill_tuple_add seq_tuple_add PySem.F.slot_tuple_add PySem.F.entry_tuple_add (PySem.F.args_tuple_add_2 _ _)
   (tuple_addW2 t b vs.toArray ws.toArray n n2 dd dd2 sl sl2 (by simpa using hv) (by simpa using hw) (by rw [List.size_toArray,List.size_toArray];exact hsz)) ⟨ho,ho2,?_⟩
  rw [e]
  exact h2 hw
def sIx (n d:Nat):Option Int->Nat
 | none=>d
 | some v=>if v < 0 then (v + (n:Int)).toNat else min v.toNat n
theorem sIx_none (n d:Nat):sIx n d none=d:=rfl
theorem sIx_nat (n d k:Nat):sIx n d (some (k:Int))=min k n:=by
 show (if (k:Int) < 0 then ((k:Int) + (n:Int)).toNat else min (k:Int).toNat n)=min k n
 rw [if_neg (by omega),Int.toNat_natCast]
end
end HT
namespace L2
open PySem PySem.Spec PyProof.Rows
abbrev TO:=St->Hp->(Option Int->Hp->Prop)->Prop
def PO (X:Cx) (e:Option Expr) (t:TO):Prop :=
 ∀ (pins:List (Addr×Obj)) (s:Shared) (σ:St) (H:Hp) (Q:Option Int->Hp->Prop),Inv X pins σ H s->t σ H Q ->
  wpAny (model X.prog X.w) X.A (evalPart e X.env) (fun u s'=>∃ o H',Inv X pins σ H' s'/\IsPart u o/\Q o H') X.xe s
def tNoPart:TO:=fun _ H Q=>Q none H
def tPart (t:TE):TO:=fun σ H Q=>t σ H fun x H1=>∃ i,x=.int i/\Q (some i) H1
section
variable {X:Cx} {e:Expr} {te:TE} {lo hi:Option Expr} {tl th:TO} {pos p2:Pos}
theorem po_none:PO X none tNoPart:=by
 intro pins s σ H Q I h
 rw [evalPart_none]
 exact wpAny_pure ⟨none,H,I,.none,h⟩
theorem po_some (h:PE X e te):PO X (some e) (tPart te):=by
 intro pins s σ H Q I hw
 rw [evalPart_some]
 refine thn (h pins s σ H _ I hw) fun u s1 ⟨x,H1,I1,r1,q1⟩=>?_
 obtain ⟨i,rfl,q⟩:=q1
 obtain ⟨t,rfl⟩:=r1
 exact ⟨some i,H1,I1,.int i t,q⟩
def SlR (X:Cx) (r:V->Option Int->Option Int->Hp->VK->Prop):Prop :=
 ∀ (pins:List (Addr×Obj)) (s:Shared) (σ:St) (H:Hp) (x:V) (v vl vu:Value) (lo hi:Option Int) (sl:Addr) (Q:VK),Inv X pins σ H s->RelV x v->s.heap.IsSliceOf sl vl vu .none->IsPart vl lo->IsPart vu hi->r x lo hi H Q ->
  ∃ T id,typeLookup (.type T) "__getitem__" = pure (some (.builtin id))/\s.TypeIs v T/\wpAny (model X.prog X.w) X.A (getItem v (.ref sl)) (EP X pins σ Q) X.xe s
def tSl (r:V->Option Int->Option Int->Hp->VK->Prop) (te:TE) (tl th:TO):TE:=fun σ H Q=>te σ H fun x H1=>tl σ H1 fun l H2=>th σ H2 fun u H3=>r x l u H3 Q
theorem pe_slice {r:V->Option Int->Option Int->Hp->VK->Prop} (hr:SlR X r) (he:PE X e te) (hl:PO X lo tl) (hu:PO X hi th):PE X (.Subscript e (.Slice lo hi none p2) pos) (tSl r te tl th):=by
 intro pins s σ H Q I h
 refine Subscript_ (thn (he pins s σ H _ I h) fun v s1 ⟨x,H1,I1,r1,q1⟩=>?_)
 refine wpAny_Slice (thn (hl pins s1 σ H1 _ I1 q1) fun vl s2 ⟨l,H2,I2,pl,q2⟩=>thn (hu pins s2 σ H2 _ I2 q2) fun vu s3 ⟨u,H3,I3,pu,q3⟩=>?_)
 rw [evalPart_none]
 refine wpAny_pure ?_
 have I4:Inv X pins σ H3 { s3 with heap:=s3.heap.push { cls:=.type "slice",data:=.fields #[vl,vu,.none] } }:=I3.kept (t':=s3.toks) fun b ob q=>Heap.get?_push_of_some _ q
 obtain ⟨T,id,hT,ht,hg⟩:=hr pins { s3 with heap:=s3.heap.push { cls:=.type "slice",data:=.fields #[vl,vu,.none] } } σ H3 x v vl vu l u s3.heap.objs.size Q I4 r1 (Heap.IsSliceOf.new ..) pl pu q3
 show wpAny (model X.prog X.w) X.A (subscriptTail e (.Slice lo hi none p2) v (.ref s3.heap.objs.size)) (EP X pins σ Q) X.xe { s3 with heap:=s3.heap.push { cls:=.type "slice",data:=.fields #[vl,vu,.none] } }
 exact tail_any (ops:=[.ref s3.heap.objs.size,v]) ht hT hg (by with_unfolding_all rfl)
def cutV (xs:List V) (lo hi:Option Int):List V:=(xs.drop (HT.sIx xs.length 0 lo)).take (HT.sIx xs.length xs.length hi - HT.sIx xs.length 0 lo)
theorem cutV_length (xs:List V) (lo hi:Option Int):(cutV xs lo hi).length<=xs.length:=by
 unfold cutV
 rw [List.length_take,List.length_drop]
 omega
def rCatT (K:PySem.W.Frag):R2:=fun x y H Q=>∃ a b xs ys,x=.ref a/\y=.ref b/\SqT K H a xs/\SqT K H b ys/\xs≠[]/\xs.length + ys.length<=sizeLine /\
 (ys=[]->Q (.ref a) H)/\(ys≠[]->∀ p,H p=none->Q (.ref p) (upd H p (.tup (xs++ys))))
theorem Vals.nil_iff {xs:List V} {us:List Value} (r:Vals xs us):us=[] ↔ xs=[]:=by
 cases r with
 | nil=>simp
 | cons _ _=>simp
theorem op_catT:OpR X (binaryOp .Add) (rCatT X.K):=by
 intro pins s σ H x y v u Q I rx ry h
 obtain ⟨a,b,xs,ys,rfl,rfl,ha,hb,hx,hz,q1,q2⟩:=h
 cases rx
 cases ry
 obtain ⟨its,r1,p1,_⟩:=I.tuple ha
 obtain ⟨its2,r2,p2,_⟩:=I.tuple hb
 refine HT.cat_tup p1 p2 (fun z=>hx (r1.nil_iff.mp z)) (fun z=>⟨.ref a,H,I,rfl,q1 (r2.nil_iff.mp z)⟩) (fun z=>?_) (by rw [← r1.length,← r2.length];exact hz)
 refine ⟨.ref s.heap.objs.size,_,I.laid (t':=s.toks) (o:=.tup (xs++ys)) (fun b ob q=>Heap.get?_push_of_some _ q) (Nat.le_refl _) ?_,rfl,q2 (fun w=>z (r2.nil_iff.mpr w)) _ (I.hok.fresh (Nat.le_refl _))⟩
 exact ⟨by rw [List.length_append];exact hz,_,r1.append r2,IsTup.new _ _⟩
end
end L2
namespace L2
open PySem PySem.Spec PyProof.Rows
def ixN (n:Nat) (i:Int):Option Nat:=if 0<=i then (if i < n then some i.toNat else none) else if -(n:Int)<=i then some (i + n).toNat else none
def atI {α:Type} (xs:List α) (i:Int):Option α:=(ixN xs.length i).bind fun j=>xs[j]?
theorem ixN_seq {n:Nat} {i:Int} {j:Nat} (h:ixN n i=some j):seqIndex? i n=some j/\j < n/\-(n:Int)<=i/\i < n:=by
 unfold ixN at h
 by_cases h0:0<=i
 ·rw [if_pos h0] at h
  by_cases h1:i < n
  ·rw [if_pos h1] at h
   have e:i.toNat=j:=Option.some.inj h
   exact ⟨by rw [seqIndex_of h0 h1,e],by omega,by omega,h1⟩
  ·rw [if_neg h1] at h;cases h
 ·rw [if_neg h0] at h
  by_cases h1:-(n:Int)<=i
  ·rw [if_pos h1] at h
   have e:(i + n).toNat=j:=Option.some.inj h
   exact ⟨by rw [seqIndex_neg (by omega) h1,e],by omega,h1,by omega⟩
  ·rw [if_neg h1] at h;cases h
theorem atI_get {α:Type} {xs:List α} {i:Int} {v:α} (h:atI xs i=some v):∃ j,seqIndex? i xs.length=some j/\xs[j]? = some v/\j < xs.length/\-(xs.length:Int)<=i/\i < xs.length:=by
 unfold atI at h
 cases e:ixN xs.length i with
 | none=>rw [e] at h;cases h
 | some j =>
  rw [e] at h
  obtain ⟨h1,h2,h3,h4⟩:=ixN_seq e
  exact ⟨j,h1,h,h2,h3,h4⟩
def PlainIx (b:Expr):Prop:=∀ o i,subscripted b false o i=operate [o,i] (getItem o i)
def IxR (X:Cx) (r:R2):Prop :=
 ∀ (value slice:Expr) (pins:List (Addr×Obj)) (s:Shared) (σ:St) (H:Hp) (x y:V) (v u:Value) (Q:VK),Inv X pins σ H s->RelV x v->RelV y u->r x y H Q ->
  subscripted slice false v u=operate [v,u] (getItem v u)->wpAny (model X.prog X.w) X.A (subscriptTail value slice v u) (EP X pins σ Q) X.xe s
def MtR (X:Cx) (id:String) (r:V->List V->Hp->VK->Prop):Prop :=
 ∀ (pins:List (Addr×Obj)) (s:Shared) (σ:St) (H:Hp) (x:V) (xs:List V) (v:Value) (us:List Value) (Q:VK),Inv X pins σ H s->RelV x v->Vals xs us->r x xs H Q ->
  wpAny (model X.prog X.w) X.A (call (.builtin id) (v::us)) (EP X pins σ Q) X.xe s
section
variable {X:Cx} {a b:Expr} {ta tb:TE} {pos:Pos}
theorem IxR.or {r r':R2} (h:IxR X r) (h':IxR X r'):IxR X (fun x y H Q=>r x y H Q\/r' x y H Q):=by
 intro value slice pins s σ H x y v u Q I rx ry q hs
 rcases q with q | q
 ·exact h value slice pins s σ H x y v u Q I rx ry q hs
 ·exact h' value slice pins s σ H x y v u Q I rx ry q hs
theorem pe_ix {r:R2} (hr:IxR X r) (ha:PE X a ta) (hb:PE X b tb) (hs:PlainIx b):PE X (.Subscript a b pos) (tOp r ta tb):=by
 intro pins s σ H Q I h
 exact Subscript_ (binT ha hb I h fun v u s2 x y H2 I2 rx ry q=>hr a b pins s2 σ H2 x y v u Q I2 rx ry q (hs _ _))
def rIxL (K:PySem.W.Frag):R2:=fun x y H Q=>∃ p xs i v,x=.ref p/\y=.int i/\SqL K H p xs/\atI xs i=some v/\Q v H
def rIxT (K:PySem.W.Frag):R2:=fun x y H Q=>∃ p xs i v,x=.ref p/\y=.int i/\SqT K H p xs/\atI xs i=some v/\Q v H
def rIxS:R2:=fun x y H Q=>∃ z i c,x=.str z/\y=.int i/\z.length<=sizeLine/\atI z.cps.toList i=some c/\Q (.str ⟨#[c]⟩) H
theorem ix_list:IxR X (rIxL X.K):=by
 intro value slice pins s σ H x y v u Q I rx ry h hs
 obtain ⟨p,xs,i,z,rfl,rfl,hq,he,q⟩:=h
 cases rx
 obtain ⟨t,rfl⟩:=ry
 obtain ⟨its,r,pl,hz⟩:=I.list hq
 obtain ⟨j,h1,h2,h3,h4,h5⟩:=atI_get he
 obtain ⟨w,ew,rw'⟩:=r.get h2
 have hl:=r.length
 have hn:=line63
 have fin:EP X pins σ Q w s:=⟨z,H,I,rw',q⟩
 by_cases h0:0<=i
 ·have hj:i.toNat=j:=by
   rw [seqIndex_of h0 h5] at h1
   exact Option.some.inj h1
  exact item_listR pl.isList h0 (by omega) (by rw [hj];simpa using ew) fin hs
 ·have hj:(i + (its.toArray.size:Int)).toNat=j:=by
   rw [seqIndex_neg (by omega) h4] at h1
   rw [List.size_toArray,← hl]
   exact Option.some.inj h1
  exact subscriptTail_builtinR (x:=w) pl.isList.typeIs slot_list_getitem.lookup
   (wpAny_getItem_list_neg (Q:=fun r s'=>r=w/\EP X pins σ Q r s') pl.isList (by omega) (by rw [List.size_toArray] <;> omega) (by omega) (by rw [hj];simpa using ew) ⟨rfl,fin⟩) hs
theorem ix_tup:IxR X (rIxT X.K):=by
 intro value slice pins s σ H x y v u Q I rx ry h hs
 obtain ⟨p,xs,i,z,rfl,rfl,hq,he,q⟩:=h
 cases rx
 obtain ⟨t,rfl⟩:=ry
 obtain ⟨its,r,pl,hz⟩:=I.tuple hq
 obtain ⟨j,h1,h2,h3,h4,h5⟩:=atI_get he
 obtain ⟨w,ew,rw'⟩:=r.get h2
 have hl:=r.length
 have hn:=line63
 have fin:EP X pins σ Q w s:=⟨z,H,I,rw',q⟩
 exact subscriptTail_builtinR (x:=w) pl.typeIs slot_tuple_getitem.lookup
  (getItem_tuple (j:=j) (Q:=fun r s'=>r=w/\EP X pins σ Q r s') pl (by omega) (by omega) (by rw [List.size_toArray,← hl];exact h1) (by simpa using ew) ⟨rfl,fin⟩) hs
theorem ix_str:IxR X rIxS:=by
 intro value slice pins s σ H x y v u Q I rx ry h hs
 obtain ⟨z,i,c,rfl,rfl,hz,he,q⟩:=h
 obtain ⟨t,rfl⟩:=rx
 obtain ⟨t',rfl⟩:=ry
 obtain ⟨j,h1,h2,h3,h4,h5⟩:=atI_get he
 have hl:z.cps.toList.length=z.length:=by simp [Str.length]
 rw [hl] at h1 h4 h5
 have hn:=line63
 exact tail_any (typeIs_str s z t) slot_str_getitem.lookup (getItem_str (c:=c) (by
  have e1:decide (i < -(2 ^ 63:Int))=false:=decide_eq_false (by omega)
  have e2:decide (i ≥ 2 ^ 63)=false:=decide_eq_false (by omega)
  rw [e1,e2,Bool.or_false]) (by rw [h1];simpa using h2) ⟨.str ⟨#[c]⟩,H,I.tok _,⟨_,rfl⟩,q⟩) hs
def rIx (K:PySem.W.Frag):R2:=fun x y H Q=>rIxL K x y H Q\/rIxT K x y H Q\/rIxS x y H Q
theorem ix_seq:IxR X (rIx X.K):=ix_list.or (ix_tup.or ix_str)
theorem Inv.lst {pins:List (Addr×Obj)} {σ:St} {H:Hp} {s:Shared} {p:Addr} {xs:List V} (I:Inv X pins σ H s) (h:H p=some (.lst xs)) :
  ∃ (its:List Value) (n:Nat),Vals xs its/\s.heap.get? p=some { cls:=.type "list",data:=.seq its.toArray n }/\xs.length<=sizeLine:=by
 obtain ⟨z,its,n,r,e⟩:=I.hok p _ h
 exact ⟨its,n,r,e,z⟩
theorem slice_bounds (lo hi:Option Int) (n:Nat):(sliceBounds lo hi none n).1=((HT.sIx n 0 lo:Nat):Int)/\(sliceBounds lo hi none n).2.1=((HT.sIx n n hi:Nat):Int)/\(sliceBounds lo hi none n).2.2=1:=by
 refine ⟨?_,?_,rfl⟩
 ·cases lo with
  | none=>simp [sliceBounds,HT.sIx]
  | some i =>
   simp only [sliceBounds,HT.sIx,Option.getD_none,show (1:Int) > 0 by decide,if_true]
   by_cases h:i < 0
   ·simp only [h,if_true] <;> omega
   ·simp only [h,if_false] <;> omega
 ·cases hi with
  | none=>simp [sliceBounds,HT.sIx]
  | some i =>
   simp only [sliceBounds,HT.sIx,Option.getD_none,show (1:Int) > 0 by decide,if_true]
   by_cases h:i < 0
   ·simp only [h,if_true] <;> omega
   ·simp only [h,if_false] <;> omega
theorem slicePick_cut (its:List Value) (lo hi:Option Int):slicePick its.toArray lo hi none=((its.drop (HT.sIx its.length 0 lo)).take (HT.sIx its.length its.length hi - HT.sIx its.length 0 lo)).toArray:=by
 obtain ⟨h1,h2,h3⟩:=slice_bounds lo hi its.toArray.size
 unfold slicePick
 rw [h1,h2,h3]
 simp only [sliceRange_one,pick_run,List.size_toArray] <;> rfl
def rSlL (K:PySem.W.Frag):V->Option Int->Option Int->Hp->VK->Prop:=fun x lo hi H Q=>∃ a xs,x=.ref a/\SqL K H a xs/\∀ p,H p=none->Q (.ref p) (upd H p (.lst (cutV xs lo hi)))
theorem sl_list:SlR X (rSlL X.K):=by
 intro pins s σ H x v vl vu lo hi sl Q I rx hs pl pu h
 obtain ⟨a,xs,rfl,hx,q⟩:=h
 cases rx
 obtain ⟨its,r,ht,hz⟩:=I.list hx
 have hlen:=r.length
 refine ⟨"list",_,slot_list_getitem.lookup,ht.isList.typeIs,?_⟩
 refine wpAny_getItem_list_slice ht.isList hs pl pu .none (by simp) ?_ (by rw [List.size_toArray] <;> omega)
 rw [slicePick_cut,← hlen]
 refine ⟨.ref s.heap.objs.size,_,I.laid (t':=s.toks) (o:=.lst (cutV xs lo hi)) (fun b ob q=>Heap.get?_push_of_some _ q) (Nat.le_refl _) ?_,rfl,q _ (I.hok.fresh (Nat.le_refl _))⟩
 exact ⟨Nat.le_trans (cutV_length xs lo hi) hz,_,0,(r.drop (HT.sIx xs.length 0 lo)).take (HT.sIx xs.length xs.length hi - HT.sIx xs.length 0 lo),Heap.get?_push_size _ rfl⟩
def flatV:V->Bool
 | .non=>true
 | .bl _=>true
 | .int _=>true
 | .str _=>true
 | _=>false
def eqV:V->V->Bool
 | .non,.non=>true
 | .bl a,.bl b=>a == b
 | .bl a,.int b=>(if a then 1 else 0) == b
 | .int a,.bl b=>a == (if b then 1 else 0)
 | .int a,.int b=>a == b
 | .str a,.str b=>a == b
 | _,_=>false
theorem eqAt_V {A:Around} {s:Shared} {y x:V} {u v:Value} (ry:RelV y u) (rx:RelV x v) (fy:flatV y=true) (fx:flatV x=true):SeqAt.EqAt A s u v (eqV y x):=by
 cases y with
 | non =>
  cases ry
  cases x with
  | non=>cases rx;exact SeqAt.EqAt.same _
  | bl b=>cases rx;exact SeqAt.EqAt.none_bool b
  | int b=>obtain ⟨t,rfl⟩:=rx;exact SeqAt.EqAt.none_int b t
  | str b=>obtain ⟨t,rfl⟩:=rx;exact SeqAt.EqAt.none_str b t
  | _=>exact absurd (show false=true from fx) Bool.false_ne_true
 | bl a =>
  cases ry
  cases x with
  | non=>cases rx;exact SeqAt.EqAt.bool_none a
  | bl b=>cases rx;exact SeqAt.EqAt.bool_bool a b
  | int b=>obtain ⟨t,rfl⟩:=rx;exact SeqAt.EqAt.bool_int a b t
  | str b=>obtain ⟨t,rfl⟩:=rx;exact SeqAt.EqAt.bool_str a b t
  | _=>exact absurd (show false=true from fx) Bool.false_ne_true
 | int a =>
  obtain ⟨t',rfl⟩:=ry
  cases x with
  | non=>cases rx;exact SeqAt.EqAt.int_none a t'
  | bl b=>cases rx;exact SeqAt.EqAt.int_bool a t' b
  | int b=>obtain ⟨t,rfl⟩:=rx;exact SeqAt.EqAt.int_int a t' b t
  | str b=>obtain ⟨t,rfl⟩:=rx;exact SeqAt.EqAt.int_str a t' b t
  | _=>exact absurd (show false=true from fx) Bool.false_ne_true
 | str a =>
  obtain ⟨t',rfl⟩:=ry
  cases x with
  | non=>cases rx;exact SeqAt.EqAt.str_none a t'
  | bl b=>cases rx;exact SeqAt.EqAt.str_bool a t' b
  | int b=>obtain ⟨t,rfl⟩:=rx;exact SeqAt.EqAt.str_int a t' b t
  | str b=>obtain ⟨t,rfl⟩:=rx;exact SeqAt.EqAt.str_str a t' b t
  | _=>exact absurd (show false=true from fx) Bool.false_ne_true
 | _=>exact absurd (show false=true from fy) Bool.false_ne_true
theorem call_len_seq:CallR X (.builtin "len") (fun xs H Q=>∃ p ys,xs=[.ref p]/\(SqL X.K H p ys\/SqT X.K H p ys)/\Q (.int ys.length) H):=by
 intro pins s σ H xs us Q I r h
 obtain ⟨p,ys,rfl,hq,q⟩:=h
 obtain ⟨u,rfl,rx⟩:=vals1 r
 cases rx
 have hn:=line63
 rcases hq with hq | hq
 ·obtain ⟨its,r',pl,hz⟩:=I.list hq
  have hlen:=r'.length
  exact Calls.call_len_list pl.isList (by simp only [List.size_toArray] <;> omega) ⟨.int ys.length,H,I.tok _,⟨s.toks + 1,by rw [List.size_toArray,hlen]⟩,q⟩
 ·obtain ⟨its,r',pl,hz⟩:=I.tuple hq
  have hlen:=r'.length
  exact len_tuple pl (by simp only [List.size_toArray] <;> omega) ⟨.int ys.length,H,I.tok _,⟨s.toks + 1,by rw [List.size_toArray,hlen]⟩,q⟩
theorem call_len_str:CallR X (.builtin "len") (fun xs H Q=>∃ z,xs=[.str z]/\z.length<=sizeLine/\Q (.int z.length) H):=by
 intro pins s σ H xs us Q I r h
 obtain ⟨z,rfl,hz,q⟩:=h
 obtain ⟨u,rfl,t,rfl⟩:=vals1 r
 have hn:=line63
 exact len_str (by omega) ⟨.int z.length,H,I.tok _,⟨_,rfl⟩,q⟩
theorem CallR.or {f:Value} {r r':List V->Hp->VK->Prop} (h:CallR X f r) (h':CallR X f r'):CallR X f (fun xs H Q=>r xs H Q\/r' xs H Q):=by
 intro pins s σ H xs us Q I rs q
 rcases q with q | q
 ·exact h pins s σ H xs us Q I rs q
 ·exact h' pins s σ H xs us Q I rs q
theorem call_list_of:CallR X (.type "list") (fun xs H Q=>∃ p ys,xs=[.ref p]/\(SqL X.K H p ys\/SqT X.K H p ys)/\∀ l,H l=none->Q (.ref l) (upd H l (.lst ys))):=by
 intro pins s σ H xs us Q I r h
 obtain ⟨p,ys,rfl,hq,q⟩:=h
 obtain ⟨u,rfl,rx⟩:=vals1 r
 cases rx
 have fin:∀ (its:List Value),Vals ys its->ys.length<=sizeLine->∀ (h':Heap) (c':Nat),(∀ b o',s.heap.get? b=some o'->h'.get? b=some o') ->
   h'.get? s.heap.objs.size=some { cls:=.type "list",dict:=none,data:=.seq its.toArray c',slots:=#[] }->EP X pins σ Q (.ref s.heap.objs.size) { s with heap:=h' }:=fun its r' hz h' c' kp e =>
  ⟨.ref s.heap.objs.size,_,I.laid (t':=s.toks) kp (Nat.le_refl _) (show ObjOk X.prog X.w _ h' _ (.lst ys) from ⟨hz,its,c',r',e⟩),rfl,q _ (I.hok.fresh (Nat.le_refl _))⟩
 rcases hq with hq | hq
 ·obtain ⟨its,r',pl,hz⟩:=I.list hq
  have hlen:=r'.length
  obtain ⟨o,ho,hc,n,hd⟩:=pl.isList
  exact call_list_seq p (.inl rfl) ho hc hd (fun h' c' kp e=>fin its r' hz h' c' kp e) (by simp only [List.size_toArray] <;> omega)
 ·obtain ⟨its,r',pl,hz⟩:=I.tuple hq
  have hlen:=r'.length
  obtain ⟨o,ho,hc,n,hd⟩:=pl
  exact call_list_seq p (.inr rfl) ho hc hd (fun h' c' kp e=>fin its r' hz h' c' kp e) (by simp only [List.size_toArray] <;> omega)
theorem call_tuple_of:CallR X (.type "tuple") (fun xs H Q=>∃ p ys,xs=[.ref p]/\((SqL X.K H p ys/\∀ l,H l=none->Q (.ref l) (upd H l (.tup ys)))\/(SqT X.K H p ys/\Q (.ref p) H))):=by
 intro pins s σ H xs us Q I r h
 obtain ⟨p,ys,rfl,h⟩:=h
 obtain ⟨u,rfl,rx⟩:=vals1 r
 cases rx
 rcases h with ⟨hq,q⟩ | ⟨hq,q⟩
 ·obtain ⟨its,r',pl,hz⟩:=I.list hq
  have hlen:=r'.length
  refine call_tuple_list pl.isList (fun h' kp=>?_) (by simp only [List.size_toArray] <;> omega)
  have I1:Inv X pins σ H { s with heap:=h' }:=I.kept (t':=s.toks) kp
  have I2:Inv X pins σ (upd H h'.objs.size (.tup ys)) { s with heap:=h'.push { cls:=.type "tuple",data:=.seq its.toArray } } :=
   I1.laid (t':=s.toks) (fun b o e=>Heap.get?_push_of_some _ e) (Nat.le_refl _) (show ObjOk X.prog X.w _ _ _ (.tup ys) from ⟨hz,its,r',IsTup.new _ _⟩)
  exact ⟨.ref h'.objs.size,_,I2,rfl,q _ (I1.hok.fresh (Nat.le_refl _))⟩
 ·obtain ⟨its,r',pl,hz⟩:=I.tuple hq
  exact call_tuple_same pl ⟨.ref p,H,I,rfl,q⟩
def tyV (K:PySem.W.Frag) (T:String) (x:V) (H:Hp):Prop:=match x with
 | .str _=>T = "str"
 | .int _=>T = "int"
 | .ref p=>(T = "list"/\∃ xs,SqL K H p xs)\/(T = "tuple"/\∃ o,K.lookup p=some o/\o.cls=.type "tuple"/\o.dict=none) \/
   (T = "dict"/\((∃ kvs,H p=some (.dK kvs))\/∃ kvs,H p=some (.dT kvs)))\/(T = "set"/\∃ S n,H p=some (.set S n))
 | _=>False
theorem tyV_is {pins:List (Addr×Obj)} {σ:St} {H:Hp} {s:Shared} {T:String} {x:V} {v:Value} (I:Inv X pins σ H s) (r:RelV x v) (ty:tyV X.K T x H) :
  s.TypeIs v T/\∀ a,v=.ref a->∃ ob,s.heap.get? a=some ob/\ob.dict=none:=by
 cases x with
 | str z =>
  obtain ⟨t,rfl⟩:=r
  cases (show T = "str" from ty)
  exact ⟨typeIs_str s z t,fun _ e=>nomatch e⟩
 | int i =>
  obtain ⟨t,rfl⟩:=r
  cases (show T = "int" from ty)
  exact ⟨typeIs_int s i t,fun _ e=>nomatch e⟩
 | ref p =>
  cases r
  rcases ty with ⟨rfl,xs,hq⟩ | ⟨rfl,o,hk,hc,hd⟩ | ⟨rfl,hk⟩ | ⟨rfl,S,n,hk⟩
  ·obtain ⟨its,_,pl,_⟩:=I.list hq
   refine ⟨pl.isList.typeIs,fun a e=>?_⟩
   cases e
   obtain ⟨o,n,e,c,hd,_⟩:=pl
   exact ⟨o,e,hd⟩
  ·refine ⟨⟨o,I.kIn p o hk,hc⟩,fun a e=>?_⟩
   cases e
   exact ⟨o,I.kIn _ o hk,hd⟩
  ·have z:∃ o,s.heap.get? p=some o/\o.ExactDict:=by
    rcases hk with ⟨kvs,hk⟩ | ⟨kvs,hk⟩
    ·obtain ⟨_,_,_,_,o,_,_,e,ex,_⟩:=I.hok p _ hk
     exact ⟨o,e,ex⟩
    ·obtain ⟨_,_,_,_,o,_,_,e,ex,_⟩:=I.hok p _ hk
     exact ⟨o,e,ex⟩
   obtain ⟨o,e,ex⟩:=z
   refine ⟨⟨o,e,ex.1⟩,fun a e2=>?_⟩
   cases e2
   exact ⟨o,e,ex.2.1⟩
  ·obtain ⟨o,_,_,_,e,ex,_⟩:=I.hok p _ hk
   refine ⟨⟨o,e,ex.1⟩,fun a e2=>?_⟩
   cases e2
   exact ⟨o,e,ex.2.1⟩
 | _=>exact False.elim ty
def tBM0 (K:PySem.W.Frag) (T:String) (r:V->List V->Hp->VK->Prop) (to:TE):TE:=fun σ H Q=>to σ H fun x H1=>tyV K T x H1/\r x [] H1 Q
def tBM (K:PySem.W.Frag) (T:String) (r:V->List V->Hp->VK->Prop) (to:TE) (t:TA):TE:=fun σ H Q=>to σ H fun x H1=>tyV K T x H1/\t σ H1 fun xs H2=>r x xs H2 Q
variable {o e:Expr} {es:List Expr} {to:TE} {t:TA} {name:Str} {apos cpos:Pos} {T id:String} {r:V->List V->Hp->VK->Prop}
theorem pe_bm0 (pa:PlainAttrs T) (slot:Slot T name id) (hty:typeOf (.builtin id)=pure (.type "method_descriptor")) (hm:MtR X id r) (ho:PE X o to)
  (hbase:attributeBase o name X.env (eval o X.env)=eval o X.env:=by rfl) (hline:(apos.endLine == cpos.line)=true:=by rfl):PE X (.Call (.Attribute o name apos) [] [] cpos) (tBM0 X.K T r to):=by
 intro pins s σ H Q I h
 refine wpAny_Call_method0_late hbase hline (thn (ho pins s σ H _ I h) fun v s1 ⟨x,H1,I1,r1,ty,q1⟩=>?_)
 obtain ⟨h1,h2⟩:=tyV_is I1 r1 ty
 exact ⟨T,id,pa,slot,hty,h1,h2,Calls.callWith_builtin rfl (PySem.evalArgs_none (hm pins s1 σ H1 x [] v [] Q I1 r1 .nil q1))⟩
theorem pe_bm (pa:PlainAttrs T) (slot:Slot T name id) (hty:typeOf (.builtin id)=pure (.type "method_descriptor")) (hm:MtR X id r) (ho:PE X o to) (ha:PA X (e::es) t)
  (hbase:attributeBase o name X.env (eval o X.env)=eval o X.env:=by rfl)
  (hfew:((backTo cpos (starEach (e::es) X.env)).all (fun x=>!x.1) && (backToKw cpos (keywordEach [] X.env)).all (fun x=>x.1.isSome)
   && decide ((e::es).length + ([]:List Keyword).length + (if ([]:List Keyword).isEmpty then 0 else 1) < 30))=true:=by rfl)
  (hline:(apos.endLine == cpos.line)=true:=by rfl) (hs:starEach (e::es) X.env=(false,eval e X.env)::starEach es X.env:=by rfl) (hplain:(backTo cpos (starEach es X.env)).any (·.1)=false:=by rfl) :
  PE X (.Call (.Attribute o name apos) (e::es) [] cpos) (tBM X.K T r to t):=by
 intro pins s σ H Q I h
 refine wpAny_Call_method_late hbase hfew hline rfl (thn (ho pins s σ H _ I h) fun v s1 ⟨x,H1,I1,r1,ty,q1⟩=>?_)
 obtain ⟨h1,h2⟩:=tyV_is I1 r1 ty
 refine ⟨T,id,pa,slot,hty,h1,h2,?_⟩
 have hA:=ha cpos pins s1 σ H1 _ I1 q1
 rw [hs] at hA ⊢
 refine Calls.callWith_builtin (by show (false || (backTo cpos (starEach es X.env)).any (·.1))=false;rw [hplain] <;> rfl) (Calls.evalArgs_plain ?_)
 exact thn hA fun us s2 ⟨vs,H2,I2,r2,q2⟩=>hm pins s2 σ H2 x vs v us Q I2 r1 r2 q2
end
end L2
namespace L2
open PySem PySem.Spec PyProof.Rows
def MtM (X:Cx) (id:String) (r:V->List V->Hp->VK->Prop):Prop :=
 ∀ (pins:List (Addr×Obj)) (s:Shared) (σ:St) (H:Hp) (x:V) (xs:List V) (v:Value) (us:List Value) (Q:VK),Inv X pins σ H s->RelV x v->Vals xs us->r x xs H Q ->
  wpAny (model X.prog X.w) X.A (call (.builtin id) (v::us)) (EP X pins σ Q) X.xe s
theorem Vals.one:∀ {x:V} {us:List Value},Vals [x] us->∃ u,us=[u]/\RelV x u
 | _,_,.cons r .nil=>⟨_,rfl,r⟩
section
variable {X:Cx} {pins:List (Addr×Obj)} {σ:St} {H:Hp} {s:Shared} {l b:Addr} {xs ys zs:List V}
theorem Inv.lset {its its':List Value} {n:Nat} {f:Array Value->Array Value} {t':Nat} (I:Inv X pins σ H s) (hH:H l=some (.lst xs))
  (e:s.heap.get? l=some { cls:=.type "list",data:=.seq its.toArray n }) (hf:f its.toArray=its'.toArray) (hv:Vals ys its') (hz:ys.length<=sizeLine) :
  Inv X pins σ (upd H l (.lst ys)) { s with heap:=s.heap.update l (Obj.mapSeq f),toks:=t' }:=by
 have q:=PySem.IsL.update e f
 rw [hf] at q
 refine I.write (x:=l) (e:=l) (by rw [hH];exact trivial) (.inl rfl) (fun b' u hb hu=>(Heap.get?_update_other s.heap (Obj.mapSeq f) (Ne.symm hb)).trans hu) ⟨_,q⟩ ?_
 exact ⟨hz,its',_,hv,q⟩
theorem Inv.lnew {its:List Value} {t':Nat} (I:Inv X pins σ H s) (hv:Vals ys its) (hz:ys.length<=sizeLine) :
  Inv X pins σ (upd H s.heap.objs.size (.lst ys)) { s with heap:=s.heap.push { cls:=.type "list",data:=.seq its.toArray },toks:=t' } :=
 I.laid (fun _ _ q=>Heap.get?_push_of_some _ q) (Nat.le_refl _) ⟨hz,its,0,hv,Heap.get?_push_size _ rfl⟩
theorem Inv.fresh (I:Inv X pins σ H s):H s.heap.objs.size=none:=I.hok.fresh (Nat.le_refl _)
theorem Inv.lstM (I:Inv X pins σ H s) (hH:H l=some (.lst xs)):xs.length<=sizeLine/\∃ (its:List Value) (n:Nat),Vals xs its/\xs.length=its.length/\s.heap.get? l=some { cls:=.type "list",data:=.seq its.toArray n }:=by
 obtain ⟨z,its,n,r,e⟩:=I.hok l _ hH
 exact ⟨z,its,n,r,r.length,e⟩
end
section
variable {X:Cx}
def rAppend:V->List V->Hp->VK->Prop:=fun x vs H Q=>∃ l xs y,x=.ref l/\vs=[y]/\H l=some (.lst xs)/\xs.length < sizeLine/\Q .non (upd H l (.lst (xs++[y])))
theorem mt_append:MtM X "list.append" rAppend:=by
 intro pins s σ H x vs v us Q I rx rv h
 obtain ⟨l,xs,y,rfl,rfl,hH,hz,q⟩:=h
 cases rx
 obtain ⟨u,rfl,ru⟩:=rv.one
 obtain ⟨z,its,n,r,hl,e⟩:=I.lstM hH
 refine call_meets F.slot_list_append ⟨_,e,rfl⟩ F.entry_list_append (F.args_list_append_2 _ _) (PySem.list_append l its.toArray n u (by rw [List.size_toArray];omega)) ⟨e,?_⟩
 refine ⟨.non,_,I.lset (its':=its++[u]) hH e (by simp) (r.append (.cons ru .nil)) ?_,rfl,q⟩
 rw [List.length_append,List.length_singleton]
 omega
end
section
variable {prog:Program} {w:World} {A:Around} {E:Value->Shared->Prop} {s:Shared}
end
section
variable {X:Cx}
end
end L2
namespace Att
open PySem PySem.W PySem.Calls PyProof.Rows
theorem ints_of_wellAll {P:Params} {h:Heap}:∀ (ns:List Int) (vs:List Value),WellAll P h vs (ns.map WData.int)->IntsAre vs ns:=by
 intro ns
 induction ns with
 | nil =>
  intro vs w
  rw [List.map_nil] at w
  cases w
  exact .nil
 | cons n ns ih =>
  intro vs w
  rw [List.map_cons] at w
  cases w with
  | cons a b =>
   cases a
   exact .cons _ _ (ih _ b)
theorem script_of {l:OpenLaw} {n:Nat} (hn:l.most=some n) {P:Params} {h:Heap} {args:List WData} {vals:List Value}
  (hpre:l.row.toRowW.claim.pre args=true) (hwl:WellAll P h vals args) :
  ∃ a vs ns,vals=[Value.ref a]/\args=[WData.list (ns.map WData.int)]/\h.get? a=some { cls:=.type "list",data:=.seq vs.toArray }/\IntsAre vs ns/\ns.length<=n:=by
 have hsh:WShape.hasAll [] args [.list .int]=true:=(pre_splitW hpre).1
 have hc:l.pre.holds [] { args:=args }=true:=(pre_splitW hpre).2
 obtain ⟨d,r,rfl,h1,h2⟩:=hasAllW_cons hsh
 obtain rfl:=hasAllW_nil h2
 obtain ⟨xs,rfl,h3⟩:=hasW_list h1
 obtain ⟨ns,rfl⟩:=items_int h3
 have hlen:ns.length<=n:=by
  unfold OpenLaw.pre at hc
  have h4:(WTm.not (.lt (.lit (.int (n:Int))) (.len (.arg 0)))).holds [] { args:=[.list (ns.map .int)] }=true:=by
   have h4:=(holds_andW hc).1
   rw [hn] at h4
   exact h4
  have h5:=condW_of h4 (w_not (w_lt w_lit (w_len_list (w_arg rfl))))
  rw [List.length_map] at h5
  refine Nat.le_of_not_lt fun q=>?_
  have q':(n:Int) < ((ns.length:Nat):Int):=by omega
  first
   | (rw [decide_eq_true q'] at h5;exact absurd h5 (by decide))
   | (simp at h5;omega)
 cases hwl with
 | cons w1 w2 =>
  cases w2
  cases w1 with
  | list ho hall=>exact ⟨_,_,ns,rfl,rfl,ho,ints_of_wellAll ns _ hall,hlen⟩
theorem post_true (l:OpenLaw) (args:List WData):l.row.toRowW.claim.post args (.bool true) args=true :=
 postW_of (r:=l.row.toRowW) (X:=(true == true))
  (show WShape.has [] (.bool true) .bool=true by first | rfl | decide | simp [WShape.has,WShape.arms,WShape.armsAll])
  (show (WTm.eq .res (.lit (.bool true))).value [] { args:=args,res:=some (.bool true),after:=args }=some (.bool (true == true)) from w_eq_bool (w_res rfl) w_lit) rfl
theorem attach_call {l:OpenLaw} {n:Nat} {q:Program} {loose:List Str} {XP:(Str->Option Value)->Heap->Prop} {YP:World->Heap->Prop} {d:DefRec}
  (hn:l.most=some n) (hdf:d.params.defaults=[])
  (call:∀ (w:World) (s₀ s₁:Shared) (mg mb:Str->Option Value) (fa:Addr) (o:Obj) (pm cd doc:Value) (a:Addr) (vs:List Value) (ns:List Int),
   Ground q loose [] XP w s₀ mg mb s₁.heap->YP w s₁.heap ->
   s₁.heap.get? fa=some o->o.data=.func (docDef d.name d.params d.body d.scope pm cd doc)->s₁.heap.CodeRec cd d.name->mg d.name=some (.ref fa) ->
   s₁.heap.get? a=some { cls:=.type "list",data:=.seq vs.toArray }->IntsAre vs ns->ns.length<=n->s₁.gens=#[] ->
   codeAny (model l.prog w) callerA (.call (.ref fa) ⟨[.ref a],[]⟩) (fun r s'=>r=.ok (.ret (.bool true))/\OldK s₁.heap s'.heap/\s'.os=s₁.os/\AllBare s'.gens) s₁) :
  WalkO q loose XP YP l.row.toRowW d [] (fun f vs=>PySem.call f vs):=by
 intro w s₀ s₁ mg mb G Y fa o pm cd doc dV kV ho hd hcd hD hmg hg args vals as hpre hlay hrd hwl hlo
 obtain rfl:dV=.none:=Dflts.none hD hdf
 obtain rfl:kV=.none:=Dflts.noKw hD
 obtain ⟨a,vs,ns,rfl,rfl,hobj,hints,hlen⟩:=script_of hn hpre hwl
 refine enter_call (codeAny_mono (call w s₀ s₁ mg mb fa o pm cd doc a vs ns G Y ho (fd_plain hd) hcd hmg hobj hints hlen hg) fun r s' hq=>?_)
 obtain ⟨rfl,h2,h3,h4⟩:=hq
 exact ⟨.inl ⟨.bool true,.bool true,[],rfl,fun _=>rfl,.bool true,post_true l _,fun _=>⟨List.Pairwise.nil,fun _ hm=>(nomatch hm)⟩⟩,h2,h3,h4⟩
section
variable {prog:Program} {w:World} {A:Around} {E:Value->Shared->Prop} {s:Shared} {K:Frag}
def noObjs (h:Heap):Heap:={ h with objs:=#[] }
theorem noObjs_get (h:Heap) (b:Addr):(noObjs h).get? b=none:=by
 cases e:(noObjs h).get? b with
 | none=>rfl
 | some o=>exact absurd (Heap.lt_size e) (Nat.not_lt_zero _)
def ledger (h:Heap) (L d:Addr):List (Addr×Obj):=(List.range h.objs.size).filterMap fun a=>if a=L\/a=d then none else (h.get? a).map fun o=>(a,o)
theorem mem_ledger {h:Heap} {L d a:Addr} {o:Obj}:(a,o)∈ledger h L d ↔ a≠L/\a≠d/\h.get? a=some o:=by
 unfold ledger
 rw [List.mem_filterMap]
 constructor
 ·rintro ⟨b,_,e⟩
  split at e
  ·cases e
  ·rename_i hb
   obtain ⟨o',ho,e'⟩:=Option.map_eq_some_iff.mp e
   cases e'
   exact ⟨fun q=>hb (.inl q),fun q=>hb (.inr q),ho⟩
 ·rintro ⟨n1,n2,ho⟩
  refine ⟨a,List.mem_range.mpr (Heap.lt_size ho),?_⟩
  rw [if_neg (show ¬ (a=L\/a=d) from fun q=>q.elim n1 n2),ho] <;> rfl
theorem fr_all {h:Heap} {L:Addr} {m:Str->Option Value} (n:h.Ns L m):Fr (noObjs h) L h m :=
 ⟨n,fun b o e=>(by rw [noObjs_get] at e;cases e),Nat.zero_le _⟩
end
end Att
namespace L2
open PySem PySem.Spec PyProof.Rows
theorem vals_ints:∀ {vs:List Value} {ns:List Int},IntsAre vs ns->Vals (ns.map V.int) vs
 | _,_,.nil=>.nil
 | _,_,.cons n t h=>.cons ⟨t,rfl⟩ (vals_ints h)
def Only (H:Hp):Prop:=∀ b,H b=none\/∃ o xs,H b=some (.frz o (.lst xs))
theorem law_call {P:Program} {w:World} {K:PySem.W.Frag} {mg mb:Str->Option Value} {CX:CXT} {k:Nat} {fa a:Addr} {fd:FuncData} {x:Str} {sp:Sp} {s₁:Shared} {vs:List Value} {ns:List Int}
  (KX:K.In s₁.heap) (hns:s₁.heap.Ns mainGlobals mg) (hb:s₁.heap.Ns builtinsNs mb) (hbb:∀ x:Str,x≠"__name__"->mb x=bootBuiltins x) (hlim:s₁.heap.NoLimit) (hg:s₁.gens=#[])
  (ha:s₁.heap.get? a=some { cls:=.type "list",data:=.seq vs.toArray }) (hi:IntsAre vs ns) (hl:ns.length<=sizeLine) (hr:Room k callerA)
  (F:∀ base:Heap,K.In base->base.Ns mainGlobals mg->FnOk P w K mg base CX k fa fd [x] sp) (hbind:∀ (s:Shared) (u:Value),BindsTo s fd ⟨[u],[]⟩ [(x,u)])
  (hsp:∀ H:Hp,Only H->SqL K H a (ns.map V.int)->sp [.ref a] H (fun v _=>v=.bl true) fun _ _ _=>False)
  (hCX:∀ H e s',CX [] H s₁ (fun _ _ _=>False) e s'->False) :
  codeAny (model P w) callerA (.call (.ref fa) ⟨[.ref a],[]⟩) (fun r s'=>r=.ok (.ret (.bool true))/\OldK s₁.heap s'.heap/\s'.os=s₁.os/\AllBare s'.gens) s₁:=by
 have rv:=vals_ints hi
 have lenV:=hi.length
 have core:∀ H:Hp,Only H->SqL K H a (ns.map V.int)->HOk P w H s₁.heap->(∀ b,H b≠none->b=a)->(H a≠none->K.lookup a=none) ->
   codeAny (model P w) callerA (.call (.ref fa) ⟨[.ref a],[]⟩) (fun r s'=>r=.ok (.ret (.bool true))/\OldK s₁.heap s'.heap/\s'.os=s₁.os/\AllBare s'.gens) s₁:=by
  intro H hO hS hok hA hK
  have base_of:∀ {b:Addr} {o:Obj},s₁.heap.get? b=some o->H b=none->(hidT s₁.heap H).get? b=some o:=fun e n=>hidT_get e n
  have noA:∀ {b:Addr} {o:Obj} {es:Array DictEntry} {ep:Nat},s₁.heap.get? b=some o->o.data=.dict es ep->H b=none:=fun {b o es ep} e d=>by
   cases q:H b with
   | none=>rfl
   | some u =>
    have e':b=a:=hA b (by rw [q];simp)
    subst e'
    rw [ha] at e;cases e
    have d':Data.seq vs.toArray _=Data.dict es ep:=d
    cases d'
  have nsK:∀ {b:Addr} {m:Str->Option Value},s₁.heap.Ns b m->(hidT s₁.heap H).Ns b m:=fun {b m} ⟨o,es,ep,e,d,r⟩=>⟨o,es,ep,base_of e (noA e d),d,r⟩
  have hKb:K.In (hidT s₁.heap H):=fun b o e=>base_of (KX b o e) (by
   cases q:H b with
   | none=>rfl
   | some u =>
    have e':b=a:=hA b (by rw [q];simp)
    subst e'
    rw [hK (by rw [q];simp)] at e;cases e)
  have hM:Mod K mg (hidT s₁.heap H):=⟨hKb,nsK hns,⟨mb,nsK hb,hbb⟩,let ⟨mc,h1,h2⟩:=hlim;⟨mc,nsK h1,h2⟩⟩
  have e0:Env0 P w K mg (hidT s₁.heap H) callerA [] s₁ H:=⟨rfl,hM,fun b o e=>of_hidT e,Nat.le_of_eq (hidT_size _ _),trivial,fun b hb=>absurd (show b∈([]:List Addr) from hb) (by simp),hok,.of_eq hg⟩
  refine codeAny_mono ((F _ hKb (nsK hns)).run callerA [] s₁ H ⟨[.ref a],[]⟩ [.ref a] [.ref a] _ _ hr e0 (hbind s₁ (.ref a)) (.cons rfl .nil) (hsp H hO hS)) fun r s' h=>?_
  cases r with
  | error e=>exact (hCX H e s' h).elim
  | ok fl =>
   cases fl with
   | next=>exact False.elim h
   | brk=>exact False.elim h
   | cont=>exact False.elim h
   | ret u =>
    obtain ⟨v,H',os,bare,un,hok',r',q⟩:=h
    have q':v=.bl true:=q
    subst q'
    obtain rfl:u=Value.bool true:=r'
    refine ⟨rfl,OldK.of_keep fun b o e=>?_,os,bare⟩
    cases q:H b with
    | none=>exact un.keep b o e q (by intro z;exact absurd (show b∈([]:List Addr) from z) (by simp)) (by simp)
    | some u =>
     rcases hO b with z | ⟨ob,xs,z⟩
     ·rw [q] at z;cases z
     ·have z2:=un.frzs b ob _ z
      obtain ⟨e1,_⟩:=hok b _ z
      obtain ⟨e2,_⟩:=hok' b _ z2
      rw [e] at e1;cases e1
      exact e2
 cases hk:K.lookup a with
 | some o =>
  have e:=KX a o hk
  rw [ha] at e
  cases e
  refine core (fun _=>none) (fun _=>.inl rfl) (.inr ⟨_,vs.toArray,_,hk,rfl,rfl,rfl,by rw [List.size_toArray,lenV];exact hl,by simpa using rv⟩) (fun b u z=>by have z':(none:Option HO)=some u:=z;cases z') (fun b z=>absurd rfl z) fun z=>absurd rfl z
 | none =>
  refine core (fun b=>if b=a then some (.frz { cls:=.type "list",data:=.seq vs.toArray } (.lst (ns.map V.int))) else none) (fun b=>?_) (.inl (.inr ⟨{ cls:=.type "list",data:=.seq vs.toArray },if_pos rfl⟩)) (fun b u z=>?_) (fun b z=>?_) fun _=>hk
  ·by_cases hb:b=a
   ·exact .inr ⟨_,_,if_pos hb⟩
   ·exact .inl (if_neg hb)
  ·by_cases hb:b=a
   ·have z':=(if_pos hb).symm.trans z
    cases z'
    subst hb
    exact ⟨ha,by rw [List.length_map];exact hl,vs,_,rv,ha⟩
   ·have z':=(if_neg hb).symm.trans z
    cases z'
  ·by_cases hb:b=a
   ·exact hb
   ·exact absurd (if_neg hb) z
end L2
namespace L2
open PySem PySem.Spec PyProof.Rows
abbrev KOf {K:PySem.W.Frag} {h:Heap} (_:K.In h):PySem.W.Frag:=K
theorem walk_of {l:PySem.W.OpenLaw} {n k:Nat} {q:Program} {loose:List Str} {XP:(Str->Option Value)->Heap->Prop} {YP:World->Heap->Prop} {d:DefRec} {K:Params->PySem.W.Frag} {CX:World->CXT} {sp:World->Sp} {x:Str}
  (hn:l.most=some n) (hn2:n<=sizeLine) (hdf:d.params.defaults=[]) (hr:Room k callerA)
  (hY:∀ (w:World) (h:Heap),YP w h->(K w.params).In h)
  (F:∀ (w:World) (mg:Str->Option Value) (fa:Addr) (h:Heap),(K w.params).In h->h.Ns mainGlobals mg->mg d.name=some (.ref fa) ->
   ∃ fd:FuncData,(∀ (s:Shared) (u:Value),BindsTo s fd ⟨[u],[]⟩ [(x,u)]) /\
    ∀ base:Heap,(K w.params).In base->base.Ns mainGlobals mg->FnOk l.prog w (K w.params) mg base (CX w) k fa fd [x] (sp w))
  (hsp:∀ (w:World) (H:Hp) (a:Addr) (ns:List Int),ns.length<=n->Only H->SqL (K w.params) H a (ns.map V.int)->sp w [.ref a] H (fun v _=>v=.bl true) fun _ _ _=>False)
  (hCX:∀ (w:World) (H:Hp) (s:Shared) (e:Value) (s':Shared),CX w [] H s (fun _ _ _=>False) e s'->False) :
  PySem.W.WalkO q loose XP YP l.row.toRowW d [] (fun f vs=>PySem.call f vs):=by
 refine Att.attach_call hn hdf fun w s₀ s₁ mg mb fa o pm cd doc a vs ns G Y ho hd hcd hmg hobj hints hlen hg=>?_
 have KX:=hY w _ Y
 obtain ⟨fd,hb,hF⟩:=F w mg fa _ KX G.T.g hmg
 exact law_call KX G.T.g G.T.b G.T.builtins G.T.nolimit hg hobj hints (Nat.le_trans hlen hn2) hr hF hb (fun H hO hS=>hsp w H a ns hlen hO hS) fun H e s'=>hCX w H s₁ e s'
end L2
namespace L2
open PySem PySem.Spec PyProof.Rows
def inClass (s:Stmt) (j:Nat):Stmt:=match s with
 | .ClassDef _ _ _ body _ _ _ _ _ _ _=>body.getD j (.Pass ⟨0,0,0,0⟩)
 | _=>.Pass ⟨0,0,0,0⟩
def defArgs (s:Stmt):Arguments:=match s with
 | .FunctionDef _ a _ _ _ _ _ _ _ _=>a
 | _=>{ posonlyargs:=[],args:=[],vararg:=none,kwonlyargs:=[],kw_defaults:=[],kwarg:=none,defaults:=[] }
def defBody (s:Stmt):List Stmt:=match s with
 | .FunctionDef _ _ b _ _ _ _ _ _ _=>b
 | _=>[]
def defScope (s:Stmt):Scope:=match s with
 | .FunctionDef _ _ _ _ _ _ sc _ _ _=>sc
 | _=>{ kind:=.function,names:=[],isGenerator:=false,isCoroutine:=false }
abbrev CX0:CXT:=fun _ _ _ _ _ _=>False
abbrev E0:XK:=fun _ _ _=>False
theorem pass0 {X:Cx}:Passes CX0 X E0:=fun _ _ _ _ _ _ _ h=>h.elim
structure Fun (K:PySem.W.Frag) (x qual:Str) (st:Stmt) (f:Addr) (fd:FuncData):Prop where
 ex:∃ (oc:Value) (od:Option Addr) (kV doc pm:Value) (an:Option Addr) (cdv ct:Value) (osl:Array (Option Value)),
  fd=PySem.W.fnOf x qual (defArgs st) (defBody st) (defScope st) .none kV doc pm an cdv ct/\K.lookup f=some ⟨oc,od,.func fd,osl⟩/\PySem.W.codeIn K cdv qual=true
 kp:PySem.W.keepIn K (.ref f)=true
section
variable {P:Program} {w:World} {K:PySem.W.Frag} {mg:Str->Option Value} {base:Heap}
theorem Fun.ok {x qual:Str} {st:Stmt} {f:Addr} {fd:FuncData} {N ps:List Str} {k:Nat} {sp:Sp} (F:Fun K x qual st f fd) (S:FnScope N ps (defScope st)) (len:∀ vs H Q E,sp vs H Q E->vs.length=ps.length)
  (hbody:∀ (cdv:Value) (A:Around) (outer:List Env) (s:Shared) (H:Hp) (vs:List V) (Q:VK) (E:XK),Room k (A.deeper (envOfC qual (defScope st) s.heap.objs.size f cdv))->sp vs H Q E ->
   ∃ t,PSs (cxOf CX0 P w K mg base N qual (defScope st) f cdv A outer s H E).nox (defBody st) t/\t { nx:=fun _ H'=>Q .non H',rt:=Q } (start N vs) H):FnOk P w K mg base CX0 (k + 1) f fd ps sp:=by
 obtain ⟨oc,od,kV,doc,pm,an,cdv,ct,osl,rfl,lk,hcd⟩:=F.ex
 refine fn_of lk hcd S len fun A outer s H vs Q E hr hsp=>?_
 obtain ⟨t,h,q⟩:=hbody cdv A outer s H vs Q E hr hsp
 exact ⟨t,h.nox,q⟩
theorem Fun.binds {x qual:Str} {st:Stmt} {f:Addr} {fd:FuncData} {ps:List Str} (F:Fun K x qual st f fd)
  (h:∀ (kV doc pm:Value) (an:Option Addr) (cdv ct:Value) (us:List Value),us.length=ps.length->bindArgs (PySem.W.fnOf x qual (defArgs st) (defBody st) (defScope st) .none kV doc pm an cdv ct) ⟨us,[]⟩=pure (ps.zip us)):Binds K fd ps []:=by
 obtain ⟨oc,od,kV,doc,pm,an,cdv,ct,osl,rfl,lk,hcd⟩:=F.ex
 exact .all (h kV doc pm an cdv ct)
theorem fun_mk {x qual:Str} {st:Stmt} {f:Addr} {oc:Value} {od an:Option Addr} {osl:Array (Option Value)} {kV doc pm cdv ct:Value} (l:K.lookup f=some ⟨oc,od,.func (PySem.W.fnOf x qual (defArgs st) (defBody st) (defScope st) .none kV doc pm an cdv ct),osl⟩)
  (c:PySem.W.codeIn K cdv qual=true) (k:PySem.W.keepIn K (.ref f)=true):Fun K x qual st f (PySem.W.fnOf x qual (defArgs st) (defBody st) (defScope st) .none kV doc pm an cdv ct):=⟨⟨oc,od,kV,doc,pm,an,cdv,ct,osl,rfl,l,c⟩,k⟩
end
theorem small1000 {n:Nat} (h:n<=1000):n < sizeLine:=Nat.lt_of_le_of_lt h (by decide)
section
variable {X:Cx}
theorem pv (i:Nat) {x:Str} {pos:Pos} (hN:X.N[i]? = some x:=by rfl) (hv:Vis X.env.scope x:=by first | exact Or.inl rfl | exact Or.inr (Or.inl rfl) | exact Or.inr (Or.inr rfl)) (hd:(x == ("__debug__":Str))=false:=by decide)
  (hcd:(x == ("__classdict__":Str))=false:=by decide):PE X (.Name x pos) (tVar i):=pe_var hN hv hd hcd
end
def Same (H H':Hp):Prop:=∀ b o,H b=some o->H' b=some o
theorem Same.refl (H:Hp):Same H H:=fun _ _ h=>h
theorem Same.trans {H H1 H2:Hp} (a:Same H H1) (b:Same H1 H2):Same H H2:=fun c o h=>b c o (a c o h)
theorem Same.free {H H':Hp} (e:Same H H') {l:Addr} (h:H' l=Option.none):H l=Option.none:=by
 cases q:H l with
 | none=>rfl
 | some o =>
  rw [e l o q] at h
  cases h
theorem Same.seq {K:PySem.W.Frag} {H H':Hp} {a:Addr} {xs:List V} (e:Same H H') (h:SqL K H a xs):SqL K H' a xs:=by
 rcases h with (h | ⟨o,h⟩) | h
 ·exact .inl (.inl (e _ _ h))
 ·exact .inl (.inr ⟨o,e _ _ h⟩)
 ·exact .inr h
end L2
namespace L2
open PySem PySem.Spec PyProof.Rows
section
variable {κ:Type} [DecidableEq κ]
def valV (kvs:List (κ×V)) (k:κ):Option V:=(kvs.find? fun kv=>decide (kv.1=k)).map (·.2)
def putK (kvs:List (κ×V)) (k:κ) (v:V):List (κ×V) :=
 if (kvs.any fun kv=>decide (kv.1=k))=true then kvs.map (fun kv=>if kv.1=k then (kv.1,v) else kv) else kvs++[(k,v)]
def dropK (kvs:List (κ×V)) (k:κ):List (κ×V):=kvs.filter fun kv=>decide (kv.1≠k)
theorem valV_pos {p:κ×V} {r:List (κ×V)} {k:κ} (e:p.1=k):valV (p::r) k=some p.2:=by simp [valV,List.find?_cons,e]
theorem valV_neg {p:κ×V} {r:List (κ×V)} {k:κ} (e:¬ p.1=k):valV (p::r) k=valV r k:=by simp [valV,List.find?_cons,e]
theorem valV_any (k:κ):∀ kvs:List (κ×V),(kvs.any fun kv=>decide (kv.1=k))=(valV kvs k).isSome
 | []=>rfl
 | p::r=>by
  rw [List.any_cons]
  by_cases e:p.1=k
  ·simp only [valV_pos e,decide_eq_true e,Bool.true_or,Option.isSome_some]
  ·rw [valV_neg e,decide_eq_false e,Bool.false_or];exact valV_any k r
theorem length_putK (kvs:List (κ×V)) (k:κ) (v:V):(putK kvs k v).length<=kvs.length + 1:=by
 unfold putK
 split
 ·rw [List.length_map];omega
 ·rw [List.length_append,List.length_cons,List.length_nil];omega
theorem RelO.isSome_eq {o:Option V} {u:Option Value} (r:RelO o u):o.isSome=u.isSome:=by
 cases o with
 | none=>cases u with
  | none=>rfl
  | some _=>exact (show False from r).elim
 | some _=>cases u with
  | none=>exact (show False from r).elim
  | some _=>rfl
theorem KV.val {kvs:List (κ×V)} {vs:List (κ×Value)} (r:KV kvs vs) (k:κ):RelO (valV kvs k) (valueAt vs k):=by
 unfold KV at r
 induction r with
 | nil=>exact True.intro
 | @cons p q ps qs h t ih =>
  obtain ⟨h1,h2⟩:=h
  by_cases e:p.1=k
  ·have e':q.1=k:=h1.symm.trans e
   have b:valueAt (q::qs) k=some q.2:=by simp [valueAt,List.find?_cons,e']
   rw [valV_pos e,b];exact h2
  ·have e':¬ q.1=k:=fun z=>e (h1.trans z)
   have b:valueAt (q::qs) k=valueAt qs k:=by simp [valueAt,List.find?_cons,e']
   rw [valV_neg e,b];exact ih
theorem KV.any {kvs:List (κ×V)} {vs:List (κ×Value)} (r:KV kvs vs) (k:κ):(kvs.any fun kv=>decide (kv.1=k))=vs.any fun kv=>decide (kv.1=k):=by
 unfold KV at r
 induction r with
 | nil=>rfl
 | cons h t ih=>rw [List.any_cons,List.any_cons,ih,h.1]
theorem KV.repl {kvs:List (κ×V)} {vs:List (κ×Value)} (r:KV kvs vs) (k:κ) {y:V} {u:Value} (ry:RelV y u) :
  KV (kvs.map fun kv=>if kv.1=k then (kv.1,y) else kv) (vs.map fun kv=>if kv.1=k then (kv.1,u) else kv):=by
 unfold KV at r ⊢
 induction r with
 | nil=>exact .nil
 | @cons p q ps qs h t ih =>
  rw [List.map_cons,List.map_cons]
  refine .cons ?_ ih
  obtain ⟨h1,h2⟩:=h
  by_cases e:p.1=k
  ·rw [if_pos e,if_pos (h1.symm.trans e)];exact ⟨h1,ry⟩
  ·rw [if_neg e,if_neg (fun z=>e (h1.trans z))];exact ⟨h1,h2⟩
theorem KV.put {kvs:List (κ×V)} {vs:List (κ×Value)} (r:KV kvs vs) (k:κ) {y:V} {u:Value} (ry:RelV y u):KV (putK kvs k y) (stored vs k u):=by
 unfold putK stored
 rw [r.any k]
 by_cases e:(vs.any fun kv=>decide (kv.1=k))=true
 ·rw [if_pos e,if_pos e];exact r.repl k ry
 ·rw [if_neg e,if_neg e];exact Paired.snoc r ⟨rfl,ry⟩
theorem KV.drop {kvs:List (κ×V)} {vs:List (κ×Value)} (r:KV kvs vs) (k:κ):KV (dropK kvs k) (without vs k):=by
 unfold KV at r ⊢
 unfold dropK without
 induction r with
 | nil=>exact .nil
 | @cons p q ps qs h t ih =>
  obtain ⟨h1,h2⟩:=h
  rw [List.filter_cons,List.filter_cons]
  by_cases e:p.1=k
  ·have a:¬ decide (p.1≠k)=true:=by simp [e]
   have b:¬ decide (q.1≠k)=true:=by simp [h1.symm.trans e]
   rw [if_neg a,if_neg b];exact ih
  ·have e':¬ q.1=k:=fun z=>e (h1.trans z)
   have a:decide (p.1≠k)=true:=by simp [e]
   have b:decide (q.1≠k)=true:=by simp [e']
   rw [if_pos a,if_pos b];exact .cons ⟨h1,h2⟩ ih
theorem KV.length {kvs:List (κ×V)} {vs:List (κ×Value)} (r:KV kvs vs):kvs.length=vs.length:=Paired.length r
end
theorem kV_is {P:Program} {w:World} {k:Key} {u:Value} (r:RelV (kV k) u):(mixKind P w).is k u=true:=by
 cases k with
 | inl i=>obtain ⟨t,e⟩:=(show ∃ t,u=Value.int i t from r);subst e;exact mixKind_int P w i t
 | inr x=>obtain ⟨t,e⟩:=(show ∃ t,u=Value.str x t from r);subst e;exact mixKind_str P w x t
theorem items_are {P:Program} {w:World}:∀ {ks:List Key} {us:List Value},Vals (ks.map kV) us->ItemsAre (mixKind P w) ks us
 | [],_,r=>by rw [List.map_nil] at r;cases r;exact .nil
 | k::ks,_,r=>by
  rw [List.map_cons] at r
  cases r with
  | cons h t=>exact .cons (kV_is h) (items_are t)
abbrev KT (H:Hp):List (List Key×V)->List (List Key×Addr×Value)->Prop:=Paired fun p q=>p.1=q.1/\H q.2.1=some (.tup (p.1.map kV))/\RelV p.2 q.2.2
theorem KT.val {H:Hp} {kvs:List (List Key×V)} {xs:List (List Key×Addr×Value)} (r:KT H kvs xs) (k:List Key):RelO (valV kvs k) ((atKey xs k).map (·.2)):=by
 induction r with
 | nil=>exact True.intro
 | @cons p q ps qs h t ih =>
  obtain ⟨h1,_,h2⟩:=h
  by_cases e:p.1=k
  ·have e':q.1=k:=h1.symm.trans e
   have b:atKey (q::qs) k=some q.2:=by simp [atKey,List.find?_cons,e']
   rw [valV_pos e,b];exact h2
  ·have e':¬ q.1=k:=fun z=>e (h1.trans z)
   have b:atKey (q::qs) k=atKey qs k:=by simp [atKey,List.find?_cons,e']
   rw [valV_neg e,b];exact ih
theorem KT.repl {H:Hp} {kvs:List (List Key×V)} {xs:List (List Key×Addr×Value)} (r:KT H kvs xs) (k:List Key) {y:V} {u:Value} (ry:RelV y u) :
  KT H (kvs.map fun kv=>if kv.1=k then (kv.1,y) else kv) (xs.map (putAt k u)):=by
 induction r with
 | nil=>exact .nil
 | @cons p q ps qs h t ih =>
  rw [List.map_cons,List.map_cons]
  refine .cons ?_ ih
  obtain ⟨h1,h2,h3⟩:=h
  unfold putAt
  by_cases e:p.1=k
  ·rw [if_pos e,if_pos (h1.symm.trans e)];exact ⟨h1,h2,ry⟩
  ·rw [if_neg e,if_neg (fun z=>e (h1.trans z))];exact ⟨h1,h2,h3⟩
theorem KT.put {H:Hp} {kvs:List (List Key×V)} {xs:List (List Key×Addr×Value)} (r:KT H kvs xs) (k:List Key) {b:Addr} {y:V} {u:Value} (hb:H b=some (.tup (k.map kV))) (ry:RelV y u) :
  KT H (putK kvs k y) (storedH xs k b u):=by
 have e:(kvs.any fun kv=>decide (kv.1=k))=(atKey xs k).isSome:=by
  rw [valV_any,(r.val k).isSome_eq,Option.isSome_map]
 unfold putK storedH
 rw [e]
 by_cases q:(atKey xs k).isSome=true
 ·rw [if_pos q,if_pos q];exact r.repl k ry
 ·rw [if_neg q,if_neg q];exact Paired.snoc r ⟨rfl,hb,ry⟩
theorem KT.keeps {H H':Hp} {kvs:List (List Key×V)} {xs:List (List Key×Addr×Value)} (r:KT H kvs xs) (ht:∀ b ys,H b=some (.tup ys)->H' b=some (.tup ys)):KT H' kvs xs :=
 Paired.mapP r fun _ _ z=>⟨z.1,ht _ _ z.2.1,z.2.2⟩
section
variable {P:Program} {w:World} {H:Hp} {h:Heap} {a:Addr}
theorem rd_of {u:HO} (ok:HOk P w H h) (e:Rd H a u):ObjOk P w H h a u:=e.ok ok
theorem dk_rd {kvs:List (Key×V)} (ok:HOk P w H h) (e:Rd H a (.dK kvs)):kvs.length<=sizeLine/\(a == sysModules)=false/\∃ vs,KV kvs vs/\h.DictOf (mixKind P w) a vs :=
 show ObjOk P w H h a (.dK kvs) from rd_of ok e
theorem dk_of {kvs:List (Key×V)} (ok:HOk P w H h) (e:H a=some (.dK kvs)):kvs.length<=sizeLine/\(a == sysModules)=false/\∃ vs,KV kvs vs/\h.DictOf (mixKind P w) a vs:=dk_rd ok (.inl e)
theorem key_of {ks:List Key} (ok:HOk P w H h) (e:H a=some (.tup (ks.map kV))):(tupleKind (mixKind P w)).is h ks a:=by
 obtain ⟨_,its,r,o,h1,h2,n,h3⟩:=(show ObjOk P w H h a (.tup (ks.map kV)) from ok a _ e)
 exact ⟨o,its.toArray,n,h1,h2,h3,by simpa using items_are r⟩
theorem dt_rd {kvs:List (List Key×V)} (ok:HOk P w H h) (e:Rd H a (.dT kvs)):kvs.length<=sizeLine/\(a == sysModules)=false /\
  ∃ xs,KT H kvs xs/\h.DictOfH (tupleKind (mixKind P w)) a xs:=by
 obtain ⟨z,y,xs,r,o,es,ep,h1,h2,h3,h4,h5⟩:=(show ObjOk P w H h a (.dT kvs) from rd_of ok e)
 refine ⟨z,y,xs,r,o,es,ep,h1,h2,h3,h4,fun x hx=>?_,h5⟩
 have all:∀ {l:List (List Key×V)} {m:List (List Key×Addr×Value)},KT H l m->∀ x∈m,(tupleKind (mixKind P w)).is h x.1 x.2.1:=by
  intro l m q
  induction q with
  | nil=>intro x hx;exact nomatch hx
  | @cons p q ps qs hq t ih =>
   intro x hx
   rcases List.mem_cons.mp hx with e | hx
   ·subst e
    exact key_of ok (by rw [← hq.1];exact hq.2.1)
   ·exact ih x hx
 exact all r x hx
theorem dt_of {kvs:List (List Key×V)} (ok:HOk P w H h) (e:H a=some (.dT kvs)):kvs.length<=sizeLine/\(a == sysModules)=false /\
  ∃ xs,KT H kvs xs/\h.DictOfH (tupleKind (mixKind P w)) a xs:=dt_rd ok (.inl e)
end
def DGet (H:Hp) (a:Addr) (y:V) (r:Option V):Prop :=
 (∃ kvs k,Rd H a (.dK kvs)/\y=kV k/\r=valV kvs k)\/∃ kvs k b,Rd H a (.dT kvs)/\y=.ref b/\H b=some (.tup (k.map kV))/\r=valV kvs k
def DPut (H:Hp) (a:Addr) (y v:V) (H':Hp):Prop :=
 (∃ kvs k,H a=some (.dK kvs)/\y=kV k/\kvs.length < sizeLine/\H'=upd H a (.dK (putK kvs k v))) \/
 ∃ kvs k b,H a=some (.dT kvs)/\y=.ref b/\H b=some (.tup (k.map kV))/\kvs.length < sizeLine/\H'=upd H a (.dT (putK kvs k v))
theorem DPut.k {H:Hp} {a:Addr} {kvs:List (Key×V)} {k:Key} {v:V} (e:H a=some (.dK kvs)) (hl:kvs.length < sizeLine):DPut H a (kV k) v (upd H a (.dK (putK kvs k v))):=.inl ⟨kvs,k,e,rfl,hl,rfl⟩
section
variable {X:Cx} {pins:List (Addr×Obj)} {σ:St} {H:Hp} {s:Shared} {a:Addr} {y v:V} {u r:Value} {o:Option V} {A:Around} {E:Value->Shared->Prop}
theorem Inv.big (I:Inv X pins σ H s):sysModules < s.heap.objs.size:=by
 have h:mainGlobals < s.heap.objs.size:=(I.mod.glob.keeps I.bk).lt
 exact Nat.lt_trans (by decide) h
theorem d_notIn {Q:Value->Shared->Prop} (hu:A.units + 1 < cLine) (I:Inv X pins σ H s) (g:DGet H a y o) (ry:RelV y u) (h:∀ s',Inv X pins σ H s'->Q (.bool (!o.isSome)) s') :
  wpAny (model X.prog X.w) A (compareOp .NotIn u (.ref a)) Q E s:=by
 rcases g with ⟨kvs,k,e,ey,l⟩ | ⟨kvs,k,b,e,ey,eb,l⟩
 ·subst ey
  obtain ⟨z,hd,vs,rel,dd⟩:=dk_rd I.hok e
  refine wpAny_notIn_of (kV_is ry) hd dd.mapOf ?_
  rw [← (rel.val k).isSome_eq,← l]
  exact h _ (I.tok _)
 ·subst ey
  cases (show u=Value.ref b from ry)
  obtain ⟨z,hd,xs,rel,dd⟩:=dt_rd I.hok e
  refine wpAny_notIn_heap (tupleKind_room_in1 hu) (key_of I.hok eb) hd dd ?_
  have q:=(rel.val k).isSome_eq
  rw [Option.isSome_map] at q
  rw [← q,← l]
  exact h _ (I.tok _)
theorem d_write {h':Heap} {t':Nat} {ob:HO} (I:Inv X pins σ H s) (mu:Mut (H a)) (hs:Heap.SameBut a s.heap h') (he:∃ q,h'.get? a=some q) (new:ObjOk X.prog X.w (upd H a ob) h' a ob) :
  Inv X pins σ (upd H a ob) { s with heap:=h',toks:=t' } :=
 I.write (x:=a) (e:=a) mu (.inl rfl) (fun b q hb z=>(hs.2 b hb).trans z) he new
theorem dk_new {P:Program} {w:World} {H':Hp} {h':Heap} {kvs:List (Key×V)} {vs:List (Key×Value)} (z:kvs.length<=sizeLine) (hd:(a == sysModules)=false) (rel:KV kvs vs) (dd:h'.DictOf (mixKind P w) a vs) :
  ObjOk P w H' h' a (.dK kvs):=⟨z,hd,vs,rel,dd⟩
theorem d_setItem {H':Hp} {Q:Unit->Shared->Prop} (hu:A.units + 1 < cLine) (I:Inv X pins σ H s) (g:DPut H a y v H') (ry:RelV y u) (rv:RelV v r) (h:∀ s',Inv X pins σ H' s'->Q () s') :
  wpAny (model X.prog X.w) A (setItem (.ref a) u r) Q E s:=by
 rcases g with ⟨kvs,k,e,ey,l,eH⟩ | ⟨kvs,k,b,e,ey,eb,l,eH⟩
 ·subst ey eH
  obtain ⟨z,hd,vs,rel,dd⟩:=dk_of I.hok e
  have hz:vs.length<=sizeLine:=by rw [← rel.length];exact z
  have hl:(putK kvs k v).length<=sizeLine:=by have:=length_putK kvs k v;omega
  refine wpAny_setItem_pairs (hsz:=hz) (kV_is ry) dd fun h' dd' hs=>h _ ?_
  have he:∃ q,h'.get? a=some q:=let ⟨q,_,_,hq,_⟩:=dd';⟨q,hq⟩
  exact d_write I (by rw [e];exact True.intro) hs he (dk_new hl hd (rel.put k rv) dd')
 ·subst ey eH
  cases (show u=Value.ref b from ry)
  obtain ⟨z,hd,xs,rel,dd⟩:=dt_of I.hok e
  have hz:xs.length<=sizeLine:=by rw [← Paired.length rel];exact z
  have hl:(putK kvs k v).length<=sizeLine:=by have:=length_putK kvs k v;omega
  refine wpAny_setItem_heap (hsz:=hz) (tupleKind_room_in1 hu) (key_of I.hok eb) dd fun h' dd' hs=>h _ ?_
  obtain ⟨q,es,ep,hq,h2,h3,h4,_,h5⟩:=dd'
  refine d_write I (by rw [e];exact True.intro) hs ⟨q,hq⟩ ⟨hl,hd,_,(rel.put k eb rv).keeps fun c ys ec=>?_,q,es,ep,hq,h2,h3,h4,h5⟩
  rw [upd_ne (ne_of ec e (fun z=>nomatch z))]
  exact ec
end
section
variable {X:Cx} {pins:List (Addr×Obj)} {σ:St} {H:Hp} {s:Shared} {a:Addr} {kvs:List (Key×V)} {k:Key} {u:Value} {A:Around} {E:Value->Shared->Prop}
theorem d_len {Q:Value->Shared->Prop} (I:Inv X pins σ H s) (e:Rd H a (.dK kvs)) (h:∀ t s',Inv X pins σ H s'->Q (.int kvs.length t) s'):wpAny (model X.prog X.w) A (call (.builtin "len") [.ref a]) Q E s:=by
 obtain ⟨z,hd,vs,rel,dd⟩:=dk_rd I.hok e
 refine call_len_dict hd dd (by rw [← rel.length];rw [sizeLine_eq] at z;omega) ?_
 rw [← rel.length]
 exact h _ _ (I.tok _)
end
def sDPut (td ty tv:TE):TS:=fun D σ H=>tv σ H fun v H1=>td σ H1 fun x H2=>ty σ H2 fun y H3=>∃ a H4,x=.ref a/\DPut H3 a y v H4/\D.nx σ H4
section
variable {X:Cx} {o i e value:Expr} {pos pos' tpos:Pos} {td ty tv:TE}
theorem ps_dput (hu:X.A.units + 1 < cLine) (ho:PE X o td) (hi:PE X i ty) (hv:PE X value tv) (hs:swapsWith value (some (.Subscript o i pos')) pos.line X.env=pure false) :
  PS X (.Assign [.Subscript o i pos'] value pos) (sDPut td ty tv):=by
 intro pins s σ H D I h
 refine wpAny_Assign_Subscript (thn (hv pins s σ H _ I h) fun r s1 ⟨v,H1,I1,rv,q1⟩=>thn (ho pins s1 σ H1 _ I1 q1) fun u s2 ⟨x,H2,I2,rx,q2⟩=>thn (hi pins s2 σ H2 _ I2 q2) fun iv s3 ⟨y,H3,I3,ry,a,H4,ex,g,q3⟩=>?_) hs
 subst ex
 obtain rfl:u=Value.ref a:=rx
 exact d_setItem hu I3 g ry rv fun s4 I4=>⟨σ,H4,I4,q3⟩
end
theorem dk_empty {P:Program} {w:World} {H:Hp} (h:Heap) (hb:sysModules < h.objs.size):ObjOk P w H (h.push { cls:=.type "dict",data:=.dict #[] }) h.objs.size (.dK []) :=
 ⟨Nat.zero_le _,beq_eq_false_iff_ne.mpr (Ne.symm (Nat.ne_of_lt hb)),[],.nil,Heap.DictOf.new h⟩
def tDNewK:TE:=fun _ H Q=>∀ p,H p=none->Q (.ref p) (upd H p (.dK []))
section
variable {X:Cx} {pos:Pos}
theorem pe_dnewK:PE X (.Dict [] [] pos) tDNewK:=fun pins s σ H Q I h =>
 wpAny_Dict_empty ⟨.ref s.heap.objs.size,_,I.laid (a:=s.heap.objs.size) (o:=.dK []) (t':=s.toks) (fun _ _ q=>Heap.get?_push_of_some _ q) (Nat.le_refl _) (dk_empty s.heap I.big),rfl,h _ (I.hok.fresh (Nat.le_refl _))⟩
end
structure M1 (X:Cx) (o:Expr) (m:Str) (apos:Pos) (e:Expr) (cpos:Pos):Prop where
 base:attributeBase o m X.env (eval o X.env)=eval o X.env
 few:((backTo cpos (starEach [e] X.env)).all (fun x=>!x.1) && (backToKw cpos (keywordEach [] X.env)).all (fun x=>x.1.isSome)
  && decide (([e]:List Expr).length + ([]:List Keyword).length + (if ([]:List Keyword).isEmpty then 0 else 1) < 30))=true
 line:(apos.endLine == cpos.line)=true
 trees:backTo cpos (starEach [e] X.env)=[(false,eval e X.env)]
structure M2 (X:Cx) (o:Expr) (m:Str) (apos:Pos) (e f:Expr) (cpos:Pos):Prop where
 base:attributeBase o m X.env (eval o X.env)=eval o X.env
 few:((backTo cpos (starEach [e,f] X.env)).all (fun x=>!x.1) && (backToKw cpos (keywordEach [] X.env)).all (fun x=>x.1.isSome)
  && decide (([e,f]:List Expr).length + ([]:List Keyword).length + (if ([]:List Keyword).isEmpty then 0 else 1) < 30))=true
 line:(apos.endLine == cpos.line)=true
 trees:backTo cpos (starEach [e,f] X.env)=[(false,eval e X.env),(false,eval f X.env)]
section
variable {X:Cx} {pins:List (Addr×Obj)} {σ:St} {H:Hp} {s:Shared} {a:Addr} {y d:V} {u r:Value} {o:Option V} {A:Around} {E:Value->Shared->Prop}
end
section
variable {X:Cx} {o e f:Expr} {apos cpos:Pos} {td ty tx:TE}
end
section
variable {X:Cx} {pins:List (Addr×Obj)} {σ:St} {H:Hp} {s:Shared} {a:Addr} {kvs:List (Key×V)} {A:Around} {E:Value->Shared->Prop}
end
section
variable {X:Cx} {pins:List (Addr×Obj)} {σ:St} {H:Hp} {s:Shared} {a:Addr} {y:V} {u:Value} {A:Around} {E:Value->Shared->Prop}
end
section
variable {X:Cx}
end
section
variable {κ:Type} [DecidableEq κ]
end
end L2
set_option maxRecDepth 100000
namespace L2
open PySem PySem.Spec PyProof.Rows
section
variable {X:Cx}
theorem PE.imp {e:Expr} {t t':TE} (h:PE X e t) (hi:∀ σ H Q,t' σ H Q->t σ H Q):PE X e t':=fun pins s σ H Q I q=>h pins s σ H Q I (hi _ _ _ q)
theorem PT.imp {e:Expr} {t t':TT} (h:PT X e t) (hi:∀ σ H Q,t' σ H Q->t σ H Q):PT X e t':=fun pins s σ H Q I q=>h pins s σ H Q I (hi _ _ _ q)
theorem PW.imp {e:Expr} {t t':TT} (h:PW X e t) (hi:∀ σ H Q,t' σ H Q->t σ H Q):PW X e t':=fun wh pins s σ H Q I q=>h wh pins s σ H Q I (hi _ _ _ q)
theorem PA.imp {e:List Expr} {t t':TA} (h:PA X e t) (hi:∀ σ H Q,t' σ H Q->t σ H Q):PA X e t':=fun pos pins s σ H Q I q=>h pos pins s σ H Q I (hi _ _ _ q)
theorem PS.imp {e:Stmt} {t t':TS} (h:PS X e t) (hi:∀ D σ H,t' D σ H->t D σ H):PS X e t':=fun pins s σ H D I q=>h pins s σ H D I (hi _ _ _ q)
theorem PSs.imp {e:List Stmt} {t t':TS} (h:PSs X e t) (hi:∀ D σ H,t' D σ H->t D σ H):PSs X e t':=fun pins s σ H D I q=>h pins s σ H D I (hi _ _ _ q)
theorem PG.imp {e:Expr} {t t':TG} (h:PG X e t) (hi:∀ v σ H Q,t' v σ H Q->t v σ H Q):PG X e t':=fun pins s σ H v u Q I r q=>h pins s σ H v u Q I r (hi _ _ _ _ q)
end
end L2
namespace L2
open PySem PySem.Spec PyProof.Rows
section
variable {prog:Program} {w:World} {A:Around} {R:Result->Shared->Prop} {s:Shared}
theorem comp_loop {elt target iter:Expr} {ifs:List Expr} {scope:Scope} {pos:Pos} {it acc:Value} {env:Env} (I:Nat->Shared->Prop)
  (turn:∀ n s,I n s->wpAny (model prog w) A (pyNext it) (fun r s₁=>match r with
   | none=>R (.ok .next) s₁
   | some v=>wpAny (model prog w) A (letOwnedTupleGo target it v) (fun _ s₁'=>wpAny (model prog w) A (assign target env v) (fun _ s₂ =>
     wpAny (model prog w) A (forIn ifs true fun c r=>if r=true then do let ok ← isTrue c env (eval c env);pure (ForInStep.yield ok) else pure (ForInStep.yield r)) (fun ok s₃ =>
      if ok=true then wpAny (model prog w) A (eval elt env) (fun x s₄ =>
       wpAny (model prog w) A (call (.builtin "list.append") [acc,x]) (fun _ s₅=>∃ m,m < n/\I m s₅) (fun _ _=>False) s₄) (fun _ _=>False) s₃
      else ∃ m,m < n/\I m s₃) (fun _ _=>False) s₂) (fun _ _=>False) s₁') (fun _ _=>False) s₁) (fun _ _=>False) s)
  (n:Nat) (h:I n s):codeAny (model prog w) A (.compLoop (.ListComp elt [⟨target,iter,ifs,0⟩] scope pos) 0 it acc env) R s:=by
 refine codeAny_loop rfl I (fun n s hI=>?_) n h
 show wpAny _ A ((compTurn (.ListComp elt [⟨target,iter,ifs,0⟩] scope pos) 0 it acc env).onRaise (fun x=>do noteFrame x env;theTreesLotGoes x)) _ _ s
 refine wpAny_noted ?_
 rw [compTurn_list]
 refine wpAny_mono (E:=fun _ _=>False) ?_ (fun _ _ q=>q) (fun _ _ q=>q.elim)
 refine wpAny_bind (wpAny_standAt (wpAny_bind (wpAny_mono (turn n s hI) (fun r s₁ h₁=>?_) fun _ _ h'=>h')))
 cases r with
 | none=>exact wpAny_pure h₁
 | some v =>
  refine wpAny_bind (wpAny_mono h₁ (fun _ s₁' h₁'=>?_) fun _ _ h'=>h')
  refine wpAny_bind (wpAny_mono h₁' (fun _ s₂ h₂=>wpAny_bind (wpAny_mono h₂ (fun ok s₃ h₃=>?_) fun _ _ h'=>h')) fun _ _ h'=>h')
  cases ok with
  | false=>exact wpAny_pure ⟨rfl,h₃⟩
  | true =>
   exact wpAny_bind (wpAny_bind (wpAny_mono h₃ (fun x s₄ h₄=>wpAny_bind (wpAny_mono h₄ (fun _ s₅ h₅=>wpAny_pure (wpAny_pure ⟨rfl,h₅⟩)) fun _ _ h'=>h')) fun _ _ h'=>h'))
end
def clOf (f:Str->Option Addr):List (Str×NameKind)->List (Str×Addr)->List (Str×Addr)
 | [],acc=>acc
 | (n,k)::r,acc=>if k == .free then (match f n with
  | some c=>clOf f r ((n,c)::acc)
  | none=>clOf f r acc) else clOf f r acc
theorem clOf_mem {f:Str->Option Addr}:∀ {names:List (Str×NameKind)} {acc:List (Str×Addr)} {x:Str} {c:Addr},(x,c)∈clOf f names acc->(x,c)∈acc\/f x=some c
 | [],acc,x,c,h=>.inl h
 | (n,k)::r,acc,x,c,h=>by
  unfold clOf at h
  split at h
  ·cases e:f n with
   | none=>rw [e] at h;exact clOf_mem h
   | some c' =>
    rw [e] at h
    rcases clOf_mem h with z | z
    ·rcases List.mem_cons.mp z with z | z
     ·cases z;exact .inr e
     ·exact .inl z
    ·exact .inr z
  ·exact clOf_mem h
theorem clOf_acc {f:Str->Option Addr}:∀ {names:List (Str×NameKind)} {acc:List (Str×Addr)} {p:Str×Addr},p∈acc->p∈clOf f names acc
 | [],acc,p,h=>h
 | (n,k)::r,acc,p,h=>by
  unfold clOf
  split
  ·cases e:f n with
   | none=>exact clOf_acc h
   | some c'=>exact clOf_acc (List.mem_cons_of_mem _ h)
  ·exact clOf_acc h
theorem clOf_has {f:Str->Option Addr}:∀ {names:List (Str×NameKind)} {acc:List (Str×Addr)} {x:Str} {c:Addr},(x,NameKind.free)∈names->f x=some c->∃ c',(x,c')∈clOf f names acc
 | [],acc,x,c,h,_=>nomatch h
 | (n,k)::r,acc,x,c,h,hf=>by
  unfold clOf
  rcases List.mem_cons.mp h with z | z
  ·cases z
   rw [if_pos (by decide),hf]
   exact ⟨c,clOf_acc List.mem_cons_self⟩
  ·split
   ·cases e:f n with
    | none=>exact clOf_has z hf
    | some c'=>exact clOf_has z hf
   ·exact clOf_has z hf
theorem closure_is {scope:Scope} {env:Env} (h:∀ y∈scope.names,y.2=.free->∃ c,env.cells.lookup y.1=some c):closureFor scope env=pure (clOf (fun x=>env.cells.lookup x) scope.names []):=by
 unfold closureFor
 suffices H:∀ (names:List (Str×NameKind)) (acc:List (Str×Addr)),(∀ y∈names,y.2=.free->∃ c,env.cells.lookup y.1=some c) ->
   (forIn names acc fun x cs=>do
    match x with
    | (name,kind)=>if (kind == .free)=true then do
      let a ← cellOf env name
      pure (ForInStep.yield ((name,a)::cs)) else pure (ForInStep.yield cs):Sem (List (Str×Addr)))=pure (clOf (fun x=>env.cells.lookup x) names acc) by
  have:=H scope.names [] h
  simp only [bind_pure] at this ⊢
  exact this
 intro names
 induction names with
 | nil=>intro acc _;rfl
 | cons y r ih =>
  intro acc hh
  obtain ⟨n,k⟩:=y
  rw [List.forIn_cons]
  by_cases hk:(k == NameKind.free)=true
  ·obtain ⟨c,hc⟩:=hh (n,k) List.mem_cons_self (by simpa using hk)
   simp only [hk,if_true,cellOf,hc,pure_bind,clOf]
   exact ih _ fun z hz=>hh z (List.mem_cons_of_mem _ hz)
  ·have hk':(k == NameKind.free)=false:=by simpa using hk
   simp only [hk',Bool.false_eq_true,if_false,pure_bind,clOf]
   exact ih _ fun z hz=>hh z (List.mem_cons_of_mem _ hz)
theorem relabel_kind {env:Env}:∀ {names:List (Str×NameKind)} {x:Str},(∀ y∈names,y.2≠.cell) ->
  ((names.map fun (n,k)=>if (k == NameKind.free && env.scope.kind == .function && env.kindOf n == some .cell) then (n,NameKind.cell) else (n,k)).lookup x=some .cell \/
   (names.map fun (n,k)=>if (k == NameKind.free && env.scope.kind == .function && env.kindOf n == some .cell) then (n,NameKind.cell) else (n,k)).lookup x=some .free)->(x,NameKind.free)∈names
 | [],x,_,h=>by simp at h
 | (n,k)::r,x,hc,h=>by
  have ih:=@relabel_kind env r x fun y hy=>hc y (List.mem_cons_of_mem _ hy)
  simp only [List.map_cons] at h
  by_cases hk:(k == NameKind.free && env.scope.kind == .function && env.kindOf n == some .cell)=true
  ·rw [if_pos hk] at h
   by_cases hx:(x == n)=true
   ·have:x=n:=by simpa using hx
    subst this
    have hkf:k=.free:=by
     simp only [Bool.and_eq_true,beq_iff_eq] at hk
     exact hk.1.1
    subst hkf
    exact List.mem_cons_self
   ·have hx':(x == n)=false:=by simpa using hx
    simp only [List.lookup_cons,hx'] at h
    exact List.mem_cons_of_mem _ (ih h)
  ·rw [if_neg hk] at h
   by_cases hx:(x == n)=true
   ·have:x=n:=by simpa using hx
    subst this
    simp only [List.lookup_cons,beq_self_eq_true] at h
    rcases h with h | h
    ·have:=hc (x,k) List.mem_cons_self
     exact absurd (Option.some.inj h) this
    ·have hkf:k=.free:=Option.some.inj h
     subst hkf
     exact List.mem_cons_self
   ·have hx':(x == n)=false:=by simpa using hx
    simp only [List.lookup_cons,hx'] at h
    exact List.mem_cons_of_mem _ (ih h)
theorem mem_lookup {l:List (Str×Addr)} {x:Str} {c:Addr} (h:(x,c)∈l):∃ c',l.lookup x=some c':=by
 induction l with
 | nil=>cases h
 | cons p r ih =>
  obtain ⟨n,a⟩:=p
  by_cases hx:(x == n)=true
  ·exact ⟨a,by simp only [List.lookup_cons,hx]⟩
  ·have hx':(x == n)=false:=by simpa using hx
   simp only [List.lookup_cons,hx']
   rcases List.mem_cons.mp h with z | z
   ·cases z;simp at hx
   ·exact ih z
structure CNames (X:Cx) (scope:Scope) (N':List Str) (k:Nat) (ix:List Nat):Prop where
 cell:∀ y∈scope.names,y.2≠.cell
 kind:scope.kind=.function
 loc:∀ y∈scope.names,y.2=.local->scope.names.lookup y.1=some .local
 fre:∀ y∈scope.names,y.2=.free->X.env.kindOf y.1=some .cell\/X.env.kindOf y.1=some .free
 len:N'.length=k + ix.length
 ref:∀ (j i:Nat) (x:Str),ix[j]? = some i->N'[k + j]? = some x->X.N[i]? = some x/\(X.env.kindOf x=some .cell\/X.env.kindOf x=some .free)/\(relabel scope X.env).names.lookup x≠some .local
abbrev clX (X:Cx) (scope:Scope):List (Str×Addr):=clOf (fun x=>X.env.cells.lookup x) scope.names []
def blk (X:Cx) (N':List Str) (scope:Scope) (C:Addr) (s2:Shared) (H2:Hp) (fp:List Addr) (pins:List (Addr×Obj)):Cx :=
 { X with N:=N',s₀:=s2,H₀:=H2,env:=compEnvC scope (clX X scope) C X.env,outer:=X.stack,ex:=fp,fn:=fun _=>false,pn:=X.pn++pins,xe:=fun _ _=>False }
def σin (k:Nat) (ix:List Nat) (σ:St):St:=List.replicate k none++ix.map fun i=>(σ[i]?).join
section
variable {X:Cx} {pins:List (Addr×Obj)} {σ:St} {H2:Hp} {s2:Shared} {scope:Scope} {N':List Str} {k:Nat} {ix:List Nat} {fp:List Addr}
theorem clX_sub {x:Str} {c:Addr} (h:(clX X scope).lookup x=some c):X.env.cells.lookup x=some c:=by
 rcases clOf_mem (PySem.mem_of_lookup h) with z | z
 ·cases z
 ·exact z
theorem blk_start {C D:Addr} {h1:Heap} {tk:Nat} {m0:Str->Option Value} (I:Inv X pins σ H2 s2) (hf:∀ b∈fp,FpOk X pins H2 b) (hfo:∀ b∈fp,b < s2.heap.objs.size) (S:CNames X scope N' k ix) (hD:D=s2.heap.objs.size) (hC:s2.heap.objs.size < C)
  (hns:h1.Ns C m0) (hk:∀ b o,s2.heap.get? b=some o->h1.get? b=some o) (hl:h1.get? D=some { cls:=.type "list",data:=.seq ([]:List Value).toArray }) :
  Inv (blk X N' scope C s2 H2 fp pins) [] (σin k ix σ) (upd H2 D (.lst [])) { s2 with heap:=h1,toks:=tk }:=by
 have hDn:H2 D=none:=I.hok.fresh (by rw [hD];exact Nat.le_refl _)
 have hCD:C≠D:=by rw [hD];exact Nat.ne_of_gt hC
 have freshC:H2 C=none:=I.hok.fresh (Nat.le_of_lt hC)
 have has:∀ x,((compEnvC scope (clX X scope) C X.env).kindOf x=some .cell\/(compEnvC scope (clX X scope) C X.env).kindOf x=some .free)->∃ c,(clX X scope).lookup x=some c:=fun x hx=>by
  have hm:=relabel_kind (env:=X.env) S.cell hx
  obtain ⟨c,hc⟩:=I.ok.has x (S.fre _ hm rfl)
  obtain ⟨c',hc'⟩:=clOf_has (f:=fun x=>X.env.cells.lookup x) (acc:=[]) hm hc
  exact mem_lookup hc'
 refine ⟨⟨I.ok.mod,S.kind,I.ok.glob,I.ok.blt,Nat.le_of_lt hC,fun x y c h1 h2=>I.ok.inj x y c (clX_sub h1) (clX_sub h2),has,fun x c z _=>absurd z Bool.false_ne_true,I.ok.hd,I.ok.frames,.inl rfl,fun b hb=>?_,I.bs,Nat.le_trans I.ok.bsz I.sz,fun b o e hb=>?_,fun b hb hs=>?_,I.stack,I.stkFree⟩,
  rfl,I.bare,?_,⟨m0,hns,fun i x v e1 e2 e3=>?_⟩,fun x c e=>?_,?_,fun x c e=>?_,fun p hp=>?_,?_,?_⟩
 ·exact ⟨Nat.ne_of_lt (Nat.lt_trans (hfo b hb) hC),fun x c e z=>(hf b hb).2.2.2.2.1 x c (clX_sub e) z⟩
 ·rcases (hf b hb).2.2.2.1 with z | z
  ·exact I.ok.noex b o e z
  ·exact absurd (Nat.lt_of_lt_of_le (Heap.lt_size e) (Nat.le_trans I.ok.bsz z)) (Nat.lt_irrefl _)
 ·rcases List.mem_cons.mp (I.stkSub b hs) with z | z
  ·exact (hf b hb).2.1 z
  ·exact (hf b hb).2.2.1 z
 ·exact (Un.laid (fun b u q=>hk b u q) (by rw [hD];exact Nat.le_refl _) hDn)
 ·have e2':(List.replicate k none++ix.map fun i=>(σ[i]?).join)[i]? = some (some v):=e2
  have hik:k<=i:=by
   rcases Nat.lt_or_ge i k with z | z
   ·rw [List.getElem?_append_left (by simpa using z),List.getElem?_replicate,if_pos z] at e2'
    cases e2'
   ·exact z
  obtain ⟨j,rfl⟩:∃ j,i=k + j:=⟨i - k,by lia⟩
  rw [List.getElem?_append_right (by simp),List.length_replicate,Nat.add_sub_cancel_left,List.getElem?_map] at e2'
  cases ej:ix[j]? with
  | none=>rw [ej] at e2';cases e2'
  | some i0 =>
   rw [ej] at e2'
   have e4:(σ[i0]?).join=some v:=Option.some.inj e2'
   have e5:σ[i0]? = some (some v):=by
    cases q:σ[i0]? with
    | none=>rw [q] at e4;cases e4
    | some z=>rw [q] at e4;exact congrArg some e4
   obtain ⟨r1,r2,r3⟩:=S.ref j i0 x ej e1
   obtain ⟨m,_,hl'⟩:=I.loc
   obtain ⟨u,hu,lk⟩:=hl' i0 x v r1 e5 (by rcases r2 with z | z;exact .inr (.inl z);exact .inr (.inr z))
   refine ⟨u,hu,?_⟩
   rcases lk with ⟨z,_⟩ | ⟨_,c,hc,hcell⟩
   ·rcases r2 with q | q <;> rw [z] at q <;> cases q
   ·have kk:(compEnvC scope (clX X scope) C X.env).kindOf x=some .cell\/(compEnvC scope (clX X scope) C X.env).kindOf x=some .free:=by
     rcases e3 with q | q
     ·exact absurd q r3
     ·exact q
    obtain ⟨c',hc'⟩:=has x kk
    have:=clX_sub hc'
    rw [hc] at this;cases this
    obtain ⟨o,ho,hd⟩:=hcell
    exact .inr ⟨kk,c,hc',o,hk _ _ ho,hd⟩
 ·obtain ⟨v,hv⟩:=I.cell x c (clX_sub e)
  obtain ⟨o,ho,hd⟩:=hv
  exact ⟨v,o,hk _ _ ho,hd⟩
 ·show upd H2 D (.lst []) C=none
  rw [upd_ne hCD];exact freshC
 ·have e':=clX_sub (X:=X) e
  show upd H2 D (.lst []) c=none
  obtain ⟨v,o,ho,_⟩:=I.cell x c e'
  rw [upd_ne (by rw [hD];exact Nat.ne_of_lt (Heap.lt_size ho))]
  exact I.freeC x c e'
 ·have hp':p∈X.pn++pins:=by
   have z:p∈(X.pn++pins)++[]:=hp
   rwa [List.append_nil] at z
  obtain ⟨q1,q2,q3,q4,q5⟩:=I.pin p hp'
  have lt:=Heap.lt_size q1
  refine ⟨hk _ _ q1,?_,Nat.ne_of_lt (Nat.lt_trans lt hC),fun z=>?_,q5⟩
  ·show upd H2 D (.lst []) p.1=none
   rw [upd_ne (by rw [hD];exact Nat.ne_of_lt lt)];exact q2
  ·rcases List.mem_cons.mp (I.stkSub p.1 z) with y | y
   ·exact q3 y
   ·exact q4 y
 ·exact I.hok.laid hk (by rw [hD];exact Nat.le_refl _) ⟨by simp,[],0,.nil,hl⟩
 ·show (List.replicate k none++ix.map fun i=>(σ[i]?).join).length=N'.length
  rw [S.len];simp
def PCs (X:Cx) (ifs:List Expr) (t:TT):Prop:=∀ (pins:List (Addr×Obj)) (s:Shared) (σ:St) (H:Hp) (Q:Bool->Hp->Prop),Inv X pins σ H s->t σ H Q ->
 wpAny (model X.prog X.w) X.A (forIn ifs true fun c r=>if r=true then do let ok ← isTrue c X.env (eval c X.env);pure (ForInStep.yield ok) else pure (ForInStep.yield r)) (TP X pins σ Q) X.xe s
def tYes:TT:=fun _ H Q=>Q true H
theorem pcs_nil {X:Cx}:PCs X [] tYes:=fun pins s σ H Q I h=>wpAny_tests_nil ⟨H,I,h⟩
theorem pcs_one {X:Cx} {c:Expr} {t:TT} (h:PT X c t):PCs X [c] t:=fun pins s σ H Q I q=>wpAny_tests_one (h pins s σ H Q I q)
def tComp (wi:TI) (g:TG) (gt:TT) (te:TE) (k:Nat) (ix:List Nat):TE:=fun σ H Q=>wi σ H fun J H1=>∀ D,H1 D=none->∃ W:Nat->Nat->St->List V->Hp->Prop,(∃ m,W 0 m (σin k ix σ) [] (upd H1 D (.lst []))) /\
 ∀ i m σ ys H,W i m σ ys H->H D=some (.lst ys)/\((J.stop i H/\Q (.ref D) H)\/(J.go i H/\ys.length < sizeLine/\∃ N:St->List V->Hp->Prop,(∀ σ' ys' H',N σ' ys' H'->∃ m',m' < m/\W (i + 1) m' σ' ys' H') /\
  ∀ x H',J.yld i H x H'->g x σ H' fun σ2 H2=>gt σ2 H2 fun b H3=>if b=true then te σ2 H3 fun y H4=>H4 D=some (.lst ys)/\N σ2 (ys++[y]) (upd H4 D (.lst (ys++[y]))) else N σ2 ys H3))
theorem comp_any {iter elt tg:Expr} {ifs:List Expr} {pos cpos:Pos} {wi:TI} {g:TG} {gt:TT} {te:TE} (hc:X.calm=true) (S:CNames X scope N' k ix) (hi:PI X tg iter wi)
  (hb:∀ C s2 H2 fp pins,PG (blk X N' scope C s2 H2 fp pins) tg g/\PCs (blk X N' scope C s2 H2 fp pins) ifs gt/\PE (blk X N' scope C s2 H2 fp pins) elt te)
  (hs:∀ x,foldedSetIterable iter X.env x=pure x) {use:Option (Value->Sem Unit)} {Q':Value->Shared->Prop} {pins:List (Addr×Obj)} {s:Shared} {σ:St} {H:Hp} {Q:VK} (I:Inv X pins σ H s) (h:tComp wi g gt te k ix σ H Q)
  (fin:∀ (D C:Addr) (H4:Hp) (s5:Shared),FpOk X pins H4 C->(∃ m,s5.heap.Ns C m)->(∀ h',Heap.SameBut C s5.heap h'->Inv X pins σ H4 { s5 with heap:=h' })->Q (.ref D) H4->compPost (model X.prog X.w) X.A X.xe use Q' (.ref D) C (.ok .next) s5) :
  wpAny (model X.prog X.w) X.A (comprehension (.ListComp elt [⟨tg,iter,ifs,0⟩] scope pos) scope X.env cpos (newList []) false (eval iter X.env) use) Q' X.xe s:=by
 have hcl:closureFor scope X.env=pure (clX X scope):=closure_is fun y hy hk=>I.ok.has y.1 (S.fre y hy hk)
 refine wpAny_comprehension_free (use:=use) rfl hs hcl S.kind S.loc (wpAny_mono (hi pins s σ H _ I h) (fun v s1 h1=>wpAny_mono h1 (fun itv s2 h2=>?_) fun _ _ e=>e) fun _ _ e=>e)
 obtain ⟨it,fp,tn,J,H2,e,I2,T,st2,f2,q⟩:=h2
 subst e
 refine wpAny_newObj_type (wpAny_newFunctionEnv S.cell (by intro y hy;simp at hy) (fun h₁ hns₁ hsb₁=>?_) S.kind)
 dsimp only at hns₁ hsb₁ ⊢
 generalize hH2:s2.heap.push { cls:=.type "list",dict:=none,data:=.seq ([]:List Value).toArray }=G2 at hns₁ hsb₁ ⊢
 have hC:G2.objs.size=s2.heap.objs.size + 1:=by rw [← hH2,Heap.size_push]
 have hDC:s2.heap.objs.size≠G2.objs.size:=by rw [hC];exact Nat.ne_of_lt (Nat.lt_succ_self _)
 have below:∀ b,b < s2.heap.objs.size->b≠G2.objs.size:=fun b hb=>by rw [hC];exact Nat.ne_of_lt (Nat.lt_succ_of_lt hb)
 have old:∀ b o,s2.heap.get? b=some o->h₁.get? b=some o:=fun b o e=>hsb₁.extBut b o (below b (Heap.lt_size e)) (Heap.get?_push_of_some _ (hH2 ▸ Heap.get?_push_of_some _ e))
 have hacc:h₁.get? s2.heap.objs.size=some { cls:=.type "list",data:=.seq ([]:List Value).toArray }:=hsb₁.extBut _ _ hDC (Heap.get?_push_of_some _ (hH2 ▸ Heap.get?_push_size _ rfl))
 obtain ⟨W,⟨m0,w0⟩,turn⟩:=q s2.heap.objs.size (I2.hok.fresh (Nat.le_refl _))
 have hfo:∀ b∈fp,b < s2.heap.objs.size:=fun b hb=>by
  obtain ⟨o,ho,_⟩:=T.obj _ _ st2 b hb
  exact Heap.lt_size ho
 have I3:=blk_start (C:=G2.objs.size) (D:=s2.heap.objs.size) (h1:=h₁) (tk:=s2.toks + ([]:List (Str×Value)).length) I2 f2 hfo S rfl (by rw [hC];exact Nat.lt_succ_self _) hns₁ old hacc
 have st3:tn 0 h₁:=T.keep _ _ _ st2 fun b hb o e=>old b o e
 obtain ⟨hg,hcs,he⟩:=hb G2.objs.size s2 H2 fp pins
 have fpo:∀ {H':Hp},(∀ b∈fp,H' b=none)->∀ b∈fp,FpOk (blk X N' scope G2.objs.size s2 H2 fp pins) [] H' b:=fun hn b hb=>by
  obtain ⟨_,q1,q2,_,q4,q5⟩:=f2 b hb
  refine ⟨hn b hb,Nat.ne_of_lt (Nat.lt_trans (hfo b hb) (by rw [hC];exact Nat.lt_succ_self _)),fun z=>?_,.inl hb,fun x c e z=>q4 x c (clX_sub e) z,fun p hp=>?_⟩
  ·rcases List.mem_cons.mp (I2.stkSub b z) with y | y
   ·exact q1 y
   ·exact q2 y
  ·have z:p∈(X.pn++pins)++[]:=hp
   rw [List.append_nil] at z
   exact q5 p z
 have loop:∀ s3:Shared,s3={ s2 with heap:=h₁,toks:=s2.toks + ([]:List (Str×Value)).length } ->
   codeAny (model X.prog X.w) X.A (.compLoop (.ListComp elt [⟨tg,iter,ifs,0⟩] scope pos) 0 (.ref it) (.ref s2.heap.objs.size) (compEnvC scope (clX X scope) G2.objs.size X.env))
    (compPost (model X.prog X.w) X.A X.xe use Q' (.ref s2.heap.objs.size) G2.objs.size) s3:=by
  rintro s3 rfl
  refine comp_loop (fun n s'=>∃ i σ' ys H',Inv (blk X N' scope G2.objs.size s2 H2 fp pins) [] σ' H' s'/\tn i s'.heap/\(∀ b∈fp,H' b=none)/\W i n σ' ys H') ?_ m0 ⟨0,_,[],_,I3,st3,fun b hb=>?_,w0⟩
  ·rintro n s4 ⟨i,σ4,ys,H4,I4,st4,fr4,w4⟩
   obtain ⟨hD4,w5⟩:=turn i n σ4 ys H4 w4
   rcases w5 with ⟨stop,qn⟩ | ⟨go,hlen,N,hN,step⟩
   ·refine thn (T.done (blk X N' scope G2.objs.size s2 H2 fp pins) rfl rfl rfl hc i [] s4 σ4 H4 (fun _ _=>False) I4 (fpo fr4) st4 stop) fun r s5 ⟨hr,I5⟩=>?_
    subst hr
    obtain ⟨m5,ns5,_⟩:=I5.loc
    have nC0:H4 G2.objs.size=none:=I5.free
    refine fin _ _ H4 s5 (I2.fpOk (by rw [hC];exact Nat.le_succ _) nC0) ⟨m5,ns5⟩ (fun h' hs'=>?_) qn
    have off:∀ b o,b≠G2.objs.size->s5.heap.get? b=some o->h'.get? b=some o:=fun b o hb e=>hs'.extBut b o hb e
    have nC:H4 G2.objs.size=none:=I5.free
    have ne2:∀ b o,s2.heap.get? b=some o->b≠G2.objs.size:=fun b o e=>below b (Heap.lt_size e)
    have u5:=I5.base
    have un:Un (frs X.stack) fp H2 H4 s2.heap h':=⟨fun b o e n hb hx=>off b o (ne2 b o e) (u5.keep b o e n hb hx),fun b o e n hb hx=>by
      obtain ⟨sl,q⟩:=u5.slot b o e n hb hx
      exact ⟨sl,off b _ (ne2 b o e) q⟩,u5.free,fun b o e hx=>by
      obtain ⟨o',q⟩:=u5.there b o e hx
      exact ⟨o',off b o' (ne2 b o e) q⟩,u5.tups,u5.frzs,u5.tbls⟩
    have hok:HOk X.prog X.w H4 h':=fun b u e=>(I5.hok b u e).stay (fun c v hc q=>off c v (fun z=>by
      rcases hc with y | y
      ·rw [← y,z,nC] at e;cases e
      ·rw [z,nC] at y;cases y) q) (fun _ q=>q) fun _ _ q=>q
    exact I2.call' (s':={ s5 with heap:=h' }) (ch:=fp) I5.os un hok I5.bare (fun b hb=>by
     obtain ⟨_,q1,_,q3,q4,q5⟩:=f2 b hb
     exact ⟨q3,q1,q4,q5⟩)
   ·refine thn (T.item (blk X N' scope G2.objs.size s2 H2 fp pins) rfl rfl rfl hc i [] s4 σ4 H4 (fun _ _=>False) I4 (fpo fr4) st4 go) fun r s5 ⟨u,hr,h5⟩=>?_
    subst hr
    refine thn h5 fun _ s6 ⟨x,H6,I6,r6,y6,st6,fr6⟩=>?_
    have I6':=I6.pinned (fpo fr6) (T.obj _ _ st6)
    refine thn (hg _ s6 σ4 H6 x u _ I6' r6 (step x H6 y6)) fun _ s7 ⟨σ7,H7,I7,q7⟩=>?_
    refine thn (hcs _ s7 σ7 H7 _ I7 q7) fun ok s8 ⟨H8,I8,q8⟩=>?_
    have again:∀ {σ9:St} {zs:List V} {H9:Hp} {s9:Shared},Inv (blk X N' scope G2.objs.size s2 H2 fp pins) ([]++pinsAt fp s6.heap) σ9 H9 s9->N σ9 zs H9 ->
      ∃ m,m < n/\∃ i σ' ys H',Inv (blk X N' scope G2.objs.size s2 H2 fp pins) [] σ' H' s9/\tn i s9.heap/\(∀ b∈fp,H' b=none)/\W i m σ' ys H':=fun {σ9 zs H9 s9} I9 n9=>by
     obtain ⟨m',hm,w9⟩:=hN σ9 zs H9 n9
     refine ⟨m',hm,i + 1,σ9,zs,H9,I9.unpinned,T.keep _ _ _ st6 fun b hb o e=>(I9.pin (b,o) (List.mem_append_right _ (List.mem_append_right _ (mem_pinsAt hb e)))).1,fun b hb=>?_,w9⟩
     obtain ⟨o,e,d⟩:=T.obj _ _ st6 b hb
     exact (I9.pin (b,o) (List.mem_append_right _ (List.mem_append_right _ (mem_pinsAt hb e)))).2.1
    cases ok with
    | false=>exact again I8 q8
    | true =>
     refine thn (he _ s8 σ7 H8 _ I8 q8) fun xv s9 ⟨y,H9,I9,r9,hD9,n9⟩=>?_
     exact thn (mt_append (X:=blk X N' scope G2.objs.size s2 H2 fp pins) _ s9 σ7 H9 (.ref s2.heap.objs.size) [y] _ _ (fun v H'=>H'=upd H9 s2.heap.objs.size (.lst (ys++[y]))) I9 rfl (.cons r9 .nil) ⟨_,ys,y,rfl,rfl,hD9,hlen,rfl⟩)
      fun _ s10 ⟨v10,H10,I10,_,e10⟩=>by subst e10;exact again I10 n9
  ·show upd H2 s2.heap.objs.size (.lst []) b=none
   rw [upd_ne (Nat.ne_of_lt (hfo b hb))]
   exact (f2 b hb).1
 exact codeAny_compStart_list (loop _ rfl) (T.self _ 0 _ _ _ st3 (loop _ rfl))
theorem pe_comp {iter elt tg:Expr} {ifs:List Expr} {pos:Pos} {wi:TI} {g:TG} {gt:TT} {te:TE} (hc:X.calm=true) (S:CNames X scope N' k ix) (hi:PI X tg iter wi)
  (hb:∀ C s2 H2 fp pins,PG (blk X N' scope C s2 H2 fp pins) tg g/\PCs (blk X N' scope C s2 H2 fp pins) ifs gt/\PE (blk X N' scope C s2 H2 fp pins) elt te)
  (hs:∀ x,foldedSetIterable iter X.env x=pure x:=by intro _;rfl):PE X (.ListComp elt [⟨tg,iter,ifs,0⟩] scope pos) (tComp wi g gt te k ix):=by
 intro pins s σ H Q I h
 rw [eval_ListComp]
 refine comp_any hc S hi hb hs I h fun D C H4 s5 _ ⟨m5,ns5⟩ iv q=>⟨m5,ns5,fun h' hs'=>⟨.ref D,H4,iv h' hs',rfl,q⟩⟩
theorem ps_comp {i:Nat} {x:Str} {pos' spos:Pos} {iter elt tg:Expr} {ifs:List Expr} {pos:Pos} {wi:TI} {g:TG} {gt:TT} {te:TE} (hN:X.N.Nodup) (hx0:X.N[i]? = some x) (hx:Loc X.env.scope x)
  (hsw:swapsWith (.ListComp elt [⟨tg,iter,ifs,0⟩] scope pos) (some (.Name x pos')) spos.line X.env=pure true)
  (hf:X.fn x=true\/X.env.scope.names.lookup x=some .local) (hc:X.calm=true) (S:CNames X scope N' k ix) (hi:PI X tg iter wi)
  (hb:∀ C s2 H2 fp pins,PG (blk X N' scope C s2 H2 fp pins) tg g/\PCs (blk X N' scope C s2 H2 fp pins) ifs gt/\PE (blk X N' scope C s2 H2 fp pins) elt te)
  (hs:∀ x,foldedSetIterable iter X.env x=pure x:=by intro _;rfl):PS X (.Assign [.Name x pos'] (.ListComp elt [⟨tg,iter,ifs,0⟩] scope pos) spos) (tAsg (tComp wi g gt te k ix) (gName i)):=by
 intro pins s σ H D I h
 rw [exec_Assign_Name_used _ _ _ _ hsw]
 refine wpAny_bind (wpAny_standAt (wpAny_bind ?_))
 show wpAny _ X.A (do let _ ← comprehension (.ListComp elt [⟨tg,iter,ifs,0⟩] scope pos) scope X.env _ (newList []) false (eval iter X.env) (some (assign (.Name x pos') X.env))) _ _ s
 refine wpAny_bind (wpAny_mono (comp_any (use:=some (assign (.Name x pos') X.env)) (Q':=fun _ s'=>SP X pins D .next s') hc S hi hb hs I h fun D' C H4 s5 fp ⟨m5,ns5⟩ iv q=>?_) (fun _ s' hq=>wpAny_pure (wpAny_pure hq)) fun _ _ e=>e)
 show wpAny _ X.A (assign (.Name x pos') X.env (.ref D')) _ _ s5
 have J:Inv X pins σ H4 s5:=iv s5.heap (Heap.SameBut.refl _ _)
 obtain ⟨oC,e1,e2,hoC,e3⟩:=id ns5
 have J':Inv X (pins++pinsAt [C] s5.heap) σ H4 s5:=J.pinned (fp:=[C]) (fun b hb=>by rw [List.mem_singleton.mp hb];exact fp) fun b hb=>by
  rw [List.mem_singleton.mp hb]
  refine ⟨oC,hoC,fun v hv=>?_⟩
  rw [hv] at e3
  simp at e3
 refine wpAny_assign_Name (store_ok J' hN hx0 hx (show RelV (.ref D') (.ref D') from rfl) (fun s6 I6=>?_) hf)
 have pC:=I6.pin (C,oC) (List.mem_append_right _ (List.mem_append_right _ (mem_pinsAt List.mem_cons_self hoC)))
 refine ⟨m5,⟨oC,e1,e2,pC.1,e3⟩,fun h' hs'=>?_⟩
 obtain ⟨q0,q1,q2,q3,q4,q5⟩:=fp
 have off:∀ b o,b≠C->s6.heap.get? b=some o->h'.get? b=some o:=fun b o hb e=>hs'.extBut b o hb e
 have un:Un (frs X.stack) [C] H4 H4 s6.heap h':=⟨fun b o e _ _ hx=>off b o (fun z=>hx (by rw [z];exact List.mem_cons_self)) e,fun b o e _ _ hx=>⟨o.slots,off b o (fun z=>hx (by rw [z];exact List.mem_cons_self)) e⟩,
  fun _ _ _ n _=>n,fun b o e hx=>⟨o,off b o (fun z=>hx (by rw [z];exact List.mem_cons_self)) e⟩,fun _ _ e=>e,fun _ _ _ e=>e,fun b ps e=>⟨#[],by rw [Array.append_empty];exact e⟩⟩
 have hok:HOk X.prog X.w H4 h':=fun b u e=>(I6.hok b u e).stay (fun c v hc q=>off c v (fun z=>by
   rcases hc with y | y
   ·rw [← y,z,q0] at e;cases e
   ·rw [z,q0] at y;cases y) q) (fun _ q=>q) fun _ _ q=>q
 exact ⟨_,H4,I6.unpinned.call' (s':={ s6 with heap:=h' }) (ch:=[C]) rfl un hok I6.bare (fun b hb=>by
  rw [List.mem_singleton.mp hb]
  exact ⟨q3,q1,q4,q5⟩),q⟩
structure CompR (X:Cx) (e:Expr) (te:TE):Prop where
 pe:PE X e te
 ps:∀ (i:Nat) (x:Str) (pos' spos:Pos),X.N.Nodup->X.N[i]? = some x->Loc X.env.scope x->swapsWith e (some (.Name x pos')) spos.line X.env=pure true->(X.fn x=true\/X.env.scope.names.lookup x=some .local)->PS X (.Assign [.Name x pos'] e spos) (tAsg te (gName i))
theorem CompR.imp {e:Expr} {te te':TE} (h:CompR X e te) (k:∀ σ H Q,te' σ H Q->te σ H Q):CompR X e te' :=
 ⟨h.pe.imp k,fun i x pos' spos a b c d f=>(h.ps i x pos' spos a b c d f).imp fun D σ H q=>k σ H _ q⟩
theorem comp_r {iter elt tg:Expr} {ifs:List Expr} {pos:Pos} {wi:TI} {g:TG} {gt:TT} {te:TE} (hc:X.calm=true) (S:CNames X scope N' k ix) (hi:PI X tg iter wi)
  (hb:∀ C s2 H2 fp pins,PG (blk X N' scope C s2 H2 fp pins) tg g/\PCs (blk X N' scope C s2 H2 fp pins) ifs gt/\PE (blk X N' scope C s2 H2 fp pins) elt te)
  (hs:∀ x,foldedSetIterable iter X.env x=pure x:=by intro _;rfl):CompR X (.ListComp elt [⟨tg,iter,ifs,0⟩] scope pos) (tComp wi g gt te k ix) :=
 ⟨pe_comp hc S hi hb hs,fun i x pos' spos a b c d f=>ps_comp a b c d f hc S hi hb hs⟩
end
end L2
namespace DL
open PySem PySem.Spec PyProof.Rows L2
abbrev St:=L2.St
inductive D where
 | non | bl (b:Bool) | int (i:Int) | str (x:Str) | tup (xs:List D) | lst (xs:List D) | frl (xs:List D) | dic (ks:List Key) (ds:List D) | obj (c:Str) | dip (ks:List (List Key)) (ds:List D)
 deriving Inhabited
structure Exn where
 cls:Str
 args:List D
inductive Ou (α:Type) where
 | ok (a:α) | ex (e:Exn) | bad
def Ou.bind {α β:Type}:Ou α->(α->Ou β)->Ou β
 | .ok a,f=>f a
 | .ex e,_=>.ex e
 | .bad,_=>.bad
@[simp] theorem bind_ok {α β:Type} (a:α) (f:α->Ou β):(Ou.ok a).bind f=f a:=rfl
@[simp] theorem bind_ex {α β:Type} (e:Exn) (f:α->Ou β):(Ou.ex e:Ou α).bind f=.ex e:=rfl
@[simp] theorem bind_bad {α β:Type} (f:α->Ou β):(Ou.bad:Ou α).bind f=.bad:=rfl
inductive Sl where
 | un | val (d:D) | own (d:D)
abbrev DS:=List Sl
abbrev Fn:=DS->Ou D
def FrK (K:PySem.W.Frag) (H:Hp) (a:Addr) (xs:List V):Prop :=
 (∃ o,H a=some (.frz o (.lst xs))) \/
  ∃ (o:Obj) (its:Array Value) (n:Nat),K.lookup a=some o/\o.cls=.type "list"/\o.dict=none/\o.data=.seq its n/\its.size<=sizeLine/\Vals xs its.toList
theorem FrK.sq {K:PySem.W.Frag} {H:Hp} {a:Addr} {xs:List V} (h:FrK K H a xs):SqL K H a xs:=by
 rcases h with ⟨o,h⟩ | h
 ·exact .inl (.inr ⟨o,h⟩)
 ·exact .inr h
mutual
def Rep (K:PySem.W.Frag) (B:Addr->Prop) (H:Hp):D->V->Prop
 | .non,v=>v=.non
 | .bl b,v=>v=.bl b
 | .int i,v=>v=.int i
 | .str x,v=>v=.str x
 | .tup ds,v=>∃ a xs,v=.ref a/\SqT K H a xs/\Reps K B H ds xs
 | .lst ds,v=>∃ a xs,v=.ref a/\B a/\H a=some (.lst xs)/\Reps K B H ds xs
 | .frl ds,v=>∃ a xs,v=.ref a/\FrK K H a xs/\Reps K B H ds xs
 | .dic ks ds,v=>∃ a kvs,v=.ref a/\B a/\Rd H a (.dK kvs)/\kvs.map (·.1)=ks/\Reps K B H ds (kvs.map (·.2))
 | .obj c,v=>∃ a C dx,v=.ref a/\PySem.W.nsIn K mainGlobals c=some (some (.ref C))/\B a/\H a=some (.ins C dx [])
 | .dip ks ds,v=>∃ a kvs,v=.ref a/\B a/\H a=some (.dT kvs)/\kvs.map (·.1)=ks/\Reps K B H ds (kvs.map (·.2))
def Reps (K:PySem.W.Frag) (B:Addr->Prop) (H:Hp):List D->List V->Prop
 | [],vs=>vs=[]
 | d::ds,vs=>∃ v r,vs=v::r/\Rep K B H d v/\Reps K B H ds r
end
section
variable {K:PySem.W.Frag} {B B':Addr->Prop} {H H':Hp}
theorem same_tup (e:Same H H') {a:Addr} {xs:List V} (h:SqT K H a xs):SqT K H' a xs:=by
 rcases h with (h | ⟨o,h⟩) | h
 ·exact .inl (.inl (e _ _ h))
 ·exact .inl (.inr ⟨o,e _ _ h⟩)
 ·exact .inr h
structure Stay (K:PySem.W.Frag) (B:Addr->Prop) (H H':Hp):Prop where
 tup:∀ a xs,SqT K H a xs->SqT K H' a xs
 frz:∀ a xs,FrK K H a xs->FrK K H' a xs
 keep:∀ a o,B a->H a=some o->H' a=some o
theorem same_frz (e:Same H H') {a:Addr} {xs:List V} (h:FrK K H a xs):FrK K H' a xs:=by
 rcases h with ⟨o,h⟩ | h
 ·exact .inl ⟨o,e _ _ h⟩
 ·exact .inr h
theorem Stay.of_same (e:Same H H'):Stay K B H H':=⟨fun _ _ h=>same_tup e h,fun _ _ h=>same_frz e h,fun _ _ _ h=>e _ _ h⟩
mutual
theorem Rep.mono (hB:∀ a o,B a->H a=some o->B' a) (hs:Stay K B H H'):∀ (d:D) (v:V),Rep K B H d v->Rep K B' H' d v
 | .non,_,h=>by simpa [Rep] using h
 | .bl _,_,h=>by simpa [Rep] using h
 | .int _,_,h=>by simpa [Rep] using h
 | .str _,_,h=>by simpa [Rep] using h
 | .tup ds,v,h=>by
  simp only [Rep] at h ⊢
  obtain ⟨a,xs,e,h1,h2⟩:=h
  exact ⟨a,xs,e,hs.tup _ _ h1,Reps.mono hB hs ds xs h2⟩
 | .lst ds,v,h=>by
  simp only [Rep] at h ⊢
  obtain ⟨a,xs,e,hb,h1,h2⟩:=h
  exact ⟨a,xs,e,hB _ _ hb h1,hs.keep _ _ hb h1,Reps.mono hB hs ds xs h2⟩
 | .frl ds,v,h=>by
  simp only [Rep] at h ⊢
  obtain ⟨a,xs,e,h1,h2⟩:=h
  exact ⟨a,xs,e,hs.frz _ _ h1,Reps.mono hB hs ds xs h2⟩
 | .dic ks ds,v,h=>by
  simp only [Rep] at h ⊢
  obtain ⟨a,kvs,e,hb,h1,hk,h2⟩:=h
  rcases h1 with h1 | ⟨o,h1⟩
  ·exact ⟨a,kvs,e,hB _ _ hb h1,.inl (hs.keep _ _ hb h1),hk,Reps.mono hB hs ds _ h2⟩
  ·exact ⟨a,kvs,e,hB _ _ hb h1,.inr ⟨o,hs.keep _ _ hb h1⟩,hk,Reps.mono hB hs ds _ h2⟩
 | .obj c,v,h=>by
  simp only [Rep] at h ⊢
  obtain ⟨a,C,dx,e,hn,hb,h1⟩:=h
  exact ⟨a,C,dx,e,hn,hB _ _ hb h1,hs.keep _ _ hb h1⟩
 | .dip ks ds,v,h=>by
  simp only [Rep] at h ⊢
  obtain ⟨a,kvs,e,hb,h1,hk,h2⟩:=h
  exact ⟨a,kvs,e,hB _ _ hb h1,hs.keep _ _ hb h1,hk,Reps.mono hB hs ds _ h2⟩
theorem Reps.mono (hB:∀ a o,B a->H a=some o->B' a) (hs:Stay K B H H'):∀ (ds:List D) (vs:List V),Reps K B H ds vs->Reps K B' H' ds vs
 | [],_,h=>by simpa [Reps] using h
 | d::ds,vs,h=>by
  simp only [Reps] at h ⊢
  obtain ⟨v,r,e,h1,h2⟩:=h
  exact ⟨v,r,e,Rep.mono hB hs d v h1,Reps.mono hB hs ds r h2⟩
end
theorem Rep.same {d:D} {v:V} (r:Rep K B H d v) (e:Same H H'):Rep K B H' d v:=Rep.mono (fun _ _ h _=>h) (.of_same e) d v r
theorem Reps.same {ds:List D} {vs:List V} (r:Reps K B H ds vs) (e:Same H H'):Reps K B H' ds vs:=Reps.mono (fun _ _ h _=>h) (.of_same e) ds vs r
theorem Rep.weak {d:D} {v:V} (r:Rep K B H d v) (hB:∀ a,B a->B' a):Rep K B' H d v:=Rep.mono (fun a _ h _=>hB a h) (.of_same (Same.refl H)) d v r
theorem Reps.length:∀ {ds:List D} {vs:List V},Reps K B H ds vs->vs.length=ds.length
 | [],_,h=>by simp only [Reps] at h;rw [h];rfl
 | d::ds,vs,h=>by
  simp only [Reps] at h
  obtain ⟨v,r,rfl,_,h2⟩:=h
  simp [Reps.length h2]
theorem Reps.get:∀ {ds:List D} {vs:List V},Reps K B H ds vs->∀ (i:Nat) (d:D),ds[i]? = some d->∃ v,vs[i]? = some v/\Rep K B H d v
 | [],_,_=>fun i d e=>by simp at e
 | d0::ds,vs,h=>fun i d e=>by
  simp only [Reps] at h
  obtain ⟨v,r,rfl,h1,h2⟩:=h
  cases i with
  | zero=>simp at e;subst e;exact ⟨v,rfl,h1⟩
  | succ i=>simpa using Reps.get h2 i d (by simpa using e)
theorem Reps.append:∀ {ds es:List D} {vs us:List V},Reps K B H ds vs->Reps K B H es us->Reps K B H (ds++es) (vs++us)
 | [],es,vs,us,h,h'=>by simp only [Reps] at h;subst h;simpa using h'
 | d::ds,es,vs,us,h,h'=>by
  simp only [Reps] at h
  obtain ⟨v,r,rfl,h1,h2⟩:=h
  show Reps K B H (d::(ds++es)) (v::(r++us))
  simp only [Reps]
  exact ⟨v,r++us,rfl,h1,Reps.append h2 h'⟩
theorem Reps.one {d:D} {v:V} (h:Rep K B H d v):Reps K B H [d] [v]:=by
 simp only [Reps];exact ⟨v,[],rfl,h,rfl⟩
theorem Reps.take:∀ {ds:List D} {vs:List V} (n:Nat),Reps K B H ds vs->Reps K B H (ds.take n) (vs.take n)
 | [],_,n,h=>by simp only [Reps] at h;subst h;simp [Reps]
 | d::ds,vs,0,h=>by simp [Reps]
 | d::ds,vs,n + 1,h=>by
  simp only [Reps] at h
  obtain ⟨v,r,rfl,h1,h2⟩:=h
  simp only [List.take_succ_cons,Reps]
  exact ⟨v,r.take n,rfl,h1,Reps.take n h2⟩
theorem Reps.drop:∀ {ds:List D} {vs:List V} (n:Nat),Reps K B H ds vs->Reps K B H (ds.drop n) (vs.drop n)
 | [],_,n,h=>by simp only [Reps] at h;subst h;simp [Reps]
 | d::ds,vs,0,h=>by simpa using h
 | d::ds,vs,n + 1,h=>by
  simp only [Reps] at h
  obtain ⟨v,r,rfl,h1,h2⟩:=h
  simpa using Reps.drop n h2
theorem Reps.ints (ns:List Int):Reps K B H (ns.map D.int) (ns.map V.int):=by
 induction ns with
 | nil=>simp [Reps]
 | cons n r ih=>simp only [List.map_cons,Reps];exact ⟨_,_,rfl,by simp [Rep],ih⟩
end
def toV:D->V
 | .bl b=>.bl b
 | .int i=>.int i
 | .str x=>.str x
 | _=>.non
def isS:D->Bool
 | .non=>true
 | .bl _=>true
 | .int _=>true
 | .str _=>true
 | _=>false
theorem Rep.ofS {K:PySem.W.Frag} {B:Addr->Prop} {H:Hp} {d:D} (h:isS d=true):Rep K B H d (toV d):=by
 cases d <;> simp [isS,Rep,toV] at h ⊢
mutual
def imm:D->Bool
 | .tup ds=>imms ds
 | .frl ds=>imms ds
 | .lst _=>false
 | .dic _ _=>false
 | .obj _=>false
 | .dip _ _=>false
 | _=>true
def imms:List D->Bool
 | []=>true
 | d::ds=>imm d && imms ds
end
mutual
theorem Rep.imm {K:PySem.W.Frag} {B B':Addr->Prop} {H:Hp}:∀ (d:D) (v:V),imm d=true->Rep K B H d v->Rep K B' H d v
 | .non,_,_,h=>by simpa [Rep] using h
 | .bl _,_,_,h=>by simpa [Rep] using h
 | .int _,_,_,h=>by simpa [Rep] using h
 | .str _,_,_,h=>by simpa [Rep] using h
 | .tup ds,v,hi,h=>by
  simp only [Rep] at h ⊢
  obtain ⟨a,xs,e,h1,h2⟩:=h
  exact ⟨a,xs,e,h1,Reps.imm ds xs (by simpa [DL.imm] using hi) h2⟩
 | .frl ds,v,hi,h=>by
  simp only [Rep] at h ⊢
  obtain ⟨a,xs,e,h1,h2⟩:=h
  exact ⟨a,xs,e,h1,Reps.imm ds xs (by simpa [DL.imm] using hi) h2⟩
 | .lst ds,v,hi,h=>by simp [DL.imm] at hi
 | .dic ks ds,v,hi,h=>by simp [DL.imm] at hi
 | .obj C,v,hi,h=>by simp [DL.imm] at hi
 | .dip ks ds,v,hi,h=>by simp [DL.imm] at hi
theorem Reps.imm {K:PySem.W.Frag} {B B':Addr->Prop} {H:Hp}:∀ (ds:List D) (vs:List V),imms ds=true->Reps K B H ds vs->Reps K B' H ds vs
 | [],_,_,h=>by simpa [Reps] using h
 | d::ds,vs,hi,h=>by
  simp only [Reps] at h ⊢
  obtain ⟨v,r,e,h1,h2⟩:=h
  simp only [imms,Bool.and_eq_true] at hi
  exact ⟨v,r,e,Rep.imm d v hi.1 h1,Reps.imm ds r hi.2 h2⟩
end
def RepO (K:PySem.W.Frag) (B:Addr->Prop) (H:Hp):D->HO->Prop
 | .lst ds,o=>∃ xs,o=.lst xs/\Reps K B H ds xs
 | .dic ks ds,o=>∃ kvs,o=.dK kvs/\kvs.map (·.1)=ks/\Reps K B H ds (kvs.map (·.2))
 | .dip ks ds,o=>∃ kvs,o=.dT kvs/\kvs.map (·.1)=ks/\Reps K B H ds (kvs.map (·.2))
 | _,_=>False
section
variable {K:PySem.W.Frag} {B B':Addr->Prop} {H H':Hp}
theorem RepO.mono {d:D} {o:HO} (hB:∀ a o,B a->H a=some o->B' a) (hs:Stay K B H H') (r:RepO K B H d o):RepO K B' H' d o:=by
 cases d <;> first | exact r.elim | skip
 ·obtain ⟨xs,h1,h2⟩:=r
  exact ⟨xs,h1,Reps.mono hB hs _ _ h2⟩
 ·obtain ⟨kvs,h1,h2,h3⟩:=r
  exact ⟨kvs,h1,h2,Reps.mono hB hs _ _ h3⟩
 ·obtain ⟨kvs,h1,h2,h3⟩:=r
  exact ⟨kvs,h1,h2,Reps.mono hB hs _ _ h3⟩
theorem RepO.same {d:D} {o:HO} (r:RepO K B H d o) (e:Same H H'):RepO K B H' d o:=r.mono (fun _ _ h _=>h) (.of_same e)
theorem RepO.weak {d:D} {o:HO} (r:RepO K B H d o) (hB:∀ a,B a->B' a):RepO K B' H d o:=r.mono (fun a _ h _=>hB a h) (.of_same (Same.refl H))
theorem RepO.rep {d:D} {o:HO} {p:Addr} (r:RepO K B H d o) (h:H p=some o) (hp:B p):Rep K B H d (.ref p):=by
 cases d <;> first | exact r.elim | skip
 ·obtain ⟨xs,rfl,h2⟩:=r
  simp only [Rep]
  exact ⟨p,xs,rfl,hp,h,h2⟩
 ·obtain ⟨kvs,rfl,h2,h3⟩:=r
  simp only [Rep]
  exact ⟨p,kvs,rfl,hp,.inl h,h2,h3⟩
 ·obtain ⟨kvs,rfl,h2,h3⟩:=r
  simp only [Rep]
  exact ⟨p,kvs,rfl,hp,h,h2,h3⟩
theorem RepO.noT {d:D} {o:HO} (r:RepO K B H d o) (xs:List V):HO.tup xs≠o:=by
 cases d <;> first | exact r.elim | skip
 ·obtain ⟨xs,rfl,h2⟩:=r;intro w;cases w
 ·obtain ⟨kvs,rfl,h2,h3⟩:=r;intro w;cases w
 ·obtain ⟨kvs,rfl,h2,h3⟩:=r;intro w;cases w
theorem RepO.noF {d:D} {o:HO} (r:RepO K B H d o) (ob:Obj) (u:HO):HO.frz ob u≠o:=by
 cases d <;> first | exact r.elim | skip
 ·obtain ⟨xs,rfl,h2⟩:=r;intro w;cases w
 ·obtain ⟨kvs,rfl,h2,h3⟩:=r;intro w;cases w
 ·obtain ⟨kvs,rfl,h2,h3⟩:=r;intro w;cases w
end
structure Cn where
 K:PySem.W.Frag
 B:Addr->Prop
 H₀:Hp
 G:List (D×V)
def Own (σ:St) (δ:DS) (p:Addr):Prop:=∃ (i:Nat) (ds:D),δ[i]? = some (Sl.own ds)/\σ[i]? = some (some (V.ref p))
def Av (c:Cn) (σ:St) (δ:DS) (a:Addr):Prop:=c.B a/\¬ Own σ δ a
structure Abs (c:Cn) (σ:St) (δ:DS) (H:Hp):Prop where
 same:Same c.H₀ H
 fr:∀ a,H a=none->c.B a
 len:δ.length=σ.length
 val:∀ (i:Nat) (d:D),δ[i]? = some (Sl.val d)->∃ v,σ[i]? = some (some v)/\Rep c.K (Av c σ δ) H d v
 own:∀ (i:Nat) (ds:D),δ[i]? = some (Sl.own ds)->∃ p xs,σ[i]? = some (some (V.ref p))/\H p=some xs/\(c.H₀ p=none/\c.B p)/\RepO c.K (Av c σ δ) H ds xs
 gho:∀ d v,(d,v)∈c.G->Rep c.K (Av c σ δ) H d v
 inj:∀ (i j:Nat) (di dj:D) (p:Addr),δ[i]? = some (Sl.own di)->δ[j]? = some (Sl.own dj)->σ[i]? = some (some (V.ref p))->σ[j]? = some (some (V.ref p))->i=j
section
variable {c:Cn} {σ:St} {δ:DS} {H H':Hp}
theorem Abs.grow (a:Abs c σ δ H) (e:Same H H'):Abs c σ δ H' where
 same:=a.same.trans e
 fr:=fun b h=>a.fr b (e.free h)
 len:=a.len
 val:=fun i d h=>by obtain ⟨v,h1,h2⟩:=a.val i d h;exact ⟨v,h1,h2.same e⟩
 own:=fun i ds h=>by obtain ⟨p,xs,h1,h2,h3,h4⟩:=a.own i ds h;exact ⟨p,xs,h1,e _ _ h2,h3,h4.same e⟩
 gho:=fun d v h=>(a.gho d v h).same e
 inj:=a.inj
theorem Own.is (a:Abs c σ δ H) {p:Addr} (o:Own σ δ p):∃ xs,H p=some xs/\c.H₀ p=none:=by
 obtain ⟨i,ds,h1,h2⟩:=o
 obtain ⟨p',xs,h3,h4,h5,_⟩:=a.own i ds h1
 rw [h2] at h3;cases h3
 exact ⟨xs,h4,h5.1⟩
theorem Abs.av_new (a:Abs c σ δ H) {p:Addr} (h:H p=none):Av c σ δ p:=by
 refine ⟨a.fr p h,fun o=>?_⟩
 obtain ⟨xs,h1,_⟩:=Own.is a o
 rw [h] at h1;cases h1
end
inductive Md where
 | W | S | F
def Post (c:Cn) (σ:St) (δ:DS) (H:Hp) (m:Md) (d:D) (v:V) (H':Hp):Prop :=
 match m with
 | .W=>Rep c.K c.B H' d v
 | .S=>Rep c.K (Av c σ δ) H' d v
 | .F=>∃ p xs,v=.ref p/\H p=none/\H' p=some xs/\RepO c.K (fun a=>Av c σ δ a/\a≠p) H' d xs
def ERep (K:PySem.W.Frag) (e:Exn) (cls:Value) (dx:Option Addr) (H:Hp):Prop:=True
def Wish (K:PySem.W.Frag) (E:XK) (H₀:Hp) (e:Exn):Prop:=∀ cls dx H',Same H₀ H'->ERep K e cls dx H'->E cls dx H'
def Res {α:Type} (K:PySem.W.Frag) (E:XK) (H₀:Hp) (o:Ou α) (k:α->Prop):Prop :=
 match o with
 | .ok a=>k a
 | .ex e=>Wish K E H₀ e
 | .bad=>False
theorem Res.bind {α β:Type} {K:PySem.W.Frag} {E:XK} {H₀:Hp} {o:Ou α} {f:α->Ou β} {k:β->Prop} (h:Res K E H₀ (o.bind f) k):Res K E H₀ o fun a=>Res K E H₀ (f a) k:=by
 cases o with
 | ok a=>exact h
 | ex e=>exact h
 | bad=>exact h
theorem Res.imp {α:Type} {K:PySem.W.Frag} {E:XK} {H₀:Hp} {o:Ou α} {k k':α->Prop} (h:Res K E H₀ o k) (hi:∀ a,o=.ok a->k a->k' a):Res K E H₀ o k':=by
 cases o with
 | ok a=>exact hi a rfl h
 | ex e=>exact h
 | bad=>exact h
def tX (K:PySem.W.Frag) (E:XK) (m:Md) (f:Fn):TE:=fun σ H Q=>∃ c δ,c.K=K/\Abs c σ δ H/\Res K E c.H₀ (f δ) fun d=>∀ v H',Same H H'->Post c σ δ H m d v H'->Q v H'
theorem Post.toW {c:Cn} {σ:St} {δ:DS} {H H':Hp} {m:Md} {d:D} {v:V} (a:Abs c σ δ H) (e:Same H H') (p:Post c σ δ H m d v H'):Rep c.K c.B H' d v:=by
 cases m with
 | W=>exact p
 | S=>exact Rep.weak p fun _ h=>h.1
 | F =>
  obtain ⟨p,xs,rfl,h1,h2,h3⟩:=p
  exact (h3.weak fun _ h=>h.1.1).rep h2 (a.fr p h1)
theorem Post.toS {c:Cn} {σ:St} {δ:DS} {H H':Hp} {d:D} {v:V} (a:Abs c σ δ H) (p:Post c σ δ H .F d v H'):Post c σ δ H .S d v H':=by
 obtain ⟨p,xs,rfl,h1,h2,h3⟩:=p
 show Rep _ _ _ _ _
 exact (h3.weak fun _ h=>h.1).rep h2 (a.av_new h1)
def notF:Md->Bool
 | .F=>false
 | _=>true
theorem Post.ofS {c:Cn} {σ:St} {δ:DS} {H H':Hp} {m:Md} {d:D} (hm:notF m=true) (h:isS d=true):Post c σ δ H m d (toV d) H':=by
 cases m with
 | W=>exact Rep.ofS h
 | S=>exact Rep.ofS h
 | F=>simp [notF] at hm
def fVar (i:Nat):Fn:=fun δ=>match δ[i]? with
 | some (.val d)=>.ok d
 | some (.own d)=>.ok d
 | _=>.bad
def fVarS (i:Nat):Fn:=fun δ=>match δ[i]? with
 | some (.val d)=>.ok d
 | _=>.bad
def fC (d:D):Fn:=fun _=>.ok d
section
variable {X:Cx} {E:XK} {m:Md} {a b:Expr} {fa fb:Fn} {pos:Pos}
theorem rd_var {K:PySem.W.Frag} {i:Nat} {σ:St} {H:Hp} {Q:VK} (h:tX K E .W (fVar i) σ H Q):tVar i σ H Q:=by
 obtain ⟨c,δ,rfl,ab,h⟩:=h
 unfold fVar at h
 cases e:δ[i]? with
 | none=>rw [e] at h;exact h.elim
 | some s =>
  rw [e] at h
  cases s with
  | un=>exact h.elim
  | val d =>
   obtain ⟨v,h1,h2⟩:=ab.val i d e
   exact ⟨v,h1,h v H (Same.refl H) (Rep.weak h2 fun _ z=>z.1)⟩
  | own ds =>
   obtain ⟨p,xs,h1,h2,h3,h4⟩:=ab.own i ds e
   refine ⟨.ref p,h1,h (.ref p) H (Same.refl H) ?_⟩
   show Rep _ _ _ _ _
   exact (h4.weak fun _ z=>z.1).rep h2 h3.2
theorem rd_varS {K:PySem.W.Frag} {i:Nat} {σ:St} {H:Hp} {Q:VK} (h:tX K E .S (fVarS i) σ H Q):tVar i σ H Q:=by
 obtain ⟨c,δ,rfl,ab,h⟩:=h
 unfold fVarS at h
 cases e:δ[i]? with
 | none=>rw [e] at h;exact h.elim
 | some s =>
  rw [e] at h
  cases s with
  | un=>exact h.elim
  | val d =>
   obtain ⟨v,h1,h2⟩:=ab.val i d e
   exact ⟨v,h1,h v H (Same.refl H) h2⟩
  | own ds=>exact h.elim
theorem xv (i:Nat) {x:Str} (hN:X.N[i]? = some x:=by rfl) (hv:Vis X.env.scope x:=by first | exact Or.inl rfl | exact Or.inr (Or.inl rfl) | exact Or.inr (Or.inr rfl)) (hd:(x == ("__debug__":Str))=false:=by decide)
  (hcd:(x == ("__classdict__":Str))=false:=by decide):PE X (.Name x pos) (tX X.K E .W (fVar i)):=PE.imp (pv i hN hv hd hcd) fun _ _ _ h=>rd_var h
theorem xvS (i:Nat) {x:Str} (hN:X.N[i]? = some x:=by rfl) (hv:Vis X.env.scope x:=by first | exact Or.inl rfl | exact Or.inr (Or.inl rfl) | exact Or.inr (Or.inr rfl)) (hd:(x == ("__debug__":Str))=false:=by decide)
  (hcd:(x == ("__classdict__":Str))=false:=by decide):PE X (.Name x pos) (tX X.K E .S (fVarS i)):=PE.imp (pv i hN hv hd hcd) fun _ _ _ h=>rd_varS h
theorem rd_c {K:PySem.W.Frag} {d:D} {σ:St} {H:Hp} {Q:VK} (hm:notF m=true) (hs:isS d=true) (h:tX K E m (fC d) σ H Q):tC (toV d) σ H Q:=by
 obtain ⟨c,δ,rfl,ab,h⟩:=h
 exact h _ H (Same.refl H) (Post.ofS hm hs)
theorem xint {i j} (hm:notF m=true:=by rfl):PE X (.Constant (.int i) j pos) (tX X.K E m (fC (.int i))):=PE.imp pe_int fun _ _ _ h=>rd_c hm rfl h
theorem xbl {i j} (hm:notF m=true:=by rfl):PE X (.Constant (.bool i) j pos) (tX X.K E m (fC (.bl i))):=PE.imp pe_bl fun _ _ _ h=>rd_c hm rfl h
theorem xnon {j} (hm:notF m=true:=by rfl):PE X (.Constant .none j pos) (tX X.K E m (fC .non)):=PE.imp pe_non fun _ _ _ h=>rd_c hm rfl h
theorem xstr {i j} (hm:notF m=true:=by rfl):PE X (.Constant (.str i) j pos) (tX X.K E m (fC (.str i))):=PE.imp pe_str fun _ _ _ h=>rd_c hm rfl h
theorem toW (h:PE X a (tX X.K E m fa)):PE X a (tX X.K E .W fa):=h.imp fun σ H Q q=>by
 obtain ⟨c,δ,hK,ab,q⟩:=q
 exact ⟨c,δ,hK,ab,q.imp fun d _ k v H' e p=>k v H' e (Post.toW ab e p)⟩
theorem toS (h:PE X a (tX X.K E .F fa)):PE X a (tX X.K E .S fa):=h.imp fun σ H Q q=>by
 obtain ⟨c,δ,hK,ab,q⟩:=q
 exact ⟨c,δ,hK,ab,q.imp fun d _ k v H' e p=>k v H' e (Post.toS ab p)⟩
def fUp (f:Fn):Fn:=fun δ=>(f δ).bind fun d=>if imm d=true then .ok d else .bad
def f2 (g:D->D->Ou D) (fa fb:Fn):Fn:=fun δ=>(fa δ).bind fun x=>(fb δ).bind fun y=>g x y
def OpD (X:Cx) (f:Value->Value->Sem Value) (g:D->D->Ou D):Prop :=
 ∃ r,OpR X f r/\∀ (B:Addr->Prop) (H:Hp) (dx dy:D) (x y:V) (Q:VK),Rep X.K B H dx x->Rep X.K B H dy y->match g dx dy with
  | .ok d=>isS d=true/\(Q (toV d) H->r x y H Q)
  | .ex _=>False
  | .bad=>True
theorem rd_2 {r:R2} {g:D->D->Ou D} {σ:St} {H:Hp} {Q:VK} (hr:∀ (B:Addr->Prop) (H:Hp) (dx dy:D) (x y:V) (Q:VK),Rep X.K B H dx x->Rep X.K B H dy y->match g dx dy with
  | .ok d=>isS d=true/\(Q (toV d) H->r x y H Q)
  | .ex _=>False
  | .bad=>True) (hm:notF m=true) (h:tX X.K E m (f2 g fa fb) σ H Q):tOp r (tX X.K E .W fa) (tX X.K E .W fb) σ H Q:=by
 obtain ⟨c,δ,hK,ab,h⟩:=h
 refine ⟨c,δ,hK,ab,(Res.bind h).imp fun dx _ k x H1 e1 r1=>?_⟩
 refine ⟨c,δ,hK,ab.grow e1,(Res.bind k).imp fun dy _ k y H2 e2 r2=>?_⟩
 have r1':Rep X.K c.B H2 dx x:=by
  have z:Rep c.K c.B H1 dx x:=r1
  rw [hK] at z;exact z.same e2
 have r2':Rep X.K c.B H2 dy y:=by
  have z:Rep c.K c.B H2 dy y:=r2
  rw [hK] at z;exact z
 have q:=hr c.B H2 dx dy x y Q r1' r2'
 cases e:g dx dy with
 | ok d =>
  rw [e] at q k
  exact q.2 (k (toV d) H2 (e1.trans e2) (Post.ofS hm q.1))
 | ex z=>rw [e] at q;exact q.elim
 | bad=>rw [e] at k;exact k.elim
theorem xop {op:Operator} {g:D->D->Ou D} (ho:OpD X (binaryOp op) g) (ha:PE X a (tX X.K E .W fa)) (hb:PE X b (tX X.K E .W fb)) (hm:notF m=true:=by rfl):PE X (.BinOp a op b pos) (tX X.K E m (f2 g fa fb)):=by
 obtain ⟨r,h1,h2⟩:=ho
 exact (pe_op h1 ha hb).imp fun σ H Q q=>rd_2 h2 hm q
theorem xcmp {op:CmpOp} {g:D->D->Ou D} (ho:OpD X (compareOp op) g) (ha:PE X a (tX X.K E .W fa)) (hb:PE X b (tX X.K E .W fb)) (hk:behindInMarks op b=false) (hm:notF m=true:=by rfl):PE X (.Compare a [op] [b] pos) (tX X.K E m (f2 g fa fb)):=by
 obtain ⟨r,h1,h2⟩:=ho
 exact (pe_cmpR h1 ha hb hk).imp fun σ H Q q=>rd_2 h2 hm q
def gAdd:D->D->Ou D
 | .int i,.int j=>.ok (.int (i + j))
 | .str x,.str y=>if x.length + y.length<=sizeLine then .ok (.str (x++y)) else .bad
 | _,_=>.bad
theorem od_add:OpD X (binaryOp .Add) gAdd:=by
 refine ⟨_,OpR.or op_add op_add_str,fun B H dx dy x y Q rx ry=>?_⟩
 cases dx <;> cases dy <;> simp only [gAdd]
 ·rename_i i j
  simp only [Rep] at rx ry
  subst rx;subst ry
  exact ⟨rfl,fun q=>.inl ⟨i,j,rfl,rfl,q⟩⟩
 ·rename_i i j
  simp only [Rep] at rx ry
  subst rx;subst ry
  by_cases hl:i.length + j.length<=sizeLine
  ·rw [if_pos hl]
   exact ⟨rfl,fun q=>.inr ⟨i,j,rfl,rfl,hl,q⟩⟩
  ·rw [if_neg hl]
   trivial
def tT (K:PySem.W.Frag) (E:XK) (f:DS->Ou Bool):TT:=fun σ H Q=>∃ c δ,c.K=K/\Abs c σ δ H/\Res K E c.H₀ (f δ) fun b=>∀ H',Same H H'->Q b H'
def asB:D->Ou Bool
 | .bl b=>.ok b
 | _=>.bad
def fAndV (fa fb:Fn):Fn:=fun δ=>(fa δ).bind fun x=>(asB x).bind fun b=>if b=true then fb δ else .ok (.bl false)
def fOrV (fa fb:Fn):Fn:=fun δ=>(fa δ).bind fun x=>(asB x).bind fun b=>if b=true then .ok (.bl true) else fb δ
def fNotV (fa:Fn):Fn:=fun δ=>(fa δ).bind fun x=>(asB x).bind fun b=>.ok (.bl (!b))
theorem Res.asB {K K':PySem.W.Frag} {H₀:Hp} {B:Addr->Prop} {H:Hp} {d:D} {v:V} {k:Bool->Prop} (h:Res K E H₀ (asB d) k) (r:Rep K' B H d v):∃ b,d=.bl b/\v=.bl b/\k b:=by
 cases d <;> first | exact h.elim | skip
 rename_i b
 simp only [Rep] at r
 exact ⟨b,rfl,r,h⟩
variable {rest:List Expr}
theorem xone {op} (h:PE X a (tX X.K E m fa)):PE X (.BoolOp op [a] pos) (tX X.K E m fa):=pe_one h
theorem xand (ha:PE X a (tX X.K E .W fa)) (hb:PE X (.BoolOp .And (b::rest) pos) (tX X.K E m fb)) (hm:notF m=true:=by rfl):PE X (.BoolOp .And (a::b::rest) pos) (tX X.K E m (fAndV fa fb)):=(pe_and ha hb).imp fun σ H Q q=>by
 obtain ⟨c,δ,hK,ab,q⟩:=q
 refine ⟨c,δ,hK,ab,(Res.bind q).imp fun dx _ k x H1 e1 r1=>?_⟩
 obtain ⟨z,rfl,rfl,k⟩:=Res.asB (Res.bind k) (show Rep c.K c.B H1 dx x from r1)
 refine ⟨z,rfl,?_⟩
 cases z with
 | true=>exact ⟨c,δ,hK,ab.grow e1,k.imp fun d _ k v H' e p=>k v H' (e1.trans e) (by
   cases m with
   | W=>exact p
   | S=>exact p
   | F=>simp [notF] at hm)⟩
 | false=>exact k _ H1 e1 (Post.ofS hm rfl)
theorem xnot (ha:PE X a (tX X.K E .W fa)) (hm:notF m=true:=by rfl):PE X (.UnaryOp .Not a pos) (tX X.K E m (fNotV fa)):=(pe_not ha).imp fun σ H Q q=>by
 obtain ⟨c,δ,hK,ab,q⟩:=q
 refine ⟨c,δ,hK,ab,(Res.bind q).imp fun dx _ k x H1 e1 r1=>?_⟩
 obtain ⟨z,rfl,rfl,k⟩:=Res.asB (Res.bind k) (show Rep c.K c.B H1 dx x from r1)
 exact ⟨z,rfl,k _ H1 e1 (Post.ofS hm rfl)⟩
def truD:D->Ou Bool
 | .non=>.ok false
 | .bl b=>.ok b
 | .int i=>.ok (i != 0)
 | .str y=>if y.length<=sizeLine then .ok ((y.length:Int) != 0) else .bad
 | .tup ds=>.ok (!ds.isEmpty)
 | .lst ds=>.ok (!ds.isEmpty)
 | .frl ds=>.ok (!ds.isEmpty)
 | .dic _ _=>.bad
 | .obj _=>.bad
 | .dip _ _=>.bad
def fTru (fa:Fn):DS->Ou Bool:=fun δ=>(fa δ).bind truD
def fAsB (fa:Fn):DS->Ou Bool:=fun δ=>(fa δ).bind asB
theorem empty_of {K:PySem.W.Frag} {B:Addr->Prop} {H:Hp} {ds:List D} {xs:List V} (r:Reps K B H ds xs):(!ds.isEmpty)=!xs.isEmpty:=by
 have h:=r.length
 cases ds <;> cases xs <;> simp at h ⊢
theorem rd_tru {K:PySem.W.Frag} {H₀:Hp} {B:Addr->Prop} {H:Hp} {d:D} {v:V} {k:Bool->Prop} (h:Res K E H₀ (truD d) k) (r:Rep K B H d v):∃ b,TruV K v H b/\k b:=by
 cases d <;> simp only [Rep] at r
 ·subst r;exact ⟨_,rfl,h⟩
 ·subst r;exact ⟨_,rfl,h⟩
 ·subst r;exact ⟨_,rfl,h⟩
 ·subst r
  rename_i y
  simp only [truD] at h
  by_cases hl:y.length<=sizeLine
  ·rw [if_pos hl] at h;exact ⟨_,⟨hl,rfl⟩,h⟩
  ·rw [if_neg hl] at h;exact h.elim
 ·obtain ⟨a,xs,rfl,h1,h2⟩:=r
  exact ⟨_,.inr (.inl ⟨xs,h1,rfl⟩),by rw [← empty_of h2];exact h⟩
 ·obtain ⟨a,xs,rfl,hb,h1,h2⟩:=r
  exact ⟨_,.inl ⟨xs,.of h1,rfl⟩,by rw [← empty_of h2];exact h⟩
 ·obtain ⟨a,xs,rfl,h1,h2⟩:=r
  exact ⟨_,.inl ⟨xs,h1.sq,rfl⟩,by rw [← empty_of h2];exact h⟩
 ·exact h.elim
 ·exact h.elim
 ·exact h.elim
theorem xt (ha:PE X a (tX X.K E .W fa)) (he:∀ whole,isTrue a X.env whole=(do let v ← whole;standAt a.pos;holding [v] (truthy v)):=by intro _;rfl):PT X a (tT X.K E (fTru fa)):=(pt_truth ha he).imp fun σ H Q q=>by
 obtain ⟨c,δ,hK,ab,q⟩:=q
 refine ⟨c,δ,hK,ab,(Res.bind q).imp fun dx _ k x H1 e1 r1=>?_⟩
 obtain ⟨z,h1,h2⟩:=rd_tru k (show Rep X.K c.B H1 dx x by rw [← hK];exact r1)
 exact ⟨z,h1,h2 H1 e1⟩
theorem xt_cmp {op:CmpOp} {g:D->D->Ou D} (ho:OpD X (compareOp op) g) (ha:PE X a (tX X.K E .W fa)) (hb:PE X b (tX X.K E .W fb)) (hk:behindInMarks op b=false):PT X (.Compare a [op] [b] pos) (tT X.K E (fAsB (f2 g fa fb))):=by
 obtain ⟨r,h1,h2⟩:=ho
 refine (pt_cmpR h1 ha hb hk).imp fun σ H Q q=>?_
 refine rd_2 (m:=.W) (E:=E) (fa:=fa) (fb:=fb) h2 rfl ?_
 obtain ⟨c,δ,hK,ab,q⟩:=q
 refine ⟨c,δ,hK,ab,(Res.bind q).imp fun d _ k v H' e p=>?_⟩
 obtain ⟨z,rfl,rfl,k⟩:=Res.asB k (show Rep c.K c.B H' d v from p)
 exact ⟨z,rfl,k H' e⟩
variable {ga gb:DS->Ou Bool}
def fAndT (ga gb:DS->Ou Bool):DS->Ou Bool:=fun δ=>(ga δ).bind fun b=>if b=true then gb δ else .ok false
def fOrT (ga gb:DS->Ou Bool):DS->Ou Bool:=fun δ=>(ga δ).bind fun b=>if b=true then .ok true else gb δ
def fNotT (ga:DS->Ou Bool):DS->Ou Bool:=fun δ=>(ga δ).bind fun b=>.ok (!b)
theorem xw_and1 (ha:PT X a (tT X.K E ga)):PW X (.BoolOp .And [a] pos) (tT X.K E ga):=pw_and1 ha
theorem xw_or1 (ha:PT X a (tT X.K E ga)):PW X (.BoolOp .Or [a] pos) (tT X.K E ga):=pw_or1 ha
theorem xw_and (ha:PT X a (tT X.K E ga)) (hb:PW X (.BoolOp .And (b::rest) pos) (tT X.K E gb)):PW X (.BoolOp .And (a::b::rest) pos) (tT X.K E (fAndT ga gb)):=(pw_and ha hb).imp fun σ H Q q=>by
 obtain ⟨c,δ,hK,ab,q⟩:=q
 refine ⟨c,δ,hK,ab,(Res.bind q).imp fun z _ k H1 e1=>?_⟩
 cases z with
 | true=>exact ⟨c,δ,hK,ab.grow e1,k.imp fun d _ k H' e=>k H' (e1.trans e)⟩
 | false=>exact k H1 e1
theorem xw_or (ha:PT X a (tT X.K E ga)) (hb:PW X (.BoolOp .Or (b::rest) pos) (tT X.K E gb)):PW X (.BoolOp .Or (a::b::rest) pos) (tT X.K E (fOrT ga gb)):=(pw_or ha hb).imp fun σ H Q q=>by
 obtain ⟨c,δ,hK,ab,q⟩:=q
 refine ⟨c,δ,hK,ab,(Res.bind q).imp fun z _ k H1 e1=>?_⟩
 cases z with
 | false=>exact ⟨c,δ,hK,ab.grow e1,k.imp fun d _ k H' e=>k H' (e1.trans e)⟩
 | true=>exact k H1 e1
theorem xt_not (ha:PT X a (tT X.K E ga)):PT X (.UnaryOp .Not a pos) (tT X.K E (fNotT ga)):=(pt_not ha).imp fun σ H Q q=>by
 obtain ⟨c,δ,hK,ab,q⟩:=q
 exact ⟨c,δ,hK,ab,(Res.bind q).imp fun z _ k H1 e1=>k H1 e1⟩
def fIfE (gc:DS->Ou Bool) (fa fb:Fn):Fn:=fun δ=>(gc δ).bind fun b=>if b=true then fa δ else fb δ
theorem Post.early {c:Cn} {σ:St} {δ:DS} {H H1 H':Hp} {d:D} {v:V} (e:Same H H1) (p:Post c σ δ H1 m d v H'):Post c σ δ H m d v H':=by
 cases m with
 | W=>exact p
 | S=>exact p
 | F =>
  obtain ⟨p,xs,rfl,h1,h2,h3⟩:=p
  exact ⟨p,xs,rfl,e.free h1,h2,h3⟩
theorem xife {t:Expr} (hc:PT X t (tT X.K E ga)) (ha:PE X a (tX X.K E m fa)) (hb:PE X b (tX X.K E m fb)):PE X (.IfExp t a b pos) (tX X.K E m (fIfE ga fa fb)):=(pe_ifExp hc ha hb).imp fun σ H Q q=>by
 obtain ⟨c,δ,hK,ab,q⟩:=q
 refine ⟨c,δ,hK,ab,(Res.bind q).imp fun z _ k H1 e1=>?_⟩
 cases z with
 | true=>exact ⟨c,δ,hK,ab.grow e1,k.imp fun d _ k v H' e p=>k v H' (e1.trans e) (p.early e1)⟩
 | false=>exact ⟨c,δ,hK,ab.grow e1,k.imp fun d _ k v H' e p=>k v H' (e1.trans e) (p.early e1)⟩
def BOf (c:Cn) (σ:St) (δ:DS):Md->Addr->Prop
 | .W=>c.B
 | _=>Av c σ δ
def fArgs:List Fn->DS->Ou (List D)
 | [],_=>.ok []
 | f::fs,δ=>(f δ).bind fun d=>(fArgs fs δ).bind fun ds=>.ok (d::ds)
def tXA (K:PySem.W.Frag) (E:XK) (m:Md) (fs:List Fn):TA:=fun σ H Q=>∃ c δ,c.K=K/\Abs c σ δ H/\Res K E c.H₀ (fArgs fs δ) fun ds=>∀ vs H',Same H H'->Reps c.K (BOf c σ δ m) H' ds vs->Q vs H'
variable {es:List Expr} {fs:List Fn} {e:Expr} {fe:Fn}
theorem xa_nil:PA X [] (tXA X.K E m []):=pa_nil.imp fun σ H Q q=>by
 obtain ⟨c,δ,hK,ab,q⟩:=q
 exact q [] H (Same.refl H) (by simp [Reps])
theorem Post.bOf {c:Cn} {σ:St} {δ:DS} {H H':Hp} {d:D} {v:V} (hm:notF m=true) (p:Post c σ δ H m d v H'):Rep c.K (BOf c σ δ m) H' d v:=by
 cases m with
 | W=>exact p
 | S=>exact p
 | F=>simp [notF] at hm
theorem xa_cons (ha:PE X e (tX X.K E m fe)) (hr:PA X es (tXA X.K E m fs)) (hs:starEach (e::es) X.env=(false,eval e X.env)::starEach es X.env:=by rfl) (hm:notF m=true:=by rfl):PA X (e::es) (tXA X.K E m (fe::fs)):=(pa_cons ha hr hs).imp fun σ H Q q=>by
 obtain ⟨c,δ,hK,ab,q⟩:=q
 refine ⟨c,δ,hK,ab,(Res.bind q).imp fun d _ k v H1 e1 r1=>?_⟩
 refine ⟨c,δ,hK,ab.grow e1,(Res.bind k).imp fun ds _ k vs H2 e2 r2=>?_⟩
 refine k (v::vs) H2 (e1.trans e2) ?_
 simp only [Reps]
 exact ⟨v,vs,rfl,(Post.bOf hm r1).same e2,r2⟩
theorem fArgs_len:∀ {fs:List Fn} {δ:DS} {ds:List D},fArgs fs δ=.ok ds->ds.length=fs.length
 | [],δ,ds,h=>by simp only [fArgs] at h;cases h;rfl
 | f::fs,δ,ds,h=>by
  simp only [fArgs] at h
  cases e:f δ with
  | ok d =>
   rw [e] at h
   cases e2:fArgs fs δ with
   | ok r=>rw [e2] at h;simp only [bind_ok] at h;cases h;simp [fArgs_len e2]
   | ex z=>rw [e2] at h;simp at h
   | bad=>rw [e2] at h;simp at h
  | ex z=>rw [e] at h;simp at h
  | bad=>rw [e] at h;simp at h
def fTup (fs:List Fn):Fn:=fun δ=>(fArgs fs δ).bind fun ds=>.ok (.tup ds)
def fLst (fs:List Fn):Fn:=fun δ=>(fArgs fs δ).bind fun ds=>.ok (.lst ds)
theorem same_new {H:Hp} {p:Addr} (h:H p=none) (o:HO):Same H (upd H p o):=fun b u q=>by rw [upd_ne (ne_of_none q h)];exact q
theorem xtup {x1} (h:PA X es (tXA X.K E m fs)) (hl:fs.length<=sizeLine:=by decide) (hm:notF m=true:=by rfl):PE X (.Tuple es x1 pos) (tX X.K E m (fTup fs)):=(pe_tup h).imp fun σ H Q q=>by
 obtain ⟨c,δ,hK,ab,q⟩:=q
 refine ⟨c,δ,hK,ab,(Res.bind q).imp fun ds hds k vs H1 e1 r1=>⟨by rw [r1.length,fArgs_len hds];exact hl,fun p hp=>?_⟩⟩
 refine k (.ref p) _ (e1.trans (same_new hp _)) ?_
 have r2:Rep c.K (BOf c σ δ m) (upd H1 p (.tup vs)) (.tup ds) (.ref p):=by
  simp only [Rep]
  exact ⟨p,vs,rfl,.inl (.inl upd_same),r1.same (same_new hp _)⟩
 cases m with
 | W=>exact r2
 | S=>exact r2
 | F=>simp [notF] at hm
theorem Reps.off {K:PySem.W.Frag} {B:Addr->Prop} {H:Hp} {ds:List D} {vs:List V} {p:Addr} (r:Reps K B H ds vs) (hp:H p=none):Reps K (fun a=>B a/\a≠p) H ds vs :=
 Reps.mono (fun a o h z=>⟨h,fun e=>by subst e;rw [hp] at z;cases z⟩) (.of_same (Same.refl H)) ds vs r
theorem xlst (h:PA X es (tXA X.K E .S fs)) (hl:fs.length<=sizeLine:=by decide):PE X (.List es pos) (tX X.K E .F (fLst fs)):=(pe_lst h).imp fun σ H Q q=>by
 obtain ⟨c,δ,hK,ab,q⟩:=q
 refine ⟨c,δ,hK,ab,(Res.bind q).imp fun ds hds k vs H1 e1 r1=>⟨by rw [r1.length,fArgs_len hds];exact hl,fun p hp=>?_⟩⟩
 exact k (.ref p) _ (e1.trans (same_new hp _)) ⟨p,_,rfl,e1.free hp,upd_same,vs,rfl,(Reps.off r1 hp).same (same_new hp _)⟩
def gIx:D->D->Ou D
 | .tup ds,.int i=>match atI ds i with
  | some d=>.ok d
  | none=>.bad
 | .lst ds,.int i=>match atI ds i with
  | some d=>.ok d
  | none=>.bad
 | .frl ds,.int i=>match atI ds i with
  | some d=>.ok d
  | none=>.bad
 | .str z,.int i=>if z.length<=sizeLine then (match atI z.cps.toList i with
  | some c=>.ok (.str ⟨#[c]⟩)
  | none=>.bad) else .bad
 | _,_=>.bad
theorem Reps.at {K:PySem.W.Frag} {B:Addr->Prop} {H:Hp} {ds:List D} {vs:List V} {i:Int} {d:D} (r:Reps K B H ds vs) (h:atI ds i=some d):∃ v,atI vs i=some v/\Rep K B H d v:=by
 unfold atI at h ⊢
 rw [r.length]
 cases e:ixN ds.length i with
 | none=>rw [e] at h;cases h
 | some j =>
  rw [e] at h
  exact r.get j d h
theorem rd_ix {K:PySem.W.Frag} {H₀:Hp} {B:Addr->Prop} {H:Hp} {dx dy:D} {x y:V} {Q:VK} (rx:Rep K B H dx x) (ry:Rep K B H dy y) (h:Res K E H₀ (gIx dx dy) fun d=>∀ v,Rep K B H d v->Q v H):rIx K x y H Q:=by
 cases dy <;> first | (cases dx <;> exact h.elim) | skip
 rename_i i
 simp only [Rep] at ry
 subst ry
 cases dx <;> first | exact h.elim | skip
 ·rename_i z
  simp only [Rep] at rx
  subst rx
  simp only [gIx] at h
  by_cases hl:z.length<=sizeLine
  ·rw [if_pos hl] at h
   cases e:atI z.cps.toList i with
   | none=>rw [e] at h;exact h.elim
   | some ch=>rw [e] at h;exact .inr (.inr ⟨z,i,ch,rfl,rfl,hl,e,h _ (by simp [Rep])⟩)
  ·rw [if_neg hl] at h;exact h.elim
 ·rename_i ds
  simp only [Rep] at rx
  obtain ⟨a,xs,rfl,h1,h2⟩:=rx
  simp only [gIx] at h
  cases e:atI ds i with
  | none=>simp only [e] at h;exact h.elim
  | some d =>
   simp only [e] at h
   obtain ⟨v,e2,r2⟩:=h2.at e
   exact .inr (.inl ⟨a,xs,i,v,rfl,rfl,h1,e2,h v r2⟩)
 ·rename_i ds
  simp only [Rep] at rx
  obtain ⟨a,xs,rfl,hb,h1,h2⟩:=rx
  simp only [gIx] at h
  cases e:atI ds i with
  | none=>simp only [e] at h;exact h.elim
  | some d =>
   simp only [e] at h
   obtain ⟨v,e2,r2⟩:=h2.at e
   exact .inl ⟨a,xs,i,v,rfl,rfl,.of h1,e2,h v r2⟩
 ·rename_i ds
  simp only [Rep] at rx
  obtain ⟨a,xs,rfl,h1,h2⟩:=rx
  simp only [gIx] at h
  cases e:atI ds i with
  | none=>simp only [e] at h;exact h.elim
  | some d =>
   simp only [e] at h
   obtain ⟨v,e2,r2⟩:=h2.at e
   exact .inl ⟨a,xs,i,v,rfl,rfl,h1.sq,e2,h v r2⟩
theorem xix (ha:PE X a (tX X.K E m fa)) (hb:PE X b (tX X.K E .W fb)) (hs:PlainIx b:=by exact fun _ _=>rfl) (hm:notF m=true:=by rfl):PE X (.Subscript a b pos) (tX X.K E m (f2 gIx fa fb)):=(pe_ix ix_seq ha hb hs).imp fun σ H Q q=>by
 obtain ⟨c,δ,hK,ab,q⟩:=q
 refine ⟨c,δ,hK,ab,(Res.bind q).imp fun dx _ k x H1 e1 r1=>?_⟩
 refine ⟨c,δ,hK,ab.grow e1,(Res.bind k).imp fun dy hy k y H2 e2 r2=>?_⟩
 have z1:Rep X.K (BOf c σ δ m) H2 dx x:=by rw [← hK];exact (Post.bOf hm r1).same e2
 by_cases hd:∃ i,dy=.int i
 ·obtain ⟨i,rfl⟩:=hd
  have z2:Rep X.K (BOf c σ δ m) H2 (.int i) y:=by
   have z:Rep c.K c.B H2 (.int i) y:=r2
   simp only [Rep] at z ⊢;exact z
  refine rd_ix z1 z2 (k.imp fun d _ k v r=>k v H2 (e1.trans e2) ?_)
  rw [← hK] at r
  cases m with
  | W=>exact r
  | S=>exact r
  | F=>simp [notF] at hm
 ·exfalso
  have:gIx dx dy=.bad:=by
   cases dy <;> first | (cases dx <;> rfl) | exact absurd ⟨_,rfl⟩ hd
  rw [this] at k
  exact k
inductive Fl where
 | nx (δ:DS) | rt (d:D) | bk (δ:DS) | ct (δ:DS)
abbrev Sm:=DS->Ou Fl
def RtP (K:PySem.W.Frag) (B:Addr->Prop) (H₀:Hp) (fr:Bool) (d:D) (v:V) (H':Hp):Prop :=
 match fr with
 | true=>∃ p xs,v=.ref p/\H₀ p=none/\H' p=some xs/\RepO K (fun a=>B a/\a≠p) H' d xs
 | false=>Rep K B H' d v
def EndP (c:Cn) (fr:Bool) (D:Ends):Fl->Prop
 | .nx δ'=>∀ σ' H',Abs c σ' δ' H'->D.nx σ' H'
 | .bk δ'=>∀ σ' H',Abs c σ' δ' H'->D.bk σ' H'
 | .ct δ'=>∀ σ' H',Abs c σ' δ' H'->D.ct σ' H'
 | .rt d=>∀ v H',Same c.H₀ H'->RtP c.K c.B c.H₀ fr d v H'->D.rt v H'
def tS (K:PySem.W.Frag) (E:XK) (fr:Bool) (F:Sm):TS:=fun D σ H=>∃ c δ,c.K=K/\Abs c σ δ H/\Res K E c.H₀ (F δ) (EndP c fr D)
variable {fr:Bool} {F G:Sm} {st:Stmt} {sts:List Stmt}
def sNext:Sm:=fun δ=>.ok (.nx δ)
def sSeq (F G:Sm):Sm:=fun δ=>(F δ).bind fun r=>match r with
 | .nx δ'=>G δ'
 | r=>.ok r
def sIf (gc:DS->Ou Bool) (F G:Sm):Sm:=fun δ=>(gc δ).bind fun b=>if b=true then F δ else G δ
def sBreak:Sm:=fun δ=>.ok (.bk δ)
def sCont:Sm:=fun δ=>.ok (.ct δ)
def sRet (f:Fn):Sm:=fun δ=>(f δ).bind fun d=>.ok (.rt d)
def sDrop (f:Fn):Sm:=fun δ=>(f δ).bind fun _=>.ok (.nx δ)
theorem xs_nil:PSs X [] (tS X.K E fr sNext):=pss_nil.imp fun D σ H q=>by
 obtain ⟨c,δ,hK,ab,q⟩:=q
 exact q σ H ab
theorem xs_cons (h1:PS X st (tS X.K E fr F)) (h2:PSs X sts (tS X.K E fr G)):PSs X (st::sts) (tS X.K E fr (sSeq F G)):=(pss_cons h1 h2).imp fun D σ H q=>by
 obtain ⟨c,δ,hK,ab,q⟩:=q
 refine ⟨c,δ,hK,ab,(Res.bind q).imp fun r _ k=>?_⟩
 cases r with
 | nx δ'=>exact fun σ' H' ab'=>⟨c,δ',hK,ab',k⟩
 | rt d=>exact k
 | bk δ'=>exact k
 | ct δ'=>exact k
theorem xs_if {t:Expr} {sa sb:List Stmt} (hc:PT X t (tT X.K E ga)) (ha:PSs X sa (tS X.K E fr F)) (hb:PSs X sb (tS X.K E fr G)):PS X (.If t sa sb pos) (tS X.K E fr (sIf ga F G)):=(ps_if hc ha hb).imp fun D σ H q=>by
 obtain ⟨c,δ,hK,ab,q⟩:=q
 refine ⟨c,δ,hK,ab,(Res.bind q).imp fun z _ k H1 e1=>?_⟩
 cases z with
 | true=>exact ⟨c,δ,hK,ab.grow e1,k⟩
 | false=>exact ⟨c,δ,hK,ab.grow e1,k⟩
theorem xs_ret (h:PE X e (tX X.K E .W fe)):PS X (.Return (some e) pos) (tS X.K E false (sRet fe)):=(ps_ret h).imp fun D σ H q=>by
 obtain ⟨c,δ,hK,ab,q⟩:=q
 exact ⟨c,δ,hK,ab,(Res.bind q).imp fun d _ k v H1 e1 r1=>k v H1 (ab.same.trans e1) r1⟩
theorem xs_retF (h:PE X e (tX X.K E .F fe)):PS X (.Return (some e) pos) (tS X.K E true (sRet fe)):=(ps_ret h).imp fun D σ H q=>by
 obtain ⟨c,δ,hK,ab,q⟩:=q
 refine ⟨c,δ,hK,ab,(Res.bind q).imp fun d _ k v H1 e1 r1=>k v H1 (ab.same.trans e1) ?_⟩
 obtain ⟨p,xs,rfl,h1,h2,h3⟩:=r1
 exact ⟨p,xs,rfl,ab.same.free h1,h2,h3.weak fun a z=>⟨z.1.1,z.2⟩⟩
def sRetO (i:Nat):Sm:=fun δ=>match δ[i]? with
 | some (.own ds)=>.ok (.rt ds)
 | _=>.bad
theorem xs_retO (i:Nat) {x:Str} {px:Pos} (hN:X.N[i]? = some x:=by rfl) (hv:Vis X.env.scope x:=by first | exact Or.inl rfl | exact Or.inr (Or.inl rfl) | exact Or.inr (Or.inr rfl)) (hd:(x == ("__debug__":Str))=false:=by decide)
  (hcd:(x == ("__classdict__":Str))=false:=by decide):PS X (.Return (some (.Name x px)) pos) (tS X.K E true (sRetO i)):=(ps_ret (pv i hN hv hd hcd)).imp fun D σ H q=>by
 obtain ⟨c,δ,hK,ab,q⟩:=q
 unfold sRetO at q
 cases e:δ[i]? with
 | none=>rw [e] at q;exact q.elim
 | some s =>
  rw [e] at q
  cases s with
  | un=>exact q.elim
  | val d=>exact q.elim
  | own ds =>
   obtain ⟨p,xs,h1,h2,h3,h4⟩:=ab.own i ds e
   refine ⟨.ref p,h1,q (.ref p) H ab.same ⟨p,xs,rfl,h3.1,h2,h4.weak fun a z=>⟨z.1,fun w=>z.2 ⟨i,ds,e,by rw [w];exact h1⟩⟩⟩⟩
theorem get_set {α:Type} {l:List α} {i j:Nat} {x y:α} (h:(l.set i x)[j]? = some y):(j=i/\y=x/\i < l.length)\/(j≠i/\l[j]? = some y):=by
 rw [List.getElem?_set] at h
 by_cases e:i=j
 ·rw [if_pos e] at h
  by_cases hl:i < l.length
  ·rw [if_pos hl] at h
   exact .inl ⟨e.symm,(Option.some.inj h).symm,hl⟩
  ·rw [if_neg hl] at h;cases h
 ·rw [if_neg e] at h
  exact .inr ⟨fun z=>e z.symm,h⟩
theorem set_ne {α:Type} {l:List α} {i j:Nat} {x:α} (h:j≠i):(l.set i x)[j]? = l[j]?:=by
 rw [List.getElem?_set,if_neg fun z=>h z.symm]
theorem set_eq {α:Type} {l:List α} {i:Nat} {x:α} (h:i < l.length):(l.set i x)[i]? = some x:=by
 rw [List.getElem?_set,if_pos rfl,if_pos h]
theorem own_set_val {σ:St} {δ:DS} {i:Nat} {v:V} {d:D} {q:Addr} (o:Own (σ.set i (some v)) (δ.set i (.val d)) q):Own σ δ q:=by
 obtain ⟨j,ds,h1,h2⟩:=o
 rcases get_set h1 with ⟨_,z,_⟩ | ⟨ne,h1⟩
 ·cases z
 ·rw [set_ne ne] at h2
  exact ⟨j,ds,h1,h2⟩
theorem Abs.set_val {c:Cn} {σ:St} {δ:DS} {H H':Hp} {i:Nat} {d:D} {v:V} (a:Abs c σ δ H) (e:Same H H') (r:Rep c.K (Av c σ δ) H' d v):Abs c (σ.set i (some v)) (δ.set i (.val d)) H':=by
 have av:∀ q,Av c σ δ q->Av c (σ.set i (some v)) (δ.set i (.val d)) q:=fun q h=>⟨h.1,fun o=>h.2 (own_set_val o)⟩
 refine ⟨a.same.trans e,fun b h=>a.fr b (e.free h),by rw [List.length_set,List.length_set];exact a.len,fun j d' h=>?_,fun j ds h=>?_,fun d' v' h=>?_,fun j k dj dk p h1 h2 h3 h4=>?_⟩
 ·rcases get_set h with ⟨rfl,z,hl⟩ | ⟨ne,h⟩
  ·cases z
   exact ⟨v,set_eq (by rw [← a.len];exact hl),r.weak av⟩
  ·obtain ⟨u,h1,h2⟩:=a.val j d' h
   exact ⟨u,by rw [set_ne ne];exact h1,(h2.same e).weak av⟩
 ·rcases get_set h with ⟨rfl,z,hl⟩ | ⟨ne,h⟩
  ·cases z
  ·obtain ⟨p,xs,h1,h2,h3,h4⟩:=a.own j ds h
   exact ⟨p,xs,by rw [set_ne ne];exact h1,e _ _ h2,h3,(h4.same e).weak av⟩
 ·exact ((a.gho d' v' h).same e).weak av
 ·rcases get_set h1 with ⟨_,z,_⟩ | ⟨n1,h1⟩
  ·cases z
  rcases get_set h2 with ⟨_,z,_⟩ | ⟨n2,h2⟩
  ·cases z
  rw [set_ne n1] at h3
  rw [set_ne n2] at h4
  exact a.inj j k dj dk p h1 h2 h3 h4
theorem own_set_own {σ:St} {δ:DS} {i:Nat} {p:Addr} {ds:D} {q:Addr} (o:Own (σ.set i (some (.ref p))) (δ.set i (.own ds)) q):Own σ δ q\/q=p:=by
 obtain ⟨j,es,h1,h2⟩:=o
 rcases get_set h1 with ⟨rfl,z,_⟩ | ⟨ne,h1⟩
 ·rcases get_set h2 with ⟨_,z2,_⟩ | ⟨n2,_⟩
  ·cases z2;exact .inr rfl
  ·exact absurd rfl n2
 ·rw [set_ne ne] at h2
  exact .inl ⟨j,es,h1,h2⟩
theorem Abs.set_own {c:Cn} {σ:St} {δ:DS} {H H':Hp} {i:Nat} {ds:D} {p:Addr} {xs:HO} (a:Abs c σ δ H) (e:Same H H') (hp:H p=none) (h':H' p=some xs) (r:RepO c.K (fun q=>Av c σ δ q/\q≠p) H' ds xs) :
  Abs c (σ.set i (some (.ref p))) (δ.set i (.own ds)) H':=by
 have av:∀ q,Av c σ δ q/\q≠p->Av c (σ.set i (some (.ref p))) (δ.set i (.own ds)) q:=fun q h=>⟨h.1.1,fun o=>(own_set_own o).elim h.1.2 h.2⟩
 have avH:∀ (q:Addr) (o:HO),Av c σ δ q->H q=some o->Av c (σ.set i (some (.ref p))) (δ.set i (.own ds)) q:=fun q o h z=>av q ⟨h,ne_of_none z hp⟩
 have up:∀ d v,Rep c.K (Av c σ δ) H d v->Rep c.K (Av c (σ.set i (some (.ref p))) (δ.set i (.own ds))) H' d v:=fun d v h=>Rep.mono avH (.of_same e) d v h
 have ups:∀ d v,RepO c.K (Av c σ δ) H d v->RepO c.K (Av c (σ.set i (some (.ref p))) (δ.set i (.own ds))) H' d v:=fun d v h=>RepO.mono avH (.of_same e) h
 have no:∀ (j:Nat) dj,δ[j]? = some (Sl.own dj)->σ[j]? = some (some (.ref p))->False:=fun j dj h1 h2=>by
  obtain ⟨p',ys,h3,h4,_⟩:=a.own j dj h1
  rw [h2] at h3;cases h3
  rw [hp] at h4;cases h4
 refine ⟨a.same.trans e,fun b h=>a.fr b (e.free h),by rw [List.length_set,List.length_set];exact a.len,fun j d' h=>?_,fun j es h=>?_,fun d' v' h=>up _ _ (a.gho d' v' h),fun j k dj dk q h1 h2 h3 h4=>?_⟩
 ·rcases get_set h with ⟨rfl,z,hl⟩ | ⟨ne,h⟩
  ·cases z
  ·obtain ⟨u,h1,h2⟩:=a.val j d' h
   exact ⟨u,by rw [set_ne ne];exact h1,up _ _ h2⟩
 ·rcases get_set h with ⟨rfl,z,hl⟩ | ⟨ne,h⟩
  ·cases z
   exact ⟨p,xs,set_eq (by rw [← a.len];exact hl),h',⟨a.same.free hp,a.fr p hp⟩,r.weak av⟩
  ·obtain ⟨q,ys,h1,h2,h3,h4⟩:=a.own j es h
   exact ⟨q,ys,by rw [set_ne ne];exact h1,e _ _ h2,h3,ups _ _ h4⟩
 ·rcases get_set h1 with ⟨e1,_,_⟩ | ⟨n1,h1⟩
  ·rcases get_set h2 with ⟨e2,_,_⟩ | ⟨n2,h2⟩
   ·rw [e1,e2]
   ·subst e1
    rcases get_set h3 with ⟨_,z,_⟩ | ⟨n3,_⟩
    ·cases z
     rw [set_ne n2] at h4
     exact (no k dk (by assumption) h4).elim
    ·exact absurd rfl n3
  ·rw [set_ne n1] at h3
   rcases get_set h2 with ⟨e2,_,_⟩ | ⟨n2,h2⟩
   ·subst e2
    rcases get_set h4 with ⟨_,z,_⟩ | ⟨n3,_⟩
    ·cases z
     exact (no j dj (by assumption) h3).elim
    ·exact absurd rfl n3
   ·rw [set_ne n2] at h4
    exact a.inj j k dj dk q h1 h2 h3 h4
theorem Abs.mut {c:Cn} {σ:St} {δ:DS} {H:Hp} {i:Nat} {ds ds':D} {p:Addr} {xs':HO} (a:Abs c σ δ H) (h:δ[i]? = some (Sl.own ds)) (hs:σ[i]? = some (some (V.ref p))) (r:RepO c.K (Av c σ δ) H ds' xs') :
  Abs c σ (δ.set i (.own ds')) (upd H p xs'):=by
 have hi:i < δ.length:=(List.getElem?_eq_some_iff.mp h).1
 have ow:Own σ δ p:=⟨i,ds,h,hs⟩
 have oi:∀ {q},Own σ (δ.set i (.own ds')) q->Own σ δ q:=fun {q} o=>by
  obtain ⟨j,es,h1,h2⟩:=o
  rcases get_set h1 with ⟨rfl,_,_⟩ | ⟨_,h1⟩
  ·exact ⟨j,ds,h,h2⟩
  ·exact ⟨j,es,h1,h2⟩
 have av:∀ q,Av c σ δ q->Av c σ (δ.set i (.own ds')) q:=fun q z=>⟨z.1,fun o=>z.2 (oi o)⟩
 have hne:∀ q,Av c σ δ q->q≠p:=fun q z e=>by subst e;exact z.2 ow
 obtain ⟨p',ys,g1,g2,g3,g4⟩:=a.own i ds h
 rw [hs] at g1;cases g1
 have st:Stay c.K (Av c σ δ) H (upd H p xs'):=⟨fun q ys z=>by
   rcases z with (z | ⟨o,z⟩) | z
   ·exact .inl (.inl (by rw [upd_ne (ne_of z g2 (g4.noT _))];exact z))
   ·exact .inl (.inr ⟨o,by rw [upd_ne (ne_of z g2 (g4.noF _ _))];exact z⟩)
   ·exact .inr z,fun q ys z=>by
   rcases z with ⟨o,z⟩ | z
   ·exact .inl ⟨o,by rw [upd_ne (ne_of z g2 (g4.noF _ _))];exact z⟩
   ·exact .inr z,fun q o z w=>by rw [upd_ne (hne q z)];exact w⟩
 have up:∀ d v,Rep c.K (Av c σ δ) H d v->Rep c.K (Av c σ (δ.set i (.own ds'))) (upd H p xs') d v:=fun d v z=>Rep.mono (fun q _ w _=>av q w) st d v z
 have ups:∀ d v,RepO c.K (Av c σ δ) H d v->RepO c.K (Av c σ (δ.set i (.own ds'))) (upd H p xs') d v:=fun d v z=>RepO.mono (fun q _ w _=>av q w) st z
 refine ⟨fun b o z=>?_,fun b z=>a.fr b (by
   by_cases hb:b=p
   ·subst hb;rw [upd_same] at z;cases z
   ·rw [upd_ne hb] at z;exact z),by rw [List.length_set];exact a.len,fun j d' z=>?_,fun j es z=>?_,fun d' v' z=>up _ _ (a.gho d' v' z),fun j k dj dk q h1 h2 h3 h4=>?_⟩
 ·rw [upd_ne (ne_of_none z g3.1)];exact a.same b o z
 ·rcases get_set z with ⟨_,w,_⟩ | ⟨ne,z⟩
  ·cases w
  ·obtain ⟨u,z1,z2⟩:=a.val j d' z
   exact ⟨u,z1,up _ _ z2⟩
 ·rcases get_set z with ⟨rfl,w,_⟩ | ⟨ne,z⟩
  ·cases w
   exact ⟨p,xs',hs,upd_same,g3,ups _ _ r⟩
  ·obtain ⟨q,zs,z1,z2,z3,z4⟩:=a.own j es z
   refine ⟨q,zs,z1,?_,z3,ups _ _ z4⟩
   rw [upd_ne fun w=>ne (a.inj j i es ds p z h (by rw [← w];exact z1) hs)]
   exact z2
 ·have go:∀ {j:Nat} {dj:D},(δ.set i (.own ds'))[j]? = some (Sl.own dj)->∃ dj',δ[j]? = some (Sl.own dj'):=fun {j dj} z=>by
   rcases get_set z with ⟨rfl,_,_⟩ | ⟨_,z⟩
   ·exact ⟨ds,h⟩
   ·exact ⟨_,z⟩
  obtain ⟨dj',h1⟩:=go h1
  obtain ⟨dk',h2⟩:=go h2
  exact a.inj j k dj' dk' q h1 h2 h3 h4
def thaw (i:Nat) (δ:DS):DS:=match δ[i]? with
 | some (.own ds)=>δ.set i (.val ds)
 | _=>δ
theorem Abs.thaw {c:Cn} {σ:St} {δ:DS} {H:Hp} (i:Nat) (a:Abs c σ δ H):Abs c σ (thaw i δ) H:=by
 unfold DL.thaw
 cases e:δ[i]? with
 | none=>exact a
 | some s =>
  cases s with
  | un=>exact a
  | val d=>exact a
  | own ds =>
   obtain ⟨p,xs,h1,h2,h3,h4⟩:=a.own i ds e
   have oi:∀ {q},Own σ (δ.set i (.val ds)) q->Own σ δ q/\q≠p:=fun {q} o=>by
    obtain ⟨j,es,z1,z2⟩:=o
    rcases get_set z1 with ⟨_,w,_⟩ | ⟨ne,z1⟩
    ·cases w
    ·exact ⟨⟨j,es,z1,z2⟩,fun w=>ne (a.inj j i es ds p z1 e (by rw [← w];exact z2) h1)⟩
   have av:∀ q,Av c σ δ q->Av c σ (δ.set i (.val ds)) q:=fun q z=>⟨z.1,fun o=>z.2 (oi o).1⟩
   refine ⟨a.same,a.fr,by rw [List.length_set];exact a.len,fun j d' z=>?_,fun j es z=>?_,fun d' v' z=>(a.gho d' v' z).weak av,fun j k dj dk q z1 z2 z3 z4=>?_⟩
   ·rcases get_set z with ⟨rfl,w,_⟩ | ⟨ne,z⟩
    ·cases w
     refine ⟨.ref p,h1,?_⟩
     exact (h4.weak av).rep h2 ⟨h3.2,fun o=>(oi o).2 rfl⟩
    ·obtain ⟨u,z1,z2⟩:=a.val j d' z
     exact ⟨u,z1,z2.weak av⟩
   ·rcases get_set z with ⟨_,w,_⟩ | ⟨ne,z⟩
    ·cases w
    ·obtain ⟨q,zs,z1,z2,z3,z4⟩:=a.own j es z
     exact ⟨q,zs,z1,z2,z3,z4.weak av⟩
   ·rcases get_set z1 with ⟨_,w,_⟩ | ⟨_,z1⟩
    ·cases w
    rcases get_set z2 with ⟨_,w,_⟩ | ⟨_,z2⟩
    ·cases w
    exact a.inj j k dj dk q z1 z2 z3 z4
theorem xs_thaw (i:Nat) (h:PS X st (tS X.K E fr F)):PS X st (tS X.K E fr fun δ=>F (thaw i δ)):=h.imp fun D σ H q=>by
 obtain ⟨c,δ,hK,ab,q⟩:=q
 exact ⟨c,_,hK,ab.thaw i,q⟩
def sSet (i:Nat) (f:Fn):Sm:=fun δ=>(f δ).bind fun d=>.ok (.nx (δ.set i (.val d)))
def sOwn (i:Nat) (f:Fn):Sm:=fun δ=>(f δ).bind fun d=>.ok (.nx (δ.set i (.own d)))
theorem xs_set (i:Nat) {x:Str} {pos':Pos} (hN:X.N.Nodup) (he:PE X e (tX X.K E .S fe)) (hi:X.N[i]? = some x:=by rfl) (hx:Loc X.env.scope x:=by first | exact Or.inl rfl | exact Or.inr rfl) (hs:swapsWith e (some (.Name x pos')) pos.line X.env=pure false:=by rfl)
  (hf:X.fn x=true\/X.env.scope.names.lookup x=some .local:=by first | exact .inl rfl | exact .inr rfl):PS X (.Assign [.Name x pos'] e pos) (tS X.K E fr (sSet i fe)):=(ps_set hN hi hx he hs hf).imp fun D σ H q=>by
 obtain ⟨c,δ,hK,ab,q⟩:=q
 exact ⟨c,δ,hK,ab,(Res.bind q).imp fun d _ k v H1 e1 r1=>k _ H1 (ab.set_val e1 r1)⟩
theorem xs_own (i:Nat) {x:Str} {pos':Pos} (hN:X.N.Nodup) (he:PE X e (tX X.K E .F fe)) (hi:X.N[i]? = some x:=by rfl) (hx:Loc X.env.scope x:=by first | exact Or.inl rfl | exact Or.inr rfl) (hs:swapsWith e (some (.Name x pos')) pos.line X.env=pure false:=by rfl)
  (hf:X.fn x=true\/X.env.scope.names.lookup x=some .local:=by first | exact .inl rfl | exact .inr rfl):PS X (.Assign [.Name x pos'] e pos) (tS X.K E fr (sOwn i fe)):=(ps_set hN hi hx he hs hf).imp fun D σ H q=>by
 obtain ⟨c,δ,hK,ab,q⟩:=q
 refine ⟨c,δ,hK,ab,(Res.bind q).imp fun d _ k v H1 e1 r1=>?_⟩
 obtain ⟨p,xs,rfl,h1,h2,h3⟩:=r1
 exact k _ H1 (ab.set_own e1 h1 h2 h3)
def tG (K:PySem.W.Frag) (E:XK) (g:D->DS->Ou DS):TG:=fun v σ H Q=>∃ c δ d,c.K=K/\Abs c σ δ H/\Rep c.K (Av c σ δ) H d v/\Res K E c.H₀ (g d δ) fun δ'=>∀ σ' H',Same H H'->Abs c σ' δ' H'->Q σ' H'
def gNm (i:Nat):D->DS->Ou DS:=fun d δ=>.ok (δ.set i (.val d))
theorem xg_name (i:Nat) {x:Str} (hN:X.N.Nodup) (hi:X.N[i]? = some x:=by rfl) (hx:Loc X.env.scope x:=by first | exact Or.inl rfl | exact Or.inr rfl) (hf:X.fn x=true\/X.env.scope.names.lookup x=some .local:=by first | exact .inl rfl | exact .inr rfl):PG X (.Name x pos) (tG X.K E (gNm i)):=(pg_name hN hi hx hf).imp fun v σ H Q q=>by
 obtain ⟨c,δ,d,hK,ab,r,q⟩:=q
 exact q _ H (Same.refl H) (ab.set_val (Same.refl H) r)
def forL (g:D->DS->Ou DS) (body:Sm):List D->DS->Ou Fl
 | [],δ=>.ok (.nx δ)
 | x::xs,δ=>(g x δ).bind fun δ1=>(body δ1).bind fun r=>match r with
  | .nx δ2=>forL g body xs δ2
  | .ct δ2=>forL g body xs δ2
  | .bk δ2=>.ok (.nx δ2)
  | .rt d=>.ok (.rt d)
def sFor (fl:Fn) (g:D->DS->Ou DS) (body:Sm):Sm:=fun δ=>(fl δ).bind fun d=>match d with
 | .lst ds=>forL g body ds δ
 | .frl ds=>forL g body ds δ
 | _=>.bad
theorem Abs.drop {c:Cn} {σ:St} {δ:DS} {H:Hp} {g:List (D×V)} (a:Abs { c with G:=g } σ δ H) (hg:∀ z∈c.G,z∈g):Abs c σ δ H :=
 ⟨a.same,a.fr,a.len,a.val,a.own,fun d v h=>a.gho d v (hg _ h),a.inj⟩
theorem for_turn {c:Cn} {g:D->DS->Ou DS} {body:Sm} {tg:TG} {tb:TS} {D:Ends} {K:PySem.W.Frag} {gh:List (DL.D×V)} (htg:∀ v σ H Q,tG K E g v σ H Q->tg v σ H Q) (htb:∀ D σ H,tS K E fr body D σ H->tb D σ H) (hK:c.K=K) (hg:∀ z∈c.G,z∈gh)
  {d:DL.D} {ds:List DL.D} {v:V} {σ:St} {δ:DS} {H:Hp} (ab:Abs { c with G:=gh } σ δ H) (r:Rep c.K (Av c σ δ) H d v) (h:Res K E c.H₀ (forL g body (d::ds) δ) (EndP c fr D)) :
  tg v σ H fun σ2 H2=>tb { D with nx:=fun σ' H'=>∃ δ',Abs { c with G:=gh } σ' δ' H'/\Res K E c.H₀ (forL g body ds δ') (EndP c fr D),ct:=fun σ' H'=>∃ δ',Abs { c with G:=gh } σ' δ' H'/\Res K E c.H₀ (forL g body ds δ') (EndP c fr D),bk:=D.nx } σ2 H2:=by
 refine htg _ _ _ _ ⟨{ c with G:=gh },δ,d,hK,ab,r,(Res.bind h).imp fun δ1 _ k σ2 H2 _ ab2=>htb _ _ _ ⟨{ c with G:=gh },δ1,hK,ab2,(Res.bind k).imp fun r _ k=>?_⟩⟩
 cases r with
 | nx δ2=>exact fun σ' H' ab'=>⟨δ2,ab',k⟩
 | ct δ2=>exact fun σ' H' ab'=>⟨δ2,ab',k⟩
 | bk δ2=>exact fun σ' H' ab'=>k σ' H' (ab'.drop hg)
 | rt z=>exact k
theorem for_goes {c:Cn} {g:D->DS->Ou DS} {body:Sm} {J:It} {tg:TG} {tb:TS} {D:Ends} {K:PySem.W.Frag} {gh:List (DL.D×V)} (htg:∀ v σ H Q,tG K E g v σ H Q->tg v σ H Q) (htb:∀ D σ H,tS K E fr body D σ H->tb D σ H) (hK:c.K=K) (hg:∀ z∈c.G,z∈gh)
  {ds:List DL.D} {σ:St} {δ:DS} {H:Hp} (ab:Abs { c with G:=gh } σ δ H) (h:Res K E c.H₀ (forL g body ds δ) (EndP c fr D))
  (go:∀ (i:Nat) σ δ H d,Abs { c with G:=gh } σ δ H->ds[i]? = some d->J.go i H/\∀ x H',J.yld i H x H'->H'=H/\Rep c.K (Av c σ δ) H d x)
  (stop:∀ σ δ H,Abs { c with G:=gh } σ δ H->J.stop ds.length H) :
  ∃ W:Nat->Nat->St->Hp->Prop,(∃ m,W 0 m σ H)/\∀ i m σ H,W i m σ H ->
   (J.stop i H/\D.nx σ H)\/(J.go i H/\∃ N:St->Hp->Prop,(∀ σ' H',N σ' H'->∃ m',m' < m/\W (i + 1) m' σ' H')/\∀ x H',J.yld i H x H'->tg x σ H' fun σ2 H2=>tb { D with nx:=N,ct:=N,bk:=D.nx } σ2 H2):=by
 refine ⟨fun i m σ H=>m=ds.length - i/\i<=ds.length/\∃ δ,Abs { c with G:=gh } σ δ H/\Res K E c.H₀ (forL g body (ds.drop i) δ) (EndP c fr D),⟨ds.length,by simp,Nat.zero_le _,δ,ab,by simpa using h⟩,?_⟩
 rintro i m σ H ⟨rfl,hi,δ,ab,h⟩
 by_cases hlt:i < ds.length
 ·have hd:ds[i]? = some ds[i]:=by simp [hlt]
  obtain ⟨g1,g2⟩:=go i σ δ H _ ab hd
  rw [List.drop_eq_getElem_cons hlt] at h
  refine .inr ⟨g1,_,fun σ' H' p'=>⟨ds.length - (i + 1),by lia,rfl,hlt,p'⟩,fun x H' y=>?_⟩
  obtain ⟨rfl,r⟩:=g2 x H' y
  exact for_turn htg htb hK hg ab r h
 ·have e:i=ds.length:=by lia
  subst e
  rw [List.drop_length] at h
  exact .inl ⟨stop σ δ H ab,h σ H (ab.drop hg)⟩
theorem rd_for {c:Cn} {g:D->DS->Ou DS} {D:Ends} {K:PySem.W.Frag} {σ:St} {δ:DS} {H:Hp} {a:Addr} {d:DL.D} {ds:List DL.D} (hK:c.K=K) (ab:Abs c σ δ H) (r:Rep c.K (Av c σ δ) H d (.ref a))
  (all:∀ B H,Rep c.K B H d (.ref a)->∃ xs,SqL K H a xs/\Reps c.K B H ds xs) (h:Res K E c.H₀ (forL g F ds δ) (EndP c fr D)) :
  ∃ W:Nat->Nat->St->Hp->Prop,(∃ m,W 0 m σ H)/\∀ i m σ H,W i m σ H ->
   ((Itl K a).stop i H/\D.nx σ H)\/((Itl K a).go i H/\∃ N:St->Hp->Prop,(∀ σ' H',N σ' H'->∃ m',m' < m/\W (i + 1) m' σ' H')/\∀ x H',(Itl K a).yld i H x H'->tG K E g x σ H' fun σ2 H2=>tS K E fr F { D with nx:=N,ct:=N,bk:=D.nx } σ2 H2):=by
 have ab':Abs { c with G:=(d,.ref a)::c.G } σ δ H:=by
  refine ⟨ab.same,ab.fr,ab.len,ab.val,ab.own,fun d' v' hm=>?_,ab.inj⟩
  rcases List.mem_cons.mp hm with e | hm
  ·cases e;exact r
  ·exact ab.gho d' v' hm
 refine for_goes (gh:=(d,.ref a)::c.G) (fun _ _ _ _ z=>z) (fun _ _ _ z=>z) hK (fun _ z=>List.mem_cons_of_mem _ z) ab' h (fun i σ δ H d z hd=>?_) fun σ δ H z=>?_
 ·obtain ⟨ys,w1,w2⟩:=all _ _ (z.gho _ _ List.mem_cons_self)
  obtain ⟨u,w3,w4⟩:=w2.get i d hd
  refine ⟨⟨ys,u,w1,w3⟩,fun x H' y=>⟨y.1,?_⟩⟩
  have w5:=y.2 ys w1
  rw [w3] at w5;cases w5
  exact w4
 ·obtain ⟨ys,w1,w2⟩:=all _ _ (z.gho _ _ List.mem_cons_self)
  exact ⟨ys,w1,Nat.le_of_eq w2.length⟩
theorem xs_for {tg iter:Expr} {body:List Stmt} {fl:Fn} {g:D->DS->Ou DS} (hp:PassesOwn (model X.prog X.w) X.A X.env X.xe) (hc:X.calm=true) (hi:PE X iter (tX X.K E .S fl)) (hg:PG X tg (tG X.K E g)) (hb:PSs X body (tS X.K E fr F))
  (hs:∀ x,foldedSetIterable iter X.env x=pure x:=by intro _;rfl):PS X (.For tg iter body [] pos) (tS X.K E fr (sFor fl g F)):=(ps_for hp hc (pi_list hi) hg hb hs).imp fun D σ H q=>by
 obtain ⟨c,δ,hK,ab,q⟩:=q
 refine ⟨c,δ,hK,ab,(Res.bind q).imp fun d hd0 k v H1 e1 r1=>?_⟩
 have r1':Rep c.K (Av c σ δ) H1 d v:=r1
 cases d <;> first | exact k.elim | skip
 ·rename_i ds
  have r2:=r1'
  simp only [Rep] at r2
  obtain ⟨a,xs,rfl,hb,h1,h2⟩:=r2
  refine ⟨a,rfl,⟨xs,.of h1⟩,rd_for hK (ab.grow e1) r1' (fun B H z=>?_) k⟩
  simp only [Rep] at z
  obtain ⟨b,ys,e,_,w1,w2⟩:=z
  cases e
  exact ⟨ys,.of w1,w2⟩
 ·rename_i ds
  have r2:=r1'
  simp only [Rep] at r2
  obtain ⟨a,xs,rfl,h1,h2⟩:=r2
  refine ⟨a,rfl,⟨xs,by rw [← hK];exact h1.sq⟩,rd_for hK (ab.grow e1) r1' (fun B H z=>?_) k⟩
  simp only [Rep] at z
  obtain ⟨b,ys,e,w1,w2⟩:=z
  cases e
  exact ⟨ys,by rw [← hK];exact w1.sq,w2⟩
def rng (lo:Int) (n:Nat):List D:=(List.range n).map fun (k:Nat)=>D.int (lo + (k:Int))
theorem rng_get {lo:Int} {n i:Nat} {d:D} (h:(rng lo n)[i]? = some d):i < n/\d=.int (lo + (i:Int)):=by
 unfold rng at h
 rw [List.getElem?_map] at h
 cases e:(List.range n)[i]? with
 | none=>rw [e] at h;cases h
 | some k =>
  rw [e] at h
  have e2:=List.getElem?_eq_some_iff.mp e
  obtain ⟨hl,e3⟩:=e2
  simp at e3 hl
  subst e3
  exact ⟨hl,(Option.some.inj h).symm⟩
theorem rng_len (lo:Int) (n:Nat):(rng lo n).length=n:=by simp [rng]
def rOk (i:Int):Bool:=decide (-(2 ^ 62)<=i/\i < 2 ^ 62)
def sRng (fs:List Fn) (g:D->DS->Ou DS) (body:Sm):Sm:=fun δ=>(fArgs fs δ).bind fun ds=>match ds with
 | [.int j]=>if rOk j=true then forL g body (rng 0 j.toNat) δ else .bad
 | [.int i,.int j]=>if rOk i=true/\rOk j=true then forL g body (rng i (j - i).toNat) δ else .bad
 | _=>.bad
theorem rd_rng1 {c:Cn} {g:D->DS->Ou DS} {D:Ends} {K:PySem.W.Frag} {σ:St} {δ:DS} {H:Hp} {lo:Int} {n:Nat} (hK:c.K=K) (ab:Abs c σ δ H) (h:Res K E c.H₀ (forL g F (rng lo n) δ) (EndP c fr D)) :
  ∃ W:Nat->Nat->St->Hp->Prop,(∃ m,W 0 m σ H)/\∀ i m σ H,W i m σ H ->
   ((Itr lo n).stop i H/\D.nx σ H)\/((Itr lo n).go i H/\∃ N:St->Hp->Prop,(∀ σ' H',N σ' H'->∃ m',m' < m/\W (i + 1) m' σ' H')/\∀ x H',(Itr lo n).yld i H x H'->tG K E g x σ H' fun σ2 H2=>tS K E fr F { D with nx:=N,ct:=N,bk:=D.nx } σ2 H2):=by
 refine for_goes (gh:=c.G) (fun _ _ _ _ z=>z) (fun _ _ _ z=>z) hK (fun _ z=>z) ab h (fun i σ δ H d z hd=>?_) fun σ δ H z=>?_
 ·obtain ⟨h1,rfl⟩:=rng_get hd
  exact ⟨h1,fun x H' y=>⟨y.1,by rw [y.2];simp [Rep]⟩⟩
 ·show n<=_
  rw [rng_len];exact Nat.le_refl _
def whileF (gc:DS->Ou Bool) (body:Sm):Nat->Sm
 | 0,_=>.bad
 | n + 1,δ=>(gc δ).bind fun b=>if b=true then (body δ).bind fun r=>match r with
   | .nx δ2=>whileF gc body n δ2
   | .ct δ2=>whileF gc body n δ2
   | .bk δ2=>.ok (.nx δ2)
   | .rt d=>.ok (.rt d)
  else .ok (.nx δ)
theorem xs_while (n:Nat) {t:Expr} {body:List Stmt} (hp:PassesOwn (model X.prog X.w) X.A X.env X.xe) (hc:PT X t (tT X.K E ga)) (hb:PSs X body (tS X.K E fr F)):PS X (.While t body [] pos) (tS X.K E fr (whileF ga F n)):=(ps_while hp hc hb).imp fun D σ H q=>by
 obtain ⟨c,δ,hK,ab,q⟩:=q
 refine ⟨fun m σ H=>∃ δ,Abs c σ δ H/\Res X.K E c.H₀ (whileF ga F m δ) (EndP c fr D),⟨n,δ,ab,q⟩,?_⟩
 rintro m σ H ⟨δ,ab,q⟩
 cases m with
 | zero=>exact q.elim
 | succ m =>
  refine ⟨c,δ,hK,ab,(Res.bind q).imp fun z _ k H1 e1=>?_⟩
  cases z with
  | true =>
   refine ⟨fun σ' H'=>∃ δ',Abs c σ' δ' H'/\Res X.K E c.H₀ (whileF ga F m δ') (EndP c fr D),fun σ' H' z=>⟨m,Nat.lt_succ_self m,z⟩,c,δ,hK,ab.grow e1,(Res.bind k).imp fun r _ k=>?_⟩
   cases r with
   | nx δ2=>exact fun σ' H' ab'=>⟨δ2,ab',k⟩
   | ct δ2=>exact fun σ' H' ab'=>⟨δ2,ab',k⟩
   | bk δ2=>exact k
   | rt d=>exact k
  | false=>exact k σ H1 (ab.grow e1)
end
end DL
namespace DL
open PySem PySem.Spec PyProof.Rows L2
section
variable {X:Cx} {E:XK} {m:Md} {a b e:Expr} {fa fb fe:Fn} {pos:Pos} {es:List Expr} {fs:List Fn} {fr:Bool} {F G:Sm} {ga gb:DS->Ou Bool} {st:Stmt}
def gI (C:Int->Int->Bool) (g:Int->Int->D):D->D->Ou D
 | .int i,.int j=>if C i j=true then .ok (g i j) else .bad
 | _,_=>.bad
def gI0 (g:Int->Int->D):D->D->Ou D
 | .int i,.int j=>.ok (g i j)
 | _,_=>.bad
theorem od_I {f:Value->Value->Sem Value} {C':Int->Int->Prop} {C:Int->Int->Bool} {g:Int->Int->D} (h:OpR X f (rI C' fun i j=>toV (g i j))) (hC:∀ i j,C i j=true->C' i j) (hs:∀ i j,isS (g i j)=true):OpD X f (gI C g):=by
 refine ⟨_,h,fun B H dx dy x y Q rx ry=>?_⟩
 cases dx <;> cases dy <;> simp only [gI]
 rename_i i j
 simp only [Rep] at rx ry
 subst rx;subst ry
 by_cases hc:C i j=true
 ·rw [if_pos hc]
  exact ⟨hs i j,fun q=>⟨i,j,rfl,rfl,hC i j hc,q⟩⟩
 ·rw [if_neg hc];trivial
theorem od_I0 {f:Value->Value->Sem Value} {g:Int->Int->D} (h:OpR X f (rI0 fun i j=>toV (g i j))) (hs:∀ i j,isS (g i j)=true):OpD X f (gI0 g):=by
 refine ⟨_,h,fun B H dx dy x y Q rx ry=>?_⟩
 cases dx <;> cases dy <;> simp only [gI0]
 rename_i i j
 simp only [Rep] at rx ry
 subst rx;subst ry
 exact ⟨hs i j,fun q=>⟨i,j,rfl,rfl,q⟩⟩
def gSub:=gI0 fun i j=>.int (i - j)
def cMul (i j:Int):Bool:=decide ((-(2 ^ 64) < i/\i < 2 ^ 64)\/(-(2 ^ 64) < j/\j < 2 ^ 64))
def gMul:=gI cMul fun i j=>.int (i * j)
def cDiv (_ j:Int):Bool:=decide (0 < j/\j < 2 ^ 64)
def gDiv:=gI cDiv fun i j=>.int (i / j)
def cMod (_ j:Int):Bool:=decide (0 < j)
def gMod:=gI cMod fun i j=>.int (i % j)
def cPow (i j:Int):Bool:=decide (0<=j/\j<=1000000/\i.natAbs < 2 ^ 64)
def gPow:=gI cPow fun i j=>.int (i ^ j.toNat)
def gShl:=gI cPow fun i j=>.int (i * 2 ^ j.toNat)
def cShr (_ j:Int):Bool:=decide (0<=j)
def gShr:=gI cShr fun i j=>.int (i / 2 ^ j.toNat)
def gAnd:=gI0 fun i j=>.int (Builtin.bitAnd i j)
def gXor:=gI0 fun i j=>.int (Builtin.bitXor i j)
theorem od_sub:OpD X (binaryOp .Sub) gSub:=od_I0 op_sub fun _ _=>rfl
theorem od_mul:OpD X (binaryOp .Mult) gMul:=od_I op_mul (fun i j h=>by have z:=of_decide_eq_true h;exact z) fun _ _=>rfl
theorem log2_64 {j:Int} (h0:0 < j) (h:j < 2 ^ 64):j.natAbs.log2 < 9000:=by
 have h1:j.natAbs≠0:=by lia
 have h2:j.natAbs < 2 ^ 64:=by lia
 have:=(Nat.log2_lt h1).mpr h2
 lia
theorem op_fdiv64:OpR X (binaryOp .FloorDiv) (rI (fun _ j=>0 < j/\j < 2 ^ 64) fun i j=>.int (i / j)):=opI fun i j _ _ _ _ _ hc q=>by
 have h1:(0:Int) < j:=hc.1
 exact floordiv_int (by lia) (by rw [Int.fdiv_eq_ediv_of_nonneg i (by lia)];exact q) (.inl (PyProof.noPylong_of_log2 (log2_64 hc.1 hc.2)))
theorem od_div:OpD X (binaryOp .FloorDiv) gDiv:=od_I op_fdiv64 (fun _ _ h=>of_decide_eq_true h) fun _ _=>rfl
theorem od_mod:OpD X (binaryOp .Mod) gMod:=od_I op_mod (fun _ _ h=>of_decide_eq_true h) fun _ _=>rfl
theorem od_pow:OpD X (binaryOp .Pow) gPow:=od_I op_pow (fun i j h=>by have z:=of_decide_eq_true h;exact z) fun _ _=>rfl
theorem od_shl:OpD X (binaryOp .LShift) gShl:=od_I op_shl (fun i j h=>by have z:=of_decide_eq_true h;exact z) fun _ _=>rfl
theorem od_xor:OpD X (binaryOp .BitXor) gXor:=od_I0 op_xor fun _ _=>rfl
def gLt:=gI0 fun i j=>.bl (decide (i < j))
def gLe:=gI0 fun i j=>.bl (decide (i<=j))
def gGt:=gI0 fun i j=>.bl (decide (j < i))
def gGe:=gI0 fun i j=>.bl (decide (j<=i))
theorem od_lt:OpD X (compareOp .Lt) gLt:=od_I0 op_lt fun _ _=>rfl
theorem od_le:OpD X (compareOp .LtE) gLe:=od_I0 op_le fun _ _=>rfl
theorem od_gt:OpD X (compareOp .Gt) gGt:=od_I0 op_gt fun _ _=>rfl
theorem od_ge:OpD X (compareOp .GtE) gGe:=od_I0 op_ge fun _ _=>rfl
def f1 (g:D->Ou D) (fa:Fn):Fn:=fun δ=>(fa δ).bind g
def gNeg:D->Ou D
 | .int i=>.ok (.int (-i))
 | _=>.bad
theorem xneg (ha:PE X a (tX X.K E .W fa)) (hm:notF m=true:=by rfl):PE X (.UnaryOp .USub a pos) (tX X.K E m (f1 gNeg fa)):=(pe_un un_neg ha).imp fun σ H Q q=>by
 obtain ⟨c,δ,hK,ab,q⟩:=q
 refine ⟨c,δ,hK,ab,(Res.bind q).imp fun d _ k v H1 e1 r1=>?_⟩
 have r1':Rep c.K c.B H1 d v:=r1
 cases d <;> first | exact k.elim | skip
 simp only [Rep] at r1'
 subst r1'
 exact ⟨_,rfl,k _ H1 e1 (Post.ofS hm rfl)⟩
def gIsN:D->Ou D
 | .non=>.ok (.bl true)
 | _=>.ok (.bl false)
def gNotN:D->Ou D
 | .non=>.ok (.bl false)
 | _=>.ok (.bl true)
theorem non_iff {K:PySem.W.Frag} {B:Addr->Prop} {H:Hp} {d:D} {v:V} (r:Rep K B H d v):gIsN d=.ok (.bl (decide (v=.non)))/\gNotN d=.ok (.bl (!decide (v=.non))):=by
 cases d <;> simp only [Rep] at r <;> first | (subst r;exact ⟨rfl,rfl⟩) | (obtain ⟨a,_,rfl,_⟩:=r;exact ⟨rfl,rfl⟩) | (obtain ⟨a,_,_,rfl,_⟩:=r;exact ⟨rfl,rfl⟩)
theorem xisN {j p} (ha:PE X a (tX X.K E .W fa)) (hm:notF m=true:=by rfl):PE X (.Compare a [.Is] [.Constant .none j p] pos) (tX X.K E m (f1 gIsN fa)):=(pe_cmp (pc_isN ha)).imp fun σ H Q q=>by
 obtain ⟨c,δ,hK,ab,q⟩:=q
 refine ⟨c,δ,hK,ab,(Res.bind q).imp fun d _ k v H1 e1 r1=>?_⟩
 rw [(non_iff (show Rep c.K c.B H1 d v from r1)).1] at k
 exact k _ H1 e1 (Post.ofS hm rfl)
theorem xt_isN {j p} (ha:PE X a (tX X.K E .W fa)):PT X (.Compare a [.Is] [.Constant .none j p] pos) (tT X.K E (fAsB (f1 gIsN fa))):=(pt_cmp (pc_isN ha)).imp fun σ H Q q=>by
 obtain ⟨c,δ,hK,ab,q⟩:=q
 refine ⟨c,δ,hK,ab,(Res.bind (Res.bind q)).imp fun d _ k v H1 e1 r1=>?_⟩
 rw [(non_iff (show Rep c.K c.B H1 d v from r1)).1] at k
 exact ⟨_,rfl,k H1 e1⟩
theorem xt_notN {j p} (ha:PE X a (tX X.K E .W fa)):PT X (.Compare a [.IsNot] [.Constant .none j p] pos) (tT X.K E (fAsB (f1 gNotN fa))):=(pt_cmp (pc_notN ha)).imp fun σ H Q q=>by
 obtain ⟨c,δ,hK,ab,q⟩:=q
 refine ⟨c,δ,hK,ab,(Res.bind (Res.bind q)).imp fun d _ k v H1 e1 r1=>?_⟩
 rw [(non_iff (show Rep c.K c.B H1 d v from r1)).2] at k
 exact ⟨_,rfl,k H1 e1⟩
def fChn (g g':D->D->Ou D) (fa fb fc:Fn):Fn:=fun δ=>(fa δ).bind fun x=>(fb δ).bind fun y=>(g x y).bind fun z=>(asB z).bind fun k=>if k=true then (fc δ).bind fun w=>g' y w else .ok (.bl false)
theorem rd_chn {r r':R2} {g g':D->D->Ou D} {fc:Fn} {σ:St} {H:Hp} {Q:VK} (hr:∀ (B:Addr->Prop) (H:Hp) (dx dy:D) (x y:V) (Q:VK),Rep X.K B H dx x->Rep X.K B H dy y->match g dx dy with
  | .ok d=>isS d=true/\(Q (toV d) H->r x y H Q)
  | .ex _=>False
  | .bad=>True) (hr':∀ (B:Addr->Prop) (H:Hp) (dx dy:D) (x y:V) (Q:VK),Rep X.K B H dx x->Rep X.K B H dy y->match g' dx dy with
  | .ok d=>isS d=true/\(Q (toV d) H->r' x y H Q)
  | .ex _=>False
  | .bad=>True) (hm:notF m=true) (h:tX X.K E m (fChn g g' fa fb fc) σ H Q):tChain r r' (tX X.K E .W fa) (tX X.K E .W fb) (tX X.K E .W fc) σ H Q:=by
 obtain ⟨c,δ,hK,ab,h⟩:=h
 refine ⟨c,δ,hK,ab,(Res.bind h).imp fun dx _ k x H1 e1 r1=>?_⟩
 refine ⟨c,δ,hK,ab.grow e1,(Res.bind k).imp fun dy _ k y H2 e2 r2=>?_⟩
 have r1':Rep X.K c.B H2 dx x:=by
  have z:Rep c.K c.B H1 dx x:=r1
  rw [hK] at z;exact z.same e2
 have r2':Rep X.K c.B H2 dy y:=by
  have z:Rep c.K c.B H2 dy y:=r2
  rw [hK] at z;exact z
 have q:=hr c.B H2 dx dy x y (fun z H3=>∃ k,z=.bl k/\(if k=true then tX X.K E .W fc σ H3 fun w' H4=>r' y w' H4 Q else Q (.bl false) H3)) r1' r2'
 cases e:g dx dy with
 | ex z=>rw [e] at q;exact q.elim
 | bad=>rw [e] at k;exact k.elim
 | ok d =>
  rw [e] at q k
  refine q.2 ?_
  simp only [bind_ok] at k
  cases d <;> first | exact k.elim | skip
  rename_i z
  refine ⟨z,rfl,?_⟩
  cases z with
  | false=>exact k _ H2 (e1.trans e2) (Post.ofS hm rfl)
  | true =>
   refine ⟨c,δ,hK,(ab.grow e1).grow e2,(Res.bind (show Res X.K E c.H₀ ((fc δ).bind fun w=>g' dy w) _ from k)).imp fun dw _ k w H3 e3 r3=>?_⟩
   have r3':Rep X.K c.B H3 dw w:=by
    have z:Rep c.K c.B H3 dw w:=r3
    rw [hK] at z;exact z
   have q':=hr' c.B H3 dy dw y w Q (r2'.same e3) r3'
   cases e':g' dy dw with
   | ex z=>rw [e'] at q';exact q'.elim
   | bad=>rw [e'] at k;exact k.elim
   | ok d =>
    rw [e'] at q' k
    exact q'.2 (k (toV d) H3 ((e1.trans e2).trans e3) (Post.ofS hm q'.1))
theorem xchn {op op':CmpOp} {g g':D->D->Ou D} {c:Expr} {fc:Fn} (ho:OpD X (compareOp op) g) (ho':OpD X (compareOp op') g') (ha:PE X a (tX X.K E .W fa)) (hb:PE X b (tX X.K E .W fb)) (hc:PE X c (tX X.K E .W fc)) (hk:lastMarks [op,op'] [b,c]=false:=by rfl) (hm:notF m=true:=by rfl) :
  PE X (.Compare a [op,op'] [b,c] pos) (tX X.K E m (fChn g g' fa fb fc)):=by
 obtain ⟨r,h1,h2⟩:=ho
 obtain ⟨r',h1',h2'⟩:=ho'
 exact (pe_chain h1 h1' ha hb hc hk).imp fun σ H Q q=>rd_chn h2 h2' hm q
end
end DL
namespace DL
open PySem PySem.Spec PyProof.Rows L2
def zipO (f:D->D->Option Bool):List D->List D->Option (List Bool)
 | x::xs,y::ys=>(f x y).bind fun b=>(zipO f xs ys).bind fun bs=>some (b::bs)
 | _,_=>some []
def eqT (f:D->D->Option Bool) (xs ys:List D):Option Bool:=(zipO f xs ys).bind fun bs=>some (bs.all id && xs.length == ys.length)
def eqL (f:D->D->Option Bool) (xs ys:List D):Option Bool:=if xs.length=ys.length then (zipO f xs ys).bind fun bs=>some (bs.all id) else some false
def rk:D->Nat
 | .tup _=>1
 | .lst _=>2
 | .frl _=>2
 | .dic _ _=>3
 | .obj _=>3
 | .dip _ _=>3
 | _=>0
def its:D->List D
 | .tup xs=>xs
 | .lst xs=>xs
 | .frl xs=>xs
 | _=>[]
def eqF (f:D->D->Option Bool) (x y:D):Option Bool :=
 match rk x,rk y with
 | 0,0=>some (eqV (toV x) (toV y))
 | 1,1=>eqT f (its x) (its y)
 | 2,2=>eqL f (its x) (its y)
 | 3,_=>none
 | _,3=>none
 | _,_=>some false
def eqD:Nat->D->D->Option Bool
 | 0=>fun _ _=>none
 | n + 1=>eqF (eqD n)
theorem zipO_len {f:D->D->Option Bool}:∀ {xs ys:List D} {bs:List Bool},zipO f xs ys=some bs->bs.length=min xs.length ys.length
 | [],ys,bs,h=>by
  have:bs=[]:=by simpa [zipO] using h.symm
  subst this;simp
 | x::xs,[],bs,h=>by
  have:bs=[]:=by simpa [zipO] using h.symm
  subst this;simp
 | x::xs,y::ys,bs,h=>by
  simp only [zipO] at h
  cases e:f x y with
  | none=>rw [e] at h;cases h
  | some b =>
   rw [e] at h
   cases e2:zipO f xs ys with
   | none=>rw [e2] at h;cases h
   | some bs' =>
    rw [e2] at h
    cases h
    have:=zipO_len e2
    simp only [List.length_cons,this]
    lia
theorem zipO_get {f:D->D->Option Bool}:∀ {xs ys:List D} {bs:List Bool},zipO f xs ys=some bs->∀ (j:Nat) (x y:D),xs[j]? = some x->ys[j]? = some y->∃ b,bs[j]? = some b/\f x y=some b
 | [],ys,bs,h,j,x,y,hx,hy=>by simp at hx
 | x::xs,[],bs,h,j,_,y,hx,hy=>by simp at hy
 | x::xs,y::ys,bs,h,j,x',y',hx,hy=>by
  simp only [zipO] at h
  cases e:f x y with
  | none=>rw [e] at h;cases h
  | some b =>
   rw [e] at h
   cases e2:zipO f xs ys with
   | none=>rw [e2] at h;cases h
   | some bs' =>
    rw [e2] at h
    cases h
    cases j with
    | zero =>
     simp at hx hy
     subst hx;subst hy
     exact ⟨b,rfl,e⟩
    | succ j =>
     obtain ⟨b',h1,h2⟩:=zipO_get e2 j x' y' (by simpa using hx) (by simpa using hy)
     exact ⟨b',by simpa using h1,h2⟩
theorem all_range {bs:List Bool} {n:Nat} (h:bs.length=n):(List.range n).all (fun j=>bs.getD j true)=bs.all id:=by
 subst h
 rw [Bool.eq_iff_iff]
 simp only [List.all_eq_true,List.mem_range,id]
 constructor
 ·intro h b hb
  obtain ⟨j,hj,rfl⟩:=List.getElem_of_mem hb
  have:=h j hj
  simpa [List.getD,hj] using this
 ·intro h j hj
  have:=h bs[j] (List.getElem_mem hj)
  simpa [List.getD,hj] using this
section
variable {X:Cx} {pins:List (Addr×Obj)} {σ:St} {H:Hp} {s:Shared} {B:Addr->Prop} {A:Around}
structure Eq3 (A:Around) (s:Shared) (u v:Value) (b:Bool):Prop where
 rc:SeqAt.RcAt A s u v b
 ne:SeqAt.RcNeAt A s u v (!b)
 eq:SeqAt.EqAt A s u v b
theorem rc_sc {x y:V} {u v:Value} (rx:L2.RelV x u) (ry:L2.RelV y v) (fx:flatV x=true) (fy:flatV y=true):SeqAt.RcAt A s u v (eqV x y):=by
 cases x with
 | non =>
  cases rx
  cases y with
  | non=>cases ry;exact .none_none
  | bl b=>cases ry;exact .none_bool b
  | int b=>obtain ⟨tb,rfl⟩:=ry;exact .none_int b tb
  | str b=>obtain ⟨tb,rfl⟩:=ry;exact .none_str b tb
  | _=>exact absurd (show false=true from fy) Bool.false_ne_true
 | bl a =>
  cases rx
  cases y with
  | non=>cases ry;exact .bool_none a
  | bl b=>cases ry;exact .bool_bool a b
  | int b=>obtain ⟨tb,rfl⟩:=ry;exact .bool_int a b tb
  | str b=>obtain ⟨tb,rfl⟩:=ry;exact .bool_str a b tb
  | _=>exact absurd (show false=true from fy) Bool.false_ne_true
 | int a =>
  obtain ⟨ta,rfl⟩:=rx
  cases y with
  | non=>cases ry;exact .int_none a ta
  | bl b=>cases ry;exact .int_bool a ta b
  | int b=>obtain ⟨tb,rfl⟩:=ry;exact .int_int a ta b tb
  | str b=>obtain ⟨tb,rfl⟩:=ry;exact .int_str a ta b tb
  | _=>exact absurd (show false=true from fy) Bool.false_ne_true
 | str a =>
  obtain ⟨ta,rfl⟩:=rx
  cases y with
  | non=>cases ry;exact .str_none a ta
  | bl b=>cases ry;exact .str_bool a ta b
  | int b=>obtain ⟨tb,rfl⟩:=ry;exact .str_int a ta b tb
  | str b=>obtain ⟨tb,rfl⟩:=ry;exact .str_str a ta b tb
  | _=>exact absurd (show false=true from fy) Bool.false_ne_true
 | _=>exact absurd (show false=true from fx) Bool.false_ne_true
theorem rcn_sc {x y:V} {u v:Value} (rx:L2.RelV x u) (ry:L2.RelV y v) (fx:flatV x=true) (fy:flatV y=true):SeqAt.RcNeAt A s u v (!eqV x y):=by
 cases x with
 | non =>
  cases rx
  cases y with
  | non=>cases ry;exact .none_none
  | bl b=>cases ry;exact .none_bool b
  | int b=>obtain ⟨tb,rfl⟩:=ry;exact .none_int b tb
  | str b=>obtain ⟨tb,rfl⟩:=ry;exact .none_str b tb
  | _=>exact absurd (show false=true from fy) Bool.false_ne_true
 | bl a =>
  cases rx
  cases y with
  | non=>cases ry;exact .bool_none a
  | bl b=>cases ry;exact .bool_bool a b
  | int b=>obtain ⟨tb,rfl⟩:=ry;exact .bool_int a b tb
  | str b=>obtain ⟨tb,rfl⟩:=ry;exact .bool_str a b tb
  | _=>exact absurd (show false=true from fy) Bool.false_ne_true
 | int a =>
  obtain ⟨ta,rfl⟩:=rx
  cases y with
  | non=>cases ry;exact .int_none a ta
  | bl b=>cases ry;exact .int_bool a ta b
  | int b=>obtain ⟨tb,rfl⟩:=ry;exact .int_int a ta b tb
  | str b=>obtain ⟨tb,rfl⟩:=ry;exact .int_str a ta b tb
  | _=>exact absurd (show false=true from fy) Bool.false_ne_true
 | str a =>
  obtain ⟨ta,rfl⟩:=rx
  cases y with
  | non=>cases ry;exact .str_none a ta
  | bl b=>cases ry;exact .str_bool a ta b
  | int b=>obtain ⟨tb,rfl⟩:=ry;exact .str_int a ta b tb
  | str b=>obtain ⟨tb,rfl⟩:=ry;exact .str_str a ta b tb
  | _=>exact absurd (show false=true from fy) Bool.false_ne_true
 | _=>exact absurd (show false=true from fx) Bool.false_ne_true
theorem eq3_sc {x y:V} {u v:Value} (rx:L2.RelV x u) (ry:L2.RelV y v) (fx:flatV x=true) (fy:flatV y=true):Eq3 A s u v (eqV x y):=⟨rc_sc rx ry fx fy,rcn_sc rx ry fx fy,eqAt_V rx ry fx fy⟩
theorem eq3_tup_sc {l:Addr} {items:Array Value} {y:V} {v:Value} (hl:s.heap.IsTuple l items) (hu:A.units < cLine) (ry:L2.RelV y v) (fy:flatV y=true):Eq3 A s (.ref l) v false/\Eq3 A s v (.ref l) false:=by
 cases y <;> first | exact absurd (show false=true from fy) Bool.false_ne_true | skip
 all_goals simp only [L2.RelV] at ry
 all_goals first | subst ry | (obtain ⟨t',rfl⟩:=ry)
 ·exact ⟨⟨.tuple_none hl hu,.tuple_none hl hu,.tuple_none hl hu⟩,.none_tuple hl hu,.none_tuple hl hu,.none_tuple hl hu⟩
 ·exact ⟨⟨.tuple_bool _ hl hu,.tuple_bool _ hl hu,.tuple_bool _ hl hu⟩,.bool_tuple _ hl hu,.bool_tuple _ hl hu,.bool_tuple _ hl hu⟩
 ·exact ⟨⟨.tuple_int _ _ hl hu,.tuple_int _ _ hl hu,.tuple_int _ _ hl hu⟩,.int_tuple _ _ hl hu,.int_tuple _ _ hl hu,.int_tuple _ _ hl hu⟩
 ·exact ⟨⟨.tuple_str _ _ hl hu,.tuple_str _ _ hl hu,.tuple_str _ _ hl hu⟩,.str_tuple _ _ hl hu,.str_tuple _ _ hl hu,.str_tuple _ _ hl hu⟩
theorem eq3_lst_sc {l:Addr} {items:Array Value} {y:V} {v:Value} (hl:s.heap.IsList l items) (hu:A.units < cLine) (ry:L2.RelV y v) (fy:flatV y=true):Eq3 A s (.ref l) v false/\Eq3 A s v (.ref l) false:=by
 cases y <;> first | exact absurd (show false=true from fy) Bool.false_ne_true | skip
 all_goals simp only [L2.RelV] at ry
 all_goals first | subst ry | (obtain ⟨t',rfl⟩:=ry)
 ·exact ⟨⟨.list_none hl hu,.list_none hl hu,.list_none hl hu⟩,.none_list hl hu,.none_list hl hu,.none_list hl hu⟩
 ·exact ⟨⟨.list_bool _ hl hu,.list_bool _ hl hu,.list_bool _ hl hu⟩,.bool_list _ hl hu,.bool_list _ hl hu,.bool_list _ hl hu⟩
 ·exact ⟨⟨.list_int _ _ hl hu,.list_int _ _ hl hu,.list_int _ _ hl hu⟩,.int_list _ _ hl hu,.int_list _ _ hl hu,.int_list _ _ hl hu⟩
 ·exact ⟨⟨.list_str _ _ hl hu,.list_str _ _ hl hu,.list_str _ _ hl hu⟩,.str_list _ _ hl hu,.str_list _ _ hl hu,.str_list _ _ hl hu⟩
theorem rk0 {K:PySem.W.Frag} {d:D} {x:V} (h:rk d=0) (r:Rep K B H d x):x=toV d/\flatV x=true:=by
 cases d <;> simp [rk] at h <;> simp only [Rep] at r <;> subst r <;> exact ⟨rfl,rfl⟩
theorem rk1 {K:PySem.W.Frag} {d:D} {x:V} (h:rk d=1) (r:Rep K B H d x):∃ a xs,x=.ref a/\SqT K H a xs/\Reps K B H (its d) xs:=by
 cases d <;> simp [rk] at h
 simpa only [Rep,its] using r
theorem rk2 {K:PySem.W.Frag} {d:D} {x:V} (h:rk d=2) (r:Rep K B H d x):∃ a xs,x=.ref a/\SqL K H a xs/\Reps K B H (its d) xs:=by
 cases d <;> simp [rk] at h <;> simp only [Rep] at r
 ·obtain ⟨a,xs,e,_,h1,h2⟩:=r;exact ⟨a,xs,e,.of h1,h2⟩
 ·obtain ⟨a,xs,e,h1,h2⟩:=r;exact ⟨a,xs,e,h1.sq,h2⟩
theorem rk_le (d:D):rk d=0\/rk d=1\/rk d=2\/rk d=3:=by cases d <;> simp [rk]
theorem eq_items {f:D->D->Option Bool} {dxs dys:List D} {xs ys:List V} {us vs:List Value} {bs:List Bool} (hz:zipO f dxs dys=some bs) (rx:Reps X.K B H dxs xs) (ry:Reps X.K B H dys ys) (ru:Vals xs us) (rv:Vals ys vs)
  (ih:∀ dx dy x y u v b,Rep X.K B H dx x->Rep X.K B H dy y->L2.RelV x u->L2.RelV y v->f dx dy=some b->SeqAt.EqAt A s u v b) :
  ∀ j (h1:j < us.toArray.size) (h2:j < vs.toArray.size),SeqAt.EqAt A s us.toArray[j] vs.toArray[j] (bs.getD j true):=by
 intro j h1 h2
 have hl1:=rx.length;have hl2:=ry.length;have hl3:=ru.length;have hl4:=rv.length
 have h1':j < us.length:=by simpa using h1
 have h2':j < vs.length:=by simpa using h2
 have k1:dxs[j]? = some (dxs[j]'(by lia)):=List.getElem?_eq_getElem (by lia)
 have k2:dys[j]? = some (dys[j]'(by lia)):=List.getElem?_eq_getElem (by lia)
 obtain ⟨b,e1,e2⟩:=zipO_get hz j _ _ k1 k2
 obtain ⟨x,g1,g2⟩:=rx.get j _ k1
 obtain ⟨y,g3,g4⟩:=ry.get j _ k2
 obtain ⟨u,g5,g6⟩:=ru.get g1
 obtain ⟨v,g7,g8⟩:=rv.get g3
 have eu:us.toArray[j]=u:=by
  have:=List.getElem?_eq_getElem h1'
  rw [g5] at this
  simpa using (Option.some.inj this).symm
 have ev:vs.toArray[j]=v:=by
  have:=List.getElem?_eq_getElem h2'
  rw [g7] at this
  simpa using (Option.some.inj this).symm
 have eb:bs.getD j true=b:=by simp [List.getD,e1]
 rw [eu,ev,eb]
 exact ih _ _ x y u v b g2 g4 g6 g8 e2
theorem same_true (I : Inv X pins σ H s) : ∀ (n : Nat) (dx dy : D) (x : V) (b : Bool), Rep X.K B H dx x → Rep X.K B H dy x → eqD n dx dy = some b → b = true
  | 0, _, _, _, _, _, _, e => nomatch e
  | n + 1, dx, dy, x, b, rx, ry, e => by
    have go : ∀ (dxs dys : List D) (xs : List V) (bs : List Bool), Reps X.K B H dxs xs → Reps X.K B H dys xs → zipO (eqD n) dxs dys = some bs → bs.all id = true := by
      intro dxs dys xs bs r1 r2 hz
      have hl := zipO_len hz
      have l1 := r1.length; have l2 := r2.length
      rw [List.all_eq_true]
      intro b hb
      obtain ⟨j, hj, rfl⟩ := List.getElem_of_mem hb
      have k1 : dxs[j]? = some (dxs[j]'(by lia)) := List.getElem?_eq_getElem (by lia)
      have k2 : dys[j]? = some (dys[j]'(by lia)) := List.getElem?_eq_getElem (by lia)
      obtain ⟨b', e1, e2⟩ := zipO_get hz j _ _ k1 k2
      obtain ⟨v, g1, g2⟩ := r1.get j _ k1
      obtain ⟨v', g3, g4⟩ := r2.get j _ k2
      rw [g1] at g3; cases g3
      have := same_true I n _ _ _ _ g2 g4 e2
      subst this
      rw [List.getElem?_eq_getElem hj] at e1
      simpa using Option.some.inj e1
    have e' : eqF (eqD n) dx dy = some b := e
    unfold eqF at e'
    rcases rk_le dx with hx | hx | hx | hx <;> rcases rk_le dy with hy | hy | hy | hy <;> rw [hx, hy] at e' <;> simp only at e'
    all_goals try cases e'
    · obtain ⟨h1, h2⟩ := rk0 hx rx
      obtain ⟨h3, _⟩ := rk0 hy ry
      rw [← h1, ← h3]
      cases x <;> simp [eqV, flatV] at h2 ⊢
    all_goals first
      | (obtain ⟨_, h2⟩ := rk0 hx rx
         first | (obtain ⟨a, xs, rfl, _⟩ := rk1 hy ry; simp [flatV] at h2) | (obtain ⟨a, xs, rfl, _⟩ := rk2 hy ry; simp [flatV] at h2))
      | (obtain ⟨_, h2⟩ := rk0 hy ry
         first | (obtain ⟨a, xs, rfl, _⟩ := rk1 hx rx; simp [flatV] at h2) | (obtain ⟨a, xs, rfl, _⟩ := rk2 hx rx; simp [flatV] at h2))
      | skip
    · obtain ⟨a, xs, rfl, h1, h2⟩ := rk1 hx rx
      obtain ⟨a', xs', z, h3, h4⟩ := rk1 hy ry
      cases z
      have := I.tuple_inj h1 h3
      subst this
      unfold eqT at e'
      cases ez : zipO (eqD n) (its dx) (its dy) with
      | none => rw [ez] at e'; cases e'
      | some bs =>
        rw [ez] at e'
        cases e'
        have l1 := h2.length; have l2 := h4.length
        rw [go _ _ _ _ h2 h4 ez]
        simp; lia
    · obtain ⟨a, xs, rfl, h1, h2⟩ := rk1 hx rx
      obtain ⟨a', xs', z, h3, h4⟩ := rk2 hy ry
      cases z
      obtain ⟨_, _, p1, _⟩ := I.tuple h1
      obtain ⟨_, _, p2, _⟩ := I.list h3
      exact absurd rfl (SeqAt.ne_of_list_tuple p2.isList p1)
    · obtain ⟨a, xs, rfl, h1, h2⟩ := rk2 hx rx
      obtain ⟨a', xs', z, h3, h4⟩ := rk1 hy ry
      cases z
      obtain ⟨_, _, p1, _⟩ := I.tuple h3
      obtain ⟨_, _, p2, _⟩ := I.list h1
      exact absurd rfl (SeqAt.ne_of_list_tuple p2.isList p1)
    · obtain ⟨a, xs, rfl, h1, h2⟩ := rk2 hx rx
      obtain ⟨a', xs', z, h3, h4⟩ := rk2 hy ry
      cases z
      have := I.list_inj h1 h3
      subst this
      have l1 := h2.length; have l2 := h4.length
      unfold eqL at e'
      rw [if_pos (by lia)] at e'
      cases ez : zipO (eqD n) (its dx) (its dy) with
      | none => rw [ez] at e'; cases e'
      | some bs =>
        rw [ez] at e'
        cases e'
        exact go _ _ _ _ h2 h4 ez
theorem eq_at (I:Inv X pins σ H s):∀ (n:Nat) (A:Around) (dx dy:D) (x y:V) (u v:Value) (b:Bool),A.units + n < cLine->Rep X.K B H dx x->Rep X.K B H dy y->L2.RelV x u->L2.RelV y v->eqD n dx dy=some b->Eq3 A s u v b
 | 0,_,_,_,_,_,_,_,_,_,_,_,_,_,e=>nomatch e
 | n + 1,A,dx,dy,x,y,u,v,b,hu,rx,ry,ru,rv,e=>by
  have hu0:A.units < cLine:=by lia
  have ih:=fun dx dy x y u v b=>fun h1 h2 h3 h4 h5=>(eq_at I n A.in1 dx dy x y u v b (by show A.units + 1 + n < cLine;lia) h1 h2 h3 h4 h5).eq
  have e0:=e
  have e':eqF (eqD n) dx dy=some b:=e
  unfold eqF at e'
  rcases rk_le dx with hx | hx | hx | hx <;> rcases rk_le dy with hy | hy | hy | hy <;> rw [hx,hy] at e' <;> simp only at e'
  all_goals try cases e'
  ·obtain ⟨h1,h2⟩:=rk0 hx rx
   obtain ⟨h3,h4⟩:=rk0 hy ry
   rw [← h1,← h3]
   exact eq3_sc ru rv h2 h4
  ·obtain ⟨h1,h2⟩:=rk0 hx rx
   obtain ⟨a,xs,rfl,h3,h4⟩:=rk1 hy ry
   obtain rfl:v=Value.ref a:=rv
   obtain ⟨_,_,p,_⟩:=I.tuple h3
   exact (eq3_tup_sc p hu0 ru h2).2
  ·obtain ⟨h1,h2⟩:=rk0 hx rx
   obtain ⟨a,xs,rfl,h3,h4⟩:=rk2 hy ry
   obtain rfl:v=Value.ref a:=rv
   obtain ⟨_,_,p,_⟩:=I.list h3
   exact (eq3_lst_sc p.isList hu0 ru h2).2
  ·obtain ⟨h1,h2⟩:=rk0 hy ry
   obtain ⟨a,xs,rfl,h3,h4⟩:=rk1 hx rx
   obtain rfl:u=Value.ref a:=ru
   obtain ⟨_,_,p,_⟩:=I.tuple h3
   exact (eq3_tup_sc p hu0 rv h2).1
  ·obtain ⟨a,xs,rfl,h1,h2⟩:=rk1 hx rx
   obtain ⟨a',ys,rfl,h3,h4⟩:=rk1 hy ry
   obtain rfl:u=Value.ref a:=ru
   obtain rfl:v=Value.ref a':=rv
   obtain ⟨us,r1,p1,_⟩:=I.tuple h1
   obtain ⟨vs,r2,p2,_⟩:=I.tuple h3
   unfold eqT at e'
   cases ez:zipO (eqD n) (its dx) (its dy) with
   | none=>rw [ez] at e';cases e'
   | some bs =>
    rw [ez] at e'
    have eb:=Option.some.inj e'
    have hit:=eq_items (A:=A.in1) (s:=s) ez h2 h4 r1 r2 ih
    have hl:=zipO_len ez
    have l1:=h2.length;have l2:=h4.length;have l3:=r1.length;have l4:=r2.length
    have el:bs.length=min us.toArray.size vs.toArray.size:=by simp;lia
    have es:(us.toArray.size == vs.toArray.size)=((its dx).length == (its dy).length):=by
     rw [Bool.eq_iff_iff];simp;lia
    have h5:=SeqAt.RcAt.tuples p1 p2 hu0 hit
    have h6:=SeqAt.RcNeAt.tuples p1 p2 hu0 hit
    rw [all_range el,es,eb] at h5 h6
    refine ⟨h5,h6,?_⟩
    by_cases ha:a=a'
    ·subst ha
     rw [same_true I (n + 1) dx dy (.ref a) b rx ry e0]
     exact .same _
    ·exact .of_refs ha h5
  ·obtain ⟨a,xs,rfl,h1,h2⟩:=rk1 hx rx
   obtain ⟨a',ys,rfl,h3,h4⟩:=rk2 hy ry
   obtain rfl:u=Value.ref a:=ru
   obtain rfl:v=Value.ref a':=rv
   obtain ⟨us,r1,p1,_⟩:=I.tuple h1
   obtain ⟨vs,r2,p2,_⟩:=I.list h3
   exact ⟨.tuple_list p1 p2.isList hu0,.tuple_list p1 p2.isList hu0,.tuple_list p1 p2.isList hu0⟩
  ·obtain ⟨h1,h2⟩:=rk0 hy ry
   obtain ⟨a,xs,rfl,h3,h4⟩:=rk2 hx rx
   obtain rfl:u=Value.ref a:=ru
   obtain ⟨_,_,p,_⟩:=I.list h3
   exact (eq3_lst_sc p.isList hu0 rv h2).1
  ·obtain ⟨a,xs,rfl,h1,h2⟩:=rk2 hx rx
   obtain ⟨a',ys,rfl,h3,h4⟩:=rk1 hy ry
   obtain rfl:u=Value.ref a:=ru
   obtain rfl:v=Value.ref a':=rv
   obtain ⟨us,r1,p1,_⟩:=I.list h1
   obtain ⟨vs,r2,p2,_⟩:=I.tuple h3
   exact ⟨.list_tuple p1.isList p2 hu0,.list_tuple p1.isList p2 hu0,.list_tuple p1.isList p2 hu0⟩
  ·obtain ⟨a,xs,rfl,h1,h2⟩:=rk2 hx rx
   obtain ⟨a',ys,rfl,h3,h4⟩:=rk2 hy ry
   obtain rfl:u=Value.ref a:=ru
   obtain rfl:v=Value.ref a':=rv
   obtain ⟨us,r1,p1,_⟩:=I.list h1
   obtain ⟨vs,r2,p2,_⟩:=I.list h3
   have l1:=h2.length;have l2:=h4.length;have l3:=r1.length;have l4:=r2.length
   have key:SeqAt.RcAt A s (.ref a) (.ref a') b/\SeqAt.RcNeAt A s (.ref a) (.ref a') (!b):=by
    unfold eqL at e'
    by_cases hl:(its dx).length=(its dy).length
    ·rw [if_pos hl] at e'
     cases ez:zipO (eqD n) (its dx) (its dy) with
     | none=>rw [ez] at e';cases e'
     | some bs =>
      rw [ez] at e'
      have eb:=Option.some.inj e'
      have hit:=eq_items (A:=A.in1) (s:=s) ez h2 h4 r1 r2 ih
      have hlz:=zipO_len ez
      have el:bs.length=us.toArray.size:=by simp;lia
      have esz:us.toArray.size=vs.toArray.size:=by simp;lia
      have h5:=SeqAt.RcAt.lists p1.isList p2.isList esz hu0 hit
      have h6:=SeqAt.RcNeAt.lists p1.isList p2.isList esz hu0 hit
      rw [all_range el,eb] at h5 h6
      exact ⟨h5,h6⟩
    ·rw [if_neg hl] at e'
     cases e'
     have esz:(us.toArray.size != vs.toArray.size)=true:=by simp;lia
     exact ⟨.lists_lengths p1.isList p2.isList esz hu0,.lists_lengths p1.isList p2.isList esz hu0⟩
   refine ⟨key.1,key.2,?_⟩
   by_cases ha:a=a'
   ·subst ha
    rw [same_true I (n + 1) dx dy (.ref a) b rx ry e0]
    exact .same _
   ·exact .of_refs ha key.1
end
section
variable {X:Cx}
def gEq (x y:D):Ou D:=match eqD 60 x y with
 | some b=>.ok (.bl b)
 | none=>.bad
def gNe (x y:D):Ou D:=match eqD 60 x y with
 | some b=>.ok (.bl (!b))
 | none=>.bad
def rEqD (K:PySem.W.Frag) (neg:Bool):R2:=fun x y H Q=>∃ (B:Addr->Prop) (dx dy:D) (b:Bool),Rep K B H dx x/\Rep K B H dy y/\eqD 60 dx dy=some b/\Q (.bl (if neg then !b else b)) H
theorem op_eqD (hu:X.A.units + 64 < cLine):OpR X (compareOp .Eq) (rEqD X.K false):=by
 intro pins s σ H x y v u Q I rx ry h
 obtain ⟨B,dx,dy,b,h1,h2,h3,q⟩:=h
 exact EqBoolInt.of_rc (eq_at I 60 X.A dx dy x y v u b (by lia) h1 h2 rx ry h3).rc ⟨.bl b,H,I,rfl,q⟩
theorem op_neD (hu:X.A.units + 64 < cLine):OpR X (compareOp .NotEq) (rEqD X.K true):=by
 intro pins s σ H x y v u Q I rx ry h
 obtain ⟨B,dx,dy,b,h1,h2,h3,q⟩:=h
 exact EqBoolInt.of_rcne (eq_at I 60 X.A dx dy x y v u b (by lia) h1 h2 rx ry h3).ne ⟨.bl (!b),H,I,rfl,q⟩
theorem od_eq (hu:X.A.units + 64 < cLine):OpD X (compareOp .Eq) gEq:=by
 refine ⟨_,op_eqD hu,fun B H dx dy x y Q rx ry=>?_⟩
 unfold gEq
 cases e:eqD 60 dx dy with
 | none=>trivial
 | some b=>exact ⟨rfl,fun q=>⟨B,dx,dy,b,rx,ry,e,q⟩⟩
theorem od_ne (hu:X.A.units + 64 < cLine):OpD X (compareOp .NotEq) gNe:=by
 refine ⟨_,op_neD hu,fun B H dx dy x y Q rx ry=>?_⟩
 unfold gNe
 cases e:eqD 60 dx dy with
 | none=>trivial
 | some b=>exact ⟨rfl,fun q=>⟨B,dx,dy,b,rx,ry,e,q⟩⟩
end
end DL
namespace DL
open PySem PySem.Spec PyProof.Rows L2
structure Src (K:PySem.W.Frag) (mg:Str->Option Value) (x:Str) (st:Stmt) (ps:List Str):Prop where
 ex:∃ f fd,Fun K x x st f fd/\Binds K fd ps []/\mg x=some (.ref f)
def spD (K:PySem.W.Frag) (fr:Bool) (n:Nat) (mm:List D->Ou D):Sp:=fun vs H Q _=>∃ (B:Addr->Prop) (ds:List D),ds.length=n/\Reps K B H ds vs /\
 Res K E0 H (mm ds) fun d=>∀ v H',Same H H'->RtP K (fun a=>B a\/H a=none) H fr d v H'->Q v H'
structure Df (P:Program) (w:World) (K:PySem.W.Frag) (mg:Str->Option Value) (base:Heap) (x:Str) (k:Nat) (ps:List Str) (fr:Bool) (mm:List D->Ou D):Prop where
 ex:∃ f fd,FnOk P w K mg base CX0 k f fd ps (spD K fr ps.length mm)/\Binds K fd ps []/\PySem.W.keepIn K (.ref f)=true/\mg x=some (.ref f)
section
variable {P:Program} {w:World} {K:PySem.W.Frag} {mg:Str->Option Value} {base:Heap}
theorem Df.mono {x:Str} {j k:Nat} {ps:List Str} {fr:Bool} {mm:List D->Ou D} (h:Df P w K mg base x j ps fr mm) (hj:j<=k):Df P w K mg base x k ps fr mm:=by
 obtain ⟨f,fd,h1,h2⟩:=h.ex
 exact ⟨f,fd,h1.mono hj,h2⟩
def startD (n:Nat) (ds:List D):DS:=ds.map Sl.val++List.replicate (n - ds.length) Sl.un
def runD (fr:Bool) (n:Nat) (F:Sm) (ds:List D):Ou D:=(F (startD n ds)).bind fun r=>match r with
 | .rt d=>.ok d
 | .nx _=>(match fr with
  | true=>.bad
  | false=>.ok .non)
 | _=>.bad
theorem start_abs {N:List Str} {B:Addr->Prop} {H:Hp} {ds:List D} {vs:List V} (r:Reps K B H ds vs) (hl:ds.length<=N.length):Abs { K:=K,B:=fun a=>B a\/H a=none,H₀:=H,G:=[] } (start N vs) (startD N.length ds) H:=by
 have hv:=r.length
 have no:∀ (i:Nat) (z:D),(startD N.length ds)[i]? = some (Sl.own z)->False:=fun i z h=>by
  unfold startD at h
  rw [List.getElem?_append] at h
  split at h
  ·rw [List.getElem?_map] at h
   cases e:ds[i]? with
   | none=>rw [e] at h;cases h
   | some d=>rw [e] at h;cases h
  ·rw [List.getElem?_replicate] at h
   split at h <;> cases h
 have nown:∀ q,¬ Own (start N vs) (startD N.length ds) q:=fun q ⟨i,z,h,_⟩=>no i z h
 refine ⟨Same.refl H,fun a h=>.inr h,?_,fun i d h=>?_,fun i z h=>(no i z h).elim,fun d v h=>(nomatch h),fun i j di dj p h=>(no i di h).elim⟩
 ·unfold startD L2.start
  simp [hv]
 ·unfold startD at h
  rw [List.getElem?_append] at h
  split at h
  ·rename_i hi
   rw [List.getElem?_map] at h
   cases e:ds[i]? with
   | none=>rw [e] at h;cases h
   | some d' =>
    rw [e] at h
    cases h
    obtain ⟨v,h1,h2⟩:=r.get i d e
    refine ⟨v,?_,h2.weak fun a z=>⟨.inl z,nown a⟩⟩
    unfold L2.start
    rw [List.getElem?_append_left (by rw [List.length_map];exact (List.getElem?_eq_some_iff.mp h1).1),List.getElem?_map,h1]
    rfl
  ·rw [List.getElem?_replicate] at h
   split at h <;> cases h
theorem fn_ofD {N ps:List Str} {st:Stmt} {x:Str} {k:Nat} {fr:Bool} {F:Sm} {f:Addr} {fd:FuncData} (Fn:Fun K x x st f fd) (sc:FnScope N ps (defScope st)) (hn:ps.length<=N.length)
  (hbody:∀ (f:Addr) (cdv:Value) (A:Around) (outer:List Env) (s:Shared) (H:Hp) (E:XK),Room k (A.deeper (envOfC x (defScope st) s.heap.objs.size f cdv)) ->
   PSs (cxOf CX0 P w K mg base N x (defScope st) f cdv A outer s H E).nox (defBody st) (tS K E0 fr F)):FnOk P w K mg base CX0 (k + 1) f fd ps (spD K fr ps.length (runD fr N.length F)):=by
 refine Fn.ok sc (fun vs H Q E h=>?_) (fun cdv A outer s H vs Q E hr h=>⟨_,hbody f cdv A outer s H E hr,?_⟩)
 ·obtain ⟨B,ds,hl,r,_⟩:=h
  rw [r.length];exact hl
 ·obtain ⟨B,ds,hl,r,h⟩:=h
  refine ⟨_,startD N.length ds,rfl,start_abs r (by rw [hl];exact hn),(Res.bind h).imp fun z _ k=>?_⟩
  cases z with
  | rt d=>exact k
  | nx δ =>
   cases fr with
   | true=>exact k.elim
   | false=>exact fun σ' H' ab=>k .non H' ab.same (by show Rep _ _ _ _ _;simp [Rep])
  | bk δ=>exact k.elim
  | ct δ=>exact k.elim
theorem fn_ofM {N ps:List Str} {st:Stmt} {x qual:Str} {k:Nat} {fr:Bool} {F:Sm} {f:Addr} {fd:FuncData} (Fn:Fun K x qual st f fd) (sc:FnScope N ps (defScope st)) (hn:ps.length<=N.length)
  (hbody:∀ (f:Addr) (cdv:Value) (A:Around) (outer:List Env) (s:Shared) (H:Hp) (E:XK),Room k (A.deeper (envOfC qual (defScope st) s.heap.objs.size f cdv)) ->
   PSs (cxOf CX0 P w K mg base N qual (defScope st) f cdv A outer s H E).nox (defBody st) (tS K E0 fr F)):FnOk P w K mg base CX0 (k + 1) f fd ps (spD K fr ps.length (runD fr N.length F)):=by
 refine Fn.ok sc (fun vs H Q E h=>?_) (fun cdv A outer s H vs Q E hr h=>⟨_,hbody f cdv A outer s H E hr,?_⟩)
 ·obtain ⟨B,ds,hl,r,_⟩:=h
  rw [r.length];exact hl
 ·obtain ⟨B,ds,hl,r,h⟩:=h
  refine ⟨_,startD N.length ds,rfl,start_abs r (by rw [hl];exact hn),(Res.bind h).imp fun z _ k=>?_⟩
  cases z with
  | rt d=>exact k
  | nx δ =>
   cases fr with
   | true=>exact k.elim
   | false=>exact fun σ' H' ab=>k .non H' ab.same (by show Rep _ _ _ _ _;simp [Rep])
  | bk δ=>exact k.elim
  | ct δ=>exact k.elim
theorem df_of {N ps:List Str} {st:Stmt} {x:Str} {k:Nat} {fr:Bool} {F:Sm} (S:Src K mg x st ps) (sc:FnScope N ps (defScope st)) (hn:ps.length<=N.length)
  (hbody:∀ (f:Addr) (cdv:Value) (A:Around) (outer:List Env) (s:Shared) (H:Hp) (E:XK),Room k (A.deeper (envOfC x (defScope st) s.heap.objs.size f cdv)) ->
   PSs (cxOf CX0 P w K mg base N x (defScope st) f cdv A outer s H E).nox (defBody st) (tS K E0 fr F)):Df P w K mg base x (k + 1) ps fr (runD fr N.length F):=by
 obtain ⟨f,fd,Fn,b,hm⟩:=S.ex
 exact ⟨f,fd,fn_ofD Fn sc hn hbody,b,Fn.kp,hm⟩
end
section
variable {X:Cx} {m:Md} {e:Expr} {es:List Expr} {fs:List Fn} {p pos:Pos} {x:Str} {ps:List Str} {k:Nat} {mm:List D->Ou D}
def fCall (mm:List D->Ou D) (fs:List Fn):Fn:=fun δ=>(fArgs fs δ).bind mm
theorem wish_mono {α:Type} {K:PySem.W.Frag} {E:XK} {H H':Hp} {o:Ou α} {q:α->Prop} (h:Res K E H o q) (e:Same H H'):Res K E H' o q:=by
 cases o with
 | ok a=>exact h
 | ex z=>exact fun cls dx H2 e2 r=>h cls dx H2 (e.trans e2) r
 | bad=>exact h
theorem xcall (h:Df X.prog X.w X.K X.mg X.base x k ps false mm) (hr:Room k X.A) (ha:PA X (e::es) (tXA X.K E0 m fs)) (hl:fs.length=ps.length:=by rfl) (hg:Gl X x:=by rfl) (hdb:(x == ("__debug__":Str))=false:=by decide)
  (he:starEach (e::es) X.env=(false,eval e X.env)::starEach es X.env:=by rfl) (hpl:(backTo pos (starEach es X.env)).any (·.1)=false:=by rfl) (hm:notF m=true:=by rfl):PE X (.Call (.Name x p) (e::es) [] pos) (tX X.K E0 m (fCall mm fs)):=by
 obtain ⟨f,fd,h1,h2,h3,h4⟩:=h.ex
 refine (pe_call h1 hr hg h4 h3 h2 .nil pass0 ha hdb he hpl).imp fun σ H Q q=>?_
 obtain ⟨c,δ,hK,ab,q⟩:=q
 refine ⟨c,δ,hK,ab,(Res.bind q).imp fun ds hds k vs H1 e1 r1=>?_⟩
 refine ⟨BOf c σ δ m,ds,by rw [fArgs_len hds];exact hl,by rw [List.append_nil,← hK];exact r1,(wish_mono k (ab.same.trans e1)).imp fun d _ k v H' e2 r2=>k v H' (e1.trans e2) ?_⟩
 have ab1:=ab.grow e1
 rw [← hK] at r2
 have r3:Rep c.K (BOf c σ δ m) H' d v:=Rep.weak r2 fun a z=>by
  rcases z with z | z
  ·exact z
  ·have:=ab1.av_new z
   cases m with
   | W=>exact this.1
   | S=>exact this
   | F=>simp [notF] at hm
 cases m with
 | W=>exact r3
 | S=>exact r3
 | F=>simp [notF] at hm
theorem xcallF (h:Df X.prog X.w X.K X.mg X.base x k ps true mm) (hr:Room k X.A) (ha:PA X (e::es) (tXA X.K E0 .S fs)) (hl:fs.length=ps.length:=by rfl) (hg:Gl X x:=by rfl) (hdb:(x == ("__debug__":Str))=false:=by decide)
  (he:starEach (e::es) X.env=(false,eval e X.env)::starEach es X.env:=by rfl) (hpl:(backTo pos (starEach es X.env)).any (·.1)=false:=by rfl):PE X (.Call (.Name x p) (e::es) [] pos) (tX X.K E0 .F (fCall mm fs)):=by
 obtain ⟨f,fd,h1,h2,h3,h4⟩:=h.ex
 refine (pe_call h1 hr hg h4 h3 h2 .nil pass0 ha hdb he hpl).imp fun σ H Q q=>?_
 obtain ⟨c,δ,hK,ab,q⟩:=q
 refine ⟨c,δ,hK,ab,(Res.bind q).imp fun ds hds k vs H1 e1 r1=>?_⟩
 refine ⟨Av c σ δ,ds,by rw [fArgs_len hds];exact hl,by rw [List.append_nil,← hK];exact r1,(wish_mono k (ab.same.trans e1)).imp fun d _ k v H' e2 r2=>k v H' (e1.trans e2) ?_⟩
 have ab1:=ab.grow e1
 rw [← hK] at r2
 obtain ⟨q,xs,rfl,z1,z2,z3⟩:=r2
 exact ⟨q,xs,rfl,e1.free z1,z2,z3.weak fun a z=>⟨z.1.elim id fun w=>ab1.av_new w,z.2⟩⟩
theorem xglob {E:XK} {d:D} {u:Value} (hm:X.mg x=some u) (hr:RelV (toV d) u) (hs:isS d=true:=by rfl) (hg:Gl X x:=by rfl) (hf:notF m=true:=by rfl) (hdb:(x == ("__debug__":Str))=false:=by decide):PE X (.Name x pos) (tX X.K E m (fC d)) :=
 (pe_glob hg hm hr hdb).imp fun _ _ _ q=>rd_c hf hs q
end
end DL
namespace DL
open PySem PySem.Spec PyProof.Rows L2
section
variable {X:Cx} {E:XK} {m:Md} {a b e:Expr} {fa fb fe:Fn} {pos p:Pos} {es:List Expr} {fs:List Fn} {fr:Bool} {F G:Sm} {ga gb:DS->Ou Bool} {st:Stmt} {x:Str}
def CallD (X:Cx) (f:Value) (g:List D->Ou D):Prop :=
 ∃ r,CallR X f r/\∀ (B:Addr->Prop) (H:Hp) (ds:List D) (vs:List V) (Q:VK),Reps X.K B H ds vs->(∀ d,g ds=.ok d->isS d=true/\(Q (toV d) H->r vs H Q))/\∀ z,g ds≠.ex z
theorem rd_cb {r:List V->Hp->VK->Prop} {g:List D->Ou D} {σ:St} {H:Hp} {Q:VK} (hr:∀ (B:Addr->Prop) (H:Hp) (ds:List D) (vs:List V) (Q:VK),Reps X.K B H ds vs->(∀ d,g ds=.ok d->isS d=true/\(Q (toV d) H->r vs H Q))/\∀ z,g ds≠.ex z) (hm:notF m=true) (h:tX X.K E m (fCall g fs) σ H Q):tCB r (tXA X.K E .W fs) σ H Q:=by
 obtain ⟨c,δ,hK,ab,h⟩:=h
 refine ⟨c,δ,hK,ab,(Res.bind h).imp fun ds _ k vs H1 e1 r1=>?_⟩
 have r1':Reps X.K c.B H1 ds vs:=by rw [← hK];exact r1
 have q:=hr c.B H1 ds vs Q r1'
 cases e:g ds with
 | ok d =>
  rw [e] at k
  exact (q.1 d e).2 (k (toV d) H1 e1 (Post.ofS hm (q.1 d e).1))
 | ex z=>exact (q.2 z e).elim
 | bad=>rw [e] at k;exact k.elim
theorem xb {id:String} {g:List D->Ou D} (hc:CallD X (.builtin id) g) (hm:X.mg x=none) (ha:PA X (e::es) (tXA X.K E .W fs)) (hg:Gl X x:=by rfl) (hv:bootBuiltins x=some (.builtin id):=by decide +kernel) (hn:x≠"__name__":=by decide) (hdb:(x == ("__debug__":Str))=false:=by decide)
  (he:starEach (e::es) X.env=(false,eval e X.env)::starEach es X.env:=by rfl) (hpl:(backTo pos (starEach es X.env)).any (·.1)=false:=by rfl) (hf:notF m=true:=by rfl):PE X (.Call (.Name x p) (e::es) [] pos) (tX X.K E m (fCall g fs)):=by
 obtain ⟨r,h1,h2⟩:=hc
 exact (pe_callB h1 hg hm hv ha hn hdb he hpl).imp fun σ H Q q=>rd_cb h2 hf q
def gLen:List D->Ou D
 | [.tup ds]=>.ok (.int (ds.length:Nat))
 | [.lst ds]=>.ok (.int (ds.length:Nat))
 | [.frl ds]=>.ok (.int (ds.length:Nat))
 | [.dic _ ds]=>.ok (.int (ds.length:Nat))
 | [.str z]=>if z.length<=sizeLine then .ok (.int (z.length:Nat)) else .bad
 | _=>.bad
theorem Reps.one' {K:PySem.W.Frag} {B:Addr->Prop} {H:Hp} {d:D} {vs:List V} (r:Reps K B H [d] vs):∃ v,vs=[v]/\Rep K B H d v:=by
 simp only [Reps] at r
 obtain ⟨v,r',rfl,h1,rfl⟩:=r
 exact ⟨v,rfl,h1⟩
theorem Reps.two' {K:PySem.W.Frag} {B:Addr->Prop} {H:Hp} {d d':D} {vs:List V} (r:Reps K B H [d,d'] vs):∃ v v',vs=[v,v']/\Rep K B H d v/\Rep K B H d' v':=by
 simp only [Reps] at r
 obtain ⟨v,r',rfl,h1,v',r'',rfl,h2,rfl⟩:=r
 exact ⟨v,v',rfl,h1,h2⟩
theorem call_lenR:CallR X (.builtin "len") (fun xs H Q=>∃ a kvs,xs=[V.ref a]/\Rd H a (.dK kvs)/\Q (.int kvs.length) H):=by
 intro pins s σ H xs us Q I r h
 obtain ⟨a,kvs,rfl,ha,q⟩:=h
 obtain ⟨u,rfl,ru⟩:=vals1 r
 cases ru
 exact d_len I ha fun t s' I'=>⟨.int kvs.length,H,I',⟨t,rfl⟩,q⟩
theorem cd_len:CallD X (.builtin "len") gLen:=by
 refine ⟨_,CallR.or call_len_seq (CallR.or call_len_str call_lenR),fun B H ds vs Q r=>⟨fun d h=>?_,fun z h=>?_⟩⟩
 ·unfold gLen at h
  split at h
  ·cases h
   obtain ⟨v,rfl,r2⟩:=r.one'
   simp only [Rep] at r2
   obtain ⟨a,xs,rfl,h1,h2⟩:=r2
   exact ⟨rfl,fun q=>.inl ⟨a,xs,rfl,.inr h1,by rw [h2.length];exact q⟩⟩
  ·cases h
   obtain ⟨v,rfl,r2⟩:=r.one'
   simp only [Rep] at r2
   obtain ⟨a,xs,rfl,_,h1,h2⟩:=r2
   exact ⟨rfl,fun q=>.inl ⟨a,xs,rfl,.inl (.of h1),by rw [h2.length];exact q⟩⟩
  ·cases h
   obtain ⟨v,rfl,r2⟩:=r.one'
   simp only [Rep] at r2
   obtain ⟨a,xs,rfl,h1,h2⟩:=r2
   exact ⟨rfl,fun q=>.inl ⟨a,xs,rfl,.inl h1.sq,by rw [h2.length];exact q⟩⟩
  ·cases h
   obtain ⟨v,rfl,r2⟩:=r.one'
   simp only [Rep] at r2
   obtain ⟨a,kvs,rfl,_,h1,_,h2⟩:=r2
   have hl:=h2.length
   rw [List.length_map] at hl
   exact ⟨rfl,fun q=>.inr (.inr ⟨a,kvs,rfl,h1,by rw [hl];exact q⟩)⟩
  ·split at h
   ·rename_i z hl
    cases h
    obtain ⟨v,rfl,r2⟩:=r.one'
    simp only [Rep] at r2
    subst r2
    exact ⟨rfl,fun q=>.inr (.inl ⟨_,rfl,hl,q⟩)⟩
   ·cases h
  ·cases h
 ·unfold gLen at h
  split at h <;> first | cases h | (split at h <;> cases h)
def gMin:List D->Ou D
 | [.int i,.int j]=>.ok (.int (if j < i then j else i))
 | _=>.bad
def gMax:List D->Ou D
 | [.int i,.int j]=>.ok (.int (if j > i then j else i))
 | _=>.bad
theorem cd_min (hc:X.calm=true:=by rfl):CallD X (.builtin "min") gMin:=by
 refine ⟨_,call_min2 hc,fun B H ds vs Q r=>⟨fun d h=>?_,fun z h=>?_⟩⟩
 ·unfold gMin at h
  split at h
  ·cases h
   obtain ⟨v,v',rfl,r1,r2⟩:=r.two'
   simp only [Rep] at r1 r2
   subst r1;subst r2
   exact ⟨rfl,fun q=>⟨_,_,rfl,q⟩⟩
  ·cases h
 ·unfold gMin at h
  split at h <;> cases h
theorem cd_max (hc:X.calm=true:=by rfl):CallD X (.builtin "max") gMax:=by
 refine ⟨_,call_max2 hc,fun B H ds vs Q r=>⟨fun d h=>?_,fun z h=>?_⟩⟩
 ·unfold gMax at h
  split at h
  ·cases h
   obtain ⟨v,v',rfl,r1,r2⟩:=r.two'
   simp only [Rep] at r1 r2
   subst r1;subst r2
   exact ⟨rfl,fun q=>⟨_,_,rfl,q⟩⟩
  ·cases h
 ·unfold gMax at h
  split at h <;> cases h
def kitTT (t T:String):Option Bool:=if (Value.type t == Value.type T)=true then some true else if PySem.W.kitMeta T=true then (PySem.fastBuiltinMro t).map (·.contains (.type T)) else none
inductive TyV (K:PySem.W.Frag) (H:Hp):V->String->Prop where
 | non:TyV K H .non "NoneType"
 | bl (x:Bool):TyV K H (.bl x) "bool"
 | int (i:Int):TyV K H (.int i) "int"
 | str (x:Str):TyV K H (.str x) "str"
 | lst {a:Addr} {xs:List V} (e:SqL K H a xs):TyV K H (.ref a) "list"
 | tup {a:Addr} {xs:List V} (e:SqT K H a xs):TyV K H (.ref a) "tuple"
theorem call_isT:CallR X (.builtin "isinstance") (fun vs H Q=>∃ v t T k,vs=[v,.ty T]/\TyV X.K H v t/\kitTT t T=some k/\Q (.bl k) H):=by
 intro pins s σ H xs us Q I r h
 obtain ⟨v,t,T,k,rfl,ty,hk,q⟩:=h
 obtain ⟨u,w',rfl,ru,rw'⟩:=vals2 r
 obtain rfl:w'=Value.type T:=rw'
 have e:PySem.W.kitOne X.K (.type t) (.type T)=some k:=hk
 have fin:∀ tk,EP X pins σ Q (.bool k) { s with toks:=tk }:=fun tk=>⟨.bl k,H,I.tok tk,rfl,q⟩
 cases ty with
 | non=>cases (show u=Value.none from ru);exact PySem.W.kia_one PySem.W.kitx_none I.kIn True.intro e (fun z=>nomatch z) fin
 | bl y=>cases (show u=Value.bool y from ru);exact PySem.W.kia_one PySem.W.kitx_bool I.kIn True.intro e (fun z=>nomatch z) fin
 | int i=>obtain ⟨t,z⟩:=(show ∃ t,u=Value.int i t from ru);cases z;exact PySem.W.kia_one PySem.W.kitx_int I.kIn True.intro e (fun z=>nomatch z) fin
 | str y=>obtain ⟨t,z⟩:=(show ∃ t,u=Value.str y t from ru);cases z;exact PySem.W.kia_one PySem.W.kitx_str I.kIn True.intro e (fun z=>nomatch z) fin
 | @lst a xs ea =>
  cases (show u=Value.ref a from ru)
  obtain ⟨its,_,⟨o,n,h1,h2,_⟩,_⟩:=I.list ea
  exact PySem.W.kia_one PySem.W.kitx_list I.kIn ⟨o,h1,h2⟩ e (fun z=>nomatch z) fin
 | @tup a xs ea =>
  cases (show u=Value.ref a from ru)
  obtain ⟨its,_,⟨o,h1,h2,_⟩,_⟩:=I.tuple ea
  exact PySem.W.kia_one PySem.W.kitx_tuple I.kIn ⟨o,h1,h2⟩ e (fun z=>nomatch z) fin
def tyN:D->String
 | .non=>"NoneType"
 | .bl _=>"bool"
 | .int _=>"int"
 | .str _=>"str"
 | .tup _=>"tuple"
 | .lst _=>"list"
 | .frl _=>"list"
 | .dic _ _=>"dict"
 | .obj _=>"object"
 | .dip _ _=>"dict"
def isT (t T:String):Bool:=t == T || (t == "bool" && T == "int")
def gIs (T:String):D->Ou D
 | .obj _=>.bad
 | .dic _ _=>.bad
 | .dip _ _=>.bad
 | d=>.ok (.bl (isT (tyN d) T))
theorem ty_of {K:PySem.W.Frag} {B:Addr->Prop} {H:Hp} {d:D} {v:V} (r:Rep K B H d v) (hd:rk d≠3):TyV K H v (tyN d)/\tyN d∈["NoneType","bool","int","str","tuple","list"]:=by
 cases d <;> simp only [Rep] at r
 ·subst r;exact ⟨.non,by decide⟩
 ·subst r;exact ⟨.bl _,by simp [tyN]⟩
 ·subst r;exact ⟨.int _,by simp [tyN]⟩
 ·subst r;exact ⟨.str _,by simp [tyN]⟩
 ·obtain ⟨a,xs,rfl,h1,_⟩:=r;exact ⟨.tup h1,by simp [tyN]⟩
 ·obtain ⟨a,xs,rfl,_,h1,_⟩:=r;exact ⟨.lst (.of h1),by simp [tyN]⟩
 ·obtain ⟨a,xs,rfl,h1,_⟩:=r;exact ⟨.lst h1.sq,by simp [tyN]⟩
 ·exact absurd rfl hd
 ·exact absurd rfl hd
 ·exact absurd rfl hd
theorem xis {T:String} {tx:Str} {p2:Pos} (z1:X.mg "isinstance" = none) (z2:X.mg tx=none) (ha:PE X a (tX X.K E .W fa)) (hb:bootBuiltins tx=some (.type T):=by decide +kernel)
  (hT:∀ t∈["NoneType","bool","int","str","tuple","list"],kitTT t T=some (isT t T):=by decide +kernel) (hg1:Gl X "isinstance":=by rfl) (hg2:Gl X tx:=by rfl) (hn:tx≠"__name__":=by decide) (hdb:(tx == ("__debug__":Str))=false:=by decide)
  (he:starEach [a,.Name tx p2] X.env=(false,eval a X.env)::starEach [.Name tx p2] X.env:=by rfl) (he2:starEach [.Name tx p2] X.env=(false,eval (.Name tx p2) X.env)::starEach [] X.env:=by rfl) (hpl:(backTo pos (starEach [.Name tx p2] X.env)).any (·.1)=false:=by rfl) (hf:notF m=true:=by rfl) :
  PE X (.Call (.Name "isinstance" p) [a,.Name tx p2] [] pos) (tX X.K E m (f1 (gIs T) fa)):=by
 have hty:PE X (.Name tx p2) (tC (.ty T)):=pe_bltn hg2 z2 hb rfl hn hdb
 refine (pe_callB call_isT hg1 z1 (by decide +kernel) (pa_cons ha (pa_cons hty pa_nil he2) he) (by decide) (by decide) he hpl).imp fun σ H Q q=>?_
 obtain ⟨c,δ,hK,ab,q⟩:=q
 refine ⟨c,δ,hK,ab,(Res.bind q).imp fun d _ k v H1 e1 r1=>?_⟩
 have r1':Rep X.K c.B H1 d v:=by rw [← hK];exact r1
 by_cases hd:rk d=3
 ·cases d <;> first | exact k.elim | (simp [rk] at hd)
 ·have hg:gIs T d=.ok (.bl (isT (tyN d) T)):=by
   cases d <;> first | rfl | exact absurd rfl hd
  rw [hg] at k
  obtain ⟨t1,t2⟩:=ty_of r1' hd
  exact ⟨v,tyN d,T,_,rfl,t1,hT _ t2,k _ H1 e1 (Post.ofS hf rfl)⟩
def gBits:D->Ou D
 | .int i=>.ok (.int (Builtin.Int.intBits i:Nat))
 | _=>.bad
theorem mt_bits:MtR X "int.bit_length" (fun x xs H Q=>∃ i,x=.int i/\xs=[]/\Q (.int (Builtin.Int.intBits i:Nat)) H):=by
 intro pins s σ H x xs v us Q I rx rs h
 obtain ⟨i,rfl,rfl,q⟩:=h
 obtain ⟨t,rfl⟩:=rx
 cases rs
 exact call_int_bit_length ⟨.int _,H,I.tok _,⟨_,rfl⟩,q⟩
theorem xbits {apos cpos:Pos} (ha:PE X a (tX X.K E .W fa)) (hbase:attributeBase a "bit_length" X.env (eval a X.env)=eval a X.env:=by rfl) (hline:(apos.endLine == cpos.line)=true:=by rfl) (hf:notF m=true:=by rfl):PE X (.Call (.Attribute a "bit_length" apos) [] [] cpos) (tX X.K E m (f1 gBits fa)) :=
 (pe_bm0 PySem.F.plainAttrs_int PySem.F.slot_int_bit_length PySem.F.type_int_bit_length mt_bits ha hbase hline).imp fun σ H Q q=>by
 obtain ⟨c,δ,hK,ab,q⟩:=q
 refine ⟨c,δ,hK,ab,(Res.bind q).imp fun d _ k v H1 e1 r1=>?_⟩
 have r1':Rep c.K c.B H1 d v:=r1
 cases d <;> first | exact k.elim | skip
 simp only [Rep] at r1'
 subst r1'
 exact ⟨rfl,_,rfl,rfl,k _ H1 e1 (Post.ofS hf rfl)⟩
theorem xs_rng1 {tg:Expr} {body:List Stmt} {g:D->DS->Ou DS} (hp:PassesOwn (model X.prog X.w) X.A X.env X.xe) (hc:X.calm=true) (hm:X.mg "range" = none) (ha:PA X [a] (tXA X.K E .W [fa])) (hg:PG X tg (tG X.K E g)) (hb:PSs X body (tS X.K E fr F))
  (hgl:Gl X "range":=by rfl) (hse:starEach [a] X.env=[(false,eval a X.env)]:=by rfl) (hs:∀ x,foldedSetIterable (.Call (.Name "range" p) [a] [] pos) X.env x=pure x:=by intro _;rfl) {fpos:Pos} :
  PS X (.For tg (.Call (.Name "range" p) [a] [] pos) body [] fpos) (tS X.K E fr (sRng [fa] g F)):=(ps_for hp hc (pi_range1 hgl hm ha hse) hg hb hs).imp fun D σ H q=>by
 obtain ⟨c,δ,hK,ab,q⟩:=q
 refine ⟨c,δ,hK,ab,(Res.bind q).imp fun ds hds k vs H1 e1 r1=>?_⟩
 have hl:ds.length=1:=fArgs_len hds
 obtain ⟨d,rfl⟩:∃ d,ds=[d]:=by
  cases ds with
  | nil=>cases hl
  | cons d r =>
   cases r with
   | nil=>exact ⟨d,rfl⟩
   | cons d' r=>simp at hl
 obtain ⟨v,rfl,r2⟩:=r1.one'
 cases d <;> first | exact k.elim | skip
 simp only [Rep] at r2
 subst r2
 rename_i j
 by_cases hj:rOk j=true
 ·simp only [hj,if_true] at k
  have hj':=of_decide_eq_true hj
  exact ⟨j,rfl,hj'.1,hj'.2,rd_rng1 hK (ab.grow e1) k⟩
 ·simp only [if_neg hj] at k
  exact k.elim
def fPart:Option Fn->DS->Ou (Option Int)
 | none,_=>.ok none
 | some f,δ=>(f δ).bind fun d=>match d with
  | .int i=>.ok (some i)
  | _=>.bad
def tP (K:PySem.W.Frag) (E:XK) (f:Option Fn):TO:=fun σ H Q=>∃ c δ,c.K=K/\Abs c σ δ H/\Res K E c.H₀ (fPart f δ) fun i=>∀ H',Same H H'->Q i H'
theorem PO.imp {e:Option Expr} {t t':TO} (h:PO X e t) (hi:∀ σ H Q,t' σ H Q->t σ H Q):PO X e t':=fun pins s σ H Q I q=>h pins s σ H Q I (hi _ _ _ q)
theorem po_none':PO X none (tP X.K E none):=PO.imp po_none fun σ H Q q=>by
 obtain ⟨c,δ,hK,ab,q⟩:=q
 exact q H (Same.refl H)
theorem po_some' (h:PE X e (tX X.K E .W fe)):PO X (some e) (tP X.K E (some fe)):=PO.imp (po_some h) fun σ H Q q=>by
 obtain ⟨c,δ,hK,ab,q⟩:=q
 refine ⟨c,δ,hK,ab,(Res.bind q).imp fun d _ k v H1 e1 r1=>?_⟩
 have r1':Rep c.K c.B H1 d v:=r1
 cases d <;> first | exact k.elim | skip
 simp only [Rep] at r1'
 exact ⟨_,r1',k H1 e1⟩
def cutD (xs:List D) (lo hi:Option Int):List D:=(xs.drop (HT.sIx xs.length 0 lo)).take (HT.sIx xs.length xs.length hi - HT.sIx xs.length 0 lo)
def fSl (f:Fn) (lo hi:Option Fn):Fn:=fun δ=>(f δ).bind fun d=>(fPart lo δ).bind fun l=>(fPart hi δ).bind fun u=>match d with
 | .lst ds=>.ok (.lst (cutD ds l u))
 | .frl ds=>.ok (.lst (cutD ds l u))
 | _=>.bad
theorem Reps.cut {K:PySem.W.Frag} {B:Addr->Prop} {H:Hp} {ds:List D} {vs:List V} (lo hi:Option Int) (r:Reps K B H ds vs):Reps K B H (cutD ds lo hi) (cutV vs lo hi):=by
 unfold cutD cutV
 rw [r.length]
 exact Reps.take _ (Reps.drop _ r)
theorem xsl {lo hi:Option Expr} {flo fhi:Option Fn} {p2:Pos} (he:PE X e (tX X.K E .S fe)) (hl:PO X lo (tP X.K E flo)) (hu:PO X hi (tP X.K E fhi)):PE X (.Subscript e (.Slice lo hi none p2) pos) (tX X.K E .F (fSl fe flo fhi)):=(pe_slice sl_list he hl hu).imp fun σ H Q q=>by
 obtain ⟨c,δ,hK,ab,q⟩:=q
 refine ⟨c,δ,hK,ab,(Res.bind q).imp fun d hd k v H1 e1 r1=>?_⟩
 refine ⟨c,δ,hK,ab.grow e1,(Res.bind k).imp fun l _ k H2 e2=>?_⟩
 refine ⟨c,δ,hK,(ab.grow e1).grow e2,(Res.bind k).imp fun u _ k H3 e3=>?_⟩
 have r1':Rep c.K (Av c σ δ) H3 d v:=Rep.same (Rep.same (show Rep c.K (Av c σ δ) H1 d v from r1) e2) e3
 have e13:=(e1.trans e2).trans e3
 cases d <;> first | exact k.elim | skip
 ·rename_i ds
  simp only [Rep] at r1'
  obtain ⟨a,xs,rfl,_,h1,h2⟩:=r1'
  exact ⟨a,xs,rfl,.of h1,fun p hp=>k (.ref p) _ (e13.trans (same_new hp _)) ⟨p,_,rfl,e13.free hp,upd_same,_,rfl,(Reps.off (Reps.cut l u h2) hp).same (same_new hp _)⟩⟩
 ·rename_i ds
  simp only [Rep] at r1'
  obtain ⟨a,xs,rfl,h1,h2⟩:=r1'
  exact ⟨a,xs,rfl,by rw [← hK];exact h1.sq,fun p hp=>k (.ref p) _ (e13.trans (same_new hp _)) ⟨p,_,rfl,e13.free hp,upd_same,_,rfl,(Reps.off (Reps.cut l u h2) hp).same (same_new hp _)⟩⟩
theorem op_catQ:OpR X (binaryOp .Add) (fun x y H Q=>∃ a b xs ys,x=.ref a/\y=.ref b/\SqL X.K H a xs/\SqL X.K H b ys/\xs.length + ys.length<=sizeLine/\∀ p,H p=none->Q (.ref p) (upd H p (.lst (xs++ys)))):=by
 intro pins s σ H x y v u Q I rx ry h
 obtain ⟨a,b,xs,ys,rfl,rfl,h1,h2,hz,q⟩:=h
 cases rx
 cases ry
 obtain ⟨us,r1,⟨⟨cls,dd,data,sl⟩,n,ho,hc,hdn,hd⟩,_⟩:=I.list h1
 obtain ⟨ws,r2,⟨⟨cls2,dd2,data2,sl2⟩,n2,ho2,hc2,hdn2,hd2⟩,_⟩:=I.list h2
 simp only at hc hd hc2 hd2
 subst hc hd hc2 hd2
 have l1:=r1.length
 have l2:=r2.length
 have ea:us.toArray++ws.toArray=(us++ws).toArray:=by simp
 refine concat_meets ⟨_,ho,rfl⟩ ⟨_,ho2,rfl⟩ noFill_list_add seq_list_add PySem.F.slot_list_add PySem.F.entry_list_add (PySem.F.args_list_add_2 _ _) (list_addW a b us.toArray ws.toArray n n2 dd dd2 sl sl2 (by rw [List.size_toArray,List.size_toArray];lia)) ⟨ho,ho2,?_⟩
 rw [ea]
 exact ⟨.ref _,_,I.lnew (t':=s.toks) (r1.append r2) (by rw [List.length_append];lia),rfl,q _ I.fresh⟩
def gCat:D->D->Ou D
 | .lst xs,.lst ys=>if xs.length + ys.length<=sizeLine then .ok (.lst (xs++ys)) else .bad
 | .frl xs,.lst ys=>if xs.length + ys.length<=sizeLine then .ok (.lst (xs++ys)) else .bad
 | _,_=>.bad
theorem xcat (ha:PE X a (tX X.K E .S fa)) (hb:PE X b (tX X.K E .S fb)):PE X (.BinOp a .Add b pos) (tX X.K E .F (f2 gCat fa fb)):=(pe_op op_catQ ha hb).imp fun σ H Q q=>by
 obtain ⟨c,δ,hK,ab,q⟩:=q
 refine ⟨c,δ,hK,ab,(Res.bind q).imp fun dx hx0 k x H1 e1 r1=>?_⟩
 refine ⟨c,δ,hK,ab.grow e1,(Res.bind k).imp fun dy hy0 k2 y H2 e2 r2=>?_⟩
 have r1':Rep c.K (Av c σ δ) H2 dx x:=Rep.same (show Rep c.K (Av c σ δ) H1 dx x from r1) e2
 have r2':Rep c.K (Av c σ δ) H2 dy y:=r2
 cases dx <;> first | (cases dy <;> exact k2.elim) | skip
 ·rename_i xs
  cases dy <;> first | exact k2.elim | skip
  rename_i ys
  simp only [Rep] at r1' r2'
  obtain ⟨a,vs,rfl,_,h1,h2⟩:=r1'
  obtain ⟨b,us,rfl,_,h3,h4⟩:=r2'
  unfold gCat at k2
  by_cases hl:xs.length + ys.length<=sizeLine
  ·simp only [if_pos hl] at k2
   exact ⟨a,b,vs,us,rfl,rfl,.of h1,.of h3,by rw [h2.length,h4.length];exact hl,fun p hp=>k2 (.ref p) _ ((e1.trans e2).trans (same_new hp _)) ⟨p,_,rfl,(e1.trans e2).free hp,upd_same,_,rfl,(Reps.off (Reps.append h2 h4) hp).same (same_new hp _)⟩⟩
  ·simp only [if_neg hl] at k2
   exact k2.elim
 ·rename_i xs
  cases dy <;> first | exact k2.elim | skip
  rename_i ys
  simp only [Rep] at r1' r2'
  obtain ⟨a,vs,rfl,h1,h2⟩:=r1'
  obtain ⟨b,us,rfl,_,h3,h4⟩:=r2'
  unfold gCat at k2
  by_cases hl:xs.length + ys.length<=sizeLine
  ·simp only [if_pos hl] at k2
   exact ⟨a,b,vs,us,rfl,rfl,(by rw [← hK];exact h1.sq),.of h3,by rw [h2.length,h4.length];exact hl,fun p hp=>k2 (.ref p) _ ((e1.trans e2).trans (same_new hp _)) ⟨p,_,rfl,(e1.trans e2).free hp,upd_same,_,rfl,(Reps.off (Reps.append h2 h4) hp).same (same_new hp _)⟩⟩
  ·simp only [if_neg hl] at k2
   exact k2.elim
def sApp (i:Nat) (f:Fn):Sm:=fun δ=>match δ[i]? with
 | some (.own (.lst ds))=>(f δ).bind fun d=>if ds.length < sizeLine then .ok (.nx (δ.set i (.own (.lst (ds++[d]))))) else .bad
 | _=>.bad
theorem xs_app (i:Nat) {px apos cpos:Pos} (he:PE X e (tX X.K E .S fe)) (hN:X.N[i]? = some x:=by rfl) (hv:Vis X.env.scope x:=by first | exact Or.inl rfl | exact Or.inr (Or.inl rfl) | exact Or.inr (Or.inr rfl)) (hd:(x == ("__debug__":Str))=false:=by decide) (hcd:(x == ("__classdict__":Str))=false:=by decide)
  (hst:starEach [e] X.env=(false,eval e X.env)::starEach [] X.env:=by rfl) (hs:swapsWith (.Call (.Attribute (.Name x px) "append" apos) [e] [] cpos) none pos.line X.env=pure false:=by rfl) (hb:attributeBase (.Name x px) "append" X.env (eval (.Name x px) X.env)=eval (.Name x px) X.env:=by rfl) (h1:(apos.endLine == cpos.line)=true:=by rfl)
  (h2:(backTo cpos (starEach ([]:List Expr) X.env)).any (·.1)=false:=by rfl)
  (hfew:((backTo cpos (starEach [e] X.env)).all (fun x=>!x.1) && (backToKw cpos (keywordEach [] X.env)).all (fun x=>x.1.isSome) && decide (([e]:List Expr).length + ([]:List Keyword).length + (if ([]:List Keyword).isEmpty then 0 else 1) < 30))=true:=by rfl) :
  PS X (.Expr (.Call (.Attribute (.Name x px) "append" apos) [e] [] cpos) pos) (tS X.K E fr (sApp i fe)) :=
 (ps_expr (pe_bm PySem.F.plainAttrs_list PySem.F.slot_list_append PySem.F.type_list_append mt_append (pv i hN hv hd hcd) (pa_cons he pa_nil hst) hb hfew h1 hst h2) hs).imp fun D σ H q=>by
 obtain ⟨c,δ,hK,ab,q⟩:=q
 unfold sApp at q
 cases e0:δ[i]? with
 | none=>rw [e0] at q;exact q.elim
 | some s =>
  rw [e0] at q
  cases s with
  | un=>exact q.elim
  | val d=>exact q.elim
  | own d =>
   cases d <;> first | exact q.elim | skip
   rename_i ds
   obtain ⟨p,o,g1,g2,g3,xs,rfl,g4⟩:=ab.own i _ e0
   refine ⟨.ref p,g1,.inl ⟨rfl,xs,.of g2⟩,c,δ,hK,ab,(Res.bind q).imp fun d _ k v H1 e1 r1=>?_⟩
   by_cases hl:ds.length < sizeLine
   ·simp only [if_pos hl] at k
    have z2:=e1 _ _ g2
    exact ⟨p,xs,v,rfl,rfl,z2,by rw [g4.length];exact hl,k σ _ ((ab.grow e1).mut e0 g1 ⟨_,rfl,Reps.append (g4.same e1) (Reps.one r1)⟩)⟩
   ·simp only [if_neg hl] at k
    exact k.elim
def gNm2 (i j:Nat):D->DS->Ou DS:=fun d δ=>match d with
 | .tup [x,y]=>.ok ((δ.set i (.val x)).set j (.val y))
 | _=>.bad
theorem xg_2 (i j:Nat) {y:Str} {px py:Pos} {k2:_} (hN:X.N.Nodup) (hc:X.calm=true:=by rfl) (hi:X.N[i]? = some x:=by rfl) (hj:X.N[j]? = some y:=by rfl) (hx:Loc X.env.scope x:=by first | exact Or.inl rfl | exact Or.inr rfl) (hy:Loc X.env.scope y:=by first | exact Or.inl rfl | exact Or.inr rfl)
  (hfx:X.fn x=true\/X.env.scope.names.lookup x=some .local:=by first | exact .inl rfl | exact .inr rfl) (hfy:X.fn y=true\/X.env.scope.names.lookup y=some .local:=by first | exact .inl rfl | exact .inr rfl)
  (h1:(assignEach [.Name x px,.Name y py] X.env).map (·.2)=assign (.Name x px) X.env::(assignEach [.Name y py] X.env).map (·.2):=by rfl) (h2:(assignEach [.Name y py] X.env).map (·.2)=assign (.Name y py) X.env::(assignEach [] X.env).map (·.2):=by rfl)
  (hn:(assignEach [.Name x px,.Name y py] X.env).length=2:=by rfl) (hst:(assignEach [.Name x px,.Name y py] X.env).findIdx? (·.1)=none:=by rfl):PG X (.Tuple [.Name x px,.Name y py] k2 pos) (tG X.K E (gNm2 i j)) :=
 (pg_tup hc (pgs_cons (pg_name hN hi hx hfx) (pgs_cons (pg_name hN hj hy hfy) pgs_nil h2) h1) hn hst).imp fun v σ H Q q=>by
 obtain ⟨c,δ,d,hK,ab,r,q⟩:=q
 unfold gNm2 at q
 split at q
 ·rename_i d1 d2
  simp only [Rep] at r
  obtain ⟨a,xs,rfl,h1,h2⟩:=r
  obtain ⟨v1,v2,rfl,r1,r2⟩:=h2.two'
  refine ⟨a,[v1,v2],rfl,by rw [← hK];exact h1,rfl,v1,[v2],rfl,v2,[],rfl,rfl,?_⟩
  have ab1:=ab.set_val (i:=i) (Same.refl H) r1
  exact q _ H (Same.refl H) (ab1.set_val (i:=j) (Same.refl H) (r2.weak fun a z=>⟨z.1,fun o=>z.2 (own_set_val o)⟩))
 ·exact q.elim
def sAsg (f:Fn) (g:D->DS->Ou DS):Sm:=fun δ=>(f δ).bind fun d=>(g d δ).bind fun δ'=>.ok (.nx δ')
theorem xs_asg {tg:Expr} {g:D->DS->Ou DS} (he:PE X e (tX X.K E .S fe)) (hg:PG X tg (tG X.K E g)) (hs:swapsWithSole [tg] e pos.line X.env=pure false:=by rfl) (hw:swappedStores [tg] e X.env=pure none:=by rfl) (h1:(assignEach [tg] X.env).map (·.2)=[assign tg X.env]:=by rfl):PS X (.Assign [tg] e pos) (tS X.K E fr (sAsg fe g)):=(ps_asg he hg hs hw h1).imp fun D σ H q=>by
 obtain ⟨c,δ,hK,ab,q⟩:=q
 refine ⟨c,δ,hK,ab,(Res.bind q).imp fun d _ k v H1 e1 r1=>?_⟩
 exact ⟨c,δ,d,hK,ab.grow e1,r1,(Res.bind k).imp fun δ' _ k σ' H' _ ab'=>k σ' H' ab'⟩
end
end DL
namespace DL
open PySem PySem.Spec PyProof.Rows L2
def compL (g:D->DS->Ou DS) (gc:DS->Ou Bool) (fe:Fn):List D->DS->Ou (List D)
 | [],_=>.ok []
 | x::xs,δ=>(g x δ).bind fun δ1=>(gc δ1).bind fun b=>if b=true then (fe δ1).bind fun y=>(compL g gc fe xs δ1).bind fun ys=>.ok (y::ys) else compL g gc fe xs δ1
def slIn:Option Sl->Sl
 | some (.val d)=>.val d
 | _=>.un
def dsIn (k:Nat) (ix:List Nat) (δ:DS):DS:=List.replicate k .un++ix.map fun i=>slIn δ[i]?
def fYes:DS->Ou Bool:=fun _=>.ok true
def fComp (fi:DS->Ou (List D)) (g:D->DS->Ou DS) (gc:DS->Ou Bool) (fe:Fn) (k:Nat) (ix:List Nat):Fn:=fun δ=>(fi δ).bind fun ds=>if ds.length<=sizeLine then (compL g gc fe ds (dsIn k ix δ)).bind fun ys=>.ok (.lst ys) else .bad
def fItems (f:Fn):DS->Ou (List D):=fun δ=>(f δ).bind fun d=>match d with
 | .lst ds=>.ok ds
 | .frl ds=>.ok ds
 | _=>.bad
def fRange (fs:List Fn):DS->Ou (List D):=fun δ=>(fArgs fs δ).bind fun ds=>match ds with
 | [.int j]=>if rOk j=true then .ok (rng 0 j.toNat) else .bad
 | [.int i,.int j]=>if rOk i=true/\rOk j=true then .ok (rng i (j - i).toNat) else .bad
 | _=>.bad
section
variable {c:Cn} {σ:St} {δ:DS} {H H1:Hp}
theorem Abs.off {p:Addr} {ys zs:List V} (a:Abs c σ δ H) (hp:H p=some (.lst ys)) (h0:c.H₀ p=none) (hB:¬ c.B p):Abs c σ δ (upd H p (.lst zs)):=by
 have hne:∀ q,Av c σ δ q->q≠p:=fun q z e=>by subst e;exact hB z.1
 have st:Stay c.K (Av c σ δ) H (upd H p (.lst zs)):=⟨fun q ys z=>by
   rcases z with (z | ⟨o,z⟩) | z
   ·exact .inl (.inl (by rw [upd_ne (ne_of z hp (by intro w;cases w))];exact z))
   ·exact .inl (.inr ⟨o,by rw [upd_ne (ne_of z hp (by intro w;cases w))];exact z⟩)
   ·exact .inr z,fun q ys z=>by
   rcases z with ⟨o,z⟩ | z
   ·exact .inl ⟨o,by rw [upd_ne (ne_of z hp (by intro w;cases w))];exact z⟩
   ·exact .inr z,fun q o z w=>by rw [upd_ne (hne q z)];exact w⟩
 refine ⟨fun b o z=>?_,fun b z=>a.fr b ?_,a.len,fun j d z=>?_,fun j d z=>?_,fun d v z=>Rep.mono (fun _ _ w _=>w) st d v (a.gho d v z),a.inj⟩
 ·rw [upd_ne (ne_of_none z h0)];exact a.same b o z
 ·by_cases hb:b=p
  ·subst hb;rw [upd_same] at z;cases z
  ·rw [upd_ne hb] at z;exact z
 ·obtain ⟨v,z1,z2⟩:=a.val j d z
  exact ⟨v,z1,Rep.mono (fun _ _ w _=>w) st d v z2⟩
 ·obtain ⟨q,o,z1,z2,z3,z4⟩:=a.own j d z
  refine ⟨q,o,z1,?_,z3,RepO.mono (fun _ _ w _=>w) st z4⟩
  rw [upd_ne fun e=>by subst e;exact hB z3.2]
  exact z2
theorem Abs.block {p:Addr} {k:Nat} {ix:List Nat} (a:Abs c σ δ H) (hp:H p=none) :
  Abs { K:=c.K,B:=fun q=>Av c σ δ q/\q≠p,H₀:=H,G:=[] } (σin k ix σ) (dsIn k ix δ) (upd H p (.lst [])):=by
 have no:∀ (i:Nat) (z:D),(dsIn k ix δ)[i]? = some (Sl.own z)->False:=fun i z h=>by
  unfold dsIn at h
  rw [List.getElem?_append] at h
  split at h
  ·rw [List.getElem?_replicate] at h
   split at h <;> cases h
  ·rw [List.getElem?_map] at h
   cases e:ix[i - (List.replicate k Sl.un).length]? with
   | none=>rw [e] at h;cases h
   | some j =>
    rw [e] at h
    have h':slIn δ[j]? = Sl.own z:=Option.some.inj h
    unfold slIn at h'
    split at h' <;> cases h'
 have nown:∀ q,¬ Own (σin k ix σ) (dsIn k ix δ) q:=fun q ⟨i,z,h,_⟩=>no i z h
 refine ⟨same_new hp _,fun b hb=>?_,?_,fun i d h=>?_,fun i z h=>(no i z h).elim,fun d v h=>(nomatch h),fun i j di dj q h=>(no i di h).elim⟩
 ·by_cases e:b=p
  ·subst e;rw [upd_same] at hb;cases hb
  ·rw [upd_ne e] at hb
   exact ⟨a.av_new hb,e⟩
 ·unfold dsIn σin;simp
 ·unfold dsIn at h
  rw [List.getElem?_append] at h
  split at h
  ·rw [List.getElem?_replicate] at h
   split at h <;> cases h
  ·rename_i hik
   rw [List.length_replicate] at hik h
   rw [List.getElem?_map] at h
   cases e:ix[i - k]? with
   | none=>rw [e] at h;cases h
   | some j =>
    rw [e] at h
    have h':slIn δ[j]? = Sl.val d:=Option.some.inj h
    have hj:δ[j]? = some (Sl.val d):=by
     unfold slIn at h'
     split at h'
     ·cases h';assumption
     ·cases h'
    obtain ⟨v,z1,z2⟩:=a.val j d hj
    refine ⟨v,?_,?_⟩
    ·unfold σin
     rw [List.getElem?_append_right (by rw [List.length_replicate];lia),List.length_replicate,List.getElem?_map,e]
     show some ((σ[j]?).join)=_
     rw [z1];rfl
    ·refine Rep.mono (fun q o w1 w2=>⟨⟨w1,ne_of_none w2 hp⟩,nown q⟩) (.of_same (same_new hp _)) d v z2
structure SrcI (J:It) (K:PySem.W.Frag) (B:Addr->Prop) (H1:Hp) (ds:List D):Prop where
 go:∀ (i:Nat) (H':Hp),Same H1 H'->i < ds.length->J.go i H'
 yld:∀ (i:Nat) (H':Hp) (x:V) (H'':Hp) (d:D),Same H1 H'->ds[i]? = some d->J.yld i H' x H''->H''=H'/\Rep K B H1 d x
 stop:∀ H':Hp,Same H1 H'->J.stop ds.length H'
theorem comp_core {K:PySem.W.Frag} {J:It} {ds:List DL.D} {g:DL.D->DS->Ou DS} {gc:DS->Ou Bool} {fe:Fn} {k:Nat} {ix:List Nat} {Q:VK} (hK:c.K=K) (ab:Abs c σ δ H1) (src:SrcI J c.K (Av c σ δ) H1 ds) (hl:ds.length<=sizeLine)
  (kq:Res K E0 c.H₀ (compL g gc fe ds (dsIn k ix δ)) fun es=>∀ D xs H',H1 D=none->Same H1 H'->H' D=some (.lst xs)->Reps c.K (fun a=>Av c σ δ a/\a≠D) H' es xs->Q (.ref D) H') :
  ∀ D,H1 D=none->∃ W:Nat->Nat->St->List V->Hp->Prop,(∃ m,W 0 m (σin k ix σ) [] (upd H1 D (.lst []))) /\
   ∀ i m σ ys H,W i m σ ys H->H D=some (.lst ys)/\((J.stop i H/\Q (.ref D) H)\/(J.go i H/\ys.length < sizeLine/\∃ N:St->List V->Hp->Prop,(∀ σ' ys' H',N σ' ys' H'->∃ m',m' < m/\W (i + 1) m' σ' ys' H') /\
    ∀ x H',J.yld i H x H'->tG K E0 g x σ H' fun σ2 H2=>tT K E0 gc σ2 H2 fun b H3=>if b=true then tX K E0 .S fe σ2 H3 fun y H4=>H4 D=some (.lst ys)/\N σ2 (ys++[y]) (upd H4 D (.lst (ys++[y]))) else N σ2 ys H3)):=by
 intro D hD
 let c':Cn:={ K:=c.K,B:=fun q=>Av c σ δ q/\q≠D,H₀:=H1,G:=[] }
 have hB':¬ c'.B D:=fun z=>z.2 rfl
 refine ⟨fun i m σ' ys H'=>∃ δ' es,Abs c' σ' δ' H'/\H' D=some (.lst ys)/\Reps c.K c'.B H' es ys/\m=ds.length - i/\i<=ds.length/\es.length<=i /\
  Res K E0 c.H₀ (compL g gc fe (ds.drop i) δ') fun rest=>∀ xs H'',Same H1 H''->H'' D=some (.lst xs)->Reps c.K c'.B H'' (es++rest) xs->Q (.ref D) H'',
  ⟨ds.length,dsIn k ix δ,[],ab.block hD,upd_same,by simp [Reps],by simp,Nat.zero_le _,Nat.zero_le _,?_⟩,?_⟩
 ·exact kq.imp fun es _ z xs H'' e1 e2 e3=>z D xs H'' hD e1 e2 e3
 ·rintro i m σ' ys H' ⟨δ',es,ab',hDy,hr,rfl,hi,hes,q⟩
  refine ⟨hDy,?_⟩
  by_cases hlt:i < ds.length
  ·refine .inr ⟨src.go i H' ab'.same hlt,?_,fun σ' ys' H'=>∃ δ' es,Abs c' σ' δ' H'/\H' D=some (.lst ys')/\Reps c.K c'.B H' es ys'/\ds.length - (i + 1)=ds.length - (i + 1)/\i + 1<=ds.length/\es.length<=i + 1 /\
    Res K E0 c.H₀ (compL g gc fe (ds.drop (i + 1)) δ') fun rest=>∀ xs H'',Same H1 H''->H'' D=some (.lst xs)->Reps c.K c'.B H'' (es++rest) xs->Q (.ref D) H'',fun σ' ys' H' n=>⟨ds.length - (i + 1),by lia,n⟩,fun x H2 y=>?_⟩
   ·have:=hr.length;lia
   have hd:ds[i]? = some ds[i]:=by simp [hlt]
   obtain ⟨rfl,rx⟩:=src.yld i H' x H2 _ ab'.same hd y
   rw [List.drop_eq_getElem_cons hlt] at q
   have rx':Rep c'.K (Av c' σ' δ') H2 ds[i] x:=Rep.mono (fun a o w1 w2=>⟨⟨w1,ne_of_none w2 hD⟩,fun ow=>by
    obtain ⟨_,_,z⟩:=Own.is ab' ow
    have w3:=(show c'.H₀ a=some o from w2).symm.trans z
    cases w3⟩) (.of_same ab'.same) _ x rx
   refine ⟨c',δ',ds[i],hK,ab',rx',(wish_mono (Res.bind q) ab.same).imp fun δ2 _ k2 σ2 H3 e3 ab2=>?_⟩
   refine ⟨c',δ2,hK,ab2,(wish_mono (Res.bind k2) ab.same).imp fun b _ k3 H4 e4=>?_⟩
   cases b with
   | false=>exact ⟨δ2,es,ab2.grow e4,e4 _ _ (e3 _ _ hDy),(hr.same e3).same e4,rfl,hlt,by lia,k3⟩
   | true =>
    have k3':Res K E0 c.H₀ ((fe δ2).bind fun y=>(compL g gc fe (ds.drop (i + 1)) δ2).bind fun ys=>.ok (y::ys)) _:=k3
    refine ⟨c',δ2,hK,ab2.grow e4,(wish_mono (Res.bind k3') ab.same).imp fun dy _ k4 y H5 e5 r5=>?_⟩
    have hD5:=e5 _ _ (e4 _ _ (e3 _ _ hDy))
    have r5':Rep c.K c'.B H5 dy y:=Rep.weak (show Rep c'.K (Av c' σ2 δ2) H5 dy y from r5) fun a z=>z.1
    have st:Stay c.K c'.B H5 (upd H5 D (.lst (ys++[y]))):=⟨fun q ys z=>by
      rcases z with (z | ⟨o,z⟩) | z
      ·exact .inl (.inl (by rw [upd_ne (ne_of z hD5 (by intro w;cases w))];exact z))
      ·exact .inl (.inr ⟨o,by rw [upd_ne (ne_of z hD5 (by intro w;cases w))];exact z⟩)
      ·exact .inr z,fun q ys z=>by
      rcases z with ⟨o,z⟩ | z
      ·exact .inl ⟨o,by rw [upd_ne (ne_of z hD5 (by intro w;cases w))];exact z⟩
      ·exact .inr z,fun q o z w=>by rw [upd_ne z.2];exact w⟩
    refine ⟨hD5,δ2,es++[dy],((ab2.grow e4).grow e5).off hD5 hD hB',upd_same,Reps.mono (fun _ _ w _=>w) st _ _ (Reps.append (((hr.same e3).same e4).same e5) (Reps.one r5')),rfl,hlt,by simp;lia,(Res.bind k4).imp fun rest _ k5 xs H'' s1 s2 s3=>k5 xs H'' s1 s2 ?_⟩
    rw [List.append_assoc] at s3
    exact s3
  ·have e:i=ds.length:=by lia
   subst e
   rw [List.drop_length] at q
   exact .inl ⟨src.stop H' ab'.same,q ys H' ab'.same hDy (by rw [List.append_nil];exact hr)⟩
end
section
variable {X:Cx} {iter elt tg:Expr} {ifs:List Expr} {scope:Scope} {N':List Str} {k:Nat} {ix:List Nat} {pos:Pos} {g:D->DS->Ou DS} {gc:DS->Ou Bool} {fe fl:Fn} {fs:List Fn} {a b:Expr} {p:Pos}
theorem xc_yes:PCs X [] (tT X.K E0 fYes):=fun pins s σ H Q I q=>pcs_nil pins s σ H Q I (by
 obtain ⟨c,δ,hK,ab,q⟩:=q
 exact q H (Same.refl H))
theorem comp_read {wi:TI} {fi:DS->Ou (List D)} {σ:St} {H:Hp} {Q:VK} (q:tX X.K E0 .F (fComp fi g gc fe k ix) σ H Q)
  (hw:∀ (c:Cn) (δ:DS) (R:It->Hp->Prop),c.K=X.K->Abs c σ δ H->Res X.K E0 c.H₀ (fi δ) (fun ds=>∀ J H1,Same H H1->SrcI J c.K (Av c σ δ) H1 ds->R J H1)->wi σ H R) :
  tComp wi (tG X.K E0 g) (tT X.K E0 gc) (tX X.K E0 .S fe) k ix σ H Q:=by
 obtain ⟨c,δ,hK,ab,q⟩:=q
 refine hw c δ _ hK ab ((Res.bind q).imp fun ds _ kq J H1 e1 src=>?_)
 by_cases hl:ds.length<=sizeLine
 ·rw [if_pos hl] at kq
  refine comp_core hK (ab.grow e1) src hl ((Res.bind kq).imp fun es _ z D xs H' hD e2 h1 h2=>z (.ref D) H' (e1.trans e2) ⟨D,_,rfl,e1.free hD,h1,xs,rfl,h2⟩)
 ·rw [if_neg hl] at kq
  exact kq.elim
theorem srcL {c:Cn} {σ:St} {δ:DS} {H1:Hp} {p:Addr} {xs:List V} {ds:List D} (h1:SqL c.K H1 p xs) (h2:Reps c.K (Av c σ δ) H1 ds xs):SrcI (Itl c.K p) c.K (Av c σ δ) H1 ds :=
 ⟨fun i H' e hi=>⟨xs,xs[i]'(by rw [h2.length];exact hi),e.seq h1,List.getElem?_eq_getElem _⟩,fun i H' x H'' d e hd y=>⟨y.1,by
  obtain ⟨v,z1,z2⟩:=h2.get i d hd
  have:=y.2 xs (e.seq h1)
  rw [z1] at this;cases this
  exact z2⟩,fun H' e=>⟨xs,e.seq h1,by rw [h2.length];exact Nat.le_refl _⟩⟩
theorem xcompL (S:CNames X scope N' k ix) (hi:PE X iter (tX X.K E0 .S fl))
  (hb:∀ C s2 H2 fp pins,PG (blk X N' scope C s2 H2 fp pins) tg (tG X.K E0 g)/\PCs (blk X N' scope C s2 H2 fp pins) ifs (tT X.K E0 gc)/\PE (blk X N' scope C s2 H2 fp pins) elt (tX X.K E0 .S fe))
  (hc:X.calm=true:=by rfl) (hs:∀ x,foldedSetIterable iter X.env x=pure x:=by intro _;rfl):CompR X (.ListComp elt [⟨tg,iter,ifs,0⟩] scope pos) (tX X.K E0 .F (fComp (fItems fl) g gc fe k ix)) :=
 (comp_r hc S (pi_list hi) hb hs).imp fun σ H Q q=>comp_read q fun c δ R hK ab kq=>by
  refine ⟨c,δ,hK,ab,(Res.bind kq).imp fun d _ z v H1 e1 r1=>?_⟩
  have r1':Rep c.K (Av c σ δ) H1 d v:=r1
  cases d <;> first | exact z.elim | skip
  ·simp only [Rep] at r1'
   obtain ⟨p,xs,rfl,_,h1,h2⟩:=r1'
   exact ⟨p,rfl,⟨xs,by rw [← hK];exact .of h1⟩,by rw [← hK];exact z _ H1 e1 (srcL (.of h1) h2)⟩
  ·simp only [Rep] at r1'
   obtain ⟨p,xs,rfl,h1,h2⟩:=r1'
   exact ⟨p,rfl,⟨xs,by rw [← hK];exact h1.sq⟩,by rw [← hK];exact z _ H1 e1 (srcL h1.sq h2)⟩
theorem srcR {K:PySem.W.Frag} {B:Addr->Prop} {H1:Hp} {lo:Int} {n:Nat}:SrcI (Itr lo n) K B H1 (rng lo n) :=
 ⟨fun i H' _ hi=>by rw [rng_len] at hi;exact hi,fun i H' x H'' d _ hd y=>by
  obtain ⟨h1,rfl⟩:=rng_get hd
  exact ⟨y.1,by rw [y.2];simp [Rep]⟩,fun H' _=>by
  show n<=_
  rw [rng_len];exact Nat.le_refl _⟩
theorem xcompR1 (S:CNames X scope N' k ix) (hm:X.mg "range" = none) (ha:PA X [a] (tXA X.K E0 .W [fl]))
  (hb:∀ C s2 H2 fp pins,PG (blk X N' scope C s2 H2 fp pins) tg (tG X.K E0 g)/\PCs (blk X N' scope C s2 H2 fp pins) ifs (tT X.K E0 gc)/\PE (blk X N' scope C s2 H2 fp pins) elt (tX X.K E0 .S fe))
  (hc:X.calm=true:=by rfl) (hgl:Gl X "range":=by rfl) (hse:starEach [a] X.env=[(false,eval a X.env)]:=by rfl) {rp:Pos} (hs:∀ x,foldedSetIterable (.Call (.Name "range" p) [a] [] rp) X.env x=pure x:=by intro _;rfl) :
  CompR X (.ListComp elt [⟨tg,.Call (.Name "range" p) [a] [] rp,ifs,0⟩] scope pos) (tX X.K E0 .F (fComp (fRange [fl]) g gc fe k ix)) :=
 (comp_r hc S (pi_range1 hgl hm ha hse) hb hs).imp fun σ H Q q=>comp_read q fun c δ R hK ab kq=>by
  refine ⟨c,δ,hK,ab,(Res.bind kq).imp fun ds hds z vs H1 e1 r1=>?_⟩
  have hl:ds.length=1:=fArgs_len hds
  obtain ⟨d,rfl⟩:∃ d,ds=[d]:=by
   match ds,hl with
   | [d],_=>exact ⟨d,rfl⟩
  obtain ⟨v,rfl,r2⟩:=r1.one'
  cases d <;> first | exact z.elim | skip
  simp only [Rep] at r2
  subst r2
  rename_i j
  by_cases hj:rOk j=true
  ·simp only [hj,if_true] at z
   have hj':=of_decide_eq_true hj
   exact ⟨j,rfl,hj'.1,hj'.2,z _ H1 e1 srcR⟩
  ·simp only [if_neg hj] at z
   exact z.elim
theorem xs_setC (i:Nat) {e:Expr} {x:Str} {pos':Pos} {fr:Bool} (hN:X.N.Nodup) (he:CompR X e (tX X.K E0 .F fe)) (hi:X.N[i]? = some x:=by rfl) (hx:Loc X.env.scope x:=by first | exact Or.inl rfl | exact Or.inr rfl) (hs:swapsWith e (some (.Name x pos')) pos.line X.env=pure true:=by rfl)
  (hf:X.fn x=true\/X.env.scope.names.lookup x=some .local:=by first | exact .inl rfl | exact .inr rfl):PS X (.Assign [.Name x pos'] e pos) (tS X.K E0 fr (sSet i fe)):=(he.ps i x pos' pos hN hi hx hs hf).imp fun D σ H q=>by
 obtain ⟨c,δ,hK,ab,q⟩:=q
 exact ⟨c,δ,hK,ab,(Res.bind q).imp fun d _ k v H1 e1 r1=>k _ H1 (ab.set_val e1 (Post.toS ab r1))⟩
end
end DL
namespace L2
open PySem PySem.Spec PyProof.Rows
structure Mk0 (K:PySem.W.Frag) (C:Addr):Prop where
 makes:PySem.W.makesIn K C=true
 init:PySem.W.findIn K (.ref C) "__init__" = some (some (.builtin "object.__init__"))
 kp:PySem.W.keepIn K (.ref C)=true
section
variable {X:Cx} {C:Addr} {x:Str} {p pos:Pos}
def tMakeN (C:Addr):TE:=fun _ H Q=>∀ x dx,H x=none->H dx=none->dx≠x->Q (.ref x) (upd (upd H dx (.own x)) x (.ins C dx []))
theorem run_makeN {pins:List (Addr×Obj)} {σ:St} {H:Hp} {s:Shared} {Q:VK} (M:Mk0 X.K C) (I:Inv X pins σ H s)
  (h:∀ x dx,H x=none->H dx=none->dx≠x->Q (.ref x) (upd (upd H dx (.own x)) x (.ins C dx []))):wpAny (model X.prog X.w) X.A (call (.ref C) []) (EP X pins σ Q) X.xe s:=by
 have hq:=h (s.heap.objs.size + 1) s.heap.objs.size (I.hok.fresh (Nat.le_succ _)) (I.hok.fresh (Nat.le_refl _)) (Nat.ne_of_lt (Nat.lt_succ_self _))
 have I2:=Inv.made (C:=C) I
 have Y:=PySem.W.makes_of (M:=model X.prog X.w) I.kIn M.makes
 refine wpAny_call (make_map0 I.kIn M.makes M.init (fun self=>PySem.W.Looks.of_pure (PySem.W.oi_bind self)) ?_)
 have hx:((s.heap.push PySem.W.emptyDict).push (PySem.W.instObj C s.heap.objs.size)).get? (s.heap.objs.size + 1)=some (PySem.W.instObj C s.heap.objs.size):=by
  have:=Heap.get?_push_size (s.heap.push PySem.W.emptyDict) (o:=PySem.W.instObj C s.heap.objs.size) rfl
  rwa [Heap.size_push] at this
 have t1:PySem.W.Looks (model X.prog X.w) ((s.heap.push PySem.W.emptyDict).push (PySem.W.instObj C s.heap.objs.size)) (typeOf (.ref (s.heap.objs.size + 1))) (.ref C):=(PySem.W.Looks.ld hx).andThen .now
 have t2:PySem.W.Looks (model X.prog X.w) ((s.heap.push PySem.W.emptyDict).push (PySem.W.instObj C s.heap.objs.size)) (isInstance (.ref (s.heap.objs.size + 1)) (.type "object")) true:=t1.andThen (Y.top.keeps fun b o e=>Heap.get?_push_of_some _ (Heap.get?_push_of_some _ e))
 refine codeAny_call_builtin PySem.W.oi_plain PySem.W.entry_oi (@PySem.W.check_slot (model X.prog X.w) _ _ _ "object.__init__" "object" "__init__" (.ref (s.heap.objs.size + 1)) [] [] _ PySem.W.oi_kind PySem.W.oi_split t2 (PySem.W.oi_args (.ref (s.heap.objs.size + 1))) ?_)
 rw [PySem.W.oi_run]
 exact wpAny_pure (And.intro rfl ⟨V.ref (s.heap.objs.size + 1),_,I2,rfl,hq⟩)
theorem pe_makeN (M:Mk0 X.K C) (hg:Gl X x) (hm:X.mg x=some (.ref C)) (hdb:(x == ("__debug__":Str))=false:=by decide):PE X (.Call (.Name x p) [] [] pos) (tMakeN C):=by
 intro pins s σ H Q I h
 refine wpAny_Call_Name_kw (ld_glob I hg hm ?_ hdb)
 exact PySem.W.callWith_K0 I.kIn M.kp (run_makeN M I h)
end
end L2
namespace DL
open PySem PySem.Spec PyProof.Rows L2
section
variable {X:Cx} {E:XK} {m:Md} {x:Str} {p pos apos:Pos} {e o:Expr} {es:List Expr} {fs:List Fn} {fo:Fn} {k:Nat} {ps:List Str} {fr:Bool} {mt:Str}
structure ClsOk (K:PySem.W.Frag) (mg:Str->Option Value) (x:Str):Prop where
 ex:∃ C,Cls K C/\PySem.W.nsIn K mainGlobals x=some (some (.ref C))/\mg x=some (.ref C)
def fMake0 (x:Str):Fn:=fun _=>.ok (.obj x)
theorem xmake0 {C:Addr} (M:Mk0 X.K C) (hn:PySem.W.nsIn X.K mainGlobals x=some (some (.ref C))) (hm:X.mg x=some (.ref C)) (hg:Gl X x:=by rfl) (hf:notF m=true:=by rfl) (hdb:(x == ("__debug__":Str))=false:=by decide) :
  PE X (.Call (.Name x p) [] [] pos) (tX X.K E m (fMake0 x)):=(pe_makeN M hg hm hdb).imp fun σ H Q q=>by
 obtain ⟨c,δ,hK,ab,q⟩:=q
 intro a dx ha hd hne
 have e1:Same H (upd (upd H dx (.own a)) a (.ins C dx [])):=(same_new hd _).trans (same_new (by rw [upd_ne (Ne.symm hne)];exact ha) _)
 refine q (.ref a) _ e1 ?_
 have r:∀ B:Addr->Prop,B a->Rep c.K B (upd (upd H dx (.own a)) a (.ins C dx [])) (.obj x) (.ref a):=fun B hB=>by
  simp only [Rep]
  exact ⟨a,C,dx,rfl,by rw [hK];exact hn,hB,upd_same⟩
 cases m with
 | W=>exact r _ (ab.fr a ha)
 | S=>exact r _ (ab.av_new ha)
 | F=>simp [notF] at hf
structure MDf (P:Program) (w:World) (K:PySem.W.Frag) (mg:Str->Option Value) (base:Heap) (c m:Str) (k:Nat) (ps:List Str) (fr:Bool) (mm:List D->Ou D):Prop where
 ex:∃ C f fd,Cls K C/\PySem.W.nsIn K mainGlobals c=some (some (.ref C))/\Meth K C m f/\FnOk P w K mg base CX0 k f fd ps (spD K fr ps.length mm)/\Binds K fd ps []
theorem MDf.mono {P:Program} {w:World} {K:PySem.W.Frag} {mg:Str->Option Value} {base:Heap} {c m:Str} {j k:Nat} {ps:List Str} {fr:Bool} {mm:List D->Ou D} (h:MDf P w K mg base c m j ps fr mm) (hj:j<=k):MDf P w K mg base c m k ps fr mm:=by
 obtain ⟨C,f,fd,h1,h2,h3,h4,h5⟩:=h.ex
 exact ⟨C,f,fd,h1,h2,h3,h4.mono hj,h5⟩
abbrev MTab:=List (Str×(List D->Ou D))
def tbM (tb:MTab):D->Option (List D->Ou D)
 | .obj c=>(tb.find? fun z=>z.1 == c).map (·.2)
 | _=>none
def fMeth (tb:MTab) (fo:Fn) (fs:List Fn):Fn:=fun δ=>(fo δ).bind fun d=>match tbM tb d with
 | some mm=>(fArgs fs δ).bind fun ds=>mm (d::ds)
 | none=>.bad
inductive MAll (P:Program) (w:World) (K:PySem.W.Frag) (mg:Str->Option Value) (base:Heap) (m:Str) (k:Nat) (n:Nat) (fr:Bool):MTab->Prop where
 | nil:MAll P w K mg base m k n fr []
 | cons {c:Str} {ps:List Str} {mm:List D->Ou D} {tb:MTab} (h:MDf P w K mg base c m k ps fr mm) (hn:ps.length=n) (r:MAll P w K mg base m k n fr tb):MAll P w K mg base m k n fr ((c,mm)::tb)
theorem MAll.at {P:Program} {w:World} {K:PySem.W.Frag} {mg:Str->Option Value} {base:Heap} {m:Str} {k n:Nat} {fr:Bool} {tb:MTab} (h:MAll P w K mg base m k n fr tb) {c:Str} {z:Str×(List D->Ou D)} (hz:(tb.find? fun z=>z.1 == c)=some z) :
  ∃ ps,MDf P w K mg base c m k ps fr z.2/\ps.length=n:=by
 induction h with
 | nil=>cases hz
 | @cons c' ps mm tb h hn r ih =>
  rw [List.find?_cons] at hz
  by_cases e:(c' == c)=true
  ·rw [e] at hz
   cases hz
   have:c'=c:=by simpa using e
   subst this
   exact ⟨ps,h,hn⟩
  ·have e':(c' == c)=false:=by simpa using e
   rw [e'] at hz
   exact ih hz
theorem obj_at {K:PySem.W.Frag} {B:Addr->Prop} {H:Hp} {c:Str} {v:V} {C:Addr} (r:Rep K B H (.obj c) v) (hC:PySem.W.nsIn K mainGlobals c=some (some (.ref C))):∃ a dx,v=.ref a/\H a=some (.ins C dx []):=by
 simp only [Rep] at r
 obtain ⟨a,C',dx,rfl,h1,_,h2⟩:=r
 rw [hC] at h1
 cases h1
 exact ⟨a,dx,rfl,h2⟩
theorem Post.bOf' {c:Cn} {σ:St} {δ:DS} {H H':Hp} {d:D} {v:V} {m:Md} (hm:notF m=true) (r:Rep c.K (BOf c σ δ m) H' d v):Post c σ δ H m d v H':=by
 cases m with
 | W=>exact r
 | S=>exact r
 | F=>simp [notF] at hm
theorem meth_read {tb:MTab} {n:Nat} {fr:Bool} {σ:St} {H:Hp} {Q:VK} {c:Cn} {δ:DS} {cn:Str} {t:TA} (hb:MAll X.prog X.w X.K X.mg X.base mt k n fr tb) (hm:notF m=true) (hl:fs.length + 1=n) (hK:c.K=X.K) (ab:Abs c σ δ H) (e1:fo δ=.ok (.obj cn))
  {z:Str×(List D->Ou D)} (hz:(tb.find? fun z=>z.1 == cn)=some z) (hta:∀ σ H Q,tXA X.K E0 m fs σ H Q->t σ H Q)
  (q:Res X.K E0 c.H₀ ((fArgs fs δ).bind fun ds=>z.2 (.obj cn::ds)) fun d=>∀ v H',Same H H'->RtP c.K (BOf c σ δ m) H fr d v H'->Q v H') :
  ∃ C f fd ps mm,Cls X.K C/\Meth X.K C mt f/\FnOk X.prog X.w X.K X.mg X.base CX0 k f fd ps (spD X.K fr ps.length mm)/\Binds X.K fd ps []/\tMeth C mt (spD X.K fr ps.length mm) [] E0 (tX X.K E0 m fo) t σ H Q:=by
 obtain ⟨ps,h,hn⟩:=hb.at hz
 obtain ⟨C,f,fd,h1,h2,h3,h4,h5⟩:=h.ex
 refine ⟨C,f,fd,ps,z.2,h1,h3,h4,h5,c,δ,hK,ab,?_⟩
 rw [e1]
 intro v H1 s1 r1
 have r1':Rep c.K (BOf c σ δ m) H1 (.obj cn) v:=Post.bOf hm r1
 obtain ⟨a,dx,rfl,ha⟩:=obj_at r1' (by rw [hK];exact h2)
 refine ⟨a,dx,[],rfl,ha,rfl,hta _ _ _ ⟨c,δ,hK,ab.grow s1,(Res.bind q).imp fun ds hds kq vs H2 e2 r2=>?_⟩⟩
 have ab2:=(ab.grow s1).grow e2
 refine ⟨BOf c σ δ m,.obj cn::ds,by rw [List.length_cons,fArgs_len hds,hl,hn],?_,(wish_mono kq (ab2.same)).imp fun d _ kd v H' e3 r3=>kd v H' ((s1.trans e2).trans e3) ?_⟩
 ·simp only [Reps,List.append_nil]
  rw [← hK]
  exact ⟨.ref a,vs,rfl,r1'.same e2,r2⟩
 ·rw [← hK] at r3
  have up:∀ b,(BOf c σ δ m b\/H2 b=none)->BOf c σ δ m b:=fun b w=>by
   rcases w with w | w
   ·exact w
   ·have:=ab2.av_new w
    cases m with
    | W=>exact this.1
    | S=>exact this
    | F=>simp [notF] at hm
  cases fr with
  | false=>exact Rep.weak (show Rep _ _ _ _ _ from r3) up
  | true =>
   obtain ⟨p',xs,rfl,w1,w2,w3⟩:=r3
   exact ⟨p',xs,rfl,(s1.trans e2).free w1,w2,w3.weak fun b y=>⟨up b y.1,y.2⟩⟩
theorem RtP.post {c:Cn} {σ:St} {δ:DS} {H H':Hp} {d:D} {v:V} {m:Md} (hm:notF m=true) (r:RtP c.K (BOf c σ δ m) H false d v H'):Post c σ δ H m d v H':=Post.bOf' hm r
theorem fMeth_cases {tb:MTab} {δ:DS} {kq:D->Prop} {K:PySem.W.Frag} {H₀:Hp} {d:D} (e1:fo δ=.ok d) (q:Res K E0 H₀ (fMeth tb fo fs δ) kq) :
  ∃ cn z,d=.obj cn/\(tb.find? fun z=>z.1 == cn)=some z/\Res K E0 H₀ ((fArgs fs δ).bind fun ds=>z.2 (.obj cn::ds)) kq:=by
 unfold fMeth at q
 rw [e1] at q
 have q':Res K E0 H₀ (match tbM tb d with
  | some mm=>(fArgs fs δ).bind fun ds=>mm (d::ds)
  | none=>.bad) kq:=q
 cases d <;> first | exact q'.elim | skip
 rename_i cn
 cases e2:(tb.find? fun z=>z.1 == cn) with
 | none=>simp only [tbM,e2,Option.map_none] at q';exact q'.elim
 | some z =>
  simp only [tbM,e2,Option.map_some] at q'
  exact ⟨cn,z,rfl,e2,q'⟩
theorem xmeth {pl:Sem Bool} {tb:MTab} {n:Nat} (hb:MAll X.prog X.w X.K X.mg X.base mt k n false tb) (hr:Room k X.A) (ho:PE X o (tX X.K E0 m fo)) (ha:PA X (e::es) (tXA X.K E0 m fs)) (hl:fs.length + 1=n:=by rfl) (hm:notF m=true:=by rfl)
  (hst:starEach (e::es) X.env=(false,eval e X.env)::starEach es X.env:=by rfl) (hpl:(backTo pos (starEach es X.env)).any (·.1)=false:=by rfl)
  (ht:eval (.Call (.Attribute o mt apos) (e::es) [] pos) X.env=(do
   let ov ← eval o X.env
   standAt apos.atName
   let (f,first) ← holding [ov] (getMethod ov mt pl)
   callWith pos f first (backTo pos (starEach (e::es) X.env)) (backToKw pos (keywordEach [] X.env))):=by rfl) :
  PE X (.Call (.Attribute o mt apos) (e::es) [] pos) (tX X.K E0 m (fMeth tb fo fs)):=by
 intro pins s σ H Q I q
 obtain ⟨c,δ,hK,ab,q⟩:=q
 cases e1:fo δ with
 | bad=>unfold fMeth at q;rw [e1] at q;exact q.elim
 | ex z =>
  unfold fMeth at q;rw [e1] at q
  exact PySem.W.methodCall_KW (pl:=pl) (thn (ho pins s σ H (fun _ _=>False) I ⟨c,δ,hK,ab,by rw [e1];exact q⟩) fun u s1 ⟨_,_,_,_,w⟩=>w.elim) ht
 | ok d =>
  obtain ⟨cn,z,rfl,hz,q⟩:=fMeth_cases e1 q
  obtain ⟨C,f,fd,ps,mm,h1,h2,h3,h4,h5⟩:=meth_read (m:=m) (fs:=fs) hb hm hl hK ab e1 hz (fun _ _ _ z=>z) (q.imp fun d _ kd v H' e2 r2=>kd v H' e2 (RtP.post hm r2))
  exact pe_meth ho h1 h2 h3 hr h4 .nil pass0 ha hst hpl ht pins s σ H Q I h5
theorem xmeth0 {pl:Sem Bool} {tb:MTab} {n:Nat} (hb:MAll X.prog X.w X.K X.mg X.base mt k n false tb) (hr:Room k X.A) (ho:PE X o (tX X.K E0 m fo)) (hl:0 + 1=n:=by rfl) (hm:notF m=true:=by rfl)
  (ht:eval (.Call (.Attribute o mt apos) [] [] pos) X.env=(do
   let ov ← eval o X.env
   standAt apos.atName
   let (f,first) ← holding [ov] (getMethod ov mt pl)
   callWith pos f first (backTo pos (starEach [] X.env)) (backToKw pos (keywordEach [] X.env))):=by rfl) :
  PE X (.Call (.Attribute o mt apos) [] [] pos) (tX X.K E0 m (fMeth tb fo [])):=by
 intro pins s σ H Q I q
 obtain ⟨c,δ,hK,ab,q⟩:=q
 cases e1:fo δ with
 | bad=>unfold fMeth at q;rw [e1] at q;exact q.elim
 | ex z =>
  unfold fMeth at q;rw [e1] at q
  exact PySem.W.methodCall_KW (pl:=pl) (thn (ho pins s σ H (fun _ _=>False) I ⟨c,δ,hK,ab,by rw [e1];exact q⟩) fun u s1 ⟨_,_,_,_,w⟩=>w.elim) ht
 | ok d =>
  obtain ⟨cn,z,rfl,hz,q⟩:=fMeth_cases e1 q
  obtain ⟨C,f,fd,ps,mm,h1,h2,h3,h4,h5⟩:=meth_read (m:=m) (fs:=[]) hb hm hl hK ab e1 hz (fun _ _ _ w=>by
   obtain ⟨c,δ,hK,ab,w⟩:=w
   exact w [] _ (Same.refl _) (by simp [Reps])) (q.imp fun d _ kd v H' e2 r2=>kd v H' e2 (RtP.post hm r2))
  exact pe_meth0 ho h1 h2 h3 hr h4 .nil pass0 ht pins s σ H Q I h5
end
end DL
namespace DL
open PySem PySem.Spec PyProof.Rows L2
section
variable {X:Cx} {E:XK} {m:Md} {a b e:Expr} {fa fb fe:Fn} {pos p:Pos} {es:List Expr} {fs:List Fn} {fr:Bool} {F G:Sm} {st:Stmt} {x:Str}
def isBl (k:Bool):D->Bool
 | .bl k'=>k' == k
 | _=>false
def gIsB:D->D->Ou D
 | d,.bl k=>.ok (.bl (isBl k d))
 | _,_=>.bad
def gNotB:D->D->Ou D
 | d,.bl k=>.ok (.bl (!isBl k d))
 | _,_=>.bad
def gListOf:D->Ou D
 | .lst ds=>.ok (.lst ds)
 | .frl ds=>.ok (.lst ds)
 | .tup ds=>.ok (.lst ds)
 | _=>.bad
theorem xlistOf (hm:X.mg "list" = none) (ha:PE X e (tX X.K E .S fe)) (hg:Gl X "list":=by rfl) (he:starEach [e] X.env=(false,eval e X.env)::starEach [] X.env:=by rfl) (hpl:(backTo pos (starEach ([]:List Expr) X.env)).any (·.1)=false:=by rfl) :
  PE X (.Call (.Name "list" p) [e] [] pos) (tX X.K E .F (f1 gListOf fe)) :=
 (pe_callTy call_list_of hg hm (by decide +kernel) (pa_cons ha pa_nil he) (by decide) (by decide) he hpl).imp fun σ H Q q=>by
 obtain ⟨c,δ,hK,ab,q⟩:=q
 refine ⟨c,δ,hK,ab,(Res.bind q).imp fun d _ k v H1 e1 r1=>?_⟩
 have r1':Rep c.K (Av c σ δ) H1 d v:=r1
 have fin:∀ {ds:List D} {xs:List V} (l:Addr),H1 l=none->Reps c.K (Av c σ δ) H1 ds xs->Post c σ δ H .F (.lst ds) (.ref l) (upd H1 l (.lst xs)):=fun l hl h2=>⟨l,_,rfl,e1.free hl,upd_same,_,rfl,(Reps.off h2 hl).same (same_new hl _)⟩
 cases d <;> first | exact k.elim | skip
 ·simp only [Rep] at r1'
  obtain ⟨a,xs,rfl,h1,h2⟩:=r1'
  exact ⟨a,xs,rfl,.inr (by rw [← hK];exact h1),fun l hl=>k (.ref l) _ (e1.trans (same_new hl _)) (fin l hl h2)⟩
 ·simp only [Rep] at r1'
  obtain ⟨a,xs,rfl,_,h1,h2⟩:=r1'
  exact ⟨a,xs,rfl,.inl (.of h1),fun l hl=>k (.ref l) _ (e1.trans (same_new hl _)) (fin l hl h2)⟩
 ·simp only [Rep] at r1'
  obtain ⟨a,xs,rfl,h1,h2⟩:=r1'
  exact ⟨a,xs,rfl,.inl (by rw [← hK];exact h1.sq),fun l hl=>k (.ref l) _ (e1.trans (same_new hl _)) (fin l hl h2)⟩
def sBad:Sm:=fun _=>.bad
theorem xs_raise {exc cause:Option Expr}:PS X (.Raise exc cause pos) (tS X.K E fr sBad):=fun pins s σ H D I q=>by
 obtain ⟨c,δ,hK,ab,q⟩:=q
 exact q.elim
end
theorem df_bad {P:Program} {w:World} {K:PySem.W.Frag} {mg:Str->Option Value} {base:Heap} {x:Str} {st:Stmt} {ps:List Str} {k:Nat} {fr:Bool} (S:Src K mg x st ps):Df P w K mg base x k ps fr (fun _=>.bad):=by
 obtain ⟨f,fd,Fn,b,hm⟩:=S.ex
 refine ⟨f,fd,⟨fun vs H Q E h=>?_,fun A outer s H args us vs Q E _ _ _ _ h=>?_⟩,b,Fn.kp,hm⟩
 ·obtain ⟨_,_,_,_,z⟩:=h;exact z.elim
 ·obtain ⟨_,_,_,_,z⟩:=h;exact z.elim
def relab (sc0 scope:Scope):List (Str×NameKind):=scope.names.map fun (n,k)=>if (k == .free && sc0.kind == .function && sc0.names.lookup n == some .cell) then (n,.cell) else (n,k)
def cnOk (sc0 scope:Scope) (N0 N':List Str) (k:Nat) (ix:List Nat):Bool :=
 scope.names.all (fun y=>y.2 != .cell) && (scope.kind == .function) && scope.names.all (fun y=>y.2 != .local || scope.names.lookup y.1 == some .local) &&
 scope.names.all (fun y=>y.2 != .free || (sc0.names.lookup y.1 == some .cell || sc0.names.lookup y.1 == some .free)) && N'.length == k + ix.length &&
 (List.range ix.length).all (fun j=>match ix[j]?,N'[k + j]? with
  | some i,some x=>N0[i]? == some x && (sc0.names.lookup x == some .cell || sc0.names.lookup x == some .free) && (relab sc0 scope).lookup x != some .local
  | _,_=>false)
theorem cnames {X:Cx} {scope:Scope} {N':List Str} {k:Nat} {ix:List Nat} (sc0:Scope) (N0:List Str) (h:cnOk sc0 scope N0 N' k ix=true) (hs:X.env.scope=sc0:=by rfl) (hN:X.N=N0:=by rfl):CNames X scope N' k ix:=by
 unfold cnOk at h
 simp only [Bool.and_eq_true] at h
 obtain ⟨⟨⟨⟨⟨h1,h2⟩,h3⟩,h4⟩,h5⟩,h6⟩:=h
 subst hs;subst hN
 refine ⟨fun y hy=>by simpa using List.all_eq_true.mp h1 y hy,by simpa using h2,fun y hy hk=>?_,fun y hy hk=>?_,by simpa using h5,fun j i x e1 e2=>?_⟩
 ·have:=List.all_eq_true.mp h3 y hy
  rw [hk] at this
  simpa using this
 ·have:=List.all_eq_true.mp h4 y hy
  rw [hk] at this
  have z:List.lookup y.fst X.env.scope.names=some NameKind.cell\/List.lookup y.fst X.env.scope.names=some NameKind.free:=by simpa using this
  exact z
 ·have:=List.all_eq_true.mp h6 j (List.mem_range.mpr (List.getElem?_eq_some_iff.mp e1).1)
  rw [e1,e2] at this
  simp only [Bool.and_eq_true,Bool.or_eq_true,beq_iff_eq,bne_iff_ne] at this
  exact ⟨this.1.1,this.1.2,this.2⟩
end DL
namespace DL
open PySem PySem.Spec PyProof.Rows L2
def keyD:D->Option Key
 | .int i=>some (.inl i)
 | .str x=>some (.inr x)
 | _=>none
def dGet:List Key->List D->Key->Option D
 | k::ks,d::ds,q=>if k=q then some d else dGet ks ds q
 | _,_,_=>none
def dSet:List Key->List D->Key->D->List D
 | k::ks,d::ds,q,v=>(if k=q then v else d)::dSet ks ds q v
 | _,ds,_,_=>ds
theorem keyD_rep {K:PySem.W.Frag} {B:Addr->Prop} {H:Hp} {d:D} {v:V} {k:Key} (h:keyD d=some k) (r:Rep K B H d v):v=kV k:=by
 cases d <;> simp [keyD] at h <;> simp only [Rep] at r <;> subst r <;> subst h <;> rfl
section
variable {K:PySem.W.Frag} {B:Addr->Prop} {H:Hp}
theorem dGet_val:∀ {kvs:List (Key×V)} {ds:List D} {q:Key},Reps K B H ds (kvs.map (·.2))->match dGet (kvs.map (·.1)) ds q with
  | some d=>∃ v,valV kvs q=some v/\Rep K B H d v
  | none=>valV kvs q=none
 | [],ds,q,r=>by
  simp only [List.map_nil] at r
  have:ds=[]:=by
   cases ds with
   | nil=>rfl
   | cons d r'=>simp [Reps] at r
  subst this
  rfl
 | (k,v)::kvs,ds,q,r=>by
  cases ds with
  | nil=>simp [Reps] at r
  | cons d ds =>
   simp only [List.map_cons,Reps] at r
   obtain ⟨v',r',e,h1,h2⟩:=r
   cases e
   simp only [List.map_cons,dGet]
   by_cases hk:k=q
   ·rw [if_pos hk]
    exact ⟨v,valV_pos hk,h1⟩
   ·rw [if_neg hk,valV_neg (p:=(k,v)) hk]
    exact dGet_val h2
def dPutK (ks:List Key) (q:Key):List Key:=if (ks.any fun k=>decide (k=q))=true then ks else ks++[q]
def dPutV (ks:List Key) (ds:List D) (q:Key) (d:D):List D:=if (ks.any fun k=>decide (k=q))=true then dSet ks ds q d else ds++[d]
theorem dSet_reps {d:D} {v:V} {q:Key} (hd:Rep K B H d v):∀ {kvs:List (Key×V)} {ds:List D},Reps K B H ds (kvs.map (·.2))->Reps K B H (dSet (kvs.map (·.1)) ds q d) ((kvs.map fun kv=>if kv.1=q then (kv.1,v) else kv).map (·.2))
 | [],ds,r=>by
  simp only [List.map_nil] at r ⊢
  have:ds=[]:=by
   cases ds with
   | nil=>rfl
   | cons d r'=>simp [Reps] at r
  subst this
  exact r
 | (k,v')::kvs,ds,r=>by
  cases ds with
  | nil=>simp [Reps] at r
  | cons d' ds =>
   simp only [List.map_cons,Reps] at r
   obtain ⟨v'',r',e,h1,h2⟩:=r
   cases e
   simp only [List.map_cons,dSet,Reps]
   refine ⟨_,_,rfl,?_,dSet_reps hd h2⟩
   by_cases hk:k=q
   ·rw [if_pos hk,if_pos hk];exact hd
   ·rw [if_neg hk,if_neg hk];exact h1
theorem put_rep {kvs:List (Key×V)} {ds:List D} {q:Key} {d:D} {v:V} (r:Reps K B H ds (kvs.map (·.2))) (hd:Rep K B H d v) :
  (putK kvs q v).map (·.1)=dPutK (kvs.map (·.1)) q/\Reps K B H (dPutV (kvs.map (·.1)) ds q d) ((putK kvs q v).map (·.2)):=by
 have e:((kvs.map (·.1)).any fun k=>decide (k=q))=kvs.any fun kv=>decide (kv.1=q):=by rw [List.any_map];rfl
 unfold putK dPutK dPutV
 rw [e]
 by_cases h:(kvs.any fun kv=>decide (kv.1=q))=true
 ·rw [if_pos h,if_pos h,if_pos h]
  refine ⟨?_,dSet_reps hd r⟩
  rw [List.map_map]
  refine List.map_congr_left fun kv _=>?_
  show (if kv.1=q then (kv.1,v) else kv).1=kv.1
  by_cases hk:kv.1=q
  ·rw [if_pos hk]
  ·rw [if_neg hk]
 ·rw [if_neg h,if_neg h,if_neg h]
  refine ⟨by rw [List.map_append];rfl,?_⟩
  rw [List.map_append]
  exact Reps.append r (Reps.one hd)
end
section
variable {X:Cx} {E:XK} {m:Md} {a b e o i:Expr} {fa fb fe fo fi:Fn} {pos p:Pos} {fr:Bool} {x:Str}
def fDic0:Fn:=fun _=>.ok (.dic [] [])
theorem xdnew:PE X (.Dict [] [] pos) (tX X.K E .F fDic0):=pe_dnewK.imp fun σ H Q q=>by
 obtain ⟨c,δ,hK,ab,q⟩:=q
 intro p hp
 exact q (.ref p) _ (same_new hp _) ⟨p,_,rfl,hp,upd_same,[],rfl,rfl,by simp [Reps]⟩
theorem DGet.r {H:Hp} {a:Addr} {kvs:List (Key×V)} {k:Key} (e:Rd H a (.dK kvs)):DGet H a (kV k) (valV kvs k):=.inl ⟨kvs,k,e,rfl,rfl⟩
def gDIn (neg:Bool):D->D->Ou D
 | k,.dic ks ds=>(match keyD k with
  | some q=>if ds.length=ks.length then .ok (.bl (let z:=(dGet ks ds q).isSome;if neg then !z else z)) else .bad
  | none=>.bad)
 | _,_=>.bad
theorem op_dnotin (hu:X.A.units + 64 < cLine):OpR X (compareOp .NotIn) (fun x y H Q=>∃ a o,y=.ref a/\DGet H a x o/\Q (.bl (!o.isSome)) H):=by
 intro pins s σ H x y v u Q I rx ry h
 obtain ⟨a,o,rfl,g,q⟩:=h
 obtain rfl:u=Value.ref a:=ry
 exact d_notIn (by lia) I g rx fun s' I'=>⟨.bl (!o.isSome),H,I',rfl,q⟩
theorem din_core {K:PySem.W.Frag} {B:Addr->Prop} {H:Hp} {dx:D} {ks:List Key} {ds:List D} {x y:V} {q:Key} (hk:keyD dx=some q) (rx:Rep K B H dx x) (ry:Rep K B H (.dic ks ds) y):∃ a o,y=.ref a/\DGet H a x o/\o.isSome=(dGet ks ds q).isSome:=by
 simp only [Rep] at ry
 obtain ⟨a,kvs,rfl,_,h1,rfl,h3⟩:=ry
 have hv:=dGet_val (q:=q) h3
 rw [keyD_rep hk rx]
 refine ⟨a,_,rfl,DGet.r h1,?_⟩
 cases eg:dGet (kvs.map (·.1)) ds q with
 | none=>rw [eg] at hv;rw [show valV kvs q=none from hv];rfl
 | some d' =>
  rw [eg] at hv
  obtain ⟨w',z1,_⟩:=hv
  rw [z1];rfl
theorem od_dnotin (hu:X.A.units + 64 < cLine):OpD X (compareOp .NotIn) (gDIn true):=by
 refine ⟨_,op_dnotin hu,fun B H dx dy x y Q rx ry=>?_⟩
 cases dy <;> simp only [gDIn]
 rename_i ks ds
 cases ek:keyD dx with
 | none=>trivial
 | some q =>
  by_cases hl:ds.length=ks.length
  ·simp only [if_pos hl]
   refine ⟨rfl,fun w=>?_⟩
   obtain ⟨a,o,h1,h2,h3⟩:=din_core ek rx ry
   exact ⟨a,o,h1,h2,by rw [h3];exact w⟩
  ·simp only [if_neg hl]
def sDPut (j:Nat) (fk fv:Fn):Sm:=fun δ=>(fv δ).bind fun d=>match δ[j]? with
 | some (.own (.dic ks ds))=>(fk δ).bind fun k=>(match keyD k with
  | some q=>if ks.length < sizeLine then .ok (.nx (δ.set j (.own (.dic (dPutK ks q) (dPutV ks ds q d))))) else .bad
  | none=>.bad)
 | _=>.bad
theorem xs_dput (j:Nat) {px tpos:Pos} (hu:X.A.units + 64 < cLine) (hk:PE X b (tX X.K E .W fb)) (he:PE X e (tX X.K E .S fe)) (hN:X.N[j]? = some x:=by rfl) (hv:Vis X.env.scope x:=by first | exact Or.inl rfl | exact Or.inr (Or.inl rfl) | exact Or.inr (Or.inr rfl)) (hd:(x == ("__debug__":Str))=false:=by decide) (hcd:(x == ("__classdict__":Str))=false:=by decide)
  (hs:swapsWith e (some (.Subscript (.Name x px) b tpos)) pos.line X.env=pure false:=by rfl):PS X (.Assign [.Subscript (.Name x px) b tpos] e pos) (tS X.K E fr (sDPut j fb fe)) :=
 (ps_dput (by lia) (pv j hN hv hd hcd) hk he hs).imp fun D σ H q=>by
 obtain ⟨c,δ,hK,ab,q⟩:=q
 refine ⟨c,δ,hK,ab,(Res.bind q).imp fun d _ k v H1 e1 r1=>?_⟩
 cases e0:δ[j]? with
 | none=>rw [e0] at k;exact k.elim
 | some s =>
  rw [e0] at k
  cases s with
  | un=>exact k.elim
  | val d=>exact k.elim
  | own dd =>
   cases dd <;> first | exact k.elim | skip
   rename_i ks ds
   obtain ⟨p,o,g1,g2,g3,kvs,rfl,rfl,g4⟩:=ab.own j _ e0
   refine ⟨.ref p,g1,c,δ,hK,ab.grow e1,(Res.bind k).imp fun dk _ k2 kv H2 e2 r2=>?_⟩
   have r2':Rep c.K c.B H2 dk kv:=r2
   cases ek:keyD dk with
   | none=>simp only [ek] at k2;exact k2.elim
   | some q' =>
    simp only [ek] at k2
    by_cases hl:(kvs.map (·.1)).length < sizeLine
    ·simp only [if_pos hl] at k2
     have z2:=e2 _ _ (e1 _ _ g2)
     obtain ⟨w1,w2⟩:=put_rep (q:=q') ((g4.same e1).same e2) (Rep.same (show Rep c.K (Av c σ δ) H1 d v from r1) e2)
     rw [keyD_rep ek r2']
     exact ⟨p,_,rfl,DPut.k z2 (by simpa using hl),k2 σ _ (((ab.grow e1).grow e2).mut e0 g1 ⟨_,rfl,w1,w2⟩)⟩
    ·simp only [if_neg hl] at k2
     exact k2.elim
end
end DL
namespace DL
open PySem PySem.Spec PyProof.Rows L2
def ins (n:Int):List Int->List Int
 | []=>[n]
 | m::r=>if n<=m then n::m::r else m::ins n r
theorem vals_ints:∀ {ns:List Int} {us:List Value},Vals (ns.map V.int) us->IntsAre us ns
 | [],us,r=>by cases r;exact .nil
 | n::ns,us,r=>by
  cases r with
  | cons h t =>
   obtain ⟨tk,rfl⟩:=h
   exact .cons n tk (vals_ints t)
theorem ints_vals:∀ {us:List Value} {ns:List Int},IntsAre us ns->Vals (ns.map V.int) us
 | _,_,.nil=>.nil
 | _,_,.cons n t h=>.cons ⟨t,rfl⟩ (ints_vals h)
section
variable {X:Cx} {E:XK} {m:Md} {a b e o i:Expr} {fa fb fe fo fi:Fn} {pos p:Pos} {fr:Bool} {x:Str}
theorem keyIs_int {n:Int} {v:Value} (h:keyIs (.inl n) v=true):∃ t,v=Value.int n t:=by
 have h':Value.isInt n v=true:=h
 cases v <;> simp [Value.isInt] at h'
 subst h'
 exact ⟨_,rfl⟩
end
end DL
namespace Tim
open PySem PyProof.Rows
def R (ρ:Keyed->Int) (xs:Array Keyed) (i:Nat):Int:=(xs[i]?.map ρ).getD 0
def Up (ρ:Keyed->Int) (xs:Array Keyed) (lo hi:Nat):Prop:=∀ i j,lo<=i->i<=j->j < hi->R ρ xs i<=R ρ xs j
def Dn (ρ:Keyed->Int) (xs:Array Keyed) (lo hi:Nat):Prop:=∀ i j,lo<=i->i<=j->j < hi->R ρ xs j<=R ρ xs i
def Stays (xs ys:Array Keyed) (lo hi:Nat):Prop:=∀ i,i < lo\/hi<=i->ys[i]? = xs[i]?
theorem Stays.refl (xs:Array Keyed) (lo hi:Nat):Stays xs xs lo hi:=fun _ _=>rfl
theorem Stays.trans {xs ys zs:Array Keyed} {lo hi:Nat} (h:Stays xs ys lo hi) (k:Stays ys zs lo hi):Stays xs zs lo hi:=fun i hi=>(k i hi).trans (h i hi)
theorem R_of {ρ:Keyed->Int} {xs ys:Array Keyed} {i j:Nat} (h:xs[i]? = ys[j]?):R ρ xs i=R ρ ys j:=by unfold R;rw [h]
theorem R_mirror {ρ:Keyed->Int} {xs:Array Keyed} {i j:Nat} (hj:j<=xs.size) (k:Nat):R ρ (mirror xs i j ((j - i) / 2)) k=if i<=k/\k < j then R ρ xs (i + j - 1 - k) else R ρ xs k:=by
 have e:=getElem?_mirror_all (i:=i) hj k
 by_cases c:i<=k/\k < j
 ·rw [if_pos c] at e ⊢;exact R_of e
 ·rw [if_neg c] at e ⊢;exact R_of e
theorem R_mirror_same {ρ:Keyed->Int} {xs:Array Keyed} {i j:Nat} (hj:j<=xs.size) (he:∀ k,i<=k->k < j->R ρ xs k=R ρ xs (j - 1)) (k:Nat):R ρ (mirror xs i j ((j - i) / 2)) k=R ρ xs k:=by
 rw [R_mirror hj]
 by_cases c:i<=k/\k < j
 ·rw [if_pos c,he _ (by lia) (by lia),he k c.1 c.2]
 ·rw [if_neg c]
theorem Stays.mirror {xs:Array Keyed} {i j lo hi:Nat} (hj:j<=xs.size) (h1:lo<=i) (h2:j<=hi):Stays xs (mirror xs i j ((j - i) / 2)) lo hi:=fun k hk=>by
 rw [getElem?_mirror_all hj,if_neg (by lia)]
theorem R_bubble {ρ:Keyed->Int} {xs:Array Keyed} {src d:Nat} (hs:src < xs.size) (hd:d<=src) (k:Nat):R ρ (bubble xs src d) k=if k=src - d then R ρ xs src else if src - d < k/\k<=src then R ρ xs (k - 1) else R ρ xs k:=by
 have e:=getElem?_bubble hs d hd k
 by_cases c1:k=src - d
 ·rw [if_pos c1] at e ⊢;exact R_of e
 ·rw [if_neg c1] at e ⊢
  by_cases c2:src - d < k/\k<=src
  ·rw [if_pos c2] at e ⊢;exact R_of e
  ·rw [if_neg c2] at e ⊢;exact R_of e
theorem Stays.bubble {xs:Array Keyed} {src d lo hi:Nat} (hs:src < xs.size) (hd:d<=src) (h1:lo<=src - d) (h2:src < hi):Stays xs (bubble xs src d) lo hi:=fun k hk=>by
 rw [getElem?_bubble hs d hd,if_neg (by lia),if_neg (by lia)]
structure Bs (κ:SortKind) (a₀:Array Keyed) (st:SortSt):Prop where
 perm:(arrOf st).Perm a₀
 kind:kindOf st=κ
 fine:failedOf st=none
theorem Bs.size {κ:SortKind} {a₀:Array Keyed} {st:SortSt} (h:Bs κ a₀ st):(arrOf st).size=a₀.size:=h.perm.size_eq
theorem Bs.put {κ:SortKind} {a₀:Array Keyed} {st:SortSt} (h:Bs κ a₀ st) {xs:Array Keyed} (hp:xs.Perm (arrOf st)):Bs κ a₀ (setArr st xs):=⟨hp.trans h.perm,h.kind,h.fine⟩
theorem Bs.has {κ:SortKind} {a₀:Array Keyed} {st:SortSt} (h:Bs κ a₀ st) {i:Nat} (hi:i < a₀.size):∃ x,(arrOf st)[i]? = some x/\x∈a₀.toList:=by
 have hi':i < (arrOf st).size:=by rw [h.size];exact hi
 exact ⟨(arrOf st)[i],getElem?_pos _ i hi',(Array.perm_iff_toList_perm.mp h.perm).mem_iff.mp (by simp)⟩
section
variable {prog:Program} {w:World} {A:Around} {E:Value->Shared->Prop} {s:Shared} {κ:SortKind} {ρ:Keyed->Int} {a₀:Array Keyed}
def Told (prog:Program) (w:World) (A:Around) (s:Shared) (κ:SortKind) (ρ:Keyed->Int) (a₀:Array Keyed):Prop :=
 ∀ x,x∈a₀.toList->∀ y,y∈a₀.toList->∀ (E:Value->Shared->Prop) (Q:Bool->Shared->Prop),Q (decide (ρ x < ρ y)) s->wpAny (model prog w) A (keyLt' κ x.1 y.1) Q E s
theorem lt_ {st:SortSt} {x y:Keyed} {Q:Option Bool->SortSt->Prop} (T:Told prog w A s κ ρ a₀) (hk:kindOf st=κ) (hx:x∈a₀.toList) (hy:y∈a₀.toList) (h:Q (some (decide (ρ x < ρ y))) st) :
  wpS (model prog w) A E s (lt' x y) Q st:=by
 rw [lt'_eq]
 refine wpS_bind (wpS_get ?_)
 rw [hk]
 refine wpS_bind (wpS_lift (wpAny_attempt (T x hx y hy _ _ ⟨rfl,?_⟩)))
 exact wpS_pure h
theorem elem_ {st:SortSt} {xs:Array Keyed} {i:Nat} {x:Keyed} {Q:Keyed->SortSt->Prop} (hx:xs[i]? = some x) (h:Q x st):wpS (model prog w) A E s (elem' xs i) Q st:=by
 rw [elem'_eq,hx]
 exact wpS_pure h
theorem ltAt_ {st:SortSt} {i j:Nat} {Q:Option Bool->SortSt->Prop} (T:Told prog w A s κ ρ a₀) (hB:Bs κ a₀ st) (hi:i < a₀.size) (hj:j < a₀.size)
  (h:Q (some (decide (R ρ (arrOf st) i < R ρ (arrOf st) j))) st):wpS (model prog w) A E s (ltAt' i j) Q st:=by
 obtain ⟨x,ex,mx⟩:=hB.has hi
 obtain ⟨y,ey,my⟩:=hB.has hj
 rw [ltAt'_eq]
 refine wpS_bind (wpS_get (wpS_bind (elem_ ex (wpS_bind (elem_ ey (lt_ T hB.kind mx my ?_))))))
 have e1:R ρ (arrOf st) i=ρ x:=by unfold R;rw [ex];rfl
 have e2:R ρ (arrOf st) j=ρ y:=by unfold R;rw [ey];rfl
 rw [e1,e2] at h
 exact h
abbrev St1:=Option (Option Nat)×Nat
abbrev St2:=Option (Option Nat)×Nat×Nat
def upL (lo a m:Nat):StateT SortSt Sem St1:=forIn [a:m] ((none,a):St1) fun _ r=>do
 let x ← ltAt' (lo + r.snd) (lo + r.snd - 1)
 match x with
 | some b=>if b=true then pure (.done (none,r.snd)) else pure (.yield (none,r.snd + 1))
 | _=>pure (.done (some none,r.snd))
def endL (lo n m:Nat):StateT SortSt Sem (Option Nat):=do
 reverseSlice' lo (lo + n)
 let r ← upL lo n m
 match r.fst with
 | some z=>pure z
 | none=>pure (some r.snd)
def dnL (lo n m:Nat):StateT SortSt Sem St2:=forIn [n:m] ((none,n,0):St2) fun _ r=>do
 let x ← ltAt' (lo + r.snd.fst) (lo + r.snd.fst - 1)
 match x with
 | some b =>
  if b=true then
   if r.snd.snd > 0 then do
    reverseSlice' (lo + r.snd.fst - (r.snd.snd + 1)) (lo + r.snd.fst)
    pure (.yield (none,r.snd.fst + 1,0))
   else pure (.yield (none,r.snd.fst + 1,0))
  else do
   let y ← ltAt' (lo + r.snd.fst - 1) (lo + r.snd.fst)
   match y with
   | some c=>if c=true then pure (.done (none,r.snd.fst,r.snd.snd)) else pure (.yield (none,r.snd.fst + 1,r.snd.snd + 1))
   | _=>pure (.done (some none,r.snd.fst,r.snd.snd))
 | _=>pure (.done (some none,r.snd.fst,r.snd.snd))
def fallL (lo n m:Nat):StateT SortSt Sem (Option Nat):=do
 liftM (rule "list.sort.descending-run")
 let r ← dnL lo (n + 1) m
 match r.fst with
 | some z=>pure z
 | none =>
  if r.snd.snd > 0 then do
   reverseSlice' (lo + r.snd.fst - (r.snd.snd + 1)) (lo + r.snd.fst)
   endL lo r.snd.fst m
  else endL lo r.snd.fst m
def runL (lo m:Nat):StateT SortSt Sem (Option Nat):=do
 let r ← upL lo 1 m
 match r.fst with
 | some z=>pure z
 | none =>
  if (r.snd == m)=true then pure (some r.snd)
  else if r.snd > 1 then do
   let x ← ltAt' lo (lo + r.snd - 1)
   match x with
   | some b=>if b=true then pure (some r.snd) else do
     reverseSlice' lo (lo + r.snd)
     fallL lo r.snd m
   | _=>pure none
  else fallL lo r.snd m
theorem run_eq (lo m:Nat):countRun' lo m=runL lo m:=by
 rw [countRun'_eq]
 unfold runL
 dsimp only
 congr 1
 funext r
 obtain ⟨z,n⟩:=r
 cases z with
 | some z=>rfl
 | none =>
  dsimp only
  by_cases c1:(n == m)=true
  ·rw [if_pos c1,if_pos c1]
  ·rw [if_neg c1,if_neg c1]
   by_cases c2:n > 1
   ·rw [if_pos c2,if_pos c2]
    congr 1
    funext x
    cases x with
    | none=>rfl
    | some b =>
     dsimp only
     cases b with
     | true=>rfl
     | false =>
      simp only [Bool.false_eq_true,if_false]
      congr 1
      funext u
      unfold fallL
      congr 1
      funext v
      congr 1
      funext r
      obtain ⟨z,n',q⟩:=r
      cases z with
      | some z=>rfl
      | none =>
       dsimp only
       by_cases c3:q > 0
       ·rw [if_pos c3,if_pos c3]
        congr 1
        funext y
        unfold endL
        congr 1
        funext y'
        congr 1
        funext r
        obtain ⟨z,k⟩:=r
        cases z <;> rfl
       ·rw [if_neg c3,if_neg c3]
        unfold endL
        congr 1
        funext y'
        congr 1
        funext r
        obtain ⟨z,k⟩:=r
        cases z <;> rfl
   ·rw [if_neg c2,if_neg c2]
    unfold fallL
    congr 1
    funext v
    congr 1
    funext r
    obtain ⟨z,n',q⟩:=r
    cases z with
    | some z=>rfl
    | none =>
     dsimp only
     by_cases c3:q > 0
     ·rw [if_pos c3,if_pos c3]
      congr 1
      funext y
      unfold endL
      congr 1
      funext y'
      congr 1
      funext r
      obtain ⟨z,k⟩:=r
      cases z <;> rfl
     ·rw [if_neg c3,if_neg c3]
      unfold endL
      congr 1
      funext y'
      congr 1
      funext r
      obtain ⟨z,k⟩:=r
      cases z <;> rfl
theorem rev_ {st:SortSt} {i j:Nat} {Q:Unit->SortSt->Prop} (h:Q () (setArr st (mirror (arrOf st) i j ((j - i) / 2)))):wpS (model prog w) A E s (reverseSlice' i j) Q st:=by
 rw [reverseSlice'_eq]
 exact wpS_modify h
theorem upL_ {st:SortSt} {lo a m:Nat} {Q:St1->SortSt->Prop} (T:Told prog w A s κ ρ a₀) (hB:Bs κ a₀ st) (hm:lo + m<=a₀.size) (h1:1<=a) (ha:a<=m) (hu:Up ρ (arrOf st) lo (lo + a))
  (h:∀ n,a<=n->n<=m->Up ρ (arrOf st) lo (lo + n)->(n=m\/R ρ (arrOf st) (lo + n) < R ρ (arrOf st) (lo + n - 1))->Q (none,n) st):wpS (model prog w) A E s (upL lo a m) Q st:=by
 unfold upL
 refine wpS_forRange (I:=fun x c st'=>st'=st/\c=(none,x)/\Up ρ (arrOf st) lo (lo + x)) ?_ ?_ ⟨rfl,rfl,hu⟩
 ·rintro x c st' hx1 hx2 ⟨rfl,rfl,hs⟩
  dsimp only
  refine wpS_bind (ltAt_ T hB (by lia) (by lia) ?_)
  by_cases hl:R ρ (arrOf st') (lo + x) < R ρ (arrOf st') (lo + x - 1)
  ·rw [decide_eq_true hl]
   exact wpS_pure (h x hx1 (by lia) hs (.inr hl))
  ·rw [decide_eq_false hl]
   refine wpS_pure ⟨rfl,rfl,fun i j q1 q2 q3=>?_⟩
   by_cases c:j < lo + x
   ·exact hs i j q1 q2 c
   ·obtain rfl:j=lo + x:=by lia
    by_cases c2:i=lo + x
    ·rw [c2];exact Int.le_refl _
    ·have:=hs i (lo + x - 1) q1 (by lia) (by lia)
     lia
 ·rintro c st' ⟨rfl,rfl,hs⟩
  rw [Nat.max_eq_right ha] at hs ⊢
  exact h m ha (Nat.le_refl _) hs (.inl rfl)
theorem endL_ {st:SortSt} {lo n m:Nat} {Q:Option Nat->SortSt->Prop} (T:Told prog w A s κ ρ a₀) (hB:Bs κ a₀ st) (hm:lo + m<=a₀.size) (h1:1<=n) (hn:n<=m) (hd:Dn ρ (arrOf st) lo (lo + n))
  (h:∀ k st',Bs κ a₀ st'->Stays (arrOf st) (arrOf st') lo (lo + m)->pendingOf st'=pendingOf st->1<=k->k<=m->Up ρ (arrOf st') lo (lo + k)->Q (some k) st'):wpS (model prog w) A E s (endL lo n m) Q st:=by
 unfold endL
 have hz:lo + n<=(arrOf st).size:=by rw [hB.size];lia
 refine wpS_bind (rev_ ?_)
 have hB':Bs κ a₀ (setArr st (mirror (arrOf st) lo (lo + n) ((lo + n - lo) / 2))):=hB.put (mirror_perm _ _ _ _)
 refine wpS_bind (upL_ T hB' hm h1 hn (fun i j q1 q2 q3=>?_) fun k k1 k2 k3 _=>wpS_pure (h k _ hB' (Stays.mirror hz (Nat.le_refl _) (by lia)) rfl (by lia) k2 k3))
 show R ρ (mirror (arrOf st) lo (lo + n) _) i<=R ρ (mirror (arrOf st) lo (lo + n) _) j
 rw [R_mirror hz,R_mirror hz,if_pos (by lia),if_pos (by lia)]
 exact hd _ _ (by lia) (by lia) (by lia)
theorem dnL_ {st:SortSt} {lo n m:Nat} {Q:St2->SortSt->Prop} (T:Told prog w A s κ ρ a₀) (hB:Bs κ a₀ st) (hm:lo + m<=a₀.size) (h1:1<=n) (hn:n<=m) (hd:Dn ρ (arrOf st) lo (lo + n))
  (h:∀ k q st',Bs κ a₀ st'->Stays (arrOf st) (arrOf st') lo (lo + m)->pendingOf st'=pendingOf st->n<=k->k<=m->Dn ρ (arrOf st') lo (lo + k)->q + 1<=k ->
   (∀ i,lo + k - (q + 1)<=i->i < lo + k->R ρ (arrOf st') i=R ρ (arrOf st') (lo + k - 1))->Q (none,k,q) st'):wpS (model prog w) A E s (dnL lo n m) Q st:=by
 unfold dnL
 refine wpS_forRange (I:=fun x c st'=>∃ q,c=(none,x,q)/\Bs κ a₀ st'/\Stays (arrOf st) (arrOf st') lo (lo + m)/\pendingOf st'=pendingOf st/\Dn ρ (arrOf st') lo (lo + x)/\q + 1<=x /\
   (∀ i,lo + x - (q + 1)<=i->i < lo + x->R ρ (arrOf st') i=R ρ (arrOf st') (lo + x - 1))) ?_ ?_ ⟨0,rfl,hB,Stays.refl _ _ _,rfl,hd,h1,fun i q1 q2=>by congr 1;lia⟩
 ·rintro x c st' hx1 hx2 ⟨q,rfl,hB',hst,hpe,hs,hq,he⟩
  dsimp only
  have hz:lo + x<=(arrOf st').size:=by rw [hB'.size];lia
  refine wpS_bind (ltAt_ T hB' (by lia) (by lia) ?_)
  have more:∀ xs:Array Keyed,(∀ k,R ρ xs k=R ρ (arrOf st') k)->R ρ (arrOf st') (lo + x)<=R ρ (arrOf st') (lo + x - 1)->Dn ρ xs lo (lo + (x + 1)):=by
   intro xs hk hl i j q1 q2 q3
   rw [hk,hk]
   by_cases c:j < lo + x
   ·exact hs i j q1 q2 c
   ·obtain rfl:j=lo + x:=by lia
    by_cases c2:i=lo + x
    ·rw [c2];exact Int.le_refl _
    ·have:=hs i (lo + x - 1) q1 (by lia) (by lia)
     lia
  by_cases hl:R ρ (arrOf st') (lo + x) < R ρ (arrOf st') (lo + x - 1)
  ·rw [decide_eq_true hl]
   by_cases hq0:q > 0
   ·simp only [if_true]
    rw [if_pos hq0]
    refine wpS_bind (rev_ (wpS_pure ⟨0,rfl,hB'.put (mirror_perm _ _ _ _),hst.trans (Stays.mirror hz (by lia) (by lia)),hpe,more _ (R_mirror_same hz he) (Int.le_of_lt hl),by lia,fun i q1 q2=>by congr 1;lia⟩))
   ·simp only [if_true]
    rw [if_neg hq0]
    exact wpS_pure ⟨0,rfl,hB',hst,hpe,more _ (fun _=>rfl) (Int.le_of_lt hl),by lia,fun i q1 q2=>by congr 1;lia⟩
  ·rw [decide_eq_false hl]
   simp only [Bool.false_eq_true,if_false]
   refine wpS_bind (ltAt_ T hB' (by lia) (by lia) ?_)
   by_cases hg:R ρ (arrOf st') (lo + x - 1) < R ρ (arrOf st') (lo + x)
   ·rw [decide_eq_true hg]
    exact wpS_pure (h x q st' hB' hst hpe hx1 (by lia) hs hq he)
   ·rw [decide_eq_false hg]
    have ee:R ρ (arrOf st') (lo + x)=R ρ (arrOf st') (lo + x - 1):=by lia
    refine wpS_pure ⟨q + 1,rfl,hB',hst,hpe,more _ (fun _=>rfl) (by lia),by lia,fun i q1 q2=>?_⟩
    rw [show lo + (x + 1) - 1=lo + x by lia]
    by_cases c:i=lo + x
    ·rw [c]
    ·rw [ee];exact he i (by lia) (by lia)
 ·rintro c st' ⟨q,rfl,hB',hst,hpe,hs,hq,he⟩
  rw [Nat.max_eq_right hn] at hs hq he ⊢
  exact h m q st' hB' hst hpe hn (Nat.le_refl _) hs hq he
theorem fallL_ {st:SortSt} {lo n m:Nat} {Q:Option Nat->SortSt->Prop} (T:Told prog w A s κ ρ a₀) (hB:Bs κ a₀ st) (hm:lo + m<=a₀.size) (hn:n + 1<=m) (hd:Dn ρ (arrOf st) lo (lo + (n + 1)))
  (h:∀ k st',Bs κ a₀ st'->Stays (arrOf st) (arrOf st') lo (lo + m)->pendingOf st'=pendingOf st->1<=k->k<=m->Up ρ (arrOf st') lo (lo + k)->Q (some k) st'):wpS (model prog w) A E s (fallL lo n m) Q st:=by
 unfold fallL
 refine wpS_bind (wpS_lift (wpAny_rule ⟨rfl,?_⟩))
 refine wpS_bind (dnL_ T hB hm (by lia) hn hd fun k q st' hB' hst hpe k1 k2 hs hq he=>?_)
 dsimp only
 have hz:lo + k<=(arrOf st').size:=by rw [hB'.size];lia
 by_cases hq0:q > 0
 ·rw [if_pos hq0]
  refine wpS_bind (rev_ (endL_ T (hB'.put (mirror_perm _ _ _ _)) hm (by lia) k2 (fun i j q1 q2 q3=>?_) fun k' st'' b1 b2 b3=>h k' st'' b1 ((hst.trans (Stays.mirror hz (by lia) (by lia))).trans b2) (b3.trans hpe)))
  show R ρ (mirror (arrOf st') _ _ _) j<=R ρ (mirror (arrOf st') _ _ _) i
  rw [R_mirror_same hz he,R_mirror_same hz he]
  exact hs i j q1 q2 q3
 ·rw [if_neg hq0]
  exact endL_ T hB' hm (by lia) k2 hs fun k' st'' b1 b2 b3=>h k' st'' b1 (hst.trans b2) (b3.trans hpe)
theorem run_ {st:SortSt} {lo m:Nat} {Q:Option Nat->SortSt->Prop} (T:Told prog w A s κ ρ a₀) (hB:Bs κ a₀ st) (hm:lo + m<=a₀.size) (h1:1<=m)
  (h:∀ k st',Bs κ a₀ st'->Stays (arrOf st) (arrOf st') lo (lo + m)->pendingOf st'=pendingOf st->1<=k->k<=m->Up ρ (arrOf st') lo (lo + k)->Q (some k) st'):wpS (model prog w) A E s (countRun' lo m) Q st:=by
 rw [run_eq]
 unfold runL
 refine wpS_bind (upL_ T hB hm (Nat.le_refl 1) h1 (fun i j q1 q2 q3=>by rw [show i=j by lia];exact Int.le_refl _) fun n n1 n2 hu hor=>?_)
 dsimp only
 by_cases c:n=m
 ·rw [if_pos (by simpa using c)]
  exact wpS_pure (h n st hB (Stays.refl _ _ _) rfl n1 n2 hu)
 ·rw [if_neg (by simpa using c)]
  have hl:=hor.resolve_left c
  by_cases c1:n > 1
  ·rw [if_pos c1]
   refine wpS_bind (ltAt_ T hB (by lia) (by lia) ?_)
   by_cases hr:R ρ (arrOf st) lo < R ρ (arrOf st) (lo + n - 1)
   ·rw [decide_eq_true hr]
    exact wpS_pure (h n st hB (Stays.refl _ _ _) rfl n1 n2 hu)
   ·rw [decide_eq_false hr]
    have hz:lo + n<=(arrOf st).size:=by rw [hB.size];lia
    have all:∀ k,lo<=k->k < lo + n->R ρ (arrOf st) k=R ρ (arrOf st) (lo + n - 1):=by
     intro k k1 k2
     have a1:=hu lo k (Nat.le_refl _) k1 k2
     have a2:=hu k (lo + n - 1) k1 (by lia) (by lia)
     lia
    simp only [Bool.false_eq_true,if_false]
    refine wpS_bind (rev_ (fallL_ T (hB.put (mirror_perm _ _ _ _)) hm (by lia) (fun i j q1 q2 q3=>?_) fun k st' b1 b2=>h k st' b1 ((Stays.mirror hz (Nat.le_refl _) (by lia)).trans b2)))
    show R ρ (mirror (arrOf st) _ _ _) j<=R ρ (mirror (arrOf st) _ _ _) i
    rw [R_mirror_same hz all,R_mirror_same hz all]
    by_cases cj:j < lo + n
    ·rw [all i (by lia) (by lia),all j (by lia) cj];exact Int.le_refl _
    ·obtain rfl:j=lo + n:=by lia
     by_cases ci:i=lo + n
     ·rw [ci];exact Int.le_refl _
     ·rw [all i q1 (by lia)];exact Int.le_of_lt hl
  ·rw [if_neg c1]
   obtain rfl:n=1:=by lia
   refine fallL_ T hB hm (by lia) (fun i j q1 q2 q3=>?_) h
   by_cases ci:i=j
   ·rw [ci];exact Int.le_refl _
   ·obtain rfl:i=lo:=by lia
    obtain rfl:j=i + 1:=by lia
    exact Int.le_of_lt hl
theorem ins_ {st:SortSt} {lo n ok:Nat} {Q:Bool->SortSt->Prop} (T:Told prog w A s κ ρ a₀) (hB:Bs κ a₀ st) (hn:lo + n<=a₀.size) (hok:ok<=n) (hu:Up ρ (arrOf st) lo (lo + ok))
  (h:∀ st',Bs κ a₀ st'->Stays (arrOf st) (arrOf st') lo (lo + n)->pendingOf st'=pendingOf st->Up ρ (arrOf st') lo (lo + n)->Q true st'):wpS (model prog w) A E s (binarySort' lo n ok) Q st:=by
 rw [binarySort'_eq]
 refine wpS_bind (wpS_mono (wpS_forRange (I:=fun k c st'=>c=(none,())/\Bs κ a₀ st'/\Stays (arrOf st) (arrOf st') lo (lo + n)/\pendingOf st'=pendingOf st/\Up ρ (arrOf st') lo (lo + min k n))
  (Q:=fun c st'=>c=(none,())/\Bs κ a₀ st'/\Stays (arrOf st) (arrOf st') lo (lo + n)/\pendingOf st'=pendingOf st/\Up ρ (arrOf st') lo (lo + n)) ?_ ?_ ?_) ?_)
 ·rintro k c st' k1 k2 ⟨rfl,hB',hst,hpe,hs⟩
  rw [Nat.min_eq_left (by lia)] at hs
  refine wpS_bind (wpS_mono (wpS_forRange (I:=fun x c st''=>st''=st'/\∃ l r,c=(none,l,r)/\l<=r/\r<=k/\r - l<=k - x /\
    (∀ i,i < l->R ρ (arrOf st') (lo + i)<=R ρ (arrOf st') (lo + k))/\(∀ i,r<=i->i < k->R ρ (arrOf st') (lo + k) < R ρ (arrOf st') (lo + i)))
   (Q:=fun c st''=>st''=st'/\∃ l r,c=(none,l,r)/\l<=k /\
    (∀ i,i < l->R ρ (arrOf st') (lo + i)<=R ρ (arrOf st') (lo + k))/\(∀ i,l<=i->i < k->R ρ (arrOf st') (lo + k) < R ρ (arrOf st') (lo + i))) ?_ ?_ ?_) ?_)
  ·rintro x c st'' _ hx ⟨rfl,l,r,rfl,hlr,hrk,hm,h1,h2⟩
   dsimp only
   by_cases hge:l ≥ r
   ·rw [if_pos hge]
    obtain rfl:l=r:=by lia
    exact wpS_pure ⟨rfl,l,l,rfl,hrk,h1,h2⟩
   ·rw [if_neg hge]
    refine wpS_bind (ltAt_ T hB' (by lia) (by lia) ?_)
    by_cases hl:R ρ (arrOf st'') (lo + k) < R ρ (arrOf st'') (lo + (l + r) / 2)
    ·rw [decide_eq_true hl]
     refine wpS_pure ⟨rfl,l,(l + r) / 2,rfl,by lia,by lia,by lia,h1,fun i q1 q2=>?_⟩
     exact Int.lt_of_lt_of_le hl (hs _ _ (by lia) (by lia) (by lia))
    ·rw [decide_eq_false hl]
     refine wpS_pure ⟨rfl,(l + r) / 2 + 1,r,rfl,by lia,by lia,by lia,fun i q1=>?_,h2⟩
     exact Int.le_trans (hs (lo + i) (lo + (l + r) / 2) (by lia) (by lia) (by lia)) (Int.not_lt.mp hl)
  ·rintro c st'' ⟨rfl,l,r,rfl,hlr,hrk,hm,h1,h2⟩
   obtain rfl:l=r:=by lia
   exact ⟨rfl,l,l,rfl,hrk,h1,h2⟩
  ·exact ⟨rfl,0,k,rfl,by lia,by lia,by lia,fun i hi=>by lia,fun i q1 q2=>by lia⟩
  ·rintro c st'' ⟨rfl,l,r,rfl,hlk,h1,h2⟩
   have hz:lo + k < (arrOf st'').size:=by rw [hB'.size];lia
   dsimp only
   rw [moveDown'_eq]
   refine wpS_bind (wpS_modify (wpS_pure ⟨rfl,hB'.put (bubble_perm _ _ _),hst.trans (Stays.bubble hz (by lia) (by lia) (by lia)),hpe,fun i j q1 q2 q3=>?_⟩))
   rw [Nat.min_eq_left (show k + 1<=n by lia)] at q3
   show R ρ (bubble (arrOf st'') (lo + k) (lo + k - (lo + l))) i<=R ρ (bubble (arrOf st'') (lo + k) (lo + k - (lo + l))) j
   rw [R_bubble hz (by lia),R_bubble hz (by lia),show lo + k - (lo + k - (lo + l))=lo + l by lia]
   have g1:∀ i,lo<=i->i < lo + l->R ρ (arrOf st'') i<=R ρ (arrOf st'') (lo + k):=fun i a b=>by
    have:=h1 (i - lo) (by lia)
    rwa [show lo + (i - lo)=i by lia] at this
   have g2:∀ i,lo + l<=i->i < lo + k->R ρ (arrOf st'') (lo + k) < R ρ (arrOf st'') i:=fun i a b=>by
    have:=h2 (i - lo) (by lia) (by lia)
    rwa [show lo + (i - lo)=i by lia] at this
   repeat' split
   all_goals first
    | (exfalso;lia)
    | exact Int.le_refl _
    | exact g1 _ (by lia) (by lia)
    | exact Int.le_of_lt (g2 _ (by lia) (by lia))
    | exact hs _ _ (by lia) (by lia) (by lia)
 ·rintro c st' ⟨hc,hB',hst,hpe,hs⟩
  refine ⟨hc,hB',hst,hpe,?_⟩
  rwa [show min (max (max ok 1) n) n=n by lia] at hs
 ·refine ⟨rfl,hB,Stays.refl _ _ _,rfl,fun i j q1 q2 q3=>?_⟩
  by_cases c:ok=0
  ·rw [show i=j by lia];exact Int.le_refl _
  ·exact hu i j q1 q2 (by lia)
 ·rintro c st' ⟨rfl,hB',hst,hpe,hs⟩
  exact wpS_pure (h st' hB' hst hpe hs)
end
def gallop':Bool->Keyed->Array Keyed->Nat->Nat->Nat->StateT SortSt Sem (Option Nat):=sortPriv% PySem.Builtin.gallop
section
variable {prog:Program} {w:World} {A:Around} {E:Value->Shared->Prop} {s:Shared} {κ:SortKind} {ρ:Keyed->Int} {a₀:Array Keyed}
def goes (ρ:Keyed->Int) (left:Bool) (key:Keyed) (arr:Array Keyed) (i:Nat):Bool:=if left then decide (R ρ arr i < ρ key) else !decide (ρ key < R ρ arr i)
def asks (left:Bool) (key:Keyed) (arr:Array Keyed) (base i:Nat):StateT SortSt Sem (Option Bool):=do
 let x ← elem' arr (base + i)
 if left=true then lt' x key else do
  let b ← lt' key x
  pure (Option.map (fun x=>!x) b)
def Among (a₀ arr:Array Keyed):Prop:=∀ i,i < arr.size->∃ x,arr[i]? = some x/\x∈a₀.toList
theorem asks_ {st:SortSt} {Q:Option Bool->SortSt->Prop} {left:Bool} {key:Keyed} {arr:Array Keyed} {base i:Nat} (T:Told prog w A s κ ρ a₀) (hk:kindOf st=κ) (hm:key∈a₀.toList) (ha:Among a₀ arr) (hi:base + i < arr.size)
  (h:Q (some (goes ρ left key arr (base + i))) st):wpS (model prog w) A E s (asks left key arr base i) Q st:=by
 obtain ⟨x,ex,mx⟩:=ha _ hi
 have er:R ρ arr (base + i)=ρ x:=by unfold R;rw [ex];rfl
 unfold goes at h
 rw [er] at h
 unfold asks
 refine wpS_bind (elem_ ex ?_)
 cases left with
 | true =>
  simp only [if_true] at h ⊢
  exact lt_ T hk mx hm h
 | false =>
  simp only [Bool.false_eq_true,if_false] at h ⊢
  exact wpS_bind (lt_ T hk hm mx (wpS_pure h))
theorem gallop_ {st:SortSt} {Q:Option Nat->SortSt->Prop} {left:Bool} {key:Keyed} {arr:Array Keyed} {base n hint:Nat} (T:Told prog w A s κ ρ a₀) (hk:kindOf st=κ) (hm:key∈a₀.toList) (ha:Among a₀ arr) (hz:base + n<=arr.size) (hh:hint < n)
  (mono:∀ i j,i<=j->j < n->goes ρ left key arr (base + j)=true->goes ρ left key arr (base + i)=true)
  (h:∀ k,k<=n->(∀ i,i < k->goes ρ left key arr (base + i)=true)->(∀ i,k<=i->i < n->goes ρ left key arr (base + i)=false)->Q (some k) st):wpS (model prog w) A E s (gallop' left key arr base n hint) Q st:=by
 have last:∀ (body:Nat->St2->StateT SortSt Sem (ForInStep St2)),(∀ x l r (R':ForInStep St2->SortSt->Prop),l ≥ r->R' (.done (none,l,r)) st->wpS (model prog w) A E s (body x (none,l,r)) R' st) ->
   (∀ x l r (R':ForInStep St2->SortSt->Prop),l < r->r<=n->R' (.yield (if goes ρ left key arr (base + (l + (r - l) / 2))=true then (none,l + (r - l) / 2 + 1,r) else (none,l,l + (r - l) / 2))) st->wpS (model prog w) A E s (body x (none,l,r)) R' st) ->
   ∀ lo hi,lo<=hi->hi<=n->(∀ i,i < lo->goes ρ left key arr (base + i)=true)->(∀ i,hi<=i->i < n->goes ρ left key arr (base + i)=false) ->
   ∀ (Q':St2->SortSt->Prop),(∀ k,k<=n->(∀ i,i < k->goes ρ left key arr (base + i)=true)->(∀ i,k<=i->i < n->goes ρ left key arr (base + i)=false)->Q' (none,k,k) st)->wpS (model prog w) A E s (forIn [:n] ((none,lo,hi):St2) body) Q' st:=by
  intro body hb1 hb2 lo hi h1 h2 h3 h4 Q' hQ
  refine wpS_forRange (I:=fun x c st'=>st'=st/\∃ l r,c=(none,l,r)/\l<=r/\r<=n/\r - l<=n - x/\(∀ i,i < l->goes ρ left key arr (base + i)=true)/\(∀ i,r<=i->i < n->goes ρ left key arr (base + i)=false)) ?_ ?_ ?_
  ·rintro x c st' _ hx ⟨rfl,l,r,rfl,q1,q2,q3,q4,q5⟩
   by_cases c1:l ≥ r
   ·obtain rfl:l=r:=by lia
    exact hb1 x l l _ c1 (hQ l q2 q4 q5)
   ·refine hb2 x l r _ (by lia) q2 ?_
    cases c2:goes ρ left key arr (base + (l + (r - l) / 2)) with
    | true =>
     refine ⟨rfl,_,_,rfl,by lia,q2,by lia,fun i hi=>?_,q5⟩
     exact mono i (l + (r - l) / 2) (by lia) (by lia) c2
    | false =>
     refine ⟨rfl,_,_,rfl,by lia,by lia,by lia,q4,fun i i1 i2=>?_⟩
     cases c3:goes ρ left key arr (base + i) with
     | false=>rfl
     | true=>rw [mono _ _ i1 i2 c3] at c2;exact absurd c2 (by decide)
  ·rintro c st' ⟨rfl,l,r,rfl,q1,q2,q3,q4,q5⟩
   obtain rfl:l=r:=by simp at q3;lia
   exact hQ l q2 q4 q5
  ·exact ⟨rfl,lo,hi,rfl,h1,h2,by lia,h3,h4⟩
 unfold gallop'
 refine wpS_bind (asks_ T hk hm ha (by lia) ?_)
 cases c:goes ρ left key arr (base + hint) with
 | true =>
  dsimp only
  rw [if_pos rfl]
  refine wpS_bind (wpS_mono (wpS_forRange (I:=fun x c st'=>st'=st/\∃ l o,c=(none,l,o)/\l < o/\x + 1<=o/\hint + l < n/\goes ρ left key arr (base + (hint + l))=true)
   (Q:=fun c st'=>st'=st/\∃ l o,c=(none,l,o)/\l < o/\hint + l < n/\goes ρ left key arr (base + (hint + l))=true/\(n - hint<=o\/goes ρ left key arr (base + (hint + o))=false)) ?_ ?_ ?_) ?_)
  ·rintro x c st' _ hx ⟨rfl,l,o,rfl,q1,q2,q3,q4⟩
   dsimp only
   by_cases c1:o ≥ n - hint
   ·rw [if_pos c1]
    exact wpS_pure ⟨rfl,l,o,rfl,q1,q3,q4,.inl c1⟩
   ·rw [if_neg c1]
    refine wpS_bind (asks_ T hk hm ha (by lia) ?_)
    cases c2:goes ρ left key arr (base + (hint + o)) with
    | true=>exact wpS_pure ⟨rfl,o,2 * o + 1,rfl,by lia,by lia,by lia,c2⟩
    | false=>exact wpS_pure ⟨rfl,l,o,rfl,q1,q3,q4,.inr c2⟩
  ·rintro c st' ⟨rfl,l,o,rfl,q1,q2,q3,q4⟩
   exact ⟨rfl,l,o,rfl,q1,q3,q4,.inl (by simp at q2;lia)⟩
  ·exact ⟨rfl,0,1,rfl,by lia,by lia,by lia,c⟩
  ·rintro c st' ⟨rfl,l,o,rfl,q1,q3,q4,q5⟩
   have f1:∀ i,i < hint + l + 1->goes ρ left key arr (base + i)=true:=fun i hi=>mono i (hint + l) (by lia) q3 q4
   have f2:∀ i,hint + min o (n - hint)<=i->i < n->goes ρ left key arr (base + i)=false:=fun i i1 i2=>by
    rcases q5 with q5 | q5
    ·lia
    ·cases c3:goes ρ left key arr (base + i) with
     | false=>rfl
     | true =>
      by_cases c4:n - hint<=o
      ·lia
      ·rw [mono (hint + o) i (by lia) i2 c3] at q5;exact absurd q5 (by decide)
   dsimp only
   refine wpS_bind (last _ (fun x l r R' c1 hR=>?_) (fun x l r R' c1 c2 hR=>?_) _ _ (by lia) (by lia) f1 f2 _ fun k k1 k2 k3=>wpS_pure (h k k1 k2 k3))
   ·dsimp only
    rw [if_pos c1]
    exact wpS_pure hR
   ·dsimp only
    rw [if_neg (by lia)]
    refine wpS_bind (asks_ T hk hm ha (by lia) ?_)
    cases c3:goes ρ left key arr (base + (l + (r - l) / 2)) with
    | true=>rw [c3] at hR;exact wpS_pure hR
    | false=>rw [c3] at hR;exact wpS_pure hR
 | false =>
  dsimp only
  rw [if_neg (by decide)]
  refine wpS_bind (wpS_mono (wpS_forRange (I:=fun x c st'=>st'=st/\∃ l o,c=(none,l,o)/\l < o/\x + 1<=o/\l<=hint/\goes ρ left key arr (base + (hint - l))=false)
   (Q:=fun c st'=>st'=st/\∃ l o,c=(none,l,o)/\l < o/\l<=hint/\goes ρ left key arr (base + (hint - l))=false/\(hint + 1<=o\/goes ρ left key arr (base + (hint - o))=true)) ?_ ?_ ?_) ?_)
  ·rintro x c st' _ hx ⟨rfl,l,o,rfl,q1,q2,q3,q4⟩
   dsimp only
   by_cases c1:o ≥ hint + 1
   ·rw [if_pos c1]
    exact wpS_pure ⟨rfl,l,o,rfl,q1,q3,q4,.inl c1⟩
   ·rw [if_neg c1]
    refine wpS_bind (asks_ T hk hm ha (by lia) ?_)
    cases c2:goes ρ left key arr (base + (hint - o)) with
    | true=>exact wpS_pure ⟨rfl,l,o,rfl,q1,q3,q4,.inr c2⟩
    | false=>exact wpS_pure ⟨rfl,o,2 * o + 1,rfl,by lia,by lia,by lia,c2⟩
  ·rintro c st' ⟨rfl,l,o,rfl,q1,q2,q3,q4⟩
   exact ⟨rfl,l,o,rfl,q1,q3,q4,.inl (by simp at q2;lia)⟩
  ·exact ⟨rfl,0,1,rfl,by lia,by lia,by lia,c⟩
  ·rintro c st' ⟨rfl,l,o,rfl,q1,q3,q4,q5⟩
   have f1:∀ i,i < hint + 1 - min o (hint + 1)->goes ρ left key arr (base + i)=true:=fun i hi=>by
    rcases q5 with q5 | q5
    ·lia
    ·exact mono i (hint - o) (by lia) (by lia) q5
   have f2:∀ i,hint - l<=i->i < n->goes ρ left key arr (base + i)=false:=fun i i1 i2=>by
    cases c3:goes ρ left key arr (base + i) with
    | false=>rfl
    | true=>rw [mono (hint - l) i i1 i2 c3] at q4;exact absurd q4 (by decide)
   dsimp only
   refine wpS_bind (last _ (fun x l r R' c1 hR=>?_) (fun x l r R' c1 c2 hR=>?_) _ _ (by lia) (by lia) f1 f2 _ fun k k1 k2 k3=>wpS_pure (h k k1 k2 k3))
   ·dsimp only
    rw [if_pos c1]
    exact wpS_pure hR
   ·dsimp only
    rw [if_neg (by lia)]
    refine wpS_bind (asks_ T hk hm ha (by lia) ?_)
    cases c3:goes ρ left key arr (base + (l + (r - l) / 2)) with
    | true=>rw [c3] at hR;exact wpS_pure hR
    | false=>rw [c3] at hR;exact wpS_pure hR
end
structure J (ρ:Keyed->Int) (a b out:Array Keyed) (ia ib:Nat):Prop where
 perm:out.toList.Perm (a.toList.take ia++b.toList.take ib)
 srt:out.toList.Pairwise fun x y=>ρ x<=ρ y
 ca:∀ x,x∈out.toList->∀ j,ia<=j->j < a.size->ρ x<=R ρ a j
 cb:∀ x,x∈out.toList->∀ j,ib<=j->j < b.size->ρ x<=R ρ b j
theorem J.swap {ρ:Keyed->Int} {a b out:Array Keyed} {ia ib:Nat} (h:J ρ a b out ia ib):J ρ b a out ib ia:=⟨h.perm.trans List.perm_append_comm,h.srt,h.cb,h.ca⟩
theorem mem_part {a:Array Keyed} {i k:Nat} {x:Keyed} (h:x∈(a.toList.drop i).take k):∃ j,i<=j/\j < i + k/\j < a.size/\a[j]? = some x:=by
 obtain ⟨n,hn⟩:=List.getElem?_of_mem h
 rw [List.getElem?_take] at hn
 by_cases c:n < k
 ·rw [if_pos c,List.getElem?_drop,Array.getElem?_toList] at hn
  exact ⟨i + n,by lia,by lia,(Array.getElem?_eq_some_iff.mp hn).1,hn⟩
 ·rw [if_neg c] at hn;cases hn
theorem R_some {ρ:Keyed->Int} {a:Array Keyed} {j:Nat} {x:Keyed} (h:a[j]? = some x):R ρ a j=ρ x:=by unfold R;rw [h];rfl
theorem J.more {ρ:Keyed->Int} {a b out out':Array Keyed} {ia ib k:Nat} (h:J ρ a b out ia ib) (ua:Up ρ a 0 a.size) (hk:ia + k<=a.size) (ho:out'.toList=out.toList++(a.toList.drop ia).take k)
  (hc:∀ i j,ia<=i->i < ia + k->ib<=j->j < b.size->R ρ a i<=R ρ b j):J ρ a b out' (ia + k) ib:=by
 have e:a.toList.take (ia + k)=a.toList.take ia++(a.toList.drop ia).take k:=List.take_add
 refine ⟨?_,?_,fun x hx j j1 j2=>?_,fun x hx j j1 j2=>?_⟩
 ·rw [ho,e]
  refine (h.perm.append_right _).trans ?_
  rw [List.append_assoc,List.append_assoc]
  exact List.Perm.append_left _ List.perm_append_comm
 ·rw [ho]
  refine List.pairwise_append.mpr ⟨h.srt,?_,fun x hx y hy=>?_⟩
  ·rw [List.pairwise_iff_getElem]
   intro i j hi hj hij
   have hi':((a.toList.drop ia).take k)[i]? = some ((a.toList.drop ia).take k)[i]:=List.getElem?_eq_getElem hi
   have hj':((a.toList.drop ia).take k)[j]? = some ((a.toList.drop ia).take k)[j]:=List.getElem?_eq_getElem hj
   have l1:i < k:=by simp at hi;lia
   have l2:j < k:=by simp at hj;lia
   rw [List.getElem?_take,if_pos l1,List.getElem?_drop,Array.getElem?_toList] at hi'
   rw [List.getElem?_take,if_pos l2,List.getElem?_drop,Array.getElem?_toList] at hj'
   rw [← R_some (ρ:=ρ) hi',← R_some (ρ:=ρ) hj']
   exact ua _ _ (Nat.zero_le _) (by lia) (by lia)
  ·obtain ⟨j,j1,j2,j3,ej⟩:=mem_part hy
   rw [← R_some (ρ:=ρ) ej]
   exact h.ca x hx j j1 j3
 ·rw [ho] at hx
  rcases List.mem_append.mp hx with hx | hx
  ·exact h.ca x hx j (by lia) j2
  ·obtain ⟨i,i1,i2,i3,ei⟩:=mem_part hx
   rw [← R_some (ρ:=ρ) ei]
   exact ua _ _ (Nat.zero_le _) (by lia) j2
 ·rw [ho] at hx
  rcases List.mem_append.mp hx with hx | hx
  ·exact h.cb x hx j j1 j2
  ·obtain ⟨i,i1,i2,i3,ei⟩:=mem_part hx
   rw [← R_some (ρ:=ρ) ei]
   exact hc i j i1 i2 j1 j2
theorem part_toList (a:Array Keyed) (i j:Nat):(a.extract i j).toList=(a.toList.drop i).take (j - i):=by
 rw [Array.toList_extract,List.extract_eq_take_drop]
theorem one_part {a:Array Keyed} {i:Nat} {x:Keyed} (h:a[i]? = some x):(a.toList.drop i).take 1=[x]:=by
 obtain ⟨hi,e⟩:=Array.getElem?_eq_some_iff.mp h
 rw [List.drop_eq_getElem_cons (by simpa using hi)]
 simp [e]
theorem J.push {ρ:Keyed->Int} {a b out:Array Keyed} {ia ib:Nat} {x:Keyed} (h:J ρ a b out ia ib) (ua:Up ρ a 0 a.size) (hx:a[ia]? = some x) (hc:∀ j,ib<=j->j < b.size->ρ x<=R ρ b j):J ρ a b (out.push x) (ia + 1) ib:=by
 have hi:=(Array.getElem?_eq_some_iff.mp hx).1
 refine h.more ua hi (by rw [one_part hx,Array.toList_push]) fun i j i1 i2 j1 j2=>?_
 obtain rfl:i=ia:=by lia
 rw [R_some hx]
 exact hc j j1 j2
theorem J.run {ρ:Keyed->Int} {a b out:Array Keyed} {ia ib k:Nat} (h:J ρ a b out ia ib) (ua:Up ρ a 0 a.size) (hk:ia + k<=a.size) (hc:∀ i j,ia<=i->i < ia + k->ib<=j->j < b.size->R ρ a i<=R ρ b j):J ρ a b (out++a.extract ia (ia + k)) (ia + k) ib :=
 h.more ua hk (by rw [Array.toList_append,part_toList];congr 2;lia) hc
def Both (ρ:Keyed->Int) (a b out:Array Keyed):Prop:=out.toList.Perm (a.toList++b.toList)/\out.toList.Pairwise fun x y=>ρ x<=ρ y
theorem J.all {ρ:Keyed->Int} {a b out:Array Keyed} {ia ib:Nat} (h:J ρ a b out ia ib) (ha:a.size<=ia) (hb:b.size<=ib):Both ρ a b out:=by
 refine ⟨?_,h.srt⟩
 have p:=h.perm
 rw [List.take_of_length_le (by simpa using ha),List.take_of_length_le (by simpa using hb)] at p
 exact p
theorem J.doneA {ρ:Keyed->Int} {a b out:Array Keyed} {ia ib:Nat} (h:J ρ a b out ia ib) (ub:Up ρ b 0 b.size) (ha:ia=a.size) (hb:ib<=b.size):Both ρ a b (out++a.extract ia a.size++b.extract ib b.size):=by
 have e:out++a.extract ia a.size=out:=by rw [ha];simp
 rw [e]
 have k:=(h.swap.run (k:=b.size - ib) ub (by lia) fun i j i1 i2 j1 j2=>by lia).swap
 rw [show ib + (b.size - ib)=b.size by lia] at k
 exact k.all (by lia) (Nat.le_refl _)
theorem J.doneB {ρ:Keyed->Int} {a b out:Array Keyed} {ia ib:Nat} (h:J ρ a b out ia ib) (ua:Up ρ a 0 a.size) (hb:ib=b.size) (ha:ia<=a.size):Both ρ a b (out++a.extract ia a.size++b.extract ib b.size):=by
 have k:=h.run (k:=a.size - ia) ua (by lia) fun i j i1 i2 j1 j2=>by lia
 rw [show ia + (a.size - ia)=a.size by lia] at k
 have e:out++a.extract ia a.size++b.extract ib b.size=out++a.extract ia a.size:=by rw [hb];simp
 rw [e]
 exact k.all (Nat.le_refl _) (by lia)
theorem J.last {ρ:Keyed->Int} {a b out:Array Keyed} {ia ib:Nat} (h:J ρ a b out ia ib) (ua:Up ρ a 0 a.size) (ub:Up ρ b 0 b.size) (ha:ia + 1=a.size) (hb:ib<=b.size) (hl:∀ j,j < b.size->R ρ b j<=R ρ a (a.size - 1)) :
  Both ρ a b (out++b.extract ib b.size++a.extract ia a.size):=by
 have k:=(h.swap.run (k:=b.size - ib) ub (by lia) fun i j i1 i2 j1 j2=>by
  rw [show j=a.size - 1 by lia]
  exact hl i (by lia)).swap
 rw [show ib + (b.size - ib)=b.size by lia] at k
 have k2:=k.run (k:=a.size - ia) ua (by lia) fun i j i1 i2 j1 j2=>by lia
 rw [show ia + (a.size - ia)=a.size by lia] at k2
 exact k2.all (Nat.le_refl _) (Nat.le_refl _)
def mergeLo':Array Keyed->Array Keyed->StateT SortSt Sem (Array Keyed):=sortPriv% PySem.Builtin.mergeLo
def setMinGallop':Nat->StateT SortSt Sem Unit:=sortPriv% PySem.Builtin.setMinGallop
abbrev setG (st:SortSt) (g:Nat):SortSt:=SortSt.mk' (kindOf st) (arrOf st) (pendingOf st) g (failedOf st)
section
variable {prog:Program} {w:World} {A:Around} {E:Value->Shared->Prop} {s:Shared} {κ:SortKind} {ρ:Keyed->Int} {a₀:Array Keyed}
theorem setG_ {st:SortSt} {g:Nat} {Q:Unit->SortSt->Prop} (h:Q () (setG st g)):wpS (model prog w) A E s (setMinGallop' g) Q st:=wpS_modify h
theorem Among.get {a:Array Keyed} (m:Among a₀ a) {i:Nat} (hi:i < a.size):∃ x,a[i]? = some x/\x∈a₀.toList/\R ρ a i=ρ x:=by
 obtain ⟨x,ex,mx⟩:=m i hi
 exact ⟨x,ex,mx,R_some ex⟩
structure Way (ρ:Keyed->Int) (a b out:Array Keyed) (ia ib n:Nat):Prop where
 j:J ρ a b out ia ib
 ha:ia + 1 < a.size
 hb:ib < b.size
 hn:n<=ia + ib
def Step (ρ:Keyed->Int) (a b:Array Keyed) (st:SortSt) (n:Nat):ForInStep (Option (Array Keyed)×Array Keyed×Nat×Nat×Nat×Nat×Nat)->SortSt->Prop
 | .done c,st'=>∃ g,st'=setG st g/\((∃ r z,c=(some r,z)/\Both ρ a b r)\/∃ out ia ib mg ac bc,c=(none,out,ia,ib,mg,ac,bc)/\Way ρ a b out ia ib n)
 | .yield c,st'=>∃ g out ia ib mg ac bc,st'=setG st g/\c=(none,out,ia,ib,mg,ac,bc)/\Way ρ a b out ia ib n
theorem goes_mono {left:Bool} {key:Keyed} {arr:Array Keyed} {base n:Nat} (u:Up ρ arr base (base + n)):∀ i j,i<=j->j < n->goes ρ left key arr (base + j)=true->goes ρ left key arr (base + i)=true:=by
 intro i j hij hj h
 have:=u (base + i) (base + j) (by lia) (by lia) (by lia)
 unfold goes at h ⊢
 cases left with
 | true=>simp only [if_true,decide_eq_true_eq] at h ⊢;lia
 | false=>simp only [Bool.false_eq_true,if_false,Bool.not_eq_true',decide_eq_false_iff_not] at h ⊢;lia
theorem goesT {key:Keyed} {arr:Array Keyed} {i:Nat}:goes ρ true key arr i=decide (R ρ arr i < ρ key):=rfl
theorem goesF {key:Keyed} {arr:Array Keyed} {i:Nat}:goes ρ false key arr i=!decide (ρ key < R ρ arr i):=rfl
theorem Up.part {xs:Array Keyed} {lo hi lo' hi':Nat} (h:Up ρ xs lo hi) (h1:lo<=lo') (h2:hi'<=hi):Up ρ xs lo' hi':=fun i j q1 q2 q3=>h i j (by lia) q2 (by lia)
theorem mergeLo_ {st:SortSt} {Q:Array Keyed->SortSt->Prop} {a b:Array Keyed} (T:Told prog w A s κ ρ a₀) (hk:kindOf st=κ) (ua:Up ρ a 0 a.size) (ub:Up ρ b 0 b.size) (ma:Among a₀ a) (mb:Among a₀ b) (za:0 < a.size) (zb:0 < b.size)
  (hf:R ρ b 0<=R ρ a 0) (hl:∀ j,j < b.size->R ρ b j<=R ρ a (a.size - 1)) (h:∀ out g,Both ρ a b out->Q out (setG st g)):wpS (model prog w) A E s (mergeLo' a b) Q st:=by
 obtain ⟨b0,eb0,mb0,rb0⟩:=mb.get (ρ:=ρ) zb
 have j0:J ρ a b #[] 0 0:=⟨by simp,by simp,by simp,by simp⟩
 have j1:J ρ a b #[b0] 0 1:=(j0.swap.push ub eb0 fun j _ hj=>by
  have:=ua 0 j (Nat.le_refl _) (Nat.zero_le _) hj
  lia).swap
 clear hf rb0
 have hQ:∀ out,Both ρ a b out->Q out st:=fun out q=>h out (gallopOf st) q
 unfold mergeLo'
 refine wpS_bind (wpS_lift (wpAny_rule ⟨rfl,?_⟩))
 refine wpS_bind (elem_ eb0 ?_)
 by_cases c1:(1 == b.size)=true
 ·show wpS _ _ _ _ (if (1 == b.size)=true then _ else _) _ _
  rw [if_pos c1]
  exact wpS_pure (hQ _ (j1.doneB ua (by simpa using c1) (Nat.zero_le _)))
 ·have e1:¬ 1=b.size:=by simpa using c1
  show wpS _ _ _ _ (if (1 == b.size)=true then _ else _) _ _
  rw [if_neg c1]
  by_cases c2:(0 + 1 == a.size)=true
  ·show wpS _ _ _ _ (if (0 + 1 == a.size)=true then _ else _) _ _
   rw [if_pos c2]
   exact wpS_pure (hQ _ (j1.last ua ub (by simpa using c2) (by lia) hl))
  ·have e2:¬ 0 + 1=a.size:=by simpa using c2
   show wpS _ _ _ _ (if (0 + 1 == a.size)=true then _ else _) _ _
   rw [if_neg c2]
   refine wpS_bind (wpS_get ?_)
   refine wpS_bind (wpS_mono (wpS_forRange (I:=fun x c st'=>∃ g out ia ib mg,st'=setG st g/\c=(none,out,ia,ib,mg)/\Way ρ a b out ia ib (x + 1))
    (Q:=fun c st'=>∃ g r z,st'=setG st g/\c=(some r,z)/\Both ρ a b r) ?_ ?_ ?_) ?_)
   ·rintro x c st' _ hx ⟨g,out,ia,ib,mg,rfl,rfl,W⟩
    refine wpS_bind (wpS_mono (wpS_forRange (I:=fun y c st'=>st'=setG st g/\∃ out ia ib ac bc,c=(none,out,ia,ib,ac,bc)/\Way ρ a b out ia ib (x + 1 + y))
     (Q:=fun c st'=>st'=setG st g/\((∃ r z,c=(some r,z)/\Both ρ a b r)\/∃ out ia ib ac bc,c=(none,out,ia,ib,ac,bc)/\Way ρ a b out ia ib (x + 1 + 1))) ?_ ?_ ?_) ?_)
    ·rintro y c st' _ hy ⟨rfl,out,ia,ib,ac,bc,rfl,W⟩
     obtain ⟨ya,ea,mya,ra⟩:=ma.get (ρ:=ρ) (show ia < a.size by have:=W.ha;lia)
     obtain ⟨yb,eb,myb,rb⟩:=mb.get (ρ:=ρ) W.hb
     refine wpS_bind (elem_ eb (wpS_bind (elem_ ea (wpS_bind (lt_ T hk myb mya ?_)))))
     have wa:=W.ha
     have wb:=W.hb
     have wn:=W.hn
     by_cases c3:ρ yb < ρ ya
     ·rw [decide_eq_true c3]
      dsimp only
      rw [if_pos rfl]
      refine wpS_bind (elem_ eb ?_)
      have jj:J ρ a b (out.push yb) ia (ib + 1):=(W.j.swap.push ub eb fun j j1 j2=>by
       have:=ua ia j (Nat.zero_le _) j1 j2
       lia).swap
      clear ra rb c3
      by_cases c4:(ib + 1 == b.size)=true
      ·rw [if_pos c4]
       exact wpS_pure ⟨rfl,.inl ⟨_,_,rfl,jj.doneB ua (by simpa using c4) (by lia)⟩⟩
      ·rw [if_neg c4]
       have e4:¬ ib + 1=b.size:=by simpa using c4
       split
       ·exact wpS_pure ⟨rfl,.inr ⟨_,_,_,_,_,rfl,jj,wa,by lia,by lia⟩⟩
       ·exact wpS_pure ⟨rfl,_,_,_,_,_,rfl,jj,wa,by lia,by lia⟩
     ·rw [decide_eq_false c3]
      dsimp only
      rw [if_neg (by decide)]
      refine wpS_bind (elem_ ea ?_)
      have jj:J ρ a b (out.push ya) (ia + 1) ib:=W.j.push ua ea fun j j1 j2=>by
       have:=ub ib j (Nat.zero_le _) j1 j2
       lia
      clear ra rb c3
      by_cases c4:(ia + 1 + 1 == a.size)=true
      ·rw [if_pos c4]
       exact wpS_pure ⟨rfl,.inl ⟨_,_,rfl,jj.last ua ub (by simpa using c4) (by lia) hl⟩⟩
      ·rw [if_neg c4]
       have e4:¬ ia + 1 + 1=a.size:=by simpa using c4
       split
       ·exact wpS_pure ⟨rfl,.inr ⟨_,_,_,_,_,rfl,jj,by lia,wb,by lia⟩⟩
       ·exact wpS_pure ⟨rfl,_,_,_,_,_,rfl,jj,by lia,wb,by lia⟩
    ·rintro c st' ⟨rfl,out,ia,ib,ac,bc,rfl,W⟩
     refine ⟨rfl,.inr ⟨_,_,_,_,_,rfl,W.j,W.ha,W.hb,?_⟩⟩
     have:=W.hn
     simp at this
     lia
    ·exact ⟨rfl,_,_,_,_,_,rfl,W⟩
    ·rintro c st' ⟨rfl,⟨r,z,rfl,hr⟩ | ⟨out,ia,ib,ac,bc,rfl,W⟩⟩
     ·exact wpS_pure ⟨g,r,_,rfl,rfl,hr⟩
     ·refine wpS_bind (wpS_lift (wpAny_rule ⟨rfl,?_⟩))
      refine wpS_bind (wpS_mono (wpS_forRange (I:=fun y c st'=>∃ g out ia ib mg ac bc,st'=setG st g/\c=(none,out,ia,ib,mg,ac,bc)/\Way ρ a b out ia ib (x + 1 + 1))
       (Q:=fun c st'=>∃ g,st'=setG st g/\((∃ r z,c=(some r,z)/\Both ρ a b r)\/∃ out ia ib mg ac bc,c=(none,out,ia,ib,mg,ac,bc)/\Way ρ a b out ia ib (x + 1 + 1))) ?_ ?_ ?_) ?_)
      ·rintro y c st' _ hy ⟨g,out,ia,ib,mg,ac,bc,rfl,rfl,W⟩
       refine wpS_mono (Q:=Step ρ a b st (x + 1 + 1)) ?_ fun r st' hr=>by cases r <;> exact hr
       extract_lets -merge -underBinder _ _ _ _ _ _ _ _ _ _ _ jp
       have wa:=W.ha
       have wb:=W.hb
       have wn:=W.hn
       obtain ⟨yb,eb,myb,rb⟩:=mb.get (ρ:=ρ) wb
       have hj:∀ m g,wpS (model prog w) A E s (jp () m) (Step ρ a b st (x + 1 + 1)) (setG st g):=by
        intro m g
        refine wpS_bind (setG_ (wpS_bind (elem_ eb (wpS_bind (gallop_ (key:=yb) (arr:=a) (base:=ia) (n:=a.size - ia) (hint:=0) T hk myb ma (by lia) (by lia) (goes_mono (ua.part (Nat.zero_le _) (by lia))) fun k k1 k2 k3=>?_)))))
        try dsimp -zeta only
        extract_lets -merge -underBinder ac' jp2
        have jk:J ρ a b (out++a.extract ia (ia + k)) (ia + k) ib:=W.j.run ua (by lia) fun i j i1 i2 j1 j2=>by
         have g1:=k2 (i - ia) (by lia)
         rw [show ia + (i - ia)=i by lia,goesF] at g1
         have g2:=ub ib j (Nat.zero_le _) j1 j2
         simp at g1
         lia
        have beh:∀ j,ia + k<=j->j < a.size->ρ yb<=R ρ a j:=fun j j1 j2=>by
         have g1:=k3 (j - ia) (by lia) (by lia)
         rw [show ia + (j - ia)=j by lia,goesF] at g1
         simp at g1
         lia
        clear rb
        have hj2:∀ out' ia',J ρ a b out' ia' ib->ia'=ia + k->ia' + 1 < a.size->wpS (model prog w) A E s (jp2 () out' ia') (Step ρ a b st (x + 1 + 1)) (setG st m):=by
         intro out' ia' jk hi ha'
         refine wpS_bind (elem_ eb ?_)
         have jj:J ρ a b (out'.push yb) ia' (ib + 1):=(jk.swap.push ub eb fun j j1 j2=>beh j (by lia) j2).swap
         try dsimp -zeta only
         extract_lets -merge -underBinder o2 ib2
         by_cases c4:(ib + 1 == b.size)=true
         ·show wpS _ _ _ _ (if (ib + 1 == b.size)=true then _ else _) _ _
          rw [if_pos c4]
          exact wpS_pure ⟨_,rfl,.inl ⟨_,_,rfl,jj.doneB ua (by simpa using c4) (by lia)⟩⟩
         ·have e4:¬ ib + 1=b.size:=by simpa using c4
          show wpS _ _ _ _ (if (ib + 1 == b.size)=true then _ else _) _ _
          rw [if_neg c4]
          obtain ⟨ya,ea,mya,ra⟩:=ma.get (ρ:=ρ) (show ia' < a.size by lia)
          refine wpS_bind (elem_ ea (wpS_bind (gallop_ (key:=ya) (arr:=b) (base:=ib + 1) (n:=b.size - (ib + 1)) (hint:=0) T hk mya mb (by lia) (by lia) (goes_mono (ub.part (Nat.zero_le _) (by lia))) fun k' k1 k2 k3=>?_)))
          try dsimp -zeta only
          extract_lets -merge -underBinder bc' jp3
          have jk':J ρ a b (out'.push yb++b.extract (ib + 1) (ib + 1 + k')) ia' (ib + 1 + k'):=(jj.swap.run ub (by lia) fun i j i1 i2 j1 j2=>by
           have g1:=k2 (i - (ib + 1)) (by lia)
           rw [show ib + 1 + (i - (ib + 1))=i by lia,goesT] at g1
           have g2:=ua ia' j (Nat.zero_le _) j1 j2
           simp at g1
           lia).swap
          have beh':∀ j,ib + 1 + k'<=j->j < b.size->ρ ya<=R ρ b j:=fun j j1 j2=>by
           have g1:=k3 (j - (ib + 1)) (by lia) (by lia)
           rw [show ib + 1 + (j - (ib + 1))=j by lia,goesT] at g1
           simp at g1
           lia
          clear ra
          have hj3:∀ out' ib',J ρ a b out' ia' ib'->ib'=ib + 1 + k'->ib' < b.size->wpS (model prog w) A E s (jp3 () out' ib') (Step ρ a b st (x + 1 + 1)) (setG st m):=by
           intro out' ib' jk hi hb'
           refine wpS_bind (elem_ ea ?_)
           have jj:J ρ a b (out'.push ya) (ia' + 1) ib':=jk.push ua ea fun j j1 j2=>beh' j (by lia) j2
           by_cases c5:(ia' + 1 + 1 == a.size)=true
           ·show wpS _ _ _ _ (if (ia' + 1 + 1 == a.size)=true then _ else _) _ _
            rw [if_pos c5]
            exact wpS_pure ⟨_,rfl,.inl ⟨_,_,rfl,jj.last ua ub (by simpa using c5) (by lia) hl⟩⟩
           ·have e5:¬ ia' + 1 + 1=a.size:=by simpa using c5
            show wpS _ _ _ _ (if (ia' + 1 + 1 == a.size)=true then _ else _) _ _
            rw [if_neg c5]
            split
            ·exact wpS_pure ⟨_,rfl,.inr ⟨_,_,_,_,_,_,rfl,jj,by lia,by lia,by lia⟩⟩
            ·exact wpS_pure ⟨_,_,_,_,_,_,_,rfl,rfl,jj,by lia,by lia,by lia⟩
          clear_value jp3
          by_cases c6:k' > 0
          ·rw [if_pos c6]
           by_cases c7:(ib + 1 + k' == b.size)=true
           ·show wpS _ _ _ _ (if (ib + 1 + k' == b.size)=true then _ else _) _ _
            rw [if_pos c7]
            exact wpS_pure ⟨_,rfl,.inl ⟨_,_,rfl,jk'.doneB ua (by simpa using c7) (by lia)⟩⟩
           ·have e7:¬ ib + 1 + k'=b.size:=by simpa using c7
            show wpS _ _ _ _ (if (ib + 1 + k' == b.size)=true then _ else _) _ _
            rw [if_neg c7]
            exact hj3 _ (ib + 1 + k') jk' rfl (by lia)
          ·rw [if_neg c6]
           exact hj3 _ (ib + 1) jj (by lia) (by lia)
        clear_value jp2
        by_cases c6:k > 0
        ·rw [if_pos c6]
         by_cases c7:(ia + k + 1 == a.size)=true
         ·show wpS _ _ _ _ (if (ia + k + 1 == a.size)=true then _ else _) _ _
          rw [if_pos c7]
          exact wpS_pure ⟨_,rfl,.inl ⟨_,_,rfl,jk.last ua ub (by simpa using c7) (by lia) hl⟩⟩
         ·have e7:¬ ia + k + 1=a.size:=by simpa using c7
          show wpS _ _ _ _ (if (ia + k + 1 == a.size)=true then _ else _) _ _
          rw [if_neg c7]
          by_cases c8:(ia + k == a.size)=true
          ·show wpS _ _ _ _ (if (ia + k == a.size)=true then _ else _) _ _
           rw [if_pos c8]
           exact wpS_pure ⟨_,rfl,.inl ⟨_,_,rfl,jk.doneA ub (by simpa using c8) (by lia)⟩⟩
          ·have e8:¬ ia + k=a.size:=by simpa using c8
           show wpS _ _ _ _ (if (ia + k == a.size)=true then _ else _) _ _
           rw [if_neg c8]
           exact hj2 _ (ia + k) jk rfl (by lia)
        ·rw [if_neg c6]
         exact hj2 _ ia W.j (by lia) (by lia)
       clear_value jp
       split
       ·exact hj _ _
       ·exact hj _ _
      ·rintro c st' ⟨g,out,ia,ib,mg,ac,bc,rfl,rfl,W⟩
       exact ⟨g,rfl,.inr ⟨_,_,_,_,_,_,rfl,W⟩⟩
      ·exact ⟨g,_,_,_,_,_,_,rfl,rfl,W⟩
      ·rintro c st' ⟨g,rfl,⟨r,z,rfl,hr⟩ | ⟨out,ia,ib,mg,ac,bc,rfl,W⟩⟩
       ·exact wpS_pure ⟨g,r,_,rfl,rfl,hr⟩
       ·exact wpS_bind (setG_ (wpS_pure ⟨_,_,_,_,_,rfl,rfl,W⟩))
   ·rintro c st' ⟨g,out,ia,ib,mg,rfl,rfl,W⟩
    have wa:=W.ha
    have wb:=W.hb
    have wn:=W.hn
    simp at wn
    lia
   ·exact ⟨gallopOf st,_,_,_,_,rfl,rfl,j1,by lia,by lia,by lia⟩
   ·rintro c st' ⟨g,r,z,rfl,rfl,hr⟩
    exact wpS_pure (h r g hr)
end
structure H (ρ:Keyed->Int) (a b out:Array Keyed) (na nb:Nat):Prop where
 perm:out.toList.Perm (a.toList.drop na++b.toList.drop nb)
 srt:out.toList.Pairwise fun x y=>ρ y<=ρ x
 ca:∀ x,x∈out.toList->∀ j,j < na->R ρ a j<=ρ x
 cb:∀ x,x∈out.toList->∀ j,j < nb->R ρ b j<=ρ x
theorem H.swap {ρ:Keyed->Int} {a b out:Array Keyed} {na nb:Nat} (h:H ρ a b out na nb):H ρ b a out nb na:=⟨h.perm.trans List.perm_append_comm,h.srt,h.cb,h.ca⟩
theorem H.more {ρ:Keyed->Int} {a b out out':Array Keyed} {na nb m:Nat} (h:H ρ a b out na nb) (ua:Up ρ a 0 a.size) (hm:m<=na) (hz:na<=a.size) (ho:out'.toList=out.toList++((a.toList.drop m).take (na - m)).reverse)
  (hc:∀ i j,m<=i->i < na->j < nb->R ρ b j<=R ρ a i):H ρ a b out' m nb:=by
 have e:a.toList.drop m=(a.toList.drop m).take (na - m)++a.toList.drop na:=by
  have:=(List.take_append_drop (na - m) (a.toList.drop m)).symm
  rwa [List.drop_drop,show m + (na - m)=na by lia] at this
 refine ⟨?_,?_,fun x hx j j1=>?_,fun x hx j j1=>?_⟩
 ·rw [ho]
  have p1:=((a.toList.drop m).take (na - m)).reverse_perm
  refine (h.perm.append_right _).trans (List.perm_append_comm.trans ((p1.append_right _).trans ?_))
  rw [← List.append_assoc,← e]
 ·rw [ho]
  refine List.pairwise_append.mpr ⟨h.srt,?_,fun x hx y hy=>?_⟩
  ·rw [List.pairwise_reverse,List.pairwise_iff_getElem]
   intro i j hi hj hij
   have hi':((a.toList.drop m).take (na - m))[i]? = some ((a.toList.drop m).take (na - m))[i]:=List.getElem?_eq_getElem hi
   have hj':((a.toList.drop m).take (na - m))[j]? = some ((a.toList.drop m).take (na - m))[j]:=List.getElem?_eq_getElem hj
   have l1:i < na - m:=by simp at hi;lia
   have l2:j < na - m:=by simp at hj;lia
   rw [List.getElem?_take,if_pos l1,List.getElem?_drop,Array.getElem?_toList] at hi'
   rw [List.getElem?_take,if_pos l2,List.getElem?_drop,Array.getElem?_toList] at hj'
   rw [← R_some (ρ:=ρ) hi',← R_some (ρ:=ρ) hj']
   exact ua _ _ (Nat.zero_le _) (by lia) (by lia)
  ·obtain ⟨j,j1,j2,j3,ej⟩:=mem_part (List.mem_reverse.mp hy)
   rw [← R_some (ρ:=ρ) ej]
   exact h.ca x hx j (by lia)
 ·rw [ho] at hx
  rcases List.mem_append.mp hx with hx | hx
  ·exact h.ca x hx j (by lia)
  ·obtain ⟨i,i1,i2,i3,ei⟩:=mem_part (List.mem_reverse.mp hx)
   rw [← R_some (ρ:=ρ) ei]
   exact ua _ _ (Nat.zero_le _) (by lia) i3
 ·rw [ho] at hx
  rcases List.mem_append.mp hx with hx | hx
  ·exact h.cb x hx j j1
  ·obtain ⟨i,i1,i2,i3,ei⟩:=mem_part (List.mem_reverse.mp hx)
   rw [← R_some (ρ:=ρ) ei]
   exact hc i j i1 (by lia) j1
theorem H.push {ρ:Keyed->Int} {a b out:Array Keyed} {na nb:Nat} {x:Keyed} (h:H ρ a b out na nb) (ua:Up ρ a 0 a.size) (h1:1<=na) (hz:na<=a.size) (hx:a[na - 1]? = some x) (hc:∀ j,j < nb->R ρ b j<=ρ x):H ρ a b (out.push x) (na - 1) nb:=by
 refine h.more ua (by lia) hz (by rw [show na - (na - 1)=1 by lia,one_part hx,Array.toList_push];rfl) fun i j i1 i2 j1=>?_
 obtain rfl:i=na - 1:=by lia
 rw [R_some hx]
 exact hc j j1
theorem H.run {ρ:Keyed->Int} {a b out:Array Keyed} {na nb m:Nat} (h:H ρ a b out na nb) (ua:Up ρ a 0 a.size) (hm:m<=na) (hz:na<=a.size) (hc:∀ i j,m<=i->i < na->j < nb->R ρ b j<=R ρ a i):H ρ a b (out++(a.extract m na).reverse) m nb :=
 h.more ua hm hz (by rw [Array.toList_append,Array.toList_reverse,part_toList]) hc
theorem H.all {ρ:Keyed->Int} {a b out:Array Keyed} (h:H ρ a b out 0 0):Both ρ a b out.reverse:=by
 refine ⟨?_,?_⟩
 ·rw [Array.toList_reverse]
  exact (List.reverse_perm _).trans h.perm
 ·rw [Array.toList_reverse,List.pairwise_reverse]
  exact h.srt
theorem H.doneA {ρ:Keyed->Int} {a b out:Array Keyed} {na nb:Nat} (h:H ρ a b out na nb) (ub:Up ρ b 0 b.size) (ha:na=0) (hb:nb<=b.size):Both ρ a b (a.extract 0 na++b.extract 0 nb++out.reverse):=by
 subst ha
 have k:=(h.swap.run (m:=0) ub (Nat.zero_le _) hb fun i j i1 i2 j1=>by lia).swap
 have q:=k.all
 have e:(out++(b.extract 0 nb).reverse).reverse=a.extract 0 0++b.extract 0 nb++out.reverse:=by
  apply Array.toList_inj.mp
  simp
 rw [e] at q
 exact q
theorem H.doneB {ρ:Keyed->Int} {a b out:Array Keyed} {na nb:Nat} (h:H ρ a b out na nb) (ua:Up ρ a 0 a.size) (hb:nb=0) (ha:na<=a.size):Both ρ a b (a.extract 0 na++b.extract 0 nb++out.reverse):=by
 subst hb
 have k:=h.run (m:=0) ua (Nat.zero_le _) ha fun i j i1 i2 j1=>by lia
 have q:=k.all
 have e:(out++(a.extract 0 na).reverse).reverse=a.extract 0 na++b.extract 0 0++out.reverse:=by
  apply Array.toList_inj.mp
  simp
 rw [e] at q
 exact q
theorem H.first {ρ:Keyed->Int} {a b out:Array Keyed} {na nb:Nat} (h:H ρ a b out na nb) (ua:Up ρ a 0 a.size) (ub:Up ρ b 0 b.size) (hb:nb=1) (hz:nb<=b.size) (ha:na<=a.size) (hf:∀ j,j < a.size->R ρ b 0<=R ρ a j) :
  Both ρ a b (b.extract 0 nb++a.extract 0 na++out.reverse):=by
 have k:=h.run (m:=0) ua (Nat.zero_le _) ha fun i j i1 i2 j1=>by
  rw [show j=0 by lia]
  exact hf i (by lia)
 have k2:=(k.swap.run (m:=0) ub (Nat.zero_le _) hz fun i j i1 i2 j1=>by lia).swap
 have q:=k2.all
 have e:(out++(a.extract 0 na).reverse++(b.extract 0 nb).reverse).reverse=b.extract 0 nb++a.extract 0 na++out.reverse:=by
  apply Array.toList_inj.mp
  simp
 rw [e] at q
 exact q
def mergeHi':Array Keyed->Array Keyed->StateT SortSt Sem (Array Keyed):=sortPriv% PySem.Builtin.mergeHi
structure WayH (ρ:Keyed->Int) (a b out:Array Keyed) (na nb n:Nat):Prop where
 j:H ρ a b out na nb
 ha:1<=na
 za:na<=a.size
 hb:2<=nb
 zb:nb<=b.size
 hn:n + na + nb<=a.size + b.size
def StepH (ρ:Keyed->Int) (a b:Array Keyed) (st:SortSt) (n:Nat):ForInStep (Option (Array Keyed)×Nat×Nat×Array Keyed×Nat×Nat×Nat)->SortSt->Prop
 | .done c,st'=>∃ g,st'=setG st g/\((∃ r z,c=(some r,z)/\Both ρ a b r)\/∃ out na nb mg ac bc,c=(none,na,nb,out,mg,ac,bc)/\WayH ρ a b out na nb n)
 | .yield c,st'=>∃ g out na nb mg ac bc,st'=setG st g/\c=(none,na,nb,out,mg,ac,bc)/\WayH ρ a b out na nb n
section
variable {prog:Program} {w:World} {A:Around} {E:Value->Shared->Prop} {s:Shared} {κ:SortKind} {ρ:Keyed->Int} {a₀:Array Keyed}
theorem mergeHi_ {st:SortSt} {Q:Array Keyed->SortSt->Prop} {a b:Array Keyed} (T:Told prog w A s κ ρ a₀) (hk:kindOf st=κ) (ua:Up ρ a 0 a.size) (ub:Up ρ b 0 b.size) (ma:Among a₀ a) (mb:Among a₀ b) (za:0 < a.size) (zb:0 < b.size)
  (hf:∀ j,j < a.size->R ρ b 0<=R ρ a j) (hl:∀ j,j < b.size->R ρ b j<=R ρ a (a.size - 1)) (h:∀ out g,Both ρ a b out->Q out (setG st g)):wpS (model prog w) A E s (mergeHi' a b) Q st:=by
 obtain ⟨a0,ea0,ma0,ra0⟩:=ma.get (ρ:=ρ) (show a.size - 1 < a.size by lia)
 have j0:H ρ a b #[] a.size b.size:=⟨by simp,by simp,by simp,by simp⟩
 have j1:H ρ a b #[a0] (a.size - 1) b.size:=j0.push ua za (Nat.le_refl _) ea0 fun j hj=>by
  have:=hl j hj
  lia
 clear ra0
 have hQ:∀ out,Both ρ a b out->Q out st:=fun out q=>h out (gallopOf st) q
 unfold mergeHi'
 refine wpS_bind (wpS_lift (wpAny_rule ⟨rfl,?_⟩))
 refine wpS_bind (elem_ ea0 ?_)
 by_cases c1:(a.size - 1 == 0)=true
 ·show wpS _ _ _ _ (if (a.size - 1 == 0)=true then _ else _) _ _
  rw [if_pos c1]
  exact wpS_pure (hQ _ (j1.doneA ub (by simpa using c1) (Nat.le_refl _)))
 ·have e1:¬ a.size - 1=0:=by simpa using c1
  show wpS _ _ _ _ (if (a.size - 1 == 0)=true then _ else _) _ _
  rw [if_neg c1]
  by_cases c2:(b.size == 1)=true
  ·show wpS _ _ _ _ (if (b.size == 1)=true then _ else _) _ _
   rw [if_pos c2]
   exact wpS_pure (hQ _ (j1.first ua ub (by simpa using c2) (Nat.le_refl _) (by lia) hf))
  ·have e2:¬ b.size=1:=by simpa using c2
   show wpS _ _ _ _ (if (b.size == 1)=true then _ else _) _ _
   rw [if_neg c2]
   refine wpS_bind (wpS_get ?_)
   refine wpS_bind (wpS_mono (wpS_forRange (I:=fun x c st'=>∃ g out na nb mg,st'=setG st g/\c=(none,na,nb,out,mg)/\WayH ρ a b out na nb (x + 1))
    (Q:=fun c st'=>∃ g r z,st'=setG st g/\c=(some r,z)/\Both ρ a b r) ?_ ?_ ?_) ?_)
   ·rintro x c st' _ hx ⟨g,out,na,nb,mg,rfl,rfl,W⟩
    refine wpS_bind (wpS_mono (wpS_forRange (I:=fun y c st'=>st'=setG st g/\∃ out na nb ac bc,c=(none,na,nb,out,ac,bc)/\WayH ρ a b out na nb (x + 1 + y))
     (Q:=fun c st'=>st'=setG st g/\((∃ r z,c=(some r,z)/\Both ρ a b r)\/∃ out na nb ac bc,c=(none,na,nb,out,ac,bc)/\WayH ρ a b out na nb (x + 1 + 1))) ?_ ?_ ?_) ?_)
    ·rintro y c st' _ hy ⟨rfl,out,na,nb,ac,bc,rfl,⟨wj,w1,w2,w3,w4,w5⟩⟩
     obtain ⟨ya,ea,mya,ra⟩:=ma.get (ρ:=ρ) (show na - 1 < a.size by lia)
     obtain ⟨yb,eb,myb,rb⟩:=mb.get (ρ:=ρ) (show nb - 1 < b.size by lia)
     refine wpS_bind (elem_ eb (wpS_bind (elem_ ea (wpS_bind (lt_ T hk myb mya ?_)))))
     by_cases c3:ρ yb < ρ ya
     ·rw [decide_eq_true c3]
      dsimp only
      rw [if_pos rfl]
      refine wpS_bind (elem_ ea ?_)
      have jj:H ρ a b (out.push ya) (na - 1) nb:=wj.push ua w1 w2 ea fun j j1=>by
       have:=ub j (nb - 1) (Nat.zero_le _) (by lia) (by lia)
       lia
      clear ra rb c3
      by_cases c4:(na - 1 == 0)=true
      ·rw [if_pos c4]
       exact wpS_pure ⟨rfl,.inl ⟨_,_,rfl,jj.doneA ub (by simpa using c4) w4⟩⟩
      ·rw [if_neg c4]
       have e4:¬ na - 1=0:=by simpa using c4
       split
       ·exact wpS_pure ⟨rfl,.inr ⟨_,_,_,_,_,rfl,jj,by lia,by lia,w3,w4,by lia⟩⟩
       ·exact wpS_pure ⟨rfl,_,_,_,_,_,rfl,jj,by lia,by lia,w3,w4,by lia⟩
     ·rw [decide_eq_false c3]
      dsimp only
      rw [if_neg (by decide)]
      refine wpS_bind (elem_ eb ?_)
      have jj:H ρ a b (out.push yb) na (nb - 1):=(wj.swap.push ub (by lia) w4 eb fun j j1=>by
       have:=ua j (na - 1) (Nat.zero_le _) (by lia) (by lia)
       lia).swap
      clear ra rb c3
      by_cases c4:(nb - 1 == 1)=true
      ·rw [if_pos c4]
       exact wpS_pure ⟨rfl,.inl ⟨_,_,rfl,jj.first ua ub (by simpa using c4) (by lia) w2 hf⟩⟩
      ·rw [if_neg c4]
       have e4:¬ nb - 1=1:=by simpa using c4
       split
       ·exact wpS_pure ⟨rfl,.inr ⟨_,_,_,_,_,rfl,jj,w1,w2,by lia,by lia,by lia⟩⟩
       ·exact wpS_pure ⟨rfl,_,_,_,_,_,rfl,jj,w1,w2,by lia,by lia,by lia⟩
    ·rintro c st' ⟨rfl,out,na,nb,ac,bc,rfl,⟨wj,w1,w2,w3,w4,w5⟩⟩
     refine ⟨rfl,.inr ⟨_,_,_,_,_,rfl,wj,w1,w2,w3,w4,?_⟩⟩
     simp at w5
     lia
    ·exact ⟨rfl,_,_,_,_,_,rfl,W⟩
    ·rintro c st' ⟨rfl,⟨r,z,rfl,hr⟩ | ⟨out,na,nb,ac,bc,rfl,W⟩⟩
     ·exact wpS_pure ⟨g,r,_,rfl,rfl,hr⟩
     ·refine wpS_bind (wpS_lift (wpAny_rule ⟨rfl,?_⟩))
      refine wpS_bind (wpS_mono (wpS_forRange (I:=fun y c st'=>∃ g out na nb mg ac bc,st'=setG st g/\c=(none,na,nb,out,mg,ac,bc)/\WayH ρ a b out na nb (x + 1 + 1))
       (Q:=fun c st'=>∃ g,st'=setG st g/\((∃ r z,c=(some r,z)/\Both ρ a b r)\/∃ out na nb mg ac bc,c=(none,na,nb,out,mg,ac,bc)/\WayH ρ a b out na nb (x + 1 + 1))) ?_ ?_ ?_) ?_)
      ·rintro y c st' _ hy ⟨g,out,na,nb,mg,ac,bc,rfl,rfl,⟨wj,w1,w2,w3,w4,w5⟩⟩
       refine wpS_mono (Q:=StepH ρ a b st (x + 1 + 1)) ?_ fun r st' hr=>by cases r <;> exact hr
       extract_lets -merge -underBinder _ _ _ _ _ _ _ _ _ _ _ jp
       obtain ⟨yb,eb,myb,rb⟩:=mb.get (ρ:=ρ) (show nb - 1 < b.size by lia)
       have hj:∀ m g,wpS (model prog w) A E s (jp () m) (StepH ρ a b st (x + 1 + 1)) (setG st g):=by
        intro m g
        refine wpS_bind (setG_ (wpS_bind (elem_ eb (wpS_bind (gallop_ (key:=yb) (arr:=a) (base:=0) (n:=na) (hint:=na - 1) T hk myb ma (by lia) (by lia) (goes_mono (ua.part (Nat.le_refl _) (by lia))) fun k k1 k2 k3=>?_)))))
        try dsimp -zeta only
        extract_lets -merge -underBinder kk ac' jp2
        have jk:H ρ a b (out++(a.extract k na).reverse) k nb:=wj.run ua k1 w2 fun i j i1 i2 j1=>by
         have g1:=k3 i i1 i2
         rw [Nat.zero_add,goesF] at g1
         have g2:=ub j (nb - 1) (Nat.zero_le _) (by lia) (by lia)
         simp at g1
         lia
        have beh:∀ j,j < k->R ρ a j<=ρ yb:=fun j j1=>by
         have g1:=k2 j j1
         rw [Nat.zero_add,goesF] at g1
         simp at g1
         lia
        clear rb
        have hj2:∀ na' out',H ρ a b out' na' nb->na'=k->1<=na'->wpS (model prog w) A E s (jp2 () na' out') (StepH ρ a b st (x + 1 + 1)) (setG st m):=by
         intro na' out' jk hi ha'
         refine wpS_bind (elem_ eb ?_)
         have jj:H ρ a b (out'.push yb) na' (nb - 1):=(jk.swap.push ub (by lia) w4 eb fun j j1=>beh j (by lia)).swap
         by_cases c4:(nb - 1 == 1)=true
         ·show wpS _ _ _ _ (if (nb - 1 == 1)=true then _ else _) _ _
          rw [if_pos c4]
          exact wpS_pure ⟨_,rfl,.inl ⟨_,_,rfl,jj.first ua ub (by simpa using c4) (by lia) (by lia) hf⟩⟩
         ·have e4:¬ nb - 1=1:=by simpa using c4
          show wpS _ _ _ _ (if (nb - 1 == 1)=true then _ else _) _ _
          rw [if_neg c4]
          obtain ⟨ya,ea,mya,ra⟩:=ma.get (ρ:=ρ) (show na' - 1 < a.size by lia)
          refine wpS_bind (elem_ ea (wpS_bind (gallop_ (key:=ya) (arr:=b) (base:=0) (n:=nb - 1) (hint:=nb - 1 - 1) T hk mya mb (by lia) (by lia) (goes_mono (ub.part (Nat.le_refl _) (by lia))) fun k' k1 k2 k3=>?_)))
          try dsimp -zeta only
          extract_lets -merge -underBinder kk' bc' jp3
          have jk':H ρ a b (out'.push yb++(b.extract k' (nb - 1)).reverse) na' k':=(jj.swap.run ub k1 (by lia) fun i j i1 i2 j1=>by
           have g1:=k3 i i1 i2
           rw [Nat.zero_add,goesT] at g1
           have g2:=ua j (na' - 1) (Nat.zero_le _) (by lia) (by lia)
           simp at g1
           lia).swap
          have beh':∀ j,j < k'->R ρ b j<=ρ ya:=fun j j1=>by
           have g1:=k2 j j1
           rw [Nat.zero_add,goesT] at g1
           simp at g1
           lia
          clear ra
          have hj3:∀ nb' out',H ρ a b out' na' nb'->nb'=k'->2<=nb'->wpS (model prog w) A E s (jp3 () nb' out') (StepH ρ a b st (x + 1 + 1)) (setG st m):=by
           intro nb' out' jk hi hb'
           refine wpS_bind (elem_ ea ?_)
           have jj:H ρ a b (out'.push ya) (na' - 1) nb':=jk.push ua ha' (by lia) ea fun j j1=>beh' j (by lia)
           by_cases c5:(na' - 1 == 0)=true
           ·show wpS _ _ _ _ (if (na' - 1 == 0)=true then _ else _) _ _
            rw [if_pos c5]
            exact wpS_pure ⟨_,rfl,.inl ⟨_,_,rfl,jj.doneA ub (by simpa using c5) (by lia)⟩⟩
           ·have e5:¬ na' - 1=0:=by simpa using c5
            show wpS _ _ _ _ (if (na' - 1 == 0)=true then _ else _) _ _
            rw [if_neg c5]
            split
            ·exact wpS_pure ⟨_,rfl,.inr ⟨_,_,_,_,_,_,rfl,jj,by lia,by lia,by lia,by lia,by lia⟩⟩
            ·exact wpS_pure ⟨_,_,_,_,_,_,_,rfl,rfl,jj,by lia,by lia,by lia,by lia,by lia⟩
          clear_value jp3
          by_cases c6:nb - 1 - k' > 0
          ·show wpS _ _ _ _ (if nb - 1 - k' > 0 then _ else _) _ _
           rw [if_pos c6]
           by_cases c7:(k' == 1)=true
           ·show wpS _ _ _ _ (if (k' == 1)=true then _ else _) _ _
            rw [if_pos c7]
            exact wpS_pure ⟨_,rfl,.inl ⟨_,_,rfl,jk'.first ua ub (by simpa using c7) (by lia) (by lia) hf⟩⟩
           ·have e7:¬ k'=1:=by simpa using c7
            show wpS _ _ _ _ (if (k' == 1)=true then _ else _) _ _
            rw [if_neg c7]
            by_cases c8:(k' == 0)=true
            ·show wpS _ _ _ _ (if (k' == 0)=true then _ else _) _ _
             rw [if_pos c8]
             exact wpS_pure ⟨_,rfl,.inl ⟨_,_,rfl,jk'.doneB ua (by simpa using c8) (by lia)⟩⟩
            ·have e8:¬ k'=0:=by simpa using c8
             show wpS _ _ _ _ (if (k' == 0)=true then _ else _) _ _
             rw [if_neg c8]
             exact hj3 k' _ jk' rfl (by lia)
          ·show wpS _ _ _ _ (if nb - 1 - k' > 0 then _ else _) _ _
           rw [if_neg c6]
           exact hj3 (nb - 1) _ jj (by lia) (by lia)
        clear_value jp2
        by_cases c6:na - k > 0
        ·show wpS _ _ _ _ (if na - k > 0 then _ else _) _ _
         rw [if_pos c6]
         by_cases c7:(k == 0)=true
         ·show wpS _ _ _ _ (if (k == 0)=true then _ else _) _ _
          rw [if_pos c7]
          exact wpS_pure ⟨_,rfl,.inl ⟨_,_,rfl,jk.doneA ub (by simpa using c7) (by lia)⟩⟩
         ·have e7:¬ k=0:=by simpa using c7
          show wpS _ _ _ _ (if (k == 0)=true then _ else _) _ _
          rw [if_neg c7]
          exact hj2 k _ jk rfl (by lia)
        ·show wpS _ _ _ _ (if na - k > 0 then _ else _) _ _
         rw [if_neg c6]
         exact hj2 na _ wj (by lia) (by lia)
       clear_value jp
       split
       ·exact hj _ _
       ·exact hj _ _
      ·rintro c st' ⟨g,out,na,nb,mg,ac,bc,rfl,rfl,W⟩
       exact ⟨g,rfl,.inr ⟨_,_,_,_,_,_,rfl,W⟩⟩
      ·exact ⟨g,_,_,_,_,_,_,rfl,rfl,W⟩
      ·rintro c st' ⟨g,rfl,⟨r,z,rfl,hr⟩ | ⟨out,na,nb,mg,ac,bc,rfl,W⟩⟩
       ·exact wpS_pure ⟨g,r,_,rfl,rfl,hr⟩
       ·exact wpS_bind (setG_ (wpS_pure ⟨_,_,_,_,_,rfl,rfl,W⟩))
   ·rintro c st' ⟨g,out,na,nb,mg,rfl,rfl,⟨wj,w1,w2,w3,w4,w5⟩⟩
    simp at w5
    lia
   ·exact ⟨gallopOf st,_,_,_,_,rfl,rfl,j1,by lia,by lia,by lia,by lia,by lia⟩
   ·rintro c st' ⟨g,r,z,rfl,rfl,hr⟩
    exact wpS_pure (h r g hr)
end
theorem fold_set:∀ (l:List Keyed) (n off:Nat) (xs:Array Keyed),off + n + l.length<=xs.size ->
  ((l.zipIdx n).foldl (fun a (pj:Keyed×Nat)=>a.setIfInBounds (off + pj.2) pj.1) xs).toList=xs.toList.take (off + n)++l++xs.toList.drop (off + n + l.length)
 | [],n,off,xs,_=>by simp
 | x::l,n,off,xs,h=>by
  rw [List.zipIdx_cons,List.foldl_cons]
  simp only [List.length_cons] at h
  have ih:=fold_set l (n + 1) off (xs.setIfInBounds (off + n) x) (by simp;lia)
  rw [ih,Array.toList_setIfInBounds]
  have hlt:off + n < xs.toList.length:=by simp;lia
  rw [show off + (n + 1)=off + n + 1 by lia]
  have e1:(xs.toList.set (off + n) x).take (off + n + 1)=xs.toList.take (off + n)++[x]:=by
   rw [List.take_add_one,List.take_set_of_le (Nat.le_refl _),List.getElem?_set_self hlt]
   rfl
  have e2:(xs.toList.set (off + n) x).drop (off + n + 1 + l.length)=xs.toList.drop (off + n + (l.length + 1)):=by
   rw [List.drop_set_of_lt (by lia)]
   congr 1
   lia
  rw [e1,e2]
  simp
theorem up_of {ρ:Keyed->Int} {xs:Array Keyed} (h:xs.toList.Pairwise fun x y=>ρ x<=ρ y):Up ρ xs 0 xs.size:=by
 intro i j _ hij hj
 by_cases c:i=j
 ·rw [c];exact Int.le_refl _
 ·have:=List.pairwise_iff_getElem.mp h i j (by simp;lia) (by simp;lia) (by lia)
  simp only [Array.getElem_toList] at this
  rw [R_some (Array.getElem?_eq_getElem (show i < xs.size by lia)),R_some (Array.getElem?_eq_getElem hj)]
  exact this
theorem of_up {ρ:Keyed->Int} {xs:Array Keyed} {lo k:Nat} (u:Up ρ xs lo (lo + k)) (hz:lo + k<=xs.size):((xs.toList.drop lo).take k).Pairwise fun x y=>ρ x<=ρ y:=by
 rw [List.pairwise_iff_getElem]
 intro i j hi hj hij
 have hi':((xs.toList.drop lo).take k)[i]? = some ((xs.toList.drop lo).take k)[i]:=List.getElem?_eq_getElem hi
 have hj':((xs.toList.drop lo).take k)[j]? = some ((xs.toList.drop lo).take k)[j]:=List.getElem?_eq_getElem hj
 have l1:i < k:=by simp at hi;lia
 have l2:j < k:=by simp at hj;lia
 rw [List.getElem?_take,if_pos l1,List.getElem?_drop,Array.getElem?_toList] at hi'
 rw [List.getElem?_take,if_pos l2,List.getElem?_drop,Array.getElem?_toList] at hj'
 rw [← R_some (ρ:=ρ) hi',← R_some (ρ:=ρ) hj']
 exact u _ _ (by lia) (by lia) (by lia)
theorem get_part {xs:Array Keyed} {i j k:Nat} (hj:j<=xs.size) (hk:k < j - i):(xs.extract i j)[k]? = xs[i + k]?:=by
 rw [Array.getElem?_extract,if_pos (by rw [Nat.min_eq_left hj];exact hk)]
theorem size_part {xs:Array Keyed} {i j:Nat} (hj:j<=xs.size):(xs.extract i j).size=j - i:=by
 rw [Array.size_extract,Nat.min_eq_left hj]
theorem R_part {ρ:Keyed->Int} {xs:Array Keyed} {i j k:Nat} (hj:j<=xs.size) (hk:k < j - i):R ρ (xs.extract i j) k=R ρ xs (i + k):=R_of (get_part hj hk)
theorem Up.cut {ρ:Keyed->Int} {xs:Array Keyed} {i j:Nat} (u:Up ρ xs i j) (hj:j<=xs.size):Up ρ (xs.extract i j) 0 (xs.extract i j).size:=by
 intro p q _ h1 h2
 rw [size_part hj] at h2
 rw [R_part hj (by lia),R_part hj h2]
 exact u _ _ (by lia) (by lia) (by lia)
theorem Among.of {κ:SortKind} {a₀:Array Keyed} {st:SortSt} (h:Bs κ a₀ st):Among a₀ (arrOf st):=fun i hi=>h.has (by rw [← h.size];exact hi)
theorem Among.cut {a₀ xs:Array Keyed} (m:Among a₀ xs) {i j:Nat} (hj:j<=xs.size):Among a₀ (xs.extract i j):=fun k hk=>by
 rw [size_part hj] at hk
 rw [get_part hj hk]
 exact m _ (by lia)
theorem laid {ρ:Keyed->Int} {xs out:Array Keyed} {k m n:Nat} (u1:Up ρ xs 0 m) (u2:Up ρ xs m xs.size) (hk:k<=m) (hn:m + n<=xs.size) (hk2:0 < n) (h:Both ρ (xs.extract k m) (xs.extract m (m + n)) out)
  (f1:∀ i,i < k->R ρ xs i<=R ρ xs m) (f2:∀ i,i < m->∀ j,m + n<=j->j < xs.size->R ρ xs i<=R ρ xs j) :
  ∀ ys:Array Keyed,ys.toList=xs.toList.take k++out.toList++xs.toList.drop (k + out.toList.length)->ys.Perm xs/\Up ρ ys 0 ys.size:=by
 obtain ⟨p,so⟩:=h
 have hlen:=p.length_eq
 rw [List.length_append,Array.length_toList,Array.length_toList,Array.length_toList,size_part (Nat.le_trans (Nat.le_add_right m n) hn),size_part hn,Nat.add_sub_cancel_left] at hlen
 rw [part_toList,part_toList] at p
 rw [← Array.length_toList] at hlen
 have hkm:k + (m - k + n)=m + n:=by rw [← Nat.add_assoc,Nat.add_sub_cancel' hk]
 intro ys hy
 rw [hlen,hkm] at hy
 have mem:∀ x,x∈out.toList->∃ j,k<=j/\j < m + n/\xs[j]? = some x:=fun x hx=>by
  rcases List.mem_append.mp (p.mem_iff.mp hx) with q | q
  ·obtain ⟨j,j1,j2,_,e⟩:=mem_part q
   exact ⟨j,j1,by lia,e⟩
  ·obtain ⟨j,j1,j2,_,e⟩:=mem_part q
   exact ⟨j,by lia,by lia,e⟩
 have memD:∀ x,x∈xs.toList.drop (m + n)->∃ j,m + n<=j/\j < xs.size/\xs[j]? = some x:=fun x hx=>by
  obtain ⟨i,hi⟩:=List.getElem?_of_mem hx
  rw [List.getElem?_drop,Array.getElem?_toList] at hi
  exact ⟨m + n + i,by lia,(Array.getElem?_eq_some_iff.mp hi).1,hi⟩
 have memT:∀ x,x∈xs.toList.take k->∃ j,j < k/\xs[j]? = some x:=fun x hx=>by
  have hx':x∈(xs.toList.drop 0).take k:=by simpa using hx
  obtain ⟨j,j1,j2,_,e⟩:=mem_part hx'
  exact ⟨j,by lia,e⟩
 constructor
 ·rw [Array.perm_iff_toList_perm,hy]
  have e:xs.toList=xs.toList.take k++((xs.toList.drop k).take (m - k)++(xs.toList.drop m).take (m + n - m))++xs.toList.drop (m + n):=by
   have e1:xs.toList.drop k=(xs.toList.drop k).take (m - k)++xs.toList.drop m:=by
    have:=(List.take_append_drop (m - k) (xs.toList.drop k)).symm
    rwa [List.drop_drop,show k + (m - k)=m by lia] at this
   have e2:xs.toList.drop m=(xs.toList.drop m).take (m + n - m)++xs.toList.drop (m + n):=by
    have:=(List.take_append_drop (m + n - m) (xs.toList.drop m)).symm
    rwa [List.drop_drop,show m + (m + n - m)=m + n by lia] at this
   calc xs.toList=xs.toList.take k++xs.toList.drop k:=(List.take_append_drop k xs.toList).symm
    _=xs.toList.take k++((xs.toList.drop k).take (m - k)++xs.toList.drop m):=by rw [← e1]
    _=xs.toList.take k++((xs.toList.drop k).take (m - k)++((xs.toList.drop m).take (m + n - m)++xs.toList.drop (m + n))):=by rw [← e2]
    _=_:=by simp only [List.append_assoc]
  refine List.Perm.trans ?_ (List.Perm.of_eq e.symm)
  exact (List.Perm.append_left _ p).append_right _
 ·apply up_of
  rw [hy]
  refine List.pairwise_append.mpr ⟨List.pairwise_append.mpr ⟨?_,so,fun x hx y hy=>?_⟩,?_,fun x hx y hy=>?_⟩
  ·have:=of_up (lo:=0) (k:=k) (u1.part (Nat.le_refl _) (by lia)) (by lia)
   simpa using this
  ·obtain ⟨i,i1,ei⟩:=memT x hx
   obtain ⟨j,j1,j2,ej⟩:=mem y hy
   rw [← R_some (ρ:=ρ) ei,← R_some (ρ:=ρ) ej]
   by_cases c:j < m
   ·exact u1 i j (Nat.zero_le _) (by lia) c
   ·exact Int.le_trans (f1 i i1) (u2 m j (Nat.le_refl _) (by lia) (by lia))
  ·have:=of_up (lo:=m + n) (k:=xs.size - (m + n)) (u2.part (by lia) (by lia)) (by lia)
   rwa [List.take_of_length_le (by simp)] at this
  ·obtain ⟨j,j1,j2,ej⟩:=memD y hy
   rw [← R_some (ρ:=ρ) ej]
   rcases List.mem_append.mp hx with q | q
   ·obtain ⟨i,i1,ei⟩:=memT x q
    rw [← R_some (ρ:=ρ) ei]
    exact f2 i (by lia) j j1 j2
   ·obtain ⟨i,i1,i2,ei⟩:=mem x q
    rw [← R_some (ρ:=ρ) ei]
    by_cases c:i < m
    ·exact f2 i c j j1 j2
    ·exact u2 i j (by lia) (by lia) j2
section
variable {prog:Program} {w:World} {A:Around} {E:Value->Shared->Prop} {s:Shared} {κ:SortKind} {ρ:Keyed->Int} {a₀:Array Keyed}
theorem set_ {st st':SortSt} {Q:PUnit->SortSt->Prop} (h:Q ⟨⟩ st'):wpS (model prog w) A E s (set st':StateT SortSt Sem PUnit) Q st:=by
 unfold wpS
 rw [StateT.run_set]
 exact wpAny_pure ⟨rfl,h⟩
theorem mergeAt_ {st : SortSt} {Q : Bool → SortSt → Prop} {n1 n2 p q : Nat} (T : Told prog w A s κ ρ a₀) (hB : Bs κ a₀ st) (hp : pendingOf st = #[(0, n1, p), (n1, n2, q)]) (h1 : 1 ≤ n1) (h2 : 1 ≤ n2) (hz : n1 + n2 = a₀.size)
    (u1 : Up ρ (arrOf st) 0 n1) (u2 : Up ρ (arrOf st) n1 (n1 + n2)) (h : ∀ st', Bs κ a₀ st' → (pendingOf st').size ≤ 1 → Up ρ (arrOf st') 0 a₀.size → Q true st') : wpS (model prog w) A E s (mergeAt' 0) Q st := by
  have hsz := hB.size
  have am := Among.of hB
  have hn1 : n1 ≤ (arrOf st).size := Nat.le_trans (Nat.le_add_right n1 n2) (Nat.le_of_eq (hz.trans hsz.symm))
  unfold mergeAt'
  refine wpS_bind (wpS_get ?_)
  have g0 : (pendingOf st)[0]? = some (0, n1, p) := by rw [hp]; rfl
  have g1 : (pendingOf st)[0 + 1]? = some (n1, n2, q) := by rw [hp]; rfl
  rw [g0, g1]
  refine wpS_bind (set_ ?_)
  obtain ⟨xb, eb, mb, rb⟩ := am.get (ρ := ρ) (show n1 < (arrOf st).size by lia)
  refine wpS_bind (elem_ eb (wpS_bind (gallop_ (key := xb) (arr := arrOf st) (base := 0) (n := n1) (hint := 0) T hB.kind mb am (by lia) (by lia) (goes_mono (u1.part (Nat.le_refl _) (by lia))) fun k k1 k2 k3 => ?_)))
  have ep : (((pendingOf st).setIfInBounds 0 (0, n1 + n2, p)).eraseIdxIfInBounds (0 + 1)).size ≤ 1 := by rw [hp]; simp [Array.eraseIdxIfInBounds]
  have f1 : ∀ i, i < k → R ρ (arrOf st) i ≤ R ρ (arrOf st) n1 := fun i hi => by
    have g := k2 i hi
    rw [Nat.zero_add, goesF] at g
    simp at g
    lia
  have fst : ∀ j, k ≤ j → j < n1 → R ρ (arrOf st) n1 ≤ R ρ (arrOf st) j := fun j j1 j2 => by
    have g := k3 j j1 j2
    rw [Nat.zero_add, goesF] at g
    simp at g
    lia
  clear rb k2 k3
  have u2' : Up ρ (arrOf st) n1 (arrOf st).size := by rw [hsz, ← hz]; exact u2
  by_cases c1 : (n1 - k == 0) = true
  · show wpS _ _ _ _ (if (n1 - k == 0) = true then _ else _) _ _
    rw [if_pos c1]
    have e1 : k = n1 := by have : n1 - k = 0 := by simpa using c1
                           lia
    refine wpS_pure (h _ ⟨hB.perm, hB.kind, hB.fine⟩ ep fun i j q1 q2 q3 => ?_)
    by_cases c : j < n1
    · exact u1 i j (Nat.zero_le _) q2 c
    · by_cases c' : i < n1
      · exact Int.le_trans (f1 i (by lia)) (u2 n1 j (Nat.le_refl _) (by lia) (by lia))
      · exact u2 i j (by lia) q2 (by lia)
  · have e1 : ¬ n1 - k = 0 := by simpa using c1
    show wpS _ _ _ _ (if (n1 - k == 0) = true then _ else _) _ _
    rw [if_neg c1]
    obtain ⟨xa, ea, ma, ra⟩ := am.get (ρ := ρ) (show 0 + k + (n1 - k) - 1 < (arrOf st).size by lia)
    have eix : 0 + k + (n1 - k) - 1 = n1 - 1 := by lia
    refine wpS_bind (elem_ ea (wpS_bind (gallop_ (key := xa) (arr := arrOf st) (base := n1) (n := n2) (hint := n2 - 1) T hB.kind ma am (by lia) (by lia) (goes_mono u2) fun m m1 m2 m3 => ?_)))
    rw [eix] at ra
    have f2 : ∀ i, i < n1 → ∀ j, n1 + m ≤ j → j < (arrOf st).size → R ρ (arrOf st) i ≤ R ρ (arrOf st) j := fun i hi j j1 j2 => by
      have g := m3 (j - n1) (by lia) (by lia)
      rw [show n1 + (j - n1) = j by lia, goesT] at g
      have g2 := u1 i (n1 - 1) (Nat.zero_le _) (by lia) (by lia)
      simp at g
      lia
    have lst : ∀ j, j < m → R ρ (arrOf st) (n1 + j) ≤ R ρ (arrOf st) (n1 - 1) := fun j hj => by
      have g := m2 j hj
      rw [goesT] at g
      simp at g
      lia
    clear ra m2 m3
    by_cases c2 : (m == 0) = true
    · show wpS _ _ _ _ (if (m == 0) = true then _ else _) _ _
      rw [if_pos c2]
      have e2 : m = 0 := by simpa using c2
      refine wpS_pure (h _ ⟨hB.perm, hB.kind, hB.fine⟩ ep fun i j q1 q2 q3 => ?_)
      by_cases c : j < n1
      · exact u1 i j (Nat.zero_le _) q2 c
      · by_cases c' : i < n1
        · exact f2 i c' j (by lia) (by lia)
        · exact u2 i j (by lia) q2 (by lia)
    · have e2 : ¬ m = 0 := by simpa using c2
      have hnm : n1 + m ≤ (arrOf st).size := Nat.le_trans (Nat.add_le_add_left m1 n1) (Nat.le_of_eq (hz.trans hsz.symm))
      show wpS _ _ _ _ (if (m == 0) = true then _ else _) _ _
      rw [if_neg c2]
      extract_lets -merge -underBinder x y jp
      have hj : ∀ out g, Both ρ ((arrOf st).extract k n1) ((arrOf st).extract n1 (n1 + m)) out → wpS (model prog w) A E s (jp out) Q (setG (SortSt.mk' (kindOf st) (arrOf st) (((pendingOf st).setIfInBounds 0 (0, n1 + n2, p)).eraseIdxIfInBounds (0 + 1)) (gallopOf st) (failedOf st)) g) := by
        intro out g hb
        have hkm : k + (n1 - k + m) = n1 + m := by rw [← Nat.add_assoc, Nat.add_sub_cancel' k1]
        have hlen := hb.1.length_eq
        rw [List.length_append, Array.length_toList, Array.length_toList, Array.length_toList, size_part hn1, size_part hnm, Nat.add_sub_cancel_left] at hlen
        rw [← Array.length_toList] at hlen
        have hl := laid u1 u2' k1 hnm (Nat.pos_of_ne_zero e2) hb f1 f2
        have hf := fold_set out.toList 0 (0 + k) (arrOf st) (by rw [hlen, Nat.zero_add, Nat.add_zero, hkm]; exact hnm)
        rw [show 0 + k + 0 = k from (Nat.add_zero _).trans (Nat.zero_add k)] at hf
        obtain ⟨pp, uu⟩ := hl _ hf
        refine wpS_bind (wpS_modify (wpS_bind (wpS_get (wpS_pure ?_))))
        have hfn : (failedOf st).isNone = true := by rw [hB.fine]; rfl
        show Q (failedOf st).isNone _
        rw [hfn]
        refine h _ ⟨pp.trans hB.perm, hB.kind, hB.fine⟩ ep ?_
        have es := pp.size_eq
        rw [hsz] at es
        rw [← es]
        exact uu
      clear_value jp
      have zx : ((arrOf st).extract k n1).size = n1 - k := size_part hn1
      have zy : ((arrOf st).extract n1 (n1 + m)).size = m := by rw [size_part hnm, Nat.add_sub_cancel_left]
      have hlast : ∀ j, j < ((arrOf st).extract n1 (n1 + m)).size → R ρ ((arrOf st).extract n1 (n1 + m)) j ≤ R ρ ((arrOf st).extract k n1) (((arrOf st).extract k n1).size - 1) := fun j hj => by
        rw [zy] at hj
        rw [zx, R_part hnm (by rw [Nat.add_sub_cancel_left]; exact hj), R_part hn1 (Nat.sub_lt (Nat.pos_of_ne_zero e1) Nat.one_pos), ← Nat.add_sub_assoc (Nat.pos_of_ne_zero e1), Nat.add_sub_cancel' k1]
        exact lst j hj
      have hfirst : ∀ j, j < ((arrOf st).extract k n1).size → R ρ ((arrOf st).extract n1 (n1 + m)) 0 ≤ R ρ ((arrOf st).extract k n1) j := fun j hj => by
        rw [zx] at hj
        rw [R_part hnm (by rw [Nat.add_sub_cancel_left]; exact Nat.pos_of_ne_zero e2), R_part hn1 hj, Nat.add_zero]
        exact fst (k + j) (Nat.le_add_right k j) (Nat.add_lt_of_lt_sub' hj)
      have ux := (u1.part (lo' := k) (hi' := n1) (Nat.zero_le _) (Nat.le_refl _)).cut (xs := arrOf st) hn1
      have uy := (u2'.part (lo' := n1) (hi' := n1 + m) (Nat.le_refl _) hnm).cut (xs := arrOf st) hnm
      have ax := am.cut (i := k) (j := n1) hn1
      have ay := am.cut (i := n1) (j := n1 + m) hnm
      have e0 : x = (arrOf st).extract k n1 := by show (arrOf st).extract (0 + k) n1 = _; rw [Nat.zero_add]
      have e0' : y = (arrOf st).extract n1 (n1 + m) := rfl
      clear_value x y
      subst e0 e0'
      split
      · exact wpS_bind (mergeLo_ T hB.kind ux uy ax ay (by lia) (by lia) (hfirst 0 (by lia)) hlast fun out g hb => hj out g hb)
      · exact wpS_bind (mergeHi_ T hB.kind ux uy ax ay (by lia) (by lia) hfirst hlast fun out g hb => hj out g hb)
theorem minRun_big {n:Nat} (h1:64<=n) (h2:n < 128):minRun' n n 0=n / 2 + n % 2:=by
 obtain ⟨f,rfl⟩:∃ f,n=f + 1 + 1:=⟨n - 2,by lia⟩
 rw [minRun'_succ,if_neg (by lia),minRun'_succ,if_pos (by lia)]
 simp
theorem minRun_small {n:Nat} (h1:1<=n) (h2:n < 64):minRun' n n 0=n:=by
 obtain ⟨f,rfl⟩:∃ f,n=f + 1:=⟨n - 1,by lia⟩
 rw [minRun'_succ,if_pos h2]
inductive Runs (ρ:Keyed->Int) (a₀:Array Keyed) (st:SortSt):Nat->Nat->Prop
 | none (h:pendingOf st=#[]):Runs ρ a₀ st 0 0
 | one (n:Nat) (h:pendingOf st=#[(0,n,0)]) (h1:1<=n) (h2:n<=a₀.size) (hm:minRun' a₀.size a₀.size 0<=n) (u:Up ρ (arrOf st) 0 n):Runs ρ a₀ st 1 n
 | both (n p:Nat) (x:Nat) (h:pendingOf st=#[(0,n,p),(n,a₀.size - n,0)]) (h1:1<=n) (h2:n < a₀.size) (u:Up ρ (arrOf st) 0 n) (u2:Up ρ (arrOf st) n a₀.size) (hx:2<=x):Runs ρ a₀ st x a₀.size
def StepR (κ:SortKind) (ρ:Keyed->Int) (a₀:Array Keyed) (x:Nat):ForInStep (Option Unit×Nat)->SortSt->Prop
 | .done c',st'=>c'=(none,a₀.size)/\Bs κ a₀ st'/\∃ x,Runs ρ a₀ st' x a₀.size
 | .yield c',st'=>∃ lo,c'=(none,lo)/\Bs κ a₀ st'/\Runs ρ a₀ st' (x + 1) lo
theorem sortRuns_ {st:SortSt} {Q:Unit->SortSt->Prop} (T:Told prog w A s κ ρ a₀) (hB:Bs κ a₀ st) (hp:pendingOf st=#[]) (h2:2<=a₀.size) (h128:a₀.size < 128)
  (h:∀ st',(arrOf st').Perm a₀->failedOf st'=none->Up ρ (arrOf st') 0 a₀.size->Q () st'):wpS (model prog w) A E s sortRuns' Q st:=by
 have hmr:a₀.size<=2 * minRun' a₀.size a₀.size 0/\minRun' a₀.size a₀.size 0<=a₀.size/\1<=minRun' a₀.size a₀.size 0:=by
  by_cases c:a₀.size < 64
  ·rw [minRun_small (by lia) c];lia
  ·rw [minRun_big (by lia) h128];lia
 rw [sortRuns'_eq]
 refine wpS_bind (wpS_get ?_)
 dsimp -zeta only
 rw [hB.size]
 refine wpS_bind (wpS_mono (wpS_forRange (I:=fun x c st'=>∃ lo,c=(none,lo)/\Bs κ a₀ st'/\Runs ρ a₀ st' x lo)
  (Q:=fun c st'=>c=(none,a₀.size)/\Bs κ a₀ st'/\∃ x,Runs ρ a₀ st' x a₀.size) ?_ ?_ ?_) ?_)
 ·rintro x c st' _ hx ⟨lo,rfl,hB',r⟩
  refine wpS_mono (Q:=StepR κ ρ a₀ x) ?_ fun r st' hr=>by cases r <;> exact hr
  generalize hmrE:minRun' a₀.size a₀.size 0=mr at *
  cases r with
  | none hpe =>
   dsimp -zeta only
   extract_lets -merge -underBinder lo'
   show wpS _ _ _ _ (if 0 ≥ a₀.size then _ else _) _ _
   rw [if_neg (by lia)]
   refine wpS_bind (run_ (lo:=0) (m:=a₀.size - 0) T hB' (by lia) (by lia) fun k st2 b1 b2 b3 k1 k2 k3=>?_)
   dsimp -zeta only
   extract_lets -merge -underBinder n jp
   have hj:∀ n st',Bs κ a₀ st'->pendingOf st'=#[]->mr<=n->n<=a₀.size->Up ρ (arrOf st') 0 n->wpS (model prog w) A E s (jp () n) (StepR κ ρ a₀ 0) st':=by
    intro n st' hB' hpe n1 n2 u
    refine wpS_bind (wpS_get ?_)
    have hb:(pendingOf st').back? = none:=by rw [hpe];rfl
    extract_lets -merge -underBinder jp2
    rw [hb]
    refine wpS_bind (wpS_modify (wpS_pure ⟨_,rfl,⟨hB'.perm,hB'.kind,hB'.fine⟩,?_⟩))
    show Runs ρ a₀ _ (0 + 1) (0 + n)
    rw [Nat.zero_add n]
    exact .one n (by show (pendingOf st').push _=_;rw [hpe];rfl) (by lia) n2 (by lia) u
   clear_value jp
   by_cases c1:k < mr
   ·show wpS _ _ _ _ (if k < mr then _ else _) _ _
    rw [if_pos c1]
    refine wpS_bind (wpS_lift (wpAny_rule ⟨rfl,?_⟩))
    refine wpS_bind (ins_ (lo:=0) (n:=min (a₀.size - 0) mr) T b1 (by lia) (by lia) k3 fun st3 d1 d2 d3 d4=>?_)
    exact hj (min (a₀.size - 0) mr) st3 d1 (d3.trans (b3.trans hpe)) (by lia) (by lia) (by simpa using d4)
   ·show wpS _ _ _ _ (if k < mr then _ else _) _ _
    rw [if_neg c1]
    exact hj k st2 b1 (b3.trans hpe) (by lia) (by lia) (by simpa using k3)
  | one _ hpe h1 h2' hm u =>
   dsimp -zeta only
   extract_lets -merge -underBinder lo'
   by_cases c0:lo ≥ a₀.size
   ·show wpS _ _ _ _ (if lo ≥ a₀.size then _ else _) _ _
    rw [if_pos c0]
    obtain rfl:lo=a₀.size:=by lia
    exact wpS_pure ⟨rfl,hB',_,.one _ hpe h1 h2' (by lia) u⟩
   ·show wpS _ _ _ _ (if lo ≥ a₀.size then _ else _) _ _
    rw [if_neg c0]
    refine wpS_bind (run_ (lo:=lo) (m:=a₀.size - lo) T hB' (by lia) (by lia) fun k st2 b1 b2 b3 k1 k2 k3=>?_)
    dsimp -zeta only
    extract_lets -merge -underBinder n jp
    have hj:∀ n st',Bs κ a₀ st'->pendingOf st'=#[(0,lo,0)]->n=a₀.size - lo->Up ρ (arrOf st') 0 lo->Up ρ (arrOf st') lo a₀.size->wpS (model prog w) A E s (jp () n) (StepR κ ρ a₀ 1) st':=by
     intro n st' hB' hpe n1 u1 u2
     refine wpS_bind (wpS_get ?_)
     have hb:(pendingOf st').back? = some (0,lo,0):=by rw [hpe];rfl
     extract_lets -merge -underBinder jp2
     have hj2:∀ pw st',Bs κ a₀ st'->pendingOf st'=#[(0,lo,pw)]->Up ρ (arrOf st') 0 lo->Up ρ (arrOf st') lo a₀.size->wpS (model prog w) A E s (jp2 ()) (StepR κ ρ a₀ 1) st':=by
      intro pw st' hB' hpe u1 u2
      refine wpS_bind (wpS_modify (wpS_pure ⟨_,rfl,⟨hB'.perm,hB'.kind,hB'.fine⟩,?_⟩))
      show Runs ρ a₀ _ (1 + 1) (lo + n)
      rw [show lo + n=a₀.size by lia]
      exact .both lo pw _ (by show (pendingOf st').push _=_;rw [hpe,n1];rfl) h1 (by lia) u1 u2 (by lia)
     clear_value jp2
     rw [hb]
     dsimp -zeta only
     extract_lets -merge -underBinder pw
     refine wpS_bind (wpS_mono (wpS_forRange (I:=fun _ c st''=>st''=st'/\c=(none,())) (Q:=fun c st''=>st''=st'/\c=(none,())) ?_ (fun _ _ hh=>hh) ⟨rfl,rfl⟩) ?_)
     ·rintro x c st'' _ _ ⟨rfl,rfl⟩
      refine wpS_bind (wpS_get ?_)
      have hs:¬ (pendingOf st'').size > 1:=by rw [hpe];exact Nat.lt_irrefl 1
      dsimp only
      rw [if_neg hs]
      exact wpS_pure ⟨rfl,rfl⟩
     ·rintro c st'' ⟨rfl,rfl⟩
      refine wpS_bind (wpS_modify (hj2 pw _ ⟨hB'.perm,hB'.kind,hB'.fine⟩ ?_ u1 u2))
      have em:∀ f:Nat×Nat×Nat->Nat×Nat×Nat,(pendingOf st'').modify ((pendingOf st'').size - 1) f=#[f (0,lo,0)]:=fun f=>by rw [hpe];rfl
      exact em (fun x=>(x.1,x.2.1,pw))
    clear_value jp
    have uf:∀ {xs ys:Array Keyed},Up ρ xs 0 lo->Stays xs ys lo (lo + (a₀.size - lo))->Up ρ ys 0 lo:=fun q s i j q1 q2 q3=>by
     rw [R_of (ρ:=ρ) (s i (.inl (by lia))),R_of (ρ:=ρ) (s j (.inl q3))]
     exact q i j q1 q2 q3
    by_cases c1:k < mr
    ·show wpS _ _ _ _ (if k < mr then _ else _) _ _
     rw [if_pos c1]
     refine wpS_bind (wpS_lift (wpAny_rule ⟨rfl,?_⟩))
     have ef:min (a₀.size - lo) mr=a₀.size - lo:=by lia
     refine wpS_bind (ins_ (lo:=lo) (n:=min (a₀.size - lo) mr) T b1 (by lia) (by lia) k3 fun st3 d1 d2 d3 d4=>?_)
     rw [ef] at d2 d4
     rw [show lo + (a₀.size - lo)=a₀.size by lia] at d4
     exact hj (min (a₀.size - lo) mr) st3 d1 (d3.trans (b3.trans hpe)) ef (uf (uf u b2) d2) d4
    ·show wpS _ _ _ _ (if k < mr then _ else _) _ _
     rw [if_neg c1]
     obtain rfl:k=a₀.size - lo:=by lia
     rw [show lo + (a₀.size - lo)=a₀.size by lia] at k3
     exact hj (a₀.size - lo) st2 b1 (b3.trans hpe) rfl (uf u b2) k3
  | both n p _ hpe h1 h2' u u2 hx2 =>
   dsimp -zeta only
   extract_lets -merge -underBinder lo'
   show wpS _ _ _ _ (if a₀.size ≥ a₀.size then _ else _) _ _
   rw [if_pos (Nat.le_refl _)]
   exact wpS_pure ⟨rfl,hB',_,.both n p _ hpe h1 h2' u u2 hx2⟩
 ·rintro c st' ⟨lo,rfl,hB',r⟩
  rw [Nat.max_eq_right (Nat.zero_le _)] at r
  obtain ⟨y,hy⟩:∃ y,y=a₀.size:=⟨_,rfl⟩
  rw [← hy] at r
  cases r with
  | none _=>lia
  | one _ _ _ _ _ _=>lia
  | both n p _ hpe h1 h2' u u2 hx2=>exact ⟨rfl,hB',y,.both n p _ hpe h1 h2' u u2 hx2⟩
 ·exact ⟨0,rfl,hB,.none hp⟩
 ·rintro c st' ⟨rfl,hB',x,r⟩
  dsimp only
  refine wpS_bind (wpS_mono (wpS_forRange (I:=fun y c st'=>c=(none,())/\Bs κ a₀ st'/\((y=0/\Runs ρ a₀ st' x a₀.size)\/((pendingOf st').size<=1/\Up ρ (arrOf st') 0 a₀.size)))
   (Q:=fun c st'=>c=(none,())/\Bs κ a₀ st'/\Up ρ (arrOf st') 0 a₀.size) ?_ ?_ ⟨rfl,hB',.inl ⟨rfl,r⟩⟩) ?_)
  ·rintro y c st'' _ _ ⟨rfl,hB'',q⟩
   refine wpS_bind (wpS_get ?_)
   by_cases cs:(pendingOf st'').size<=1
   ·rw [if_pos cs]
    refine wpS_pure ⟨rfl,hB'',?_⟩
    rcases q with ⟨rfl,r'⟩ | ⟨_,u⟩
    ·generalize hz:a₀.size=z at r'
     cases r' with
     | none _=>lia
     | one _ hpe h1 h2' hm u=>exact u
     | both n p _ hpe h1 h2' u u2 hx2=>rw [hpe] at cs;exact absurd cs (by simp)
    ·exact u
   ·rw [if_neg cs]
    rcases q with ⟨rfl,r'⟩ | ⟨z,_⟩
    ·generalize hz:a₀.size=z at r'
     cases r' with
     | none hpe=>rw [hpe] at cs;exact absurd (Nat.zero_le 1) cs
     | one _ hpe h1 h2' hm u=>rw [hpe] at cs;exact absurd (Nat.le_refl 1) cs
     | both n p _ hpe h1 h2' u u2 hx2 =>
      have es:(pendingOf st'').size - 2=0:=by rw [hpe];rfl
      rw [es]
      rw [if_neg (show ¬ (Option.any _ (if 0 > 0 then _ else none))=true by rw [if_neg (Nat.lt_irrefl 0)];exact Bool.false_ne_true)]
      refine wpS_bind (mergeAt_ (n1:=n) (n2:=a₀.size - n) T hB'' hpe h1 (by lia) (by lia) u (by rw [show n + (a₀.size - n)=a₀.size by lia];exact u2) fun st3 d1 d2 d3=>?_)
      exact wpS_pure ⟨rfl,d1,.inr ⟨d2,d3⟩⟩
    ·exact absurd z cs
  ·rintro c st'' ⟨rfl,hB'',q⟩
   refine ⟨rfl,hB'',?_⟩
   rcases q with ⟨e,_⟩ | ⟨_,u⟩
   ·rw [Nat.max_eq_right (Nat.zero_le _)] at e;lia
   ·exact u
  ·rintro c st'' ⟨rfl,hB'',u⟩
   exact wpS_pure (h _ hB''.perm hB''.fine u)
end
section
variable {prog:Program} {w:World} {A:Around} {E:Value->Shared->Prop} {s:Shared} {κ:SortKind} {ρ:Keyed->Int}
def during (h:Heap) (a:Addr) (vs:List Value):Heap:=((h.update a (Obj.mapSeq fun _=>#[])).push (seqObj "tuple" vs.toArray 0)).push (seqObj "list" #[] 0)
theorem pairs_out {vs:List Value} {xs:Array Keyed} (hp:xs.Perm (pairsOf vs)) (hu:Up ρ xs 0 (pairsOf vs).size):(xs.map (·.2)).toList.Perm vs/\(xs.map (·.2)).toList.Pairwise fun x y=>ρ (x,x)<=ρ (y,y):=by
 have hl:xs.toList.Perm (vs.zip vs):=by rw [← pairsOf_toList];exact Array.perm_iff_toList_perm.mp hp
 have hm:∀ p,p∈xs.toList->p=(p.2,p.2):=fun p hq=>by
  have:=(mem_zip_self (hl.mem_iff.mp hq)).1
  exact Prod.ext this rfl
 constructor
 ·rw [Array.toList_map]
  have:=hl.map Prod.snd
  rwa [List.map_snd_zip (Nat.le_refl _)] at this
 ·rw [Array.toList_map,List.pairwise_map,List.pairwise_iff_getElem]
  intro i j hi hj hij
  have hi':i < xs.size:=by simpa using hi
  have hj':j < xs.size:=by simpa using hj
  have q:=hu i j (Nat.zero_le _) (Nat.le_of_lt hij) (by rw [← hp.size_eq];exact hj')
  rw [R_some (Array.getElem?_eq_getElem hi'),R_some (Array.getElem?_eq_getElem hj')] at q
  have e1:=hm _ (List.getElem_mem hi)
  have e2:=hm _ (List.getElem_mem hj)
  simp only [Array.getElem_toList] at e1 e2 ⊢
  rw [← e1,← e2]
  exact q
theorem list_sort_ {a:Addr} {vs:List Value} {n:Nat} {P:PySem.Fin->Shared->Prop} (ho:s.heap.get? a=some (seqObj "list" vs.toArray n)) (hlen:vs.length < 128)
  (hkind:2<=vs.length->∀ Q:SortKind->Shared->Prop,Q κ { s with heap:=during s.heap a vs }->wpAny (model prog w) A (keyKind' vs.toArray) Q E { s with heap:=during s.heap a vs })
  (T:Told prog w A { s with heap:=during s.heap a vs } κ ρ (pairsOf vs))
  (h:∀ out:Array Value,out.toList.Perm vs->out.toList.Pairwise (fun x y=>ρ (x,x)<=ρ (y,y))->P (.done (.ret .none)) { s with heap:=sortedHeap s.heap a vs out }) :
  wpAny (model prog w) A (Builtin.«list.sort» ⟨[.ref a],[]⟩) P E s:=by
 have hz:=sizeLine_eq
 rw [list_sort_plain]
 have ha:a < s.heap.objs.size:=Heap.lt_size ho
 refine wpAny_bind (listItems_at ho rfl (wpAny_bind (listUpdate_at ho rfl ?_ (by rw [List.size_toArray];lia) (Nat.zero_le _))))
 obtain ⟨e1,ho1⟩:∃ e1,(s.heap.update a (Obj.mapSeq fun _=>#[])).get? a=some (seqObj "list" #[] e1):=⟨_,get?_update_seq ho (fun _=>#[])⟩
 refine wpAny_bind (seqEpoch_at ho1 rfl (wpAny_bind (wpAny_newTuple (wpAny_bind (wpAny_newList (wpAny_holding ?_) (Nat.zero_le _))) (by show vs.length<=_;lia))))
 have ho6:(during s.heap a vs).get? a=some (seqObj "list" #[] e1):=by
  unfold during
  rw [Heap.get?_push_ne _ _ _ (show a≠_ by rw [size_push',Heap.size_update];exact Nat.ne_of_lt (Nat.lt_succ_of_lt ha)),Heap.get?_push_ne _ _ _ (show a≠_ by rw [Heap.size_update];exact Nat.ne_of_lt ha)]
  exact ho1
 show wpAny (model prog w) A _ P E { s with heap:=during s.heap a vs }
 have fin:∀ st':SortSt,(arrOf st').Perm (pairsOf vs)->Up ρ (arrOf st') 0 (pairsOf vs).size->P (.done (.ret .none)) { s with heap:=sortedHeap s.heap a vs ((arrOf st').map (·.2)) }:=fun st' hp hs=>by
  obtain ⟨q1,q2⟩:=pairs_out hp hs
  exact h _ q1 q2
 have hsz:vs.toArray.size=vs.length:=List.size_toArray
 by_cases h2:vs.toArray.size < 2
 ·rw [if_pos h2,if_pos h2]
  refine wpAny_bind (wpAny_pure ?_)
  dsimp only
  rw [StateT.run_pure]
  refine wpAny_bind (wpAny_pure ?_)
  dsimp only
  refine wpAny_bind (seqEpoch_at ho6 rfl (wpAny_bind (listUpdate_at ho6 rfl ?_ (Nat.zero_le _) (by rw [Array.size_map];show (pairsOf vs).size<=_;rw [pairsOf_size];lia))))
  simp only [bne_self_eq_false,Bool.false_eq_true,if_false]
  refine wpAny_pure (fin (SortSt.mk' general' (vs.toArray.zip vs.toArray) #[] 7 none) (Array.Perm.refl _) fun i j _ q2 q3=>?_)
  rw [pairsOf_size] at q3
  rw [show i=j by lia]
  exact Int.le_refl _
 ·rw [if_neg h2,if_neg h2]
  refine wpAny_bind (hkind (by lia) _ ?_)
  refine wpAny_bind (wpAny_mono (sortRuns_ (E:=E) (st:=SortSt.mk' κ (vs.toArray.zip vs.toArray) #[] 7 none) (Q:=fun _ st'=>(arrOf st').Perm (pairsOf vs)/\failedOf st'=none/\Up ρ (arrOf st') 0 (pairsOf vs).size) T ⟨Array.Perm.refl _,rfl,rfl⟩ rfl
   (by rw [pairsOf_size];lia) (by rw [pairsOf_size];exact hlen) fun st' b1 b2 b3=>⟨b1,b2,b3⟩) ?_ fun _ _ e=>e)
  rintro ⟨⟨⟩,st'⟩ s' ⟨rfl,hp,hf,hs⟩
  dsimp only
  refine wpAny_bind (seqEpoch_at ho6 rfl (wpAny_bind (listUpdate_at ho6 rfl ?_ (Nat.zero_le _) (by have e:=hp.size_eq;rw [pairsOf_size] at e;refine Nat.le_trans (Nat.le_of_eq ((Array.size_map ..).trans e)) ?_;lia))))
  rw [hf]
  simp only [bne_self_eq_false,Bool.false_eq_true,if_false]
  exact wpAny_pure (fin st' hp hs)
def gathered (h:Heap) (vs:List Value):Heap:=((h.push (seqObj "list" #[] 0)).update h.objs.size (Obj.mapSeq (·++vs.toArray))).push (seqObj "list" vs.toArray 0)
theorem sorted_ {l:Addr} {vs:List Value} {Q:Value->Shared->Prop} (hcol:∀ {A:Around} {Q:List Value->Shared->Prop},Q vs { s with heap:=(s.heap.push (seqObj "list" #[] 0)).update s.heap.objs.size (Obj.mapSeq (·++vs.toArray)) }->wpAny (model prog w) A (collect (.ref l)) Q E s) (hlen:vs.length < 128)
  (hkind:2<=vs.length->∀ Q:SortKind->Shared->Prop,Q κ { s with heap:=during (gathered s.heap vs) (s.heap.objs.size + 1) vs }->wpAny (model prog w) A.in1.in1 (keyKind' vs.toArray) Q E { s with heap:=during (gathered s.heap vs) (s.heap.objs.size + 1) vs })
  (T:Told prog w A.in1.in1 { s with heap:=during (gathered s.heap vs) (s.heap.objs.size + 1) vs } κ ρ (pairsOf vs))
  (h:∀ out:Array Value,out.toList.Perm vs->out.toList.Pairwise (fun x y=>ρ (x,x)<=ρ (y,y))->Q (.ref (s.heap.objs.size + 1)) { s with heap:=sortedAll s.heap vs out }) :
  wpAny (model prog w) A (call (.builtin "sorted") [.ref l]) Q E s:=by
 have hz:=sizeLine_eq
 refine Calls.call_function_entry kind_sorted plain_sorted entry_sorted (args_sorted1 _) ?_
 unfold Builtin.«sorted»
 refine wpAny_bind (m:=checkCount "sorted" 1 1 _) (wpAny_pure ?_)
 refine wpAny_bind (hcol (wpAny_bind (wpAny_newList ?_ (by lia))))
 have hsz:((s.heap.push (seqObj "list" #[] 0)).update s.heap.objs.size (Obj.mapSeq (·++vs.toArray))).objs.size=s.heap.objs.size + 1:=by
  rw [Heap.size_update,size_push']
 have hoL:(gathered s.heap vs).get? (s.heap.objs.size + 1)=some (seqObj "list" vs.toArray 0):=by
  unfold gathered
  rw [← hsz];exact Heap.get?_push_size _ rfl
 show wpAny _ _ _ _ _ { s with heap:=gathered s.heap vs }
 rw [hsz]
 refine wpAny_bind (wpAny_holding (wpAny_call_entry slot_list_sort ⟨_,hoL,rfl⟩ entry_list_sort (list_sort_ hoL hlen hkind T fun out b1 b2=>⟨_,rfl,?_⟩) (args_list_sort _)))
 exact wpAny_pure ⟨_,rfl,h out b1 b2⟩
end
end Tim
namespace DL
open PySem PySem.Spec PyProof.Rows L2
section
variable {X:Cx} {E:XK} {m:Md} {a b e o i:Expr} {fa fb fe fo fi:Fn} {pos p:Pos} {fr:Bool} {x:Str}
end
end DL
namespace DL
open PySem PySem.Spec PyProof.Rows L2
section
variable {X:Cx} {E:XK} {tg:Expr} {e:Expr} {fl:Fn} {F:Sm} {fr:Bool} {p pos rp:Pos}
end
end DL
namespace DL
open PySem PySem.Spec PyProof.Rows L2
section
variable {prog:Program} {w:World} {A:Around} {E:Value->Shared->Prop} {s:Shared} {I l S:Addr} {items:Array Value}
end
end DL
namespace DL
open PySem PySem.Spec PyProof.Rows L2
section
variable {X:Cx} {E:XK} {m:Md} {e:Expr} {fe:Fn} {p p2 pos pos2:Pos}
end
end DL
namespace DL
open PySem PySem.Spec PyProof.Rows L2
section
variable {X:Cx} {E:XK} {e:Expr} {fe:Fn} {fr:Bool} {x:Str} {pos:Pos}
end
end DL
namespace DL
open PySem PySem.Spec PyProof.Rows L2
section
variable {X:Cx} {E:XK} {m:Md} {e:Expr} {fe:Fn} {pos:Pos}
end
end DL
namespace DL
open PySem PySem.Spec PyProof.Rows L2
section
variable {X:Cx} {E:XK} {e:Expr} {fe:Fn} {fr:Bool} {x:Str} {p pos pos':Pos} {op:Operator} {g:D->D->Ou D}
def gAddI:D->D->Ou D
 | .int i,.int j=>.ok (.int (i + j))
 | _,_=>.bad
def gSubI:D->D->Ou D
 | .int i,.int j=>.ok (.int (i - j))
 | _,_=>.bad
def gTupOf:D->Ou D
 | .lst ds=>.ok (.tup ds)
 | .frl ds=>.ok (.tup ds)
 | .tup ds=>.ok (.tup ds)
 | _=>.bad
theorem xtupOf (hm:X.mg "tuple" = none) (ha:PE X e (tX X.K E .S fe)) (hg:Gl X "tuple":=by rfl) (he:starEach [e] X.env=(false,eval e X.env)::starEach [] X.env:=by rfl) (hpl:(backTo pos (starEach ([]:List Expr) X.env)).any (·.1)=false:=by rfl) :
  PE X (.Call (.Name "tuple" p) [e] [] pos) (tX X.K E .S (f1 gTupOf fe)) :=
 (pe_callTy call_tuple_of hg hm (by decide +kernel) (pa_cons ha pa_nil he) (by decide) (by decide) he hpl).imp fun σ H Q q=>by
 obtain ⟨c,δ,hK,ab,q⟩:=q
 refine ⟨c,δ,hK,ab,(Res.bind q).imp fun d _ k v H1 e1 r1=>?_⟩
 have r1':Rep c.K (Av c σ δ) H1 d v:=r1
 have fin:∀ {ds:List D} {xs:List V} (l:Addr),H1 l=none->Reps c.K (Av c σ δ) H1 ds xs->Post c σ δ H .S (.tup ds) (.ref l) (upd H1 l (.tup xs)):=fun l hl h2=>by
  show Rep c.K (Av c σ δ) _ _ _
  simp only [Rep]
  exact ⟨l,_,rfl,.inl (.inl upd_same),h2.same (same_new hl _)⟩
 cases d <;> first | exact k.elim | skip
 ·have r2:=r1'
  simp only [Rep] at r2
  obtain ⟨a,xs,rfl,h1,h2⟩:=r2
  exact ⟨a,xs,rfl,.inr ⟨by rw [← hK];exact h1,k (.ref a) H1 e1 r1'⟩⟩
 ·simp only [Rep] at r1'
  obtain ⟨a,xs,rfl,_,h1,h2⟩:=r1'
  exact ⟨a,xs,rfl,.inl ⟨.of h1,fun l hl=>k (.ref l) _ (e1.trans (same_new hl _)) (fin l hl h2)⟩⟩
 ·simp only [Rep] at r1'
  obtain ⟨a,xs,rfl,h1,h2⟩:=r1'
  exact ⟨a,xs,rfl,.inl ⟨by rw [← hK];exact h1.sq,fun l hl=>k (.ref l) _ (e1.trans (same_new hl _)) (fin l hl h2)⟩⟩
end
end DL
namespace DL
open PySem PySem.Spec PyProof.Rows L2
section
variable {X:Cx} {E:XK} {e:Expr} {fe:Fn} {p p2 pos pos2:Pos}
end
end DL
namespace DL
open PySem PySem.Spec PyProof.Rows L2
section
variable {X:Cx} {E:XK} {fr:Bool} {x:Str} {pos:Pos}
end
end DL
namespace DL
open PySem PySem.Spec PyProof.Rows L2
section
variable {X:Cx}
def eqsD (x:D):List D->Option (List Bool)
 | []=>some []
 | d::ds=>(eqD 60 d x).bind fun b=>(eqsD x ds).bind fun bs=>some (b::bs)
def gInD (neg:Bool) (x y:D):Ou D:=if rk y=1\/rk y=2 then (match eqsD x (its y) with
 | some bs=>.ok (.bl (if neg then !bs.any id else bs.any id))
 | none=>.bad) else .bad
inductive EqRow (A:Around) (s:Shared) (v:Value):List Value->List Bool->Prop
 | nil:EqRow A s v [] []
 | cons {u:Value} {b:Bool} {us:List Value} {bs:List Bool}:SeqAt.EqAt A s u v b->EqRow A s v us bs->EqRow A s v (u::us) (b::bs)
theorem EqRow.fn {A:Around} {s:Shared} {v:Value} {us:List Value} {bs:List Bool} (h:EqRow A s v us bs):∃ f:Value->Bool,(∀ u∈us,SeqAt.EqAt A s u v (f u))/\us.any f=bs.any id:=by
 classical
 refine ⟨fun u=>decide (∃ j:Nat,us[j]? = some u/\bs[j]? = some true),?_,?_⟩
 ·intro u hu
  show SeqAt.EqAt A s u v (decide (∃ j:Nat,us[j]? = some u/\bs[j]? = some true))
  by_cases hc:∃ j:Nat,us[j]? = some u/\bs[j]? = some true
  ·rw [decide_eq_true hc]
   obtain ⟨j,h1,h2⟩:=hc
   induction h generalizing j with
   | nil=>simp at h1
   | cons e t ih =>
    cases j with
    | zero=>simp at h1 h2;subst h1;subst h2;exact e
    | succ j =>
     refine ih ?_ j (by simpa using h1) (by simpa using h2)
     exact List.mem_of_getElem? (by simpa using h1)
  ·rw [decide_eq_false hc]
   obtain ⟨j,hj⟩:=List.getElem?_of_mem hu
   have hf:∀ j:Nat,us[j]? = some u->bs[j]?≠some true:=fun j h1 h2=>hc ⟨j,h1,h2⟩
   clear hc
   induction h generalizing j with
   | nil=>simp at hj
   | @cons u0 b us bs e t ih =>
    cases j with
    | zero =>
     simp at hj
     subst hj
     have:=hf 0 rfl
     have hb:b=false:=by
      cases b with
      | false=>rfl
      | true=>exact absurd rfl this
     subst hb
     exact e
    | succ j =>
     have hj':us[j]? = some u:=by simpa using hj
     exact ih (List.mem_of_getElem? hj') j hj' fun i h1=>by
      have:=hf (i + 1) (by simpa using h1)
      simpa using this
 ·rw [Bool.eq_iff_iff]
  simp only [List.any_eq_true,decide_eq_true_eq,id]
  constructor
  ·rintro ⟨u,_,j,_,h2⟩
   exact ⟨true,List.mem_of_getElem? h2,rfl⟩
  ·rintro ⟨b,hb,rfl⟩
   obtain ⟨j,hj⟩:=List.getElem?_of_mem hb
   have hl:us.length=bs.length:=by
    clear hb hj
    induction h with
    | nil=>rfl
    | cons _ _ ih=>simp [ih]
   have hj2:j < us.length:=by
    have:=(List.getElem?_eq_some_iff.mp hj).1
    lia
   exact ⟨us[j],List.getElem_mem hj2,j,List.getElem?_eq_getElem hj2,hj⟩
def rInD (K:PySem.W.Frag) (neg:Bool):R2:=fun x y H Q=>∃ (B:Addr->Prop) (dx:D) (ds:List D) (bs:List Bool) (p:Addr) (xs:List V),y=.ref p/\(SqL K H p xs\/SqT K H p xs)/\Rep K B H dx x/\Reps K B H ds xs/\eqsD dx ds=some bs/\Q (.bl (if neg then !bs.any id else bs.any id)) H
theorem eqRow_of {pins:List (Addr×Obj)} {σ:St} {H:Hp} {s:Shared} {B:Addr->Prop} {A:Around} (I:Inv X pins σ H s) (hu:A.units + 61 < cLine) {dx:D} {x:V} {v:Value} (rx:Rep X.K B H dx x) (rv:L2.RelV x v) :
  ∀ (ds:List D) (xs:List V) (us:List Value) (bs:List Bool),Reps X.K B H ds xs->Vals xs us->eqsD dx ds=some bs->EqRow A s v us bs
 | [],xs,us,bs,h1,h2,h3=>by
  simp only [Reps] at h1
  subst h1
  cases h2
  simp only [eqsD,Option.some.injEq] at h3
  subst h3
  exact .nil
 | d::ds,xs,us,bs,h1,h2,h3=>by
  simp only [Reps] at h1
  obtain ⟨y,r,rfl,g1,g2⟩:=h1
  cases h2 with
  | cons ru t =>
   simp only [eqsD] at h3
   cases e:eqD 60 d dx with
   | none=>rw [e] at h3;cases h3
   | some b =>
    rw [e] at h3
    cases e2:eqsD dx ds with
    | none=>rw [e2] at h3;cases h3
    | some bs' =>
     rw [e2] at h3
     cases h3
     exact .cons (eq_at I 60 A d dx _ _ _ _ b (by lia) g1 rx ru rv e).eq (eqRow_of I hu rx rv ds _ _ _ g2 t e2)
end
end DL
namespace DL
open PySem PySem.Spec PyProof.Rows L2
section
variable {X:Cx} {E:XK} {pos p2:Pos}
end
end DL
namespace DL
open PySem PySem.Spec PyProof.Rows L2
section
variable {X:Cx} {E:XK} {a b:Expr} {fa fb:Fn} {pos:Pos}
end
end DL
namespace DL
open PySem PySem.Spec PyProof.Rows L2
section
variable {X:Cx}
end
end DL
namespace DL
open PySem PySem.Spec PyProof.Rows L2
section
variable {X:Cx}
def cMulB (i j:Int):Bool:=decide (i.natAbs < 2 ^ 2000/\j.natAbs < 2 ^ 2000)
def gMulB:=gI cMulB fun i j=>.int (i * j)
end
end DL
namespace DL
open PySem PySem.Spec PyProof.Rows L2
def slW:Option Sl->Sl
 | some (.val d)=>.val d
 | some (.own d)=>.val d
 | _=>.un
def compN (gc:DS->Ou Bool) (fe:Fn) (γ ε:DS):List D->Ou (List D)
 | []=>.ok []
 | x::xs=>(gc (.val x::γ)).bind fun b=>if b=true then (fe (.val x::ε)).bind fun y=>(compN gc fe γ ε xs).bind fun ys=>.ok (y::ys) else compN gc fe γ ε xs
def fCompN (fi:DS->Ou (List D)) (gc:DS->Ou Bool) (fe:Fn) (ix:List Nat):Fn:=fun δ=>(fi δ).bind fun ds=>if ds.length<=sizeLine then (compN gc fe (ix.map fun i=>slW δ[i]?) (ix.map fun i=>slIn δ[i]?) ds).bind fun ys=>.ok (.lst ys) else .bad
section
variable {c:Cn} {σ:St} {δ:DS} {H1 H':Hp}
theorem Abs.ask {ix:List Nat} {d:D} {x:V} (a:Abs c σ δ H1) (e:Same H1 H') (r:Rep c.K (Av c σ δ) H1 d x) :
  Abs { K:=c.K,B:=fun _=>True,H₀:=H1,G:=[] } (some x::ix.map fun i=>(σ[i]?).join) (.val d::ix.map fun i=>slW δ[i]?) H':=by
 have no:∀ (i:Nat) (z:D),(Sl.val d::ix.map fun i=>slW δ[i]?)[i]? = some (Sl.own z)->False:=fun i z h=>by
  cases i with
  | zero=>cases h
  | succ i =>
   rw [List.getElem?_cons_succ,List.getElem?_map] at h
   cases e:ix[i]? with
   | none=>rw [e] at h;cases h
   | some j =>
    rw [e] at h
    have h':slW δ[j]? = Sl.own z:=Option.some.inj h
    unfold slW at h'
    split at h' <;> cases h'
 have nown:∀ q,¬ Own (some x::ix.map fun i=>(σ[i]?).join) (.val d::ix.map fun i=>slW δ[i]?) q:=fun q ⟨i,z,h,_⟩=>no i z h
 refine ⟨e,fun _ _=>trivial,by simp,fun i d' h=>?_,fun i z h=>(no i z h).elim,fun d v h=>(nomatch h),fun i j di dj q h=>(no i di h).elim⟩
 cases i with
 | zero =>
  have hd:d=d':=by cases h;rfl
  subst hd
  exact ⟨x,rfl,(r.same e).weak fun q _=>⟨trivial,nown q⟩⟩
 | succ i =>
  rw [List.getElem?_cons_succ,List.getElem?_map] at h
  cases ej:ix[i]? with
  | none=>rw [ej] at h;cases h
  | some j =>
   rw [ej] at h
   have h':slW δ[j]? = Sl.val d':=Option.some.inj h
   have key:∃ v,σ[j]? = some (some v)/\Rep c.K c.B H1 d' v:=by
    unfold slW at h'
    split at h'
    ·rename_i z hz
     cases h'
     obtain ⟨v,z1,z2⟩:=a.val j d' hz
     exact ⟨v,z1,z2.weak fun _ w=>w.1⟩
    ·rename_i z hz
     cases h'
     obtain ⟨p,o,z1,z2,z3,z4⟩:=a.own j d' hz
     exact ⟨.ref p,z1,(z4.weak fun _ w=>w.1).rep z2 z3.2⟩
    ·cases h'
   obtain ⟨v,z1,z2⟩:=key
   refine ⟨v,?_,(z2.same e).weak fun q _=>⟨trivial,nown q⟩⟩
   rw [List.getElem?_cons_succ,List.getElem?_map,ej]
   show some ((σ[j]?).join)=_
   rw [z1];rfl
theorem Abs.tell {ix:List Nat} {d:D} {x:V} {p:Addr} {ys:HO} (a:Abs c σ δ H1) (e:Same H1 H') (hp:H1 p=none) (hp':H' p=some ys) (r:Rep c.K (Av c σ δ) H1 d x) :
  Abs { K:=c.K,B:=fun q=>Av c σ δ q/\q≠p,H₀:=H1,G:=[] } (some x::ix.map fun i=>(σ[i]?).join) (.val d::ix.map fun i=>slIn δ[i]?) H':=by
 have no:∀ (i:Nat) (z:D),(Sl.val d::ix.map fun i=>slIn δ[i]?)[i]? = some (Sl.own z)->False:=fun i z h=>by
  cases i with
  | zero=>cases h
  | succ i =>
   rw [List.getElem?_cons_succ,List.getElem?_map] at h
   cases e:ix[i]? with
   | none=>rw [e] at h;cases h
   | some j =>
    rw [e] at h
    have h':slIn δ[j]? = Sl.own z:=Option.some.inj h
    unfold slIn at h'
    split at h' <;> cases h'
 have nown:∀ q,¬ Own (some x::ix.map fun i=>(σ[i]?).join) (.val d::ix.map fun i=>slIn δ[i]?) q:=fun q ⟨i,z,h,_⟩=>no i z h
 have up:∀ {d':D} {v:V},Rep c.K (Av c σ δ) H1 d' v->Rep c.K (fun q=>(Av c σ δ q/\q≠p)/\¬ Own (some x::ix.map fun i=>(σ[i]?).join) (.val d::ix.map fun i=>slIn δ[i]?) q) H' d' v:=fun {d' v} r=>Rep.mono (fun q o w1 w2=>⟨⟨w1,ne_of_none w2 hp⟩,nown q⟩) (.of_same e) d' v r
 refine ⟨e,fun b hb=>⟨a.av_new (e.free hb),fun z=>by subst z;rw [hp'] at hb;cases hb⟩,by simp,fun i d' h=>?_,fun i z h=>(no i z h).elim,fun d v h=>(nomatch h),fun i j di dj q h=>(no i di h).elim⟩
 cases i with
 | zero =>
  have hd:d=d':=by cases h;rfl
  subst hd
  exact ⟨x,rfl,up r⟩
 | succ i =>
  rw [List.getElem?_cons_succ,List.getElem?_map] at h
  cases ej:ix[i]? with
  | none=>rw [ej] at h;cases h
  | some j =>
   rw [ej] at h
   have h':slIn δ[j]? = Sl.val d':=Option.some.inj h
   have hj:δ[j]? = some (Sl.val d'):=by
    unfold slIn at h'
    split at h'
    ·cases h';assumption
    ·cases h'
   obtain ⟨v,z1,z2⟩:=a.val j d' hj
   refine ⟨v,?_,up z2⟩
   rw [List.getElem?_cons_succ,List.getElem?_map,ej]
   show some ((σ[j]?).join)=_
   rw [z1];rfl
theorem comp_coreN {K:PySem.W.Frag} {J:It} {ds:List DL.D} {gc:DS->Ou Bool} {fe:Fn} {ix:List Nat} {Q:VK} (hK:c.K=K) (ab:Abs c σ δ H1) (src:SrcI J c.K (Av c σ δ) H1 ds) (hl:ds.length<=sizeLine)
  (kq:Res K E0 c.H₀ (compN gc fe (ix.map fun i=>slW δ[i]?) (ix.map fun i=>slIn δ[i]?) ds) fun es=>∀ D xs H',H1 D=none->Same H1 H'->H' D=some (.lst xs)->Reps c.K (fun a=>Av c σ δ a/\a≠D) H' es xs->Q (.ref D) H') :
  ∀ D,H1 D=none->∃ W:Nat->Nat->St->List V->Hp->Prop,(∃ m,W 0 m (σin 1 ix σ) [] (upd H1 D (.lst []))) /\
   ∀ i m σ ys H,W i m σ ys H->H D=some (.lst ys)/\((J.stop i H/\Q (.ref D) H)\/(J.go i H/\ys.length < sizeLine/\∃ N:St->List V->Hp->Prop,(∀ σ' ys' H',N σ' ys' H'->∃ m',m' < m/\W (i + 1) m' σ' ys' H') /\
    ∀ x H',J.yld i H x H'->gName 0 x σ H' fun σ2 H2=>tT K E0 gc σ2 H2 fun b H3=>if b=true then tX K E0 .S fe σ2 H3 fun y H4=>H4 D=some (.lst ys)/\N σ2 (ys++[y]) (upd H4 D (.lst (ys++[y]))) else N σ2 ys H3)):=by
 intro D hD
 have kt:=kq
 generalize hγ:(ix.map fun i=>slW δ[i]?)=γ at kq
 generalize hε:(ix.map fun i=>slIn δ[i]?)=ε at kq
 let B':Addr->Prop:=fun q=>Av c σ δ q/\q≠D
 refine ⟨fun i m σ' ys H'=>(∃ s0,σ'=s0::ix.map fun j=>(σ[j]?).join)/\Same H1 H'/\H' D=some (.lst ys)/\∃ es,Reps c.K B' H' es ys/\m=ds.length - i/\i<=ds.length/\es.length<=i /\
  Res K E0 c.H₀ (compN gc fe γ ε (ds.drop i)) fun rest=>∀ xs H'',Same H1 H''->H'' D=some (.lst xs)->Reps c.K B' H'' (es++rest) xs->Q (.ref D) H'',
  ⟨ds.length,⟨none,rfl⟩,same_new hD _,upd_same,[],by simp [Reps],by simp,Nat.zero_le _,Nat.zero_le _,?_⟩,?_⟩
 ·exact kq.imp fun es _ z xs H'' e1 e2 e3=>z D xs H'' hD e1 e2 e3
 ·rintro i m σ' ys H' ⟨⟨s0,rfl⟩,hsm,hDy,es,hr,rfl,hi,hes,q⟩
  refine ⟨hDy,?_⟩
  by_cases hlt:i < ds.length
  ·refine .inr ⟨src.go i H' hsm hlt,?_,fun σ' ys' H'=>(∃ s0,σ'=s0::ix.map fun j=>(σ[j]?).join)/\Same H1 H'/\H' D=some (.lst ys')/\∃ es,Reps c.K B' H' es ys'/\ds.length - (i + 1)=ds.length - (i + 1)/\i + 1<=ds.length/\es.length<=i + 1 /\
    Res K E0 c.H₀ (compN gc fe γ ε (ds.drop (i + 1))) fun rest=>∀ xs H'',Same H1 H''->H'' D=some (.lst xs)->Reps c.K B' H'' (es++rest) xs->Q (.ref D) H'',fun σ' ys' H' n=>⟨ds.length - (i + 1),by lia,n⟩,fun x H2 y=>?_⟩
   ·have:=hr.length;lia
   have hd:ds[i]? = some ds[i]:=by simp [hlt]
   obtain ⟨rfl,rx⟩:=src.yld i H' x H2 _ hsm hd y
   rw [List.drop_eq_getElem_cons hlt] at q
   have A1:=ab.ask (ix:=ix) hsm rx
   rw [hγ] at A1
   refine ⟨{ K:=c.K,B:=fun _=>True,H₀:=H1,G:=[] },.val ds[i]::γ,hK,A1,(wish_mono (Res.bind q) ab.same).imp fun b _ k3 H4 e4=>?_⟩
   cases b with
   | false=>exact ⟨⟨_,rfl⟩,hsm.trans e4,e4 _ _ hDy,es,hr.same e4,rfl,hlt,by lia,k3⟩
   | true =>
    have hD4:=e4 _ _ hDy
    have A2:=ab.tell (ix:=ix) (hsm.trans e4) hD hD4 rx
    rw [hε] at A2
    have k3':Res K E0 c.H₀ ((fe (.val ds[i]::ε)).bind fun y=>(compN gc fe γ ε (ds.drop (i + 1))).bind fun ys=>.ok (y::ys)) _:=k3
    refine ⟨{ K:=c.K,B:=fun q=>Av c σ δ q/\q≠D,H₀:=H1,G:=[] },.val ds[i]::ε,hK,A2,(wish_mono (Res.bind k3') ab.same).imp fun dy _ k4 y H5 e5 r5=>?_⟩
    have hD5:=e5 _ _ hD4
    have r5':Rep c.K B' H5 dy y:=Rep.weak (show Rep c.K (Av _ _ _) H5 dy y from r5) fun a z=>z.1
    have st:Stay c.K B' H5 (upd H5 D (.lst (ys++[y]))):=⟨fun q ys z=>by
      rcases z with (z | ⟨o,z⟩) | z
      ·exact .inl (.inl (by rw [upd_ne (ne_of z hD5 (by intro w;cases w))];exact z))
      ·exact .inl (.inr ⟨o,by rw [upd_ne (ne_of z hD5 (by intro w;cases w))];exact z⟩)
      ·exact .inr z,fun q ys z=>by
      rcases z with ⟨o,z⟩ | z
      ·exact .inl ⟨o,by rw [upd_ne (ne_of z hD5 (by intro w;cases w))];exact z⟩
      ·exact .inr z,fun q o z w=>by rw [upd_ne z.2];exact w⟩
    have sm5:Same H1 (upd H5 D (.lst (ys++[y]))):=fun q o w=>by
     rw [upd_ne (ne_of_none w hD)]
     exact e5 _ _ (e4 _ _ (hsm _ _ w))
    refine ⟨hD5,⟨_,rfl⟩,sm5,upd_same,es++[dy],Reps.mono (fun _ _ w _=>w) st _ _ (Reps.append ((hr.same e4).same e5) (Reps.one r5')),rfl,hlt,by simp;lia,(Res.bind k4).imp fun rest _ k5 xs H'' s1 s2 s3=>k5 xs H'' s1 s2 ?_⟩
    rw [List.append_assoc] at s3
    exact s3
  ·have e:i=ds.length:=by lia
   subst e
   rw [List.drop_length] at q
   exact .inl ⟨src.stop H' hsm,q ys H' hsm hDy (by rw [List.append_nil];exact hr)⟩
end
section
variable {X:Cx} {iter elt tg:Expr} {ifs:List Expr} {scope:Scope} {N':List Str} {ix:List Nat} {pos:Pos} {gc:DS->Ou Bool} {fe fl:Fn}
theorem comp_readN {wi:TI} {fi:DS->Ou (List D)} {σ:St} {H:Hp} {Q:VK} (q:tX X.K E0 .F (fCompN fi gc fe ix) σ H Q)
  (hw:∀ (c:Cn) (δ:DS) (R:It->Hp->Prop),c.K=X.K->Abs c σ δ H->Res X.K E0 c.H₀ (fi δ) (fun ds=>∀ J H1,Same H H1->SrcI J c.K (Av c σ δ) H1 ds->R J H1)->wi σ H R) :
  tComp wi (gName 0) (tT X.K E0 gc) (tX X.K E0 .S fe) 1 ix σ H Q:=by
 obtain ⟨c,δ,hK,ab,q⟩:=q
 refine hw c δ _ hK ab ((Res.bind q).imp fun ds _ kq J H1 e1 src=>?_)
 by_cases hl:ds.length<=sizeLine
 ·rw [if_pos hl] at kq
  refine comp_coreN hK (ab.grow e1) src hl ((Res.bind kq).imp fun es _ z D xs H' hD e2 h1 h2=>z (.ref D) H' (e1.trans e2) ⟨D,_,rfl,e1.free hD,h1,xs,rfl,h2⟩)
 ·rw [if_neg hl] at kq
  exact kq.elim
theorem xcompN (S:CNames X scope N' 1 ix) (hi:PE X iter (tX X.K E0 .S fl))
  (hb:∀ C s2 H2 fp pins,PG (blk X N' scope C s2 H2 fp pins) tg (gName 0)/\PCs (blk X N' scope C s2 H2 fp pins) ifs (tT X.K E0 gc)/\PE (blk X N' scope C s2 H2 fp pins) elt (tX X.K E0 .S fe))
  (hc:X.calm=true:=by rfl) (hs:∀ x,foldedSetIterable iter X.env x=pure x:=by intro _;rfl):CompR X (.ListComp elt [⟨tg,iter,ifs,0⟩] scope pos) (tX X.K E0 .F (fCompN (fItems fl) gc fe ix)) :=
 (comp_r hc S (pi_list hi) hb hs).imp fun σ H Q q=>comp_readN q fun c δ R hK ab kq=>by
  refine ⟨c,δ,hK,ab,(Res.bind kq).imp fun d _ z v H1 e1 r1=>?_⟩
  have r1':Rep c.K (Av c σ δ) H1 d v:=r1
  cases d <;> first | exact z.elim | skip
  ·simp only [Rep] at r1'
   obtain ⟨p,xs,rfl,_,h1,h2⟩:=r1'
   exact ⟨p,rfl,⟨xs,by rw [← hK];exact .of h1⟩,by rw [← hK];exact z _ H1 e1 (srcL (.of h1) h2)⟩
  ·simp only [Rep] at r1'
   obtain ⟨p,xs,rfl,h1,h2⟩:=r1'
   exact ⟨p,rfl,⟨xs,by rw [← hK];exact h1.sq⟩,by rw [← hK];exact z _ H1 e1 (srcL h1.sq h2)⟩
theorem xg0 {x:Str} (hN:X.N.Nodup) (hi:X.N[0]? = some x:=by rfl) (hx:Loc X.env.scope x:=by first | exact Or.inl rfl | exact Or.inr rfl) (hf:X.fn x=true\/X.env.scope.names.lookup x=some .local:=by first | exact .inl rfl | exact .inr rfl):PG X (.Name x pos) (gName 0):=pg_name hN hi hx hf
end
end DL
namespace DL
open PySem PySem.Spec PyProof.Rows L2
section
variable {X:Cx} {E:XK} {p pos:Pos}
end
end DL
namespace DL
open PySem PySem.Spec PyProof.Rows L2
section
variable {X:Cx} {E:XK} {pos p2:Pos}
end
section
open HT
variable {prog:Program} {w:World} {A:Around} {E:Value->Shared->Prop} {s:Shared}
end
section
variable {X:Cx} {E:XK} {pos p2:Pos} {e:Expr} {fe:Fn} {m:Md}
end
end DL
namespace Tim
open PySem PyProof.Rows
section
variable {α:Type}
structure Ord (lt:α->α->Bool):Prop where
 irr:∀ a,lt a a=false
 tr:∀ {a b c},lt a b=true->lt b c=true->lt a c=true
 neg:∀ {a b c},lt a b=false->lt b c=false->lt a c=false
def rank (lt:α->α->Bool) (ks:List α) (k:α):Nat:=ks.countP (lt · k)
theorem rank_mono {lt:α->α->Bool} (O:Ord lt) {a b:α} (h:lt b a=false) (ks:List α):rank lt ks a<=rank lt ks b :=
 List.countP_mono_left fun x _ hx=>by
  cases e:lt x b with
  | true=>rfl
  | false=>rw [O.neg e h] at hx;cases hx
theorem rank_lt {lt:α->α->Bool} (O:Ord lt) {a b:α} (h:lt a b=true):∀ {ks:List α},a∈ks->rank lt ks a < rank lt ks b
 | [],hm=>by cases hm
 | k::ks,hm=>by
  have hba:lt b a=false:=by
   cases e:lt b a with
   | false=>rfl
   | true=>have:=O.tr h e;rw [O.irr] at this;cases this
  have hr:=rank_mono O hba ks
  unfold rank at hr ⊢
  simp only [List.countP_cons]
  rcases List.mem_cons.mp hm with rfl | hm
  ·rw [O.irr,h];simp only [Bool.false_eq_true,if_false,if_true];lia
  ·have:=rank_lt O h hm
   unfold rank at this
   cases e:lt k a with
   | false=>simp only [Bool.false_eq_true,if_false];split <;> lia
   | true=>rw [O.tr e h];simp only [if_true];lia
theorem rank_dec {lt:α->α->Bool} (O:Ord lt) {a b:α} {ks:List α} (ha:a∈ks):decide (((rank lt ks a:Nat):Int) < (rank lt ks b:Nat))=lt a b:=by
 cases e:lt a b with
 | true=>exact decide_eq_true (by have:=rank_lt O e ha;lia)
 | false=>exact decide_eq_false (by have:=rank_mono O e ks;lia)
def insB (lt:α->α->Bool) (x:α):List α->List α
 | []=>[x]
 | y::r=>if lt y x=true then y::insB lt x r else x::y::r
def srt (lt:α->α->Bool):List α->List α
 | []=>[]
 | x::r=>insB lt x (srt lt r)
theorem insB_perm (lt:α->α->Bool) (x:α):∀ r:List α,(insB lt x r).Perm (x::r)
 | []=>.refl _
 | y::r=>by
  unfold insB
  split
  ·exact ((insB_perm lt x r).cons y).trans (.swap x y r)
  ·exact .refl _
theorem srt_perm (lt:α->α->Bool):∀ r:List α,(srt lt r).Perm r
 | []=>.refl _
 | x::r=>(insB_perm lt x _).trans ((srt_perm lt r).cons x)
abbrev SB (lt:α->α->Bool) (r:List α):Prop:=r.Pairwise fun a b=>lt b a=false
theorem insB_sorted {lt:α->α->Bool} (O:Ord lt) (x:α):∀ {r:List α},SB lt r->SB lt (insB lt x r)
 | [],_=>List.pairwise_singleton _ _
 | y::r,h=>by
  obtain ⟨h1,h2⟩:=List.pairwise_cons.mp h
  unfold insB
  split
  ·rename_i c
   refine List.pairwise_cons.mpr ⟨fun z hz=>?_,insB_sorted O x h2⟩
   rcases List.mem_cons.mp ((insB_perm lt x r).mem_iff.mp hz) with rfl | hz
   ·cases e:lt z y with
    | false=>rfl
    | true=>have:=O.tr c e;rw [O.irr] at this;cases this
   ·exact h1 z hz
  ·rename_i c
   have c':lt y x=false:=by simpa using c
   refine List.pairwise_cons.mpr ⟨fun z hz=>?_,h⟩
   rcases List.mem_cons.mp hz with rfl | hz
   ·exact c'
   ·exact O.neg (h1 z hz) c'
theorem srt_sorted {lt:α->α->Bool} (O:Ord lt):∀ r:List α,SB lt (srt lt r)
 | []=>List.Pairwise.nil
 | x::r=>insB_sorted O x (srt_sorted O r)
theorem same_srt {lt:α->α->Bool} (O:Ord lt) (T:∀ {a b},lt a b=false->lt b a=false->a=b):∀ {r q:List α},r.Perm q->SB lt r->SB lt q->r=q
 | [],q,hp,_,_=>hp.nil_eq
 | x::r,[],hp,_,_=>by have:=hp.length_eq;simp at this
 | x::r,y::q,hp,hr,hq=>by
  obtain ⟨r1,r2⟩:=List.pairwise_cons.mp hr
  obtain ⟨q1,q2⟩:=List.pairwise_cons.mp hq
  have e:x=y:=by
   rcases List.mem_cons.mp (hp.mem_iff.mp (List.mem_cons_self ..)) with h | h
   ·exact h
   ·rcases List.mem_cons.mp (hp.mem_iff.mpr (List.mem_cons_self ..)) with h' | h'
    ·exact h'.symm
    ·exact T (q1 x h) (r1 y h')
  subst e
  rw [same_srt O T hp.cons_inv r2 q2]
theorem srt_uniq {lt:α->α->Bool} (O:Ord lt) (T:∀ {a b},lt a b=false->lt b a=false->a=b) {r q:List α} (hp:r.Perm q) (hr:SB lt r):r=srt lt q:=same_srt O T (hp.trans (srt_perm lt q).symm) hr (srt_sorted O q)
theorem perm_lift {β:Type} (f:α->β):∀ {out ys:List β},out.Perm ys->∀ {zs:List α},zs.map f=ys->∃ zs':List α,zs'.Perm zs/\zs'.map f=out:=by
 intro out ys h
 induction h with
 | nil=>intro zs e;exact ⟨zs,.refl _,e⟩
 | cons x _ ih =>
  intro zs e
  cases zs with
  | nil=>simp at e
  | cons z zs =>
   simp only [List.map_cons,List.cons.injEq] at e
   obtain ⟨zs',p,e'⟩:=ih e.2
   exact ⟨z::zs',p.cons z,by rw [List.map_cons,e',e.1]⟩
 | swap x y l =>
  intro zs e
  match zs,e with
  | [],e=>simp at e
  | [_],e=>simp at e
  | a::b::zs,e =>
   simp only [List.map_cons,List.cons.injEq] at e
   exact ⟨b::a::zs,.swap a b zs,by simp only [List.map_cons,e.1,e.2.1,e.2.2]⟩
 | trans _ _ ih1 ih2 =>
  intro zs e
  obtain ⟨z2,p2,e2⟩:=ih2 e
  obtain ⟨z1,p1,e1⟩:=ih1 e2
  exact ⟨z1,p1.trans p2,e1⟩
end
def plt (a b:Int×Int):Bool:=if a.1=b.1 then decide (a.2 < b.2) else decide (a.1 < b.1)
theorem plt_iff {a b:Int×Int}:plt a b=true ↔ a.1 < b.1\/(a.1=b.1/\a.2 < b.2):=by
 unfold plt
 split <;> simp <;> lia
theorem plt_false {a b:Int×Int}:plt a b=false ↔ b.1 < a.1\/(a.1=b.1/\b.2<=a.2):=by
 rw [← Bool.not_eq_true,plt_iff];lia
theorem plt_ord:Ord plt:=⟨fun a=>plt_false.mpr (by lia),fun h1 h2=>plt_iff.mpr (by have:=plt_iff.mp h1;have:=plt_iff.mp h2;lia),fun h1 h2=>plt_false.mpr (by have:=plt_false.mp h1;have:=plt_false.mp h2;lia)⟩
theorem plt_tot {a b:Int×Int} (h1:plt a b=false) (h2:plt b a=false):a=b:=by
 have:=plt_false.mp h1
 have:=plt_false.mp h2
 exact Prod.ext (by lia) (by lia)
end Tim
namespace DL
open PySem PySem.Spec PyProof.Rows L2
abbrev psort (ps:List (Int×Int)):List (Int×Int):=Tim.srt Tim.plt ps
def pairD (p:Int×Int):D:=.tup [.int p.1,.int p.2]
def pairsD:List D->Option (List (Int×Int))
 | []=>some []
 | .tup [.int a,.int b]::r=>(pairsD r).map ((a,b)::·)
 | _=>none
theorem pairsD_map (ps:List (Int×Int)):pairsD (ps.map pairD)=some ps:=by
 induction ps with
 | nil=>rfl
 | cons n r ih=>simp only [List.map_cons,pairD,pairsD,ih];rfl
theorem pairsD_eq:∀ {ds:List D} {ps:List (Int×Int)},pairsD ds=some ps->ds=ps.map pairD
 | [],ps,h=>by cases h;rfl
 | d::r,ps,h=>by
  unfold pairsD at h
  split at h
  ·rename_i e;cases e
  ·rename_i a b r' e
   cases e
   cases e2:pairsD r with
   | none=>rw [e2] at h;cases h
   | some q=>rw [e2] at h;cases h;rw [pairsD_eq e2];rfl
  ·cases h
def gSortP (d:D):Ou D:=if rk d=1\/rk d=2 then (match pairsD (its d) with
  | some ps=>if ps.length < 128 then .ok (.lst ((psort ps).map pairD)) else .bad
  | none=>.bad) else .bad
theorem gSortP_lst {ps:List (Int×Int)} (h:ps.length < 128):gSortP (.lst (ps.map pairD))=.ok (.lst ((psort ps).map pairD)):=by
 simp [gSortP,rk,its,pairsD_map,h]
theorem gSortP_tup {ps:List (Int×Int)} (h:ps.length < 128):gSortP (.tup (ps.map pairD))=.ok (.lst ((psort ps).map pairD)):=by
 simp [gSortP,rk,its,pairsD_map,h]
end DL
namespace DL
open PySem PySem.Spec PyProof.Rows L2
def gCatU:D->D->Ou D
 | .tup xs,.tup ys=>if xs.length + ys.length<=sizeLine then .ok (.tup (xs++ys)) else .bad
 | _,_=>.bad
end DL
namespace DL
open PySem PySem.Spec PyProof.Rows L2
end DL
namespace Tim
open PySem PyProof.Rows
section
variable {α:Type}
theorem told_of {prog:Program} {w:World} {A:Around} {s:Shared} {κ:SortKind} {vs:List Value} {k:Value->α} {lt:α->α->Bool} (O:Ord lt)
  (T:∀ x,x∈vs->∀ y,y∈vs->∀ (E:Value->Shared->Prop) (Q:Bool->Shared->Prop),Q (lt (k x) (k y)) s->wpAny (model prog w) A (keyLt' κ x y) Q E s) :
  Told prog w A s κ (fun p=>((rank lt (vs.map k) (k p.1):Nat):Int)) (pairsOf vs):=by
 intro x hx y hy E Q q
 rw [pairsOf_toList] at hx hy
 have e1:=mem_zip_self hx
 have e2:=mem_zip_self hy
 refine T _ e1.2 _ e2.2 E Q ?_
 rw [← rank_dec O (List.mem_map_of_mem e1.2)]
 exact q
theorem out_of {vs out:List Value} {k:Value->α} {lt:α->α->Bool} (O:Ord lt) (hp:out.Perm vs) (hs:out.Pairwise fun x y=>((rank lt (vs.map k) (k x):Nat):Int)<=((rank lt (vs.map k) (k y):Nat):Int)):(out.map k).Pairwise fun a b=>lt b a=false:=by
 rw [List.pairwise_map]
 refine List.pairwise_iff_forall_sublist.mpr fun {a b} hab=>?_
 have hb:b∈vs:=hp.mem_iff.mp (hab.subset (by simp))
 have:=List.pairwise_iff_forall_sublist.mp hs hab
 rw [← rank_dec O (List.mem_map_of_mem hb)]
 exact decide_eq_false (by lia)
end
section
variable {prog:Program} {w:World} {A:Around} {E:Value->Shared->Prop} {s:Shared}
def TupAt (h:Heap) (v:Value) (p:Int×Int):Prop:=∃ a t u,v=.ref a/\IsTup h a #[.int p.1 t,.int p.2 u]
def pairOf (h:Heap):Value->Int×Int
 | .ref a=>match h.get? a with
  | some o=>match o.data with
   | .seq xs _=>(numOf (xs.getD 0 .none),numOf (xs.getD 1 .none))
   | _=>(0,0)
  | none=>(0,0)
 | _=>(0,0)
theorem TupAt.pair {h:Heap} {v:Value} {p:Int×Int} (t:TupAt h v p):pairOf h v=p:=by
 obtain ⟨a,t,u,rfl,o,ho,_,n,hd⟩:=t
 simp only [pairOf,ho,hd]
 rfl
theorem pair_lt {x y:Value} {p q:Int×Int} {Q:Bool->Shared->Prop} (hx:TupAt s.heap x p) (hy:TupAt s.heap y q) (h:Q (plt p q) s):wpAny (model prog w) A (keyLt' (tuples' true) x y) Q E s:=by
 obtain ⟨a,t,u,rfl,o,ho,_,n,hd⟩:=hx
 obtain ⟨b,t',u',rfl,o',ho',_,n',hd'⟩:=hy
 refine PySem.W.kat_lt ho hd ho' hd' ?_
 show PySem.W.KatLex _ _ _ _ _ _ [(Value.int p.1 t,Value.int q.1 t'),(Value.int p.2 u,Value.int q.2 u')] 0 s
 refine PySem.W.kat_cons (wpAny_eqBool_int (PySem.W.kat_go (fun e=>?_) (fun e=>?_)))
 ·have e1:p.1=q.1:=by simpa using e
  refine PySem.W.kat_yes (PySem.W.kat_cons (wpAny_eqBool_int (PySem.W.kat_go (fun e'=>?_) (fun e'=>?_))))
  ·refine PySem.W.kat_yes (PySem.W.kat_nil ?_)
   have e2:p.2=q.2:=by simpa using e'
   have:plt p q=false:=plt_false.mpr (by lia)
   rw [this] at h
   exact h
  ·refine PySem.W.kat_no (PySem.W.kat_one _ _ (lt_int ?_))
   show Q (decide (p.2 < q.2)) s
   unfold plt at h
   rw [if_pos e1] at h
   exact h
 ·have e1:¬ p.1=q.1:=by simpa using e
  refine PySem.W.kat_no (oneLt_int ?_)
  unfold plt at h
  rw [if_neg e1] at h
  exact h
theorem collect_tuple {l:Addr} {vs:List Value} {Q:List Value->Shared->Prop} (hl:IsTup s.heap l vs.toArray)
  (h:Q vs { s with heap:=(s.heap.push (seqObj "list" #[] 0)).update s.heap.objs.size (Obj.mapSeq (·++vs.toArray)) }) (hsz:vs.length<=sizeLine) :
  wpAny (model prog w) A (collect (.ref l)) Q E s:=by
 obtain ⟨o,ho,hc,n,hd⟩:=id hl
 unfold collect
 refine wpAny_bind (wpAny_runValue (codeAny_builtin entry_proto_collect' ?_))
 show wpAny _ _ (do again (.builtin "list.__iadd__" ⟨[← newList [],.ref l],[]⟩)) _ _ s
 refine wpAny_bind (wpAny_newList (wpAny_pure ⟨Code.quiet_builtin _ (by decide +kernel),codeAny_builtin entry_list_iadd' ?_⟩))
 show wpAny _ _ (Builtin.List.listExtendWith (.ref s.heap.objs.size) (.ref l) (.ref s.heap.objs.size)) _ _ { s with heap:=s.heap.push (seqObj "list" #[] 0) }
 unfold Builtin.List.listExtendWith
 have ho':(s.heap.push (seqObj "list" #[] 0)).get? l=some o:=Heap.get?_push_of_some _ ho
 refine wpAny_bind (wpAny_typeOf (T:="tuple") ⟨o,ho',hc⟩ ?_)
 have ht:(Value.type "tuple" == Value.type "tuple")=true:=by rfl
 rw [if_pos (by rw [ht];simp)]
 refine wpAny_bind (listItems_at ho' hd ?_)
 refine wpAny_bind (listItems_at (xs:=#[]) (n:=0) (Heap.get?_push_size _ rfl) rfl ?_)
 rw [if_neg (by simp)]
 refine wpAny_bind (listUpdate_at (xs:=#[]) (n:=0) (Heap.get?_push_size _ rfl) rfl ?_ (Nat.zero_le _) (by show (#[]++vs.toArray).size<=sizeLine + 1;simp only [Array.size_append,List.size_toArray,List.length_nil];lia))
 refine wpAny_pure ?_
 show wpAny (model prog w) A (do
   let o ← load s.heap.objs.size
   match o.data with
   | .seq xs _=>pure xs.toList
   | _=>unsupported "internal:collect") Q E { s with heap:=(s.heap.push (seqObj "list" #[] 0)).update s.heap.objs.size (Obj.mapSeq (·++vs.toArray)) }
 refine wpAny_bind (wpAny_load (get?_update_seq (Heap.get?_push_size _ rfl) _) ?_)
 show wpAny _ _ (pure ((#[]:Array Value)++vs.toArray).toList) Q E _
 rw [show ((#[]:Array Value)++vs.toArray).toList=vs by simp]
 exact wpAny_pure h
def TupsAt (h:Heap):List Value->List (Int×Int)->Prop
 | [],[]=>True
 | v::vs,p::ps=>TupAt h v p/\TupsAt h vs ps
 | _,_=>False
theorem TupsAt.mem {h:Heap}:∀ {vs:List Value} {ps:List (Int×Int)},TupsAt h vs ps->∀ v,v∈vs->∃ p,TupAt h v p
 | [],[],_,v,hv=>by cases hv
 | [],_::_,t,_,_=>t.elim
 | _::_,[],t,_,_=>t.elim
 | x::vs,p::ps,t,v,hv=>by
  rcases List.mem_cons.mp hv with rfl | hv
  ·exact ⟨p,t.1⟩
  ·exact TupsAt.mem t.2 v hv
theorem TupsAt.kat {h:Heap}:∀ {vs:List Value} {ps:List (Int×Int)},TupsAt h vs ps->∃ fs,PySem.W.KatTups h vs fs/\fs.length=vs.length/\∀ f,f∈fs->∃ n t,f=Value.int n t
 | [],[],_=>⟨[],trivial,rfl,fun f hf=>by cases hf⟩
 | [],_::_,t=>t.elim
 | _::_,[],t=>t.elim
 | x::vs,p::ps,t=>by
  obtain ⟨⟨a,t1,u,rfl,o,ho,hc,n,hd⟩,t2⟩:=t
  obtain ⟨fs,k1,k2,k3⟩:=TupsAt.kat t2
  refine ⟨Value.int p.1 t1::fs,PySem.W.KatTups.cons ho hc hd rfl k1,by simp [k2],fun f hf=>?_⟩
  rcases List.mem_cons.mp hf with rfl | hf
  ·exact ⟨_,_,rfl⟩
  ·exact k3 f hf
theorem TupsAt.keep {h h':Heap} (k:∀ b o,h.get? b=some o->h'.get? b=some o):∀ {vs:List Value} {ps:List (Int×Int)},TupsAt h vs ps->TupsAt h' vs ps
 | [],[],_=>trivial
 | [],_::_,t=>t.elim
 | _::_,[],t=>t.elim
 | x::vs,p::ps,t=>by
  obtain ⟨⟨a,t1,u,rfl,o,ho,hc,n,hd⟩,t2⟩:=t
  exact ⟨⟨a,t1,u,rfl,o,k _ _ ho,hc,n,hd⟩,TupsAt.keep k t2⟩
theorem kind_pairs {vs:List Value} {ps:List (Int×Int)} (t:TupsAt s.heap vs ps) (h2:2<=vs.length) (Q:SortKind->Shared->Prop) (q:Q (tuples' true) s):wpAny (model prog w) A (keyKind' vs.toArray) Q E s:=by
 obtain ⟨fs,k1,k2,k3⟩:=t.kat
 refine PySem.W.kat_kind (T:=Value.type "int") k1 (by lia) (fun v hv=>?_) rfl q
 obtain ⟨n,t,rfl⟩:=k3 v hv
 exact PySem.W.Looks.of_pure rfl
theorem old_kept {h:Heap} {vs:List Value} {b:Addr} {o:Obj} (q:h.get? b=some o):(during (gathered h vs) (h.objs.size + 1) vs).get? b=some o:=by
 have hlt:b < h.objs.size:=Heap.lt_size q
 have hsz:((h.push (seqObj "list" #[] 0)).update h.objs.size (Obj.mapSeq (·++vs.toArray))).objs.size=h.objs.size + 1:=by rw [Heap.size_update,size_push']
 unfold during gathered
 rw [Heap.get?_push_ne _ _ _ (by rw [size_push',Heap.size_update,size_push',hsz];exact Nat.ne_of_lt (Nat.lt_succ_of_lt (Nat.lt_succ_of_lt (Nat.lt_succ_of_lt hlt)))),Heap.get?_push_ne _ _ _ (by rw [Heap.size_update,size_push',hsz];exact Nat.ne_of_lt (Nat.lt_succ_of_lt (Nat.lt_succ_of_lt hlt))),Heap.get?_update_ne _ _ _ _ (Nat.ne_of_lt (Nat.lt_succ_of_lt hlt)),
  Heap.get?_push_ne _ _ _ (by rw [hsz];exact Nat.ne_of_lt (Nat.lt_succ_of_lt hlt)),Heap.get?_update_ne _ _ _ _ (Nat.ne_of_lt hlt),Heap.get?_push_ne _ _ _ (Nat.ne_of_lt hlt)]
 exact q
theorem sorted_pairs {l:Addr} {vs:List Value} {ps:List (Int×Int)} {Q:Value->Shared->Prop} (hcol:∀ {A:Around} {Q:List Value->Shared->Prop},Q vs { s with heap:=(s.heap.push (seqObj "list" #[] 0)).update s.heap.objs.size (Obj.mapSeq (·++vs.toArray)) }->wpAny (model prog w) A (collect (.ref l)) Q E s)
  (t:TupsAt s.heap vs ps) (hlen:vs.length < 128)
  (h:∀ out:Array Value,out.toList.Perm vs->SB plt (out.toList.map (pairOf s.heap))->Q (.ref (s.heap.objs.size + 1)) { s with heap:=sortedAll s.heap vs out }):wpAny (model prog w) A (call (.builtin "sorted") [.ref l]) Q E s:=by
 have t':TupsAt (during (gathered s.heap vs) (s.heap.objs.size + 1) vs) vs ps:=t.keep fun b o q=>old_kept q
 refine sorted_ (κ:=tuples' true) (ρ:=fun p=>((rank plt (vs.map (pairOf s.heap)) (pairOf s.heap p.1):Nat):Int)) hcol hlen (fun h2 Q q=>kind_pairs t' h2 Q q) (told_of plt_ord fun x hx y hy E Q q=>?_) fun out b1 b2=>h out b1 (out_of plt_ord b1 b2)
 obtain ⟨p1,h1⟩:=t'.mem x hx
 obtain ⟨p2,h2⟩:=t'.mem y hy
 obtain ⟨p3,h3⟩:=t.mem x hx
 obtain ⟨p4,h4⟩:=t.mem y hy
 have e3:pairOf s.heap x=p1:=by
  obtain ⟨a,t1,u,rfl,o,ho,hc,n,hd⟩:=h3
  have:=(show TupAt (during (gathered s.heap vs) (s.heap.objs.size + 1) vs) (.ref a) p3 from ⟨a,t1,u,rfl,o,old_kept ho,hc,n,hd⟩).pair
  rw [h1.pair] at this
  rw [(show TupAt s.heap (.ref a) p3 from ⟨a,t1,u,rfl,o,ho,hc,n,hd⟩).pair,this]
 have e4:pairOf s.heap y=p2:=by
  obtain ⟨a,t1,u,rfl,o,ho,hc,n,hd⟩:=h4
  have:=(show TupAt (during (gathered s.heap vs) (s.heap.objs.size + 1) vs) (.ref a) p4 from ⟨a,t1,u,rfl,o,old_kept ho,hc,n,hd⟩).pair
  rw [h2.pair] at this
  rw [(show TupAt s.heap (.ref a) p4 from ⟨a,t1,u,rfl,o,ho,hc,n,hd⟩).pair,this]
 rw [e3,e4] at q
 exact pair_lt h1 h2 q
end
end Tim
namespace DL
open PySem PySem.Spec PyProof.Rows L2
def PrV (K:PySem.W.Frag) (H:Hp) (v:V) (p:Int×Int):Prop:=∃ a,v=.ref a/\SqT K H a [.int p.1,.int p.2]
theorem pair_at {X:Cx} {pins:List (Addr×Obj)} {σ:St} {H:Hp} {s:Shared} (I:Inv X pins σ H s) {v:V} {u:Value} {p:Int×Int} (r:L2.RelV v u) (h:PrV X.K H v p):Tim.TupAt s.heap u p:=by
 obtain ⟨a,rfl,hq⟩:=h
 obtain ⟨its,r',pl,_⟩:=I.tuple hq
 obtain ⟨u1,u2,rfl,⟨t1,rfl⟩,t2,rfl⟩:=vals2 r'
 obtain rfl:u=Value.ref a:=r
 exact ⟨a,t1,t2,rfl,pl⟩
theorem zipped {X:Cx} {pins:List (Addr×Obj)} {σ:St} {H:Hp} {s:Shared} (I:Inv X pins σ H s) {vs:List V} {us:List Value} (r:Vals vs us):∀ {ps:List (Int×Int)},vs.length=ps.length->(∀ (i:Nat) v p,vs[i]? = some v->ps[i]? = some p->PrV X.K H v p) ->
  ∃ zs:List (V×Value×(Int×Int)),zs.map (·.1)=vs/\zs.map (·.2.1)=us/\zs.map (·.2.2)=ps/\∀ z∈zs,L2.RelV z.1 z.2.1/\PrV X.K H z.1 z.2.2/\Tim.TupAt s.heap z.2.1 z.2.2:=by
 induction r with
 | nil =>
  intro ps h g
  obtain rfl:ps=[]:=List.length_eq_zero_iff.mp h.symm
  exact ⟨[],rfl,rfl,rfl,fun z hz=>by cases hz⟩
 | @cons v u vs us r t ih =>
  intro ps h g
  cases ps with
  | nil=>simp at h
  | cons p ps =>
   obtain ⟨zs,e1,e2,e3,f⟩:=ih (ps:=ps) (by simpa using h) fun i v' p' h1 h2=>g (i + 1) v' p' h1 h2
   have h0:=g 0 v p rfl rfl
   refine ⟨(v,u,p)::zs,by simp [e1],by simp [e2],by simp [e3],fun z hz=>?_⟩
   rcases List.mem_cons.mp hz with rfl | hz
   ·exact ⟨r,h0,pair_at I r h0⟩
   ·exact f z hz
theorem tups_of {h:Heap}:∀ {zs:List (V×Value×(Int×Int))},(∀ z∈zs,Tim.TupAt h z.2.1 z.2.2)->Tim.TupsAt h (zs.map (·.2.1)) (zs.map (·.2.2))
 | [],_=>trivial
 | z::zs,f=>⟨f z (List.mem_cons_self ..),tups_of fun z' hz=>f z' (List.mem_cons_of_mem _ hz)⟩
theorem vals_zip:∀ {zs:List (V×Value×(Int×Int))},(∀ z∈zs,L2.RelV z.1 z.2.1)->Vals (zs.map (·.1)) (zs.map (·.2.1))
 | [],_=>.nil
 | z::zs,f=>.cons (f z (List.mem_cons_self ..)) (vals_zip fun z' hz=>f z' (List.mem_cons_of_mem _ hz))
section
variable {X:Cx} {E:XK} {m:Md} {a b e o i:Expr} {fa fb fe fo fi:Fn} {pos p:Pos} {fr:Bool} {x:Str}
theorem call_sortedP:CallR X (.builtin "sorted") (fun xs H Q=>∃ p vs ps,xs=[.ref p]/\(SqL X.K H p vs\/SqT X.K H p vs)/\vs.length=ps.length/\(∀ (i:Nat) v p,vs[i]? = some v->ps[i]? = some p->PrV X.K H v p)/\vs.length < 128 /\
  ∀ l,H l=none->∀ vs',vs'.length=(psort ps).length->(∀ (i:Nat) v p,vs'[i]? = some v->(psort ps)[i]? = some p->PrV X.K H v p)->Q (.ref l) (upd H l (.lst vs'))):=by
 intro pins s σ H xs us Q I r h
 obtain ⟨p,vs,ps,rfl,hq,hl,hp,h128,q⟩:=h
 obtain ⟨u,rfl,rx⟩:=vals1 r
 cases rx
 have col:∃ its:List Value,Vals vs its/\vs.length<=sizeLine/\∀ {E:Value->Shared->Prop} {A:Around} {Q:List Value->Shared->Prop},Q its { s with heap:=(s.heap.push (seqObj "list" #[] 0)).update s.heap.objs.size (Obj.mapSeq (·++its.toArray)) }->wpAny (model X.prog X.w) A (collect (.ref p)) Q E s:=by
  rcases hq with hq | hq
  ·obtain ⟨its,r',pl,hz⟩:=I.list hq
   have hl':=r'.length
   exact ⟨its,r',hz,fun q=>collect_list pl.isList q (by lia)⟩
  ·obtain ⟨its,r',pl,hz⟩:=I.tuple hq
   have hl':=r'.length
   exact ⟨its,r',hz,fun q=>Tim.collect_tuple pl q (by lia)⟩
 obtain ⟨its,r',hz,col⟩:=col
 obtain ⟨zs,e1,e2,e3,f⟩:=zipped I r' hl hp
 have hl':=r'.length
 subst e1 e2 e3
 refine Tim.sorted_pairs col (tups_of fun z hz=>(f z hz).2.2) (by lia) fun out b1 b2=>?_
 obtain ⟨zs',p1,e⟩:=Tim.perm_lift (fun z:V×Value×(Int×Int)=>z.2.1) b1 rfl
 obtain ⟨c,hat⟩:=sortedAll_at s.heap (zs.map (·.2.1)) out
 have f':∀ z∈zs',L2.RelV z.1 z.2.1/\PrV X.K H z.1 z.2.2/\Tim.TupAt s.heap z.2.1 z.2.2:=fun z hz=>f z (p1.mem_iff.mp hz)
 have ek:out.toList.map (Tim.pairOf s.heap)=zs'.map (·.2.2):=by
  rw [← e,List.map_map]
  exact List.map_congr_left fun z hz=>(f' z hz).2.2.pair
 rw [ek] at b2
 have es:zs'.map (·.2.2)=psort (zs.map (·.2.2)):=Tim.srt_uniq Tim.plt_ord Tim.plt_tot (p1.map (·.2.2)) b2
 have hln:(zs'.map (·.1)).length=(zs.map (·.1)).length:=by rw [List.length_map,List.length_map];exact p1.length_eq
 refine ⟨.ref (s.heap.objs.size + 1),_,I.laid (t':=s.toks) (fun b o'=>sortedAll_old) (Nat.le_succ _) (show ObjOk X.prog X.w _ _ _ (.lst (zs'.map (·.1))) from ⟨by rw [hln];exact hz,out.toList,c,by rw [← e];exact vals_zip fun z hz=>(f' z hz).1,hat⟩),rfl,q _ (I.hok.fresh (Nat.le_succ _)) _ ?_ ?_⟩
 ·rw [← es,List.length_map,List.length_map]
 ·intro i v p h1 h2
  rw [← es] at h2
  rw [List.getElem?_map] at h1 h2
  cases ez:zs'[i]? with
  | none=>rw [ez] at h1;cases h1
  | some z =>
   rw [ez] at h1 h2
   cases h1
   cases h2
   exact (f' z (List.mem_of_getElem? ez)).2.1
theorem reps_pairs {K:PySem.W.Frag} {B:Addr->Prop} {H:Hp}:∀ {ps:List (Int×Int)} {vs:List V},Reps K B H (ps.map pairD) vs->vs.length=ps.length/\∀ (i:Nat) v p,vs[i]? = some v->ps[i]? = some p->PrV K H v p
 | [],vs,r=>by
  have:vs=[]:=by simpa [Reps] using r
  subst this
  exact ⟨rfl,fun i v p h=>by simp at h⟩
 | n::ns,vs,r=>by
  simp only [List.map_cons,Reps] at r
  obtain ⟨v,r',rfl,h1,h2⟩:=r
  obtain ⟨g1,g2⟩:=reps_pairs h2
  refine ⟨by simp [g1],fun i v' p e1 e2=>?_⟩
  cases i with
  | zero =>
   cases e1;cases e2
   simp only [pairD,Rep,Reps] at h1
   obtain ⟨a,xs,rfl,hq,_,_,rfl,rfl,_,_,rfl,rfl,rfl⟩:=h1
   exact ⟨a,rfl,hq⟩
  | succ i=>exact g2 i v' p e1 e2
theorem pairs_reps {K:PySem.W.Frag} {B:Addr->Prop} {H:Hp}:∀ {ps:List (Int×Int)} {vs:List V},vs.length=ps.length->(∀ (i:Nat) v p,vs[i]? = some v->ps[i]? = some p->PrV K H v p)->Reps K B H (ps.map pairD) vs
 | [],[],_,_=>by simp [Reps]
 | [],_::_,h,_=>by simp at h
 | _::_,[],h,_=>by simp at h
 | p::ps,v::vs,h,g=>by
  simp only [List.map_cons,Reps]
  refine ⟨_,_,rfl,?_,pairs_reps (by simpa using h) fun i v' p' e1 e2=>g (i + 1) v' p' e1 e2⟩
  obtain ⟨a,rfl,hq⟩:=g 0 v p rfl rfl
  simp only [pairD,Rep,Reps]
  exact ⟨a,_,rfl,hq,_,_,rfl,rfl,_,_,rfl,rfl,rfl⟩
theorem PrV.same {K:PySem.W.Frag} {H H':Hp} {v:V} {p:Int×Int} (h:PrV K H v p) (e:Same H H'):PrV K H' v p:=by
 obtain ⟨a,rfl,h⟩:=h
 exact ⟨a,rfl,same_tup e h⟩
theorem xsortP (hm:X.mg "sorted" = none) (ha:PE X e (tX X.K E m fe)) (hn:notF m=true:=by rfl) (hg:Gl X "sorted":=by rfl) (he:starEach [e] X.env=(false,eval e X.env)::starEach [] X.env:=by rfl) (hpl:(backTo pos (starEach ([]:List Expr) X.env)).any (·.1)=false:=by rfl) :
  PE X (.Call (.Name "sorted" p) [e] [] pos) (tX X.K E .F (f1 gSortP fe)) :=
 (pe_callB call_sortedP hg hm (by decide +kernel) (pa_cons ha pa_nil he) (by decide) (by decide) he hpl).imp fun σ H Q q=>by
 obtain ⟨c,δ,hK,ab,q⟩:=q
 refine ⟨c,δ,hK,ab,(Res.bind q).imp fun d _ k v H1 e1 r1=>?_⟩
 have r1':Rep c.K (BOf c σ δ m) H1 d v:=Post.bOf hn r1
 unfold gSortP at k
 by_cases hr:rk d=1\/rk d=2
 ·rw [if_pos hr] at k
  cases ei:pairsD (its d) with
  | none=>rw [ei] at k;exact k.elim
  | some ps =>
   rw [ei] at k
   by_cases h64:ps.length < 128
   ·simp only [if_pos h64] at k
    have sq:∃ a xs,v=V.ref a/\(SqL c.K H1 a xs\/SqT c.K H1 a xs)/\Reps c.K (BOf c σ δ m) H1 (its d) xs:=by
     rcases hr with hr | hr
     ·obtain ⟨a,xs,e,h1,h2⟩:=rk1 hr r1';exact ⟨a,xs,e,.inr h1,h2⟩
     ·obtain ⟨a,xs,e,h1,h2⟩:=rk2 hr r1';exact ⟨a,xs,e,.inl h1,h2⟩
    obtain ⟨a,xs,rfl,h1,h2⟩:=sq
    rw [pairsD_eq ei] at h2
    obtain ⟨g1,g2⟩:=reps_pairs h2
    rw [hK] at h1 g2
    exact ⟨a,xs,ps,rfl,h1,g1,g2,by lia,fun l hl vs' l1 l2=>k (.ref l) _ (e1.trans (same_new hl _)) ⟨l,_,rfl,e1.free hl,upd_same,_,rfl,pairs_reps l1 fun i v p q1 q2=>by rw [hK];exact (l2 i v p q1 q2).same (same_new hl _)⟩⟩
   ·simp only [if_neg h64] at k;exact k.elim
 ·rw [if_neg hr] at k;exact k.elim
end
end DL
namespace DL
open PySem PySem.Spec PyProof.Rows L2
section
variable {X:Cx} {E:XK} {pos:Pos}
def rCatU (K:PySem.W.Frag):V->V->Hp->VK->Prop:=fun x y H Q=>∃ a b xs ys,x=.ref a/\y=.ref b/\SqT K H a xs/\SqT K H b ys/\xs.length + ys.length<=sizeLine/\(xs=[]->Q (.ref b) H)/\(ys=[]->Q (.ref a) H)/\∀ p,H p=none->Q (.ref p) (upd H p (.tup (xs++ys)))
theorem op_catU:OpR X (binaryOp .Add) (rCatU X.K):=by
 intro pins s σ H x y v u Q I rx ry h
 obtain ⟨a,b,xs,ys,rfl,rfl,ha,hb,hz,q0,q1,q2⟩:=h
 by_cases hx:xs=[]
 ·subst hx
  cases rx
  cases ry
  obtain ⟨its,r1,p1,_⟩:=I.tuple ha
  obtain ⟨its2,r2,p2,_⟩:=I.tuple hb
  cases r1
  obtain ⟨⟨cls,dd,data,sl⟩,ho,hc,n,hd⟩:=id p1
  obtain ⟨⟨cls2,dd2,data2,sl2⟩,ho2,hc2,n2,hd2⟩:=id p2
  simp only at hc hd hc2 hd2
  subst hc hd hc2 hd2
  exact concat_meets ⟨_,ho,rfl⟩ ⟨_,ho2,rfl⟩ noFill_tuple_add seq_tuple_add PySem.F.slot_tuple_add PySem.F.entry_tuple_add (PySem.F.args_tuple_add_2 _ _)
   (tuple_addW0 a b #[] its2.toArray n n2 dd dd2 sl sl2 rfl) ⟨ho,ho2,.ref b,H,I,rfl,q0 rfl⟩
 ·exact op_catT _ _ _ H _ _ _ _ Q I rx ry ⟨a,b,xs,ys,rfl,rfl,ha,hb,hx,hz,q1,fun _=>q2⟩
theorem xcatU {a b:Expr} {fa fb:Fn} (ha:PE X a (tX X.K E .S fa)) (hb:PE X b (tX X.K E .S fb)):PE X (.BinOp a .Add b pos) (tX X.K E .S (f2 gCatU fa fb)):=(pe_op op_catU ha hb).imp fun σ H Q q=>by
 obtain ⟨c,δ,hK,ab,q⟩:=q
 refine ⟨c,δ,hK,ab,(Res.bind q).imp fun dx hx0 k x H1 e1 r1=>?_⟩
 refine ⟨c,δ,hK,ab.grow e1,(Res.bind k).imp fun dy hy0 k2 y H2 e2 r2=>?_⟩
 have r1':Rep c.K (Av c σ δ) H2 dx x:=Rep.same (show Rep c.K (Av c σ δ) H1 dx x from r1) e2
 have r2':Rep c.K (Av c σ δ) H2 dy y:=r2
 obtain ⟨xs,rfl⟩:∃ xs,dx=.tup xs:=by
  cases dx <;> first | exact ⟨_,rfl⟩ | (cases dy <;> exact k2.elim)
 obtain ⟨ys,rfl⟩:∃ ys,dy=.tup ys:=by
  cases dy <;> first | exact ⟨_,rfl⟩ | exact k2.elim
 unfold gCatU at k2
 by_cases hc:xs.length + ys.length<=sizeLine
 ·simp only [if_pos hc] at k2
  have r0:=r1'
  have r0':=r2'
  simp only [Rep] at r1' r2'
  obtain ⟨a1,us,rfl,h1,h2⟩:=r1'
  obtain ⟨b1,ws,rfl,h3,h4⟩:=r2'
  have e12:=e1.trans e2
  refine ⟨a1,b1,us,ws,rfl,rfl,by rw [← hK];exact h1,by rw [← hK];exact h3,by rw [h2.length,h4.length];exact hc,fun z=>?_,fun z=>?_,fun p hp=>?_⟩
  ·have hx:xs=[]:=by
    have:=h2.length
    rw [z] at this
    exact List.length_eq_zero_iff.mp this.symm
   subst hx
   exact k2 (.ref b1) H2 e12 r0'
  ·have hy:ys=[]:=by
    have:=h4.length
    rw [z] at this
    exact List.length_eq_zero_iff.mp this.symm
   subst hy
   refine k2 (.ref a1) H2 e12 ?_
   rw [List.append_nil]
   exact r0
  ·refine k2 (.ref p) _ (e12.trans (same_new hp _)) ?_
   show Rep c.K (Av c σ δ) (upd H2 p (.tup (us++ws))) (.tup (xs++ys)) (.ref p)
   simp only [Rep]
   exact ⟨p,_,rfl,.inl (.inl upd_same),(Reps.append h2 h4).same (same_new hp _)⟩
 ·simp only [if_neg hc] at k2
  exact k2.elim
end
end DL
namespace Tim
open PySem PyProof.Rows
section
variable {prog:Program} {w:World} {A:Around} {E:Value->Shared->Prop} {R:Result->Shared->Prop} {I S:Addr} {fp wr:List Addr} {n:Nat} {P:Nat->Value->Prop} {St:Nat->Heap->Prop} {h₀:Heap} {bt:Nat->Nat->Bool}
end
end Tim
namespace DL
open PySem PySem.Spec PyProof.Rows L2
theorem lex_plt (p q:Int×Int):HT.lexLt [p.1,p.2] [q.1,q.2]=Tim.plt p q:=by
 unfold Tim.plt
 by_cases c:p.1=q.1
 ·simp only [HT.lexLt,c,if_true]
  by_cases d:p.2=q.2
  ·simp [d]
  ·simp [d]
 ·simp [HT.lexLt,c]
section
variable {X:Cx} {E:XK} {m:Md} {a b e o i:Expr} {fa fb fe fo fi:Fn} {pos p:Pos} {fr:Bool} {x:Str}
theorem eq_pair (p q:Int×Int):eqD 3 (pairD p) (pairD q)=some (decide (p=q)):=by
 obtain ⟨a,b⟩:=p
 obtain ⟨c,d⟩:=q
 simp only [Prod.mk.injEq,Bool.decide_and]
 simp [pairD,eqD,eqF,rk,its,eqT,zipO,toV,eqV]
 by_cases h1:a=c <;> by_cases h2:b=d <;> simp [h1,h2]
end
end DL
namespace DL
open PySem PySem.Spec PyProof.Rows L2
section
variable {X:Cx} {E:XK} {tg:Expr} {e:Expr} {fl:Fn} {F:Sm} {fr:Bool} {p pos:Pos}
end
end DL
namespace PySem
end PySem
namespace PySem
namespace F
end F
section
variable {prog:Program} {w:World} {K:Type} [DecidableEq K] {knd:KeyKind prog w K} {A:Around} {E:Value->Shared->Prop} {s:Shared}
end
end PySem
namespace PySem
section
variable {prog:Program} {w:World} {K:Type} [DecidableEq K] {knd:KeyKind prog w K} {A:Around} {E:Value->Shared->Prop} {s:Shared}
end
end PySem
namespace DL
open PySem PySem.Spec PyProof.Rows L2
section
variable {X:Cx} {E:XK} {m:Md} {e:Expr} {fe:Fn} {p pos:Pos} {x:Str}
end
end DL
namespace Tim
open PySem PyProof.Rows
section
variable {prog:Program} {w:World} {A:Around} {E:Value->Shared->Prop} {s:Shared} {α:Type}
end
end Tim
namespace Tim
open PySem PyProof.Rows
section
variable {prog:Program} {w:World} {A:Around} {E:Value->Shared->Prop} {s:Shared}
def NmAt (h:Heap) (v:Value) (x:Str):Prop:=∃ a o xs n t,v=.ref a/\h.get? a=some o/\o.cls=.type "tuple"/\o.data=.seq xs n/\xs[0]? = some (.str x t)
theorem NmAt.keep {h h':Heap} {v:Value} {x:Str} (k:∀ b o,h.get? b=some o->h'.get? b=some o) (n:NmAt h v x):NmAt h' v x:=by
 obtain ⟨a,o,xs,n,t,rfl,ho,r⟩:=n
 exact ⟨a,o,xs,n,t,rfl,k _ _ ho,r⟩
end
end Tim
namespace DL
open PySem PySem.Spec PyProof.Rows L2
section
variable {X:Cx} {E:XK} {m:Md} {e:Expr} {fe:Fn} {p pos:Pos} {x:Str}
end
end DL
namespace Tim
open PySem PyProof.Rows
section
variable {α β:Type}
end
section
variable {prog:Program} {w:World} {A:Around} {E:Value->Shared->Prop} {s:Shared}
end
end Tim
namespace DL
open PySem PySem.Spec PyProof.Rows L2
section
variable {X:Cx} {E:XK} {m:Md} {e:Expr} {fe:Fn} {p pos:Pos} {x:Str}
end
end DL
namespace DL
open PySem PySem.Spec PyProof.Rows L2
section
variable {X:Cx} {E:XK} {p px pos apos cpos:Pos} {x:Str}
end
end DL
namespace DL
open PySem PySem.Spec PyProof.Rows L2
section
variable {X:Cx} {E:XK} {fr:Bool} {x y:Str} {pos:Pos} {ga:DS->Ou Bool} {fe:Fn}
end
end DL
namespace DL
open PySem PySem.Spec PyProof.Rows L2
section
variable {K:PySem.W.Frag} {B:Addr->Prop} {H:Hp}
end
section
variable {X:Cx} {E:XK} {m:Md} {e o:Expr} {fe fo:Fn} {pos p:Pos} {fr:Bool} {x:Str} {es:List Expr} {fs:List Fn}
end
end DL
namespace DL
open PySem PySem.Spec PyProof.Rows L2
section
variable {X:Cx} {E:XK} {fr:Bool} {x:Str} {pos:Pos} {F:Sm}
end
end DL
namespace Bt
theorem b2 (a b:Nat) (ha:a < 2) (hb:b < 2):(a ||| b)=(a ^^^ b) + (a &&& b):=by
 have h1:a=0\/a=1:=by lia
 have h2:b=0\/b=1:=by lia
 rcases h1 with rfl | rfl <;> rcases h2 with rfl | rfl <;> rfl
theorem or_xor_and:∀ (x y:Nat),(x ||| y)=(x ^^^ y) + (x &&& y):=by
 intro x
 induction x using Nat.strongRecOn with
 | _ x ih =>
  intro y
  by_cases hx:x=0
  ·subst hx;simp
  ·have h:=ih (x / 2) (by lia) (y / 2)
   have e1:(x ||| y) / 2=x / 2 ||| y / 2:=Nat.or_div_two
   have e2:(x ^^^ y) / 2=x / 2 ^^^ y / 2:=Nat.xor_div_two
   have e3:(x &&& y) / 2=x / 2 &&& y / 2:=Nat.and_div_two
   have m1:(x ||| y) % 2=x % 2 ||| y % 2:=Nat.or_mod_two_pow (n:=1)
   have m2:(x ^^^ y) % 2=x % 2 ^^^ y % 2:=Nat.xor_mod_two_pow (n:=1)
   have m3:(x &&& y) % 2=x % 2 &&& y % 2:=Nat.and_mod_two_pow (n:=1)
   rw [← e1,← e2,← e3] at h
   have b:=b2 (x % 2) (y % 2) (by lia) (by lia)
   rw [← m1,← m2,← m3] at b
   lia
theorem xor_zero_eq {a b:Nat} (h:a ^^^ b=0):a=b:=by
 refine Nat.eq_of_testBit_eq fun i=>?_
 have:(a ^^^ b).testBit i=false:=by rw [h];simp
 rw [Nat.testBit_xor] at this
 simpa using this
def bits (z:Nat):Nat:=if z=0 then 0 else z.log2 + 1
theorem lt_bits (z:Nat):z < 2 ^ bits z:=by
 unfold bits
 by_cases h:z=0
 ·rw [if_pos h,h];simp
 ·rw [if_neg h];exact Nat.lt_log2_self
theorem bits_le {z k:Nat} (h:z < 2 ^ k):bits z<=k:=by
 unfold bits
 by_cases h0:z=0
 ·rw [if_pos h0];lia
 ·rw [if_neg h0]
  have:=(Nat.log2_lt h0).mpr h
  lia
theorem div_same {f l:Nat}:f / 2 ^ bits (f ^^^ l)=l / 2 ^ bits (f ^^^ l):=by
 refine xor_zero_eq ?_
 rw [← Nat.xor_div_two_pow]
 exact Nat.div_eq_of_lt (lt_bits _)
theorem half {f l:Nat} (h:f<=l) (hz:f ^^^ l≠0):∃ m q,bits (f ^^^ l)=m + 1/\f / 2 ^ (m + 1)=q/\f < q * 2 ^ (m + 1) + 2 ^ m/\q * 2 ^ (m + 1) + 2 ^ m<=l:=by
 have hb:bits (f ^^^ l)=(f ^^^ l).log2 + 1:=by unfold bits;rw [if_neg hz]
 refine ⟨(f ^^^ l).log2,f / 2 ^ ((f ^^^ l).log2 + 1),hb,rfl,?_⟩
 have hs:=div_same (f:=f) (l:=l)
 rw [hb] at hs
 generalize hm:(f ^^^ l).log2=m at hs
 have hne:f / 2 ^ m≠l / 2 ^ m:=by
  intro e
  have:(f ^^^ l) / 2 ^ m=0:=by rw [Nat.xor_div_two_pow,e];simp
  have h1:2 ^ m<=f ^^^ l:=by rw [← hm];exact Nat.log2_self_le hz
  have:=Nat.div_pos h1 (Nat.two_pow_pos m)
  lia
 have hle:f / 2 ^ m<=l / 2 ^ m:=Nat.div_le_div_right h
 rw [Nat.pow_succ,← Nat.div_div_eq_div_mul,← Nat.div_div_eq_div_mul] at hs
 have e1:f / 2 ^ m=2 * (f / 2 ^ m / 2):=by lia
 have e2:l / 2 ^ m=2 * (f / 2 ^ m / 2) + 1:=by lia
 have p:=Nat.two_pow_pos m
 rw [Nat.pow_succ,← Nat.div_div_eq_div_mul]
 generalize f / 2 ^ m / 2=q at e1 e2
 have ea:q * (2 ^ m * 2)=(2 * q) * 2 ^ m:=by rw [Nat.mul_comm (2 ^ m) 2,← Nat.mul_assoc,Nat.mul_comm q 2]
 have h1:f < (f / 2 ^ m + 1) * 2 ^ m:=by
  have:=Nat.lt_succ_self (f / 2 ^ m)
  exact (Nat.div_lt_iff_lt_mul p).mp this
 have h2:(l / 2 ^ m) * 2 ^ m<=l:=Nat.div_mul_le_self l _
 rw [e1,Nat.add_mul,Nat.one_mul] at h1
 rw [e2,Nat.add_mul,Nat.one_mul] at h2
 lia
theorem block {f n:Nat} (hf:f < 2 ^ 30) (hn:n<=30):f / 2 ^ n * 2 ^ n + 2 ^ n<=2 ^ 30:=by
 have e:2 ^ 30=2 ^ (30 - n) * 2 ^ n:=by rw [← Nat.pow_add];congr 1;lia
 have h:f / 2 ^ n < 2 ^ (30 - n):=by
  rw [Nat.div_lt_iff_lt_mul (Nat.two_pow_pos n),← e];exact hf
 have h2:(f / 2 ^ n + 1) * 2 ^ n<=2 ^ (30 - n) * 2 ^ n:=Nat.mul_le_mul_right _ h
 rw [Nat.add_mul,Nat.one_mul,← e] at h2
 exact h2
end Bt
namespace DL
open PySem L2
section
variable {F G:Sm} {δ:DS} {fa fb fc:Fn} {g g':D->D->Ou D} {ga gb:DS->Ou Bool}
@[simp] theorem e_seq:sSeq F G δ=(F δ).bind fun r=>match r with
 | .nx δ'=>G δ'
 | r=>.ok r:=rfl
@[simp] theorem e_next:sNext δ=.ok (.nx δ):=rfl
@[simp] theorem e_if:sIf ga F G δ=(ga δ).bind fun b=>if b=true then F δ else G δ:=rfl
@[simp] theorem e_ret:sRet fa δ=(fa δ).bind fun d=>.ok (.rt d):=rfl
@[simp] theorem e_drop:sDrop fa δ=(fa δ).bind fun _=>.ok (.nx δ):=rfl
@[simp] theorem e_set {i:Nat}:sSet i fa δ=(fa δ).bind fun d=>.ok (.nx (δ.set i (.val d))):=rfl
@[simp] theorem e_break:sBreak δ=.ok (.bk δ):=rfl
@[simp] theorem e_cont:sCont δ=.ok (.ct δ):=rfl
@[simp] theorem e_f2:f2 g fa fb δ=(fa δ).bind fun x=>(fb δ).bind fun y=>g x y:=rfl
@[simp] theorem e_f1 {h:D->Ou D}:f1 h fa δ=(fa δ).bind h:=rfl
@[simp] theorem e_c {d:D}:fC d δ=.ok d:=rfl
@[simp] theorem e_asB:fAsB fa δ=(fa δ).bind asB:=rfl
@[simp] theorem e_tru:fTru fa δ=(fa δ).bind truD:=rfl
@[simp] theorem e_notT:fNotT ga δ=(ga δ).bind fun b=>.ok (!b):=rfl
@[simp] theorem e_andT:fAndT ga gb δ=(ga δ).bind fun b=>if b=true then gb δ else .ok false:=rfl
@[simp] theorem e_orT:fOrT ga gb δ=(ga δ).bind fun b=>if b=true then .ok true else gb δ:=rfl
@[simp] theorem e_andV:fAndV fa fb δ=(fa δ).bind fun x=>(asB x).bind fun b=>if b=true then fb δ else .ok (.bl false):=rfl
@[simp] theorem e_orV:fOrV fa fb δ=(fa δ).bind fun x=>(asB x).bind fun b=>if b=true then .ok (.bl true) else fb δ:=rfl
@[simp] theorem e_notV:fNotV fa δ=(fa δ).bind fun x=>(asB x).bind fun b=>.ok (.bl (!b)):=rfl
@[simp] theorem e_ife:fIfE ga fa fb δ=(ga δ).bind fun b=>if b=true then fa δ else fb δ:=rfl
@[simp] theorem e_chn:fChn g g' fa fb fc δ=(fa δ).bind fun x=>(fb δ).bind fun y=>(g x y).bind fun z=>(asB z).bind fun k=>if k=true then (fc δ).bind fun w=>g' y w else .ok (.bl false):=rfl
@[simp] theorem e_tup {fs:List Fn}:fTup fs δ=(fArgs fs δ).bind fun ds=>.ok (.tup ds):=rfl
@[simp] theorem e_lst {fs:List Fn}:fLst fs δ=(fArgs fs δ).bind fun ds=>.ok (.lst ds):=rfl
@[simp] theorem e_call {mm:List D->Ou D} {fs:List Fn}:fCall mm fs δ=(fArgs fs δ).bind mm:=rfl
@[simp] theorem e_args0:fArgs [] δ=.ok []:=rfl
@[simp] theorem e_args {f:Fn} {fs:List Fn}:fArgs (f::fs) δ=(f δ).bind fun d=>(fArgs fs δ).bind fun ds=>.ok (d::ds):=rfl
@[simp] theorem e_meth {tb:MTab} {fo:Fn} {fs:List Fn}:fMeth tb fo fs δ=(fo δ).bind fun d=>match tbM tb d with
 | some mm=>(fArgs fs δ).bind fun ds=>mm (d::ds)
 | none=>.bad:=rfl
@[simp] theorem e_make0 {c:PySem.Str}:fMake0 c δ=.ok (.obj c):=rfl
@[simp] theorem tbM_head {c:PySem.Str} {f:List D->Ou D} {tb:MTab}:tbM ((c,f)::tb) (.obj c)=some f:=by simp [tbM]
theorem tbM_tail {c c':PySem.Str} {f:List D->Ou D} {tb:MTab} (h:(c' == c)=false):tbM ((c',f)::tb) (.obj c)=tbM tb (.obj c):=by simp [tbM,h]
@[simp] theorem e_listL {ds:List D}:gListOf (.lst ds)=.ok (.lst ds):=rfl
@[simp] theorem e_listF {ds:List D}:gListOf (.frl ds)=.ok (.lst ds):=rfl
@[simp] theorem e_listT {ds:List D}:gListOf (.tup ds)=.ok (.lst ds):=rfl
@[simp] theorem e_isBl {d:D} {k:Bool}:gIsB d (.bl k)=.ok (.bl (isBl k d)):=rfl
@[simp] theorem e_notBl {d:D} {k:Bool}:gNotB d (.bl k)=.ok (.bl (!isBl k d)):=rfl
@[simp] theorem e_isBl2 {k k':Bool}:isBl k (.bl k')=(k' == k):=rfl
@[simp] theorem e_isNn:gIsN .non=.ok (.bl true):=rfl
@[simp] theorem e_notNn:gNotN .non=.ok (.bl false):=rfl
@[simp] theorem e_sown {i:Nat}:sOwn i fa δ=(fa δ).bind fun d=>.ok (.nx (δ.set i (.own d))):=rfl
@[simp] theorem e_asBb {b:Bool}:asB (.bl b)=.ok b:=rfl
@[simp] theorem e_truB {b:Bool}:truD (.bl b)=.ok b:=rfl
@[simp] theorem e_up:fUp fa δ=(fa δ).bind fun d=>if imm d=true then .ok d else .bad:=rfl
@[simp] theorem e_imm_i {i:Int}:imm (.int i)=true:=rfl
@[simp] theorem e_imm_b {i:Bool}:imm (.bl i)=true:=rfl
@[simp] theorem e_imm_s {i:Str}:imm (.str i)=true:=rfl
@[simp] theorem e_imm_n:imm .non=true:=rfl
@[simp] theorem e_imm_t {ds:List D}:imm (.tup ds)=imms ds:=by simp [imm]
@[simp] theorem e_imms0:imms []=true:=by simp [imms]
@[simp] theorem e_imms {d:D} {ds:List D}:imms (d::ds)=(imm d && imms ds):=by simp [imms]
@[simp] theorem e_add {i j:Int}:gAdd (.int i) (.int j)=.ok (.int (i + j)):=rfl
@[simp] theorem e_sub {i j:Int}:gSub (.int i) (.int j)=.ok (.int (i - j)):=rfl
@[simp] theorem e_mul {i j:Int}:gMul (.int i) (.int j)=if cMul i j=true then .ok (.int (i * j)) else .bad:=rfl
@[simp] theorem e_div {i j:Int}:gDiv (.int i) (.int j)=if cDiv i j=true then .ok (.int (i / j)) else .bad:=rfl
@[simp] theorem e_mod {i j:Int}:gMod (.int i) (.int j)=if cMod i j=true then .ok (.int (i % j)) else .bad:=rfl
@[simp] theorem e_pow {i j:Int}:gPow (.int i) (.int j)=if cPow i j=true then .ok (.int (i ^ j.toNat)) else .bad:=rfl
@[simp] theorem e_shl {i j:Int}:gShl (.int i) (.int j)=if cPow i j=true then .ok (.int (i * 2 ^ j.toNat)) else .bad:=rfl
@[simp] theorem e_shr {i j:Int}:gShr (.int i) (.int j)=if cShr i j=true then .ok (.int (i / 2 ^ j.toNat)) else .bad:=rfl
@[simp] theorem e_xor {i j:Int}:gXor (.int i) (.int j)=.ok (.int (Builtin.bitXor i j)):=rfl
@[simp] theorem e_and {i j:Int}:gAnd (.int i) (.int j)=.ok (.int (Builtin.bitAnd i j)):=rfl
@[simp] theorem e_lt {i j:Int}:gLt (.int i) (.int j)=.ok (.bl (decide (i < j))):=rfl
@[simp] theorem e_le {i j:Int}:gLe (.int i) (.int j)=.ok (.bl (decide (i<=j))):=rfl
@[simp] theorem e_gt {i j:Int}:gGt (.int i) (.int j)=.ok (.bl (decide (j < i))):=rfl
@[simp] theorem e_ge {i j:Int}:gGe (.int i) (.int j)=.ok (.bl (decide (j<=i))):=rfl
theorem gEq_eq {x y:D}:gEq x y=match eqF (eqF (eqF (eqD 57))) x y with
 | some b=>.ok (.bl b)
 | none=>.bad:=rfl
theorem gNe_eq {x y:D}:gNe x y=match eqF (eqF (eqF (eqD 57))) x y with
 | some b=>.ok (.bl (!b))
 | none=>.bad:=rfl
@[simp] theorem e_eqI {i j:Int}:gEq (.int i) (.int j)=.ok (.bl (decide (i=j))):=rfl
@[simp] theorem e_eqB {i j:Bool}:gEq (.bl i) (.bl j)=.ok (.bl (decide (i=j))):=rfl
@[simp] theorem e_neI {i j:Int}:gNe (.int i) (.int j)=.ok (.bl (!decide (i=j))):=rfl
@[simp] theorem e_neg {i:Int}:gNeg (.int i)=.ok (.int (-i)):=rfl
@[simp] theorem e_min {i j:Int}:gMin [.int i,.int j]=.ok (.int (if j < i then j else i)):=rfl
@[simp] theorem e_max {i j:Int}:gMax [.int i,.int j]=.ok (.int (if j > i then j else i)):=rfl
@[simp] theorem e_lenL {ds:List D}:gLen [.lst ds]=.ok (.int (ds.length:Nat)):=rfl
@[simp] theorem e_lenF {ds:List D}:gLen [.frl ds]=.ok (.int (ds.length:Nat)):=rfl
@[simp] theorem e_lenT {ds:List D}:gLen [.tup ds]=.ok (.int (ds.length:Nat)):=rfl
@[simp] theorem e_ixT {ds:List D} {i:Int}:gIx (.tup ds) (.int i)=match atI ds i with
 | some d=>.ok d
 | none=>.bad:=rfl
@[simp] theorem e_ixL {ds:List D} {i:Int}:gIx (.lst ds) (.int i)=match atI ds i with
 | some d=>.ok d
 | none=>.bad:=rfl
@[simp] theorem e_ixF {ds:List D} {i:Int}:gIx (.frl ds) (.int i)=match atI ds i with
 | some d=>.ok d
 | none=>.bad:=rfl
@[simp] theorem e_isI {i:Int} {T:String}:gIs T (.int i)=.ok (.bl (isT "int" T)):=rfl
@[simp] theorem e_isB {i:Bool} {T:String}:gIs T (.bl i)=.ok (.bl (isT "bool" T)):=rfl
@[simp] theorem e_isS {i:Str} {T:String}:gIs T (.str i)=.ok (.bl (isT "str" T)):=rfl
@[simp] theorem e_isN {T:String}:gIs T .non=.ok (.bl (isT "NoneType" T)):=rfl
@[simp] theorem e_isT {ds:List D} {T:String}:gIs T (.tup ds)=.ok (.bl (isT "tuple" T)):=rfl
@[simp] theorem e_isL {ds:List D} {T:String}:gIs T (.lst ds)=.ok (.bl (isT "list" T)):=rfl
@[simp] theorem e_isF {ds:List D} {T:String}:gIs T (.frl ds)=.ok (.bl (isT "list" T)):=rfl
@[simp] theorem e_run {n:Nat} {ds:List D}:runD false n F ds=(F (startD n ds)).bind fun r=>match r with
 | .rt d=>.ok d
 | .nx _=>.ok .non
 | _=>.bad:=by unfold runD;rfl
@[simp] theorem e_runF {n:Nat} {ds:List D}:runD true n F ds=(F (startD n ds)).bind fun r=>match r with
 | .rt d=>.ok d
 | _=>.bad:=by
 unfold runD
 congr 1
 funext r
 cases r <;> rfl
@[simp] theorem bind_bind {α β γ:Type} {o:Ou α} {f:α->Ou β} {h:β->Ou γ}:(o.bind f).bind h=o.bind fun a=>(f a).bind h:=by
 cases o <;> rfl
@[simp] theorem ite_bl {p:Prop} [Decidable p] {q:Bool}:(if p then Ou.ok (D.bl q) else Ou.ok (D.bl false))=.ok (.bl (decide p && q)):=by
 by_cases h:p <;> simp [h]
@[simp] theorem ite_bl' {p:Prop} [Decidable p] {q:Bool}:(if p then Ou.ok (D.bl true) else Ou.ok (D.bl q))=.ok (.bl (decide p || q)):=by
 by_cases h:p <;> simp [h]
@[simp] theorem ite_b {p:Prop} [Decidable p] {q:Bool}:(if p then Ou.ok q else Ou.ok false)=.ok (decide p && q):=by
 by_cases h:p <;> simp [h]
@[simp] theorem ite_b' {p:Prop} [Decidable p] {q:Bool}:(if p then Ou.ok true else Ou.ok q)=.ok (decide p || q):=by
 by_cases h:p <;> simp [h]
@[simp] theorem cDiv_ok {i j:Int} (h:0 < j) (h2:j < 2 ^ 64):cDiv i j=true:=by simp [cDiv];lia
@[simp] theorem cMod_ok {i j:Int} (h:0 < j):cMod i j=true:=by simp [cMod];lia
@[simp] theorem cMul_l {i j:Int} (h:-(2 ^ 64) < i) (h2:i < 2 ^ 64):cMul i j=true:=by simp [cMul];lia
@[simp] theorem cMul_r {i j:Int} (h:-(2 ^ 64) < j) (h2:j < 2 ^ 64):cMul i j=true:=by simp [cMul];lia
theorem at_0 {α:Type} {x:α} {r:List α}:atI (x::r) 0=some x:=by
 unfold atI ixN
 simp
theorem at_nat {α:Type} {xs:List α} {k:Nat} (h:k < xs.length):atI xs (k:Int)=some xs[k]:=by
 unfold atI ixN
 have h1:(0:Int)<=(k:Int):=by lia
 have h2:(k:Int) < (xs.length:Int):=by lia
 simp [h1,h2,h]
theorem at_1 {α:Type} {x y:α} {r:List α}:atI (x::y::r) 1=some y:=at_nat (xs:=x::y::r) (k:=1) (by simp)
theorem at_2 {α:Type} {x y z:α} {r:List α}:atI (x::y::z::r) 2=some z:=at_nat (xs:=x::y::z::r) (k:=2) (by simp)
theorem at_3 {α:Type} {x y z u:α} {r:List α}:atI (x::y::z::u::r) 3=some u:=at_nat (xs:=x::y::z::u::r) (k:=3) (by simp)
theorem at_4 {α:Type} {x y z u v:α} {r:List α}:atI (x::y::z::u::v::r) 4=some v:=at_nat (xs:=x::y::z::u::v::r) (k:=4) (by simp)
def Goes (Inv:DS->Prop) (o:Ou Fl):Prop:=∃ δ2,(o=.ok (.nx δ2)\/o=.ok (.ct δ2))/\Inv δ2
theorem Goes.nx {Inv:DS->Prop} {δ:DS} (h:Inv δ):Goes Inv (.ok (.nx δ)):=⟨δ,.inl rfl,h⟩
theorem Goes.eq {Inv:DS->Prop} {o:Ou Fl} {δ2:DS} (e:o=.ok (.nx δ2)) (h:Inv δ2):Goes Inv o:=⟨δ2,.inl e,h⟩
theorem Goes.ct {Inv:DS->Prop} {δ:DS} (h:Inv δ):Goes Inv (.ok (.ct δ)):=⟨δ,.inr rfl,h⟩
theorem forL_goesN {g:D->DS->Ou DS} {body:Sm} (Inv:Nat->DS->Prop):∀ (items:List D) (n:Nat) (_:∀ i d,items[i]? = some d->∀ δ,Inv (n + i) δ->Goes (Inv (n + i + 1)) ((g d δ).bind body)) (δ:DS),Inv n δ->∃ δ',forL g body items δ=.ok (.nx δ')/\Inv (n + items.length) δ'
 | [],n,_,δ,h=>⟨δ,rfl,h⟩
 | d::r,n,hs,δ,h=>by
  obtain ⟨δ2,h1,h2⟩:=hs 0 d rfl δ h
  obtain ⟨δ',h3,h4⟩:=forL_goesN Inv r (n + 1) (fun i d hd δ hi=>by
   have e:n + 1 + i=n + (i + 1):=by lia
   rw [e] at hi ⊢
   exact hs (i + 1) d (by simpa using hd) δ hi) δ2 h2
  refine ⟨δ',?_,by
   rw [List.length_cons]
   have e:n + (r.length + 1)=n + 1 + r.length:=by lia
   rw [e];exact h4⟩
  cases e:g d δ with
  | ok δ1 =>
   simp only [forL,e,bind_ok] at h1 ⊢
   rcases h1 with h1 | h1 <;> rw [h1] <;> exact h3
  | ex z=>rw [e] at h1;rcases h1 with h1 | h1 <;> cases h1
  | bad=>rw [e] at h1;rcases h1 with h1 | h1 <;> cases h1
theorem For.useN {g:D->DS->Ou DS} {body:Sm} {items:List D} {δ:DS} {α:Type} {k:Fl->Ou α} {r:Ou α} (Inv:Nat->DS->Prop) (h0:Inv 0 δ) (hs:∀ i d,items[i]? = some d->i < items.length->∀ δ,Inv i δ->Goes (Inv (i + 1)) ((g d δ).bind body))
  (hd:∀ δ,Inv items.length δ->k (.nx δ)=r):(forL g body items δ).bind k=r:=by
 obtain ⟨δ',e,q⟩:=forL_goesN Inv items 0 (fun i d hd δ hi=>by
  rw [Nat.zero_add] at hi ⊢
  exact hs i d hd (List.getElem?_eq_some_iff.mp hd).1 δ hi) δ h0
 rw [e]
 rw [Nat.zero_add] at q
 exact hd δ' q
@[simp] theorem e_nm {i:Nat} {d:D} {δ:DS}:gNm i d δ=.ok (δ.set i (.val d)):=rfl
theorem rng1 {g:D->DS->Ou DS} {F:Sm} {fs:List Fn} {δ:DS} {j:Int} (h:fArgs fs δ=.ok [.int j]) (hj:rOk j=true):sRng fs g F δ=forL g F (rng 0 j.toNat) δ:=by
 simp only [sRng,h,bind_ok,hj,if_true]
theorem Rng.useN {g:D->DS->Ou DS} {body:Sm} {fs:List Fn} {δ:DS} {j:Int} {α:Type} {k:Fl->Ou α} {r:Ou α} (h:fArgs fs δ=.ok [.int j]) (hj:rOk j=true) (Inv:Nat->DS->Prop) (h0:Inv 0 δ)
  (hs:∀ n:Nat,(n:Int) < j->∀ δ,Inv n δ->Goes (Inv (n + 1)) ((g (.int (n:Int)) δ).bind body)) (hd:∀ δ,Inv j.toNat δ->k (.nx δ)=r):(sRng fs g body δ).bind k=r:=by
 rw [rng1 h hj]
 refine For.useN Inv h0 (fun i d hm hi δ hI=>?_) (by rw [rng_len];exact hd)
 obtain ⟨h1,rfl⟩:=rng_get hm
 have e:(0:Int) + (i:Int)=(i:Int):=by lia
 rw [e]
 exact hs i (by lia) δ hI
end
end DL
namespace DL
open PySem L2
section
@[simp] theorem e_eqS {x y:Str}:gEq (.str x) (.str y)=.ok (.bl (decide (x=y))):=by
 simp [gEq_eq,eqF,rk,toV,eqV];rfl
@[simp] theorem e_neS {x y:Str}:gNe (.str x) (.str y)=.ok (.bl (!decide (x=y))):=by
 simp [gNe_eq,eqF,rk,toV,eqV];rfl
theorem int_beq {a b:Int}:(a == b)=decide (a=b):=by
 by_cases h:a=b <;> simp [h]
theorem eq_t2 {a b c d:Int}:gEq (.tup [.int a,.int b]) (.tup [.int c,.int d])=.ok (.bl (decide (a=c) && decide (b=d))):=by
 simp [gEq_eq,eqF,rk,its,eqT,zipO,toV,eqV,int_beq]
end
end DL
namespace DL
open PySem L2
section
@[simp high] theorem e_min' {i j:Int}:gMin [.int i,.int j]=.ok (.int (min i j)):=by
 rw [e_min];congr 2;by_cases h:j < i <;> simp [h] <;> lia
@[simp high] theorem e_max' {i j:Int}:gMax [.int i,.int j]=.ok (.int (max i j)):=by
 rw [e_max];congr 2;by_cases h:j > i <;> simp [h] <;> lia
@[simp] theorem e_addI {i j:Int}:gAddI (.int i) (.int j)=.ok (.int (i + j)):=rfl
@[simp] theorem e_subI {i j:Int}:gSubI (.int i) (.int j)=.ok (.int (i - j)):=rfl
end
end DL
namespace DL
open PySem L2
theorem cut_drop (ds:List D) (k:Nat) (h:k<=ds.length):cutD ds (some (k:Int)) none=ds.drop k:=by
 unfold cutD
 rw [HT.sIx_nat,HT.sIx_none,Nat.min_eq_left h,← List.length_drop]
 exact List.take_length
theorem cut_take (ds:List D) (k:Nat) (h:k<=ds.length):cutD ds none (some (k:Int))=ds.take k:=by
 unfold cutD
 rw [HT.sIx_nat,HT.sIx_none,Nat.min_eq_left h]
 simp
theorem at_map {ns:List Int} {k:Nat} (h:k < ns.length):atI (ns.map D.int) (k:Int)=some (.int ns[k]):=by
 rw [at_nat (by simpa using h)];simp
end DL
namespace DL
open PySem L2
theorem comp_inv {g:D->DS->Ou DS} {gc:DS->Ou Bool} {fe:Fn} (Inv:DS->Prop) (R:Nat->D->Prop):∀ (items:List D) (n:Nat),(∀ i d,items[i]? = some d->∀ δ,Inv δ->∃ δ1 y,g d δ=.ok δ1/\gc δ1=.ok true/\fe δ1=.ok y/\Inv δ1/\R (n + i) y) ->
  ∀ δ,Inv δ->∃ ys,compL g gc fe items δ=.ok ys/\ys.length=items.length/\∀ i y,ys[i]? = some y->R (n + i) y
 | [],n,_,δ,_=>⟨[],rfl,rfl,fun i y e=>by simp at e⟩
 | d::r,n,h,δ,hI=>by
  obtain ⟨δ1,y,h1,h2,h3,h4,h5⟩:=h 0 d rfl δ hI
  obtain ⟨ys,e,hl,hR⟩:=comp_inv Inv R r (n + 1) (fun i d hd δ hI=>by
   have z:=h (i + 1) d (by simpa using hd) δ hI
   have e:n + (i + 1)=n + 1 + i:=by lia
   rw [e] at z
   exact z) δ1 h4
  refine ⟨y::ys,by simp [compL,h1,h2,h3,e],by simp [hl],fun i z hz=>?_⟩
  cases i with
  | zero=>simp at hz;subst hz;exact h5
  | succ i =>
   have w:=hR i z (by simpa using hz)
   have e:n + 1 + i=n + (i + 1):=by lia
   rw [e] at w
   exact w
theorem comp_filter {g:D->DS->Ou DS} {gc:DS->Ou Bool} {fe:Fn} (Inv:DS->Prop) (p:D->Bool) (f:D->D):∀ (items:List D),(∀ d∈items,∀ δ,Inv δ->∃ δ1,g d δ=.ok δ1/\gc δ1=.ok (p d)/\(p d=true->fe δ1=.ok (f d))/\Inv δ1) ->
  ∀ δ,Inv δ->compL g gc fe items δ=.ok ((items.filter p).map f)
 | [],_,_,_=>rfl
 | d::r,h,δ,hI=>by
  obtain ⟨δ1,h1,h2,h3,h4⟩:=h d List.mem_cons_self δ hI
  have e:=comp_filter Inv p f r (fun d hd=>h d (List.mem_cons_of_mem _ hd)) δ1 h4
  cases hp:p d with
  | true=>simp [compL,h1,h2,hp,h3 hp,e]
  | false=>simp [compL,h1,h2,hp,e]
theorem comp_map {g:D->DS->Ou DS} {fe:Fn} (Inv:DS->Prop) (f:D->D) (items:List D) (h:∀ d∈items,∀ δ,Inv δ->∃ δ1,g d δ=.ok δ1/\fe δ1=.ok (f d)/\Inv δ1) (δ:DS) (hI:Inv δ):compL g fYes fe items δ=.ok (items.map f):=by
 have:=comp_filter (gc:=fYes) Inv (fun _=>true) f items (fun d hd δ hI=>by
  obtain ⟨δ1,h1,h2,h3⟩:=h d hd δ hI
  exact ⟨δ1,h1,rfl,fun _=>h2,h3⟩) δ hI
 rw [List.filter_eq_self.mpr (fun _ _=>rfl)] at this
 exact this
inductive Row2 {α:Type} (R:D->α->Prop):List D->List α->Prop
 | nil:Row2 R [] []
 | cons {d:D} {x:α} {ds:List D} {xs:List α}:R d x->Row2 R ds xs->Row2 R (d::ds) (x::xs)
section
variable {α:Type} {R:D->α->Prop}
theorem Row2.drop {ds:List D} {xs:List α} (h:Row2 R ds xs):∀ n,Row2 R (ds.drop n) (xs.drop n):=by
 induction h with
 | nil=>intro n;simpa using Row2.nil
 | cons a t ih =>
  intro n
  cases n with
  | zero=>exact .cons a t
  | succ n=>exact ih n
theorem Row2.take {ds:List D} {xs:List α} (h:Row2 R ds xs):∀ n,Row2 R (ds.take n) (xs.take n):=by
 induction h with
 | nil=>intro n;simpa using Row2.nil
 | cons a t ih =>
  intro n
  cases n with
  | zero=>exact .nil
  | succ n=>exact .cons a (ih n)
theorem Row2.get {ds:List D} {xs:List α} (h:Row2 R ds xs) {k:Nat} {d:D} (e:ds[k]? = some d):∃ x,xs[k]? = some x/\R d x:=by
 induction h generalizing k with
 | nil=>simp at e
 | @cons d' x ds xs a t ih =>
  cases k with
  | zero=>simp at e;subst e;exact ⟨x,rfl,a⟩
  | succ k=>obtain ⟨x,h1,h2⟩:=ih (by simpa using e);exact ⟨x,by simpa using h1,h2⟩
end
theorem at_last {α:Type} {xs:List α} {x:α}:atI (xs++[x]) (-1)=some x:=by
 unfold atI ixN
 have h:-(((xs++[x]).length:Nat):Int)<=-1:=by simp;lia
 have e:((-1:Int) + ((xs++[x]).length:Nat)).toNat=xs.length:=by simp;lia
 rw [if_neg (by decide),if_pos h,e]
 simp
theorem eq_nilL (ds:List D):gEq (.lst ds) (.lst [])=.ok (.bl (decide (ds=[]))):=by
 cases ds with
 | nil=>rfl
 | cons d r=>simp [gEq_eq,eqF,rk,its,eqL]
theorem cut_map (ns:List Int) (lo hi:Option Int):∃ ms:List Int,cutD (ns.map D.int) lo hi=ms.map D.int/\ms.length<=ns.length:=by
 refine ⟨(ns.drop (HT.sIx ns.length 0 lo)).take (HT.sIx ns.length ns.length hi - HT.sIx ns.length 0 lo),?_,?_⟩
 ·unfold cutD
  rw [List.length_map,List.map_take,List.map_drop]
 ·rw [List.length_take,List.length_drop];lia
end DL
namespace DL
open PySem L2
theorem For.useP {g:D->DS->Ou DS} {body:Sm} {items:List D} {δ:DS} {α:Type} {k:Fl->Ou α} (P:Ou α->Prop) (Inv:Nat->DS->Prop) (h0:Inv 0 δ) (hs:∀ i d,items[i]? = some d->i < items.length->∀ δ,Inv i δ->Goes (Inv (i + 1)) ((g d δ).bind body))
  (hd:∀ δ,Inv items.length δ->P (k (.nx δ))):P ((forL g body items δ).bind k):=by
 obtain ⟨δ',e,q⟩:=forL_goesN Inv items 0 (fun i d hd δ hi=>by
  rw [Nat.zero_add] at hi ⊢
  exact hs i d hd (List.getElem?_eq_some_iff.mp hd).1 δ hi) δ h0
 rw [e]
 rw [Nat.zero_add] at q
 exact hd δ' q
theorem Rng.useP {g:D->DS->Ou DS} {body:Sm} {fs:List Fn} {δ:DS} {j:Int} {α:Type} {k:Fl->Ou α} (P:Ou α->Prop) (h:fArgs fs δ=.ok [.int j]) (hj:rOk j=true) (Inv:Nat->DS->Prop) (h0:Inv 0 δ)
  (hs:∀ n:Nat,(n:Int) < j->∀ δ,Inv n δ->Goes (Inv (n + 1)) ((g (.int (n:Int)) δ).bind body)) (hd:∀ δ,Inv j.toNat δ->P (k (.nx δ))):P ((sRng fs g body δ).bind k):=by
 rw [rng1 h hj]
 refine For.useP P Inv h0 (fun i d hm hi δ hI=>?_) (by rw [rng_len];exact hd)
 obtain ⟨h1,rfl⟩:=rng_get hm
 have e:(0:Int) + (i:Int)=(i:Int):=by lia
 rw [e]
 exact hs i (by lia) δ hI
theorem snoc {α:Type}:∀ {xs:List α},xs≠[]->∃ r x,xs=r++[x]
 | [],h=>absurd rfl h
 | [x],_=>⟨[],x,rfl⟩
 | x::y::r,_=>by
  obtain ⟨r',z,e⟩:=snoc (xs:=y::r) (by simp)
  exact ⟨x::r',z,by rw [e];rfl⟩
end DL
namespace DL
open PySem L2
theorem zipO_mono {f f':D->D->Option Bool} (hf:∀ x y b,f x y=some b->f' x y=some b):∀ {xs ys:List D} {bs:List Bool},zipO f xs ys=some bs->zipO f' xs ys=some bs
 | [],_,_,h=>by simpa [zipO] using h
 | x::xs,[],_,h=>by simpa [zipO] using h
 | x::xs,y::ys,bs,h=>by
  simp only [zipO] at h ⊢
  cases e:f x y with
  | none=>rw [e] at h;cases h
  | some b =>
   rw [e] at h
   rw [hf x y b e]
   cases e2:zipO f xs ys with
   | none=>rw [e2] at h;cases h
   | some bs'=>rw [e2] at h;rw [zipO_mono hf e2];exact h
theorem eqF_mono {f f':D->D->Option Bool} (hf:∀ x y b,f x y=some b->f' x y=some b) {x y:D} {b:Bool} (h:eqF f x y=some b):eqF f' x y=some b:=by
 unfold eqF at h ⊢
 split at h <;> try exact h
 ·unfold eqT at h ⊢
  cases e:zipO f (its x) (its y) with
  | none=>rw [e] at h;cases h
  | some bs=>rw [e] at h;rw [zipO_mono hf e];exact h
 ·unfold eqL at h ⊢
  by_cases hl:(its x).length=(its y).length
  ·rw [if_pos hl] at h ⊢
   cases e:zipO f (its x) (its y) with
   | none=>rw [e] at h;cases h
   | some bs=>rw [e] at h;rw [zipO_mono hf e];exact h
  ·rw [if_neg hl] at h ⊢;exact h
theorem eqD_mono1:∀ (n:Nat) {x y:D} {b:Bool},eqD n x y=some b->eqD (n + 1) x y=some b
 | 0,_,_,_,h=>nomatch h
 | n + 1,_,_,_,h=>eqF_mono (f:=eqD n) (fun _ _ _ z=>eqD_mono1 n z) h
theorem eqD_mono {n m:Nat} (h:n<=m) {x y:D} {b:Bool} (e:eqD n x y=some b):eqD m x y=some b:=by
 induction h with
 | refl=>exact e
 | step _ ih=>exact eqD_mono1 _ ih
def Self (n:Nat) (x:D):Prop:=eqD n x x=some true
theorem Self.mono {n m:Nat} {x:D} (h:Self n x) (hm:n<=m):Self m x:=eqD_mono hm h
theorem Self.int (i:Int):Self 1 (.int i):=by show eqF _ _ _=_;simp [eqF,rk,toV,eqV]
theorem Self.str (i:Str):Self 1 (.str i):=by show eqF _ _ _=_;simp [eqF,rk,toV,eqV]
theorem Self.bl (i:Bool):Self 1 (.bl i):=by show eqF _ _ _=_;simp [eqF,rk,toV,eqV]
theorem Self.non:Self 1 .non:=rfl
theorem zip_self {n:Nat}:∀ {xs:List D},(∀ x∈xs,Self n x)->zipO (eqD n) xs xs=some (xs.map fun _=>true)
 | [],_=>rfl
 | x::xs,h=>by
  have h1:eqD n x x=some true:=h x List.mem_cons_self
  simp [zipO,h1,zip_self fun y hy=>h y (List.mem_cons_of_mem _ hy)]
theorem Self.tup {n:Nat} {xs:List D} (h:∀ x∈xs,Self n x):Self (n + 1) (.tup xs):=by
 show eqF (eqD n) _ _=_
 simp [eqF,rk,its,eqT,zip_self h]
theorem Self.lst {n:Nat} {xs:List D} (h:∀ x∈xs,Self n x):Self (n + 1) (.lst xs):=by
 show eqF (eqD n) _ _=_
 simp [eqF,rk,its,eqL,zip_self h]
theorem Self.ne {n:Nat} {x:D} (h:Self n x) (hn:n<=60):gNe x x=.ok (.bl false):=by
 have e:eqD 60 x x=some true:=eqD_mono hn h
 unfold gNe
 rw [e];rfl
end DL
namespace DL
open PySem L2
end DL
namespace DL
open PySem L2
@[simp] theorem e_mulB {i j:Int}:gMulB (.int i) (.int j)=if cMulB i j=true then .ok (.int (i * j)) else .bad:=rfl
end DL
namespace DL
theorem len1 {α:Type} {P:List α->Prop} (h:∀ a,P [a]):∀ us,us.length=1->P us
 | [a],_=>h a
theorem len2 {α:Type} {P:List α->Prop} (h:∀ a b,P [a,b]):∀ us,us.length=2->P us
 | [a,b],_=>h a b
theorem len3 {α:Type} {P:List α->Prop} (h:∀ a b c,P [a,b,c]):∀ us,us.length=3->P us
 | [a,b,c],_=>h a b c
theorem len4 {α:Type} {P:List α->Prop} (h:∀ a b c d,P [a,b,c,d]):∀ us,us.length=4->P us
 | [a,b,c,d],_=>h a b c d
end DL
namespace DL
section
variable {ga:DS->Ou Bool} {fa:Fn} {F G:Sm} {δ:DS} {b:Bool} {d:D} {i:Nat} {j w:Int}
theorem if_no (h:ga δ=.ok b) (hb:b=false):sSeq (sIf ga F sNext) G δ=G δ:=by
 subst hb
 show ((ga δ).bind _).bind _=_
 rw [h];rfl
theorem if_ret (h:ga δ=.ok b) (hb:b=true) (hd:fa δ=.ok d):sSeq (sIf ga (sSeq (sRet fa) sNext) sNext) G δ=.ok (.rt d):=by
 subst hb
 show ((ga δ).bind _).bind _=_
 rw [h]
 show (((fa δ).bind _).bind _).bind _=_
 rw [hd];rfl
theorem ret_is (hd:fa δ=.ok d):sSeq (sRet fa) G δ=.ok (.rt d):=by
 show ((fa δ).bind _).bind _=_
 rw [hd];rfl
theorem run_rt {n:Nat} {ds:List D} (h:F (startD n ds)=.ok (.rt d)):runD false n F ds=.ok d:=by
 unfold runD
 rw [h];rfl
end
end DL
namespace Bt
theorem bits_le_iff {x y n:Nat}:bits (x ^^^ y)<=n ↔ x / 2 ^ n=y / 2 ^ n:=by
 constructor
 ·intro h
  have e:=div_same (f:=x) (l:=y)
  obtain ⟨d,rfl⟩:=Nat.exists_eq_add_of_le h
  rw [Nat.pow_add,← Nat.div_div_eq_div_mul,← Nat.div_div_eq_div_mul,e]
 ·intro h
  refine bits_le ?_
  have:(x ^^^ y) / 2 ^ n=0:=by rw [Nat.xor_div_two_pow,h];simp
  have p:=Nat.two_pow_pos n
  exact (Nat.div_eq_zero_iff_lt p).mp this
theorem div_up {x y m n:Nat} (h:x / 2 ^ m=y / 2 ^ m) (hmn:m<=n):x / 2 ^ n=y / 2 ^ n:=by
 obtain ⟨d,rfl⟩:=Nat.exists_eq_add_of_le hmn
 rw [Nat.pow_add,← Nat.div_div_eq_div_mul,← Nat.div_div_eq_div_mul,h]
theorem in_block {x q i:Nat}:x / 2 ^ i=q ↔ q * 2 ^ i<=x/\x < q * 2 ^ i + 2 ^ i:=by
 have p:=Nat.two_pow_pos i
 rw [Nat.div_eq_iff p]
 have e:q * 2 ^ i + 2 ^ i - 1 + 1=q * 2 ^ i + 2 ^ i:=by lia
 constructor
 ·rintro ⟨h1,h2⟩;exact ⟨h1,by lia⟩
 ·rintro ⟨h1,h2⟩;exact ⟨h1,by lia⟩
theorem bits_blocks {q i r j x y a c:Nat} (hd:q * 2 ^ i + 2 ^ i<=r * 2 ^ j) (hx:x / 2 ^ i=q) (ha:a / 2 ^ i=q) (hy:y / 2 ^ j=r) (hc:c / 2 ^ j=r):bits (x ^^^ y)=bits (a ^^^ c):=by
 have key:∀ u v,u / 2 ^ i=q->v / 2 ^ j=r->∀ m,u / 2 ^ m=v / 2 ^ m->i<=m/\j<=m:=by
  intro u v hu hv m h
  have h1:=in_block.mp hu
  have h2:=in_block.mp hv
  constructor
  ·refine Nat.le_of_not_lt fun hm=>?_
   have:=div_up h (Nat.le_of_lt hm)
   rw [hu] at this
   have:=in_block.mp this.symm
   lia
  ·refine Nat.le_of_not_lt fun hm=>?_
   have:=div_up h (Nat.le_of_lt hm)
   rw [hv] at this
   have:=in_block.mp this
   lia
 have one:∀ u v u' v',u / 2 ^ i=q->v / 2 ^ j=r->u' / 2 ^ i=q->v' / 2 ^ j=r->bits (u ^^^ v)<=bits (u' ^^^ v'):=by
  intro u v u' v' hu hv hu' hv'
  have h:=bits_le_iff.mp (Nat.le_refl (bits (u' ^^^ v')))
  obtain ⟨h1,h2⟩:=key u' v' hu' hv' _ h
  refine bits_le_iff.mpr ?_
  rw [div_up (hu.trans hu'.symm) h1,div_up (hv.trans hv'.symm) h2]
  exact h
 exact Nat.le_antisymm (one x y a c hx hy ha hc) (one a c x y ha hc hx hy)
theorem bits_pos {x y:Nat} (h:x < y):0 < bits (x ^^^ y):=by
 refine Nat.pos_of_ne_zero fun e=>?_
 have:=bits_le_iff.mp (Nat.le_of_eq e)
 simp at this
 lia
theorem halves {q i r j n Q:Nat} (hd:q * 2 ^ i + 2 ^ i<=r * 2 ^ j) (hn:bits ((q * 2 ^ i) ^^^ (r * 2 ^ j))=n + 1) (hQ:q * 2 ^ i / 2 ^ (n + 1)=Q) :
  Q * 2 ^ (n + 1)<=q * 2 ^ i/\q * 2 ^ i + 2 ^ i<=Q * 2 ^ (n + 1) + 2 ^ n/\Q * 2 ^ (n + 1) + 2 ^ n<=r * 2 ^ j/\r * 2 ^ j + 2 ^ j<=Q * 2 ^ (n + 1) + 2 ^ (n + 1):=by
 have pi:=Nat.two_pow_pos i
 have pj:=Nat.two_pow_pos j
 have pn:=Nat.two_pow_pos n
 have hlt:q * 2 ^ i < r * 2 ^ j:=by lia
 have hz:(q * 2 ^ i) ^^^ (r * 2 ^ j)≠0:=fun e=>by
  have:=xor_zero_eq e
  lia
 obtain ⟨m,Q',h1,h2,h3,h4⟩:=half (Nat.le_of_lt hlt) hz
 obtain rfl:m=n:=by lia
 obtain rfl:Q'=Q:=by rw [← h2,← hQ]
 have pr:∀ x y,x / 2 ^ i=q->y / 2 ^ j=r->x < Q' * 2 ^ (m + 1) + 2 ^ m/\Q' * 2 ^ (m + 1) + 2 ^ m<=y/\y < Q' * 2 ^ (m + 1) + 2 ^ (m + 1):=by
  intro x y hx hy
  have e:=bits_blocks hd hx (Nat.mul_div_cancel q pi) hy (Nat.mul_div_cancel r pj)
  have b1:=in_block.mp hx
  have b2:=in_block.mp hy
  have hxy:x < y:=by lia
  have hz2:x ^^^ y≠0:=fun e=>by
   have:=xor_zero_eq e
   lia
  obtain ⟨m',Q2,g1,g2,g3,g4⟩:=half (Nat.le_of_lt hxy) hz2
  obtain rfl:m'=m:=by lia
  have hb:x / 2 ^ (m' + 1)=y / 2 ^ (m' + 1):=bits_le_iff.mp (Nat.le_of_eq g1)
  have hi:i<=m' + 1:=by
   refine Nat.le_of_not_lt fun hm=>?_
   have:=div_up hb (Nat.le_of_lt hm)
   rw [hx] at this
   have:=in_block.mp this.symm
   lia
  have hQ2:Q2=Q':=by
   rw [← g2,← h2]
   exact div_up (hx.trans (Nat.mul_div_cancel q pi).symm) hi
  subst hQ2
  rw [hb] at g2
  have:=in_block.mp g2
  exact ⟨g3,g4,this.2⟩
 have f1:(q * 2 ^ i + 2 ^ i - 1) / 2 ^ i=q:=in_block.mpr ⟨by lia,by lia⟩
 have f2:(r * 2 ^ j) / 2 ^ j=r:=Nat.mul_div_cancel r pj
 have f3:(r * 2 ^ j + 2 ^ j - 1) / 2 ^ j=r:=in_block.mpr ⟨by lia,by lia⟩
 have a1:=pr _ _ f1 f2
 have a2:=pr _ _ f1 f3
 have a3:=in_block.mp h2
 lia
end Bt
namespace Tr
open DL
abbrev all:Nat:=1073741824
inductive T
 | lf (a:Nat) (d:D)
 | nd (q k:Nat) (l r:T)
namespace T
def q:T->Nat
 | lf a _=>a
 | nd q _ _ _=>q
def e:T->Nat
 | lf _ _=>0
 | nd _ k _ _=>k + 1
def lo (t:T):Nat:=t.q * 2 ^ t.e
def sz (t:T):Nat:=2 ^ t.e
def ds:T->List (Nat×D)
 | lf a d=>[(a,d)]
 | nd _ _ l r=>l.ds++r.ds
end T
inductive Good:T->Prop
 | lf {a:Nat} {d:D}:a < all->Good (.lf a d)
 | nd {q k:Nat} {l r:T}:Good l->Good r->q * 2 ^ (k + 1)<=l.lo->l.lo + l.sz<=q * 2 ^ (k + 1) + 2 ^ k->q * 2 ^ (k + 1) + 2 ^ k<=r.lo->r.lo + r.sz<=q * 2 ^ (k + 1) + 2 ^ (k + 1)->q * 2 ^ (k + 1) + 2 ^ (k + 1)<=all->Good (.nd q k l r)
def mk (l r:T):T:=.nd (l.lo / 2 ^ Bt.bits (l.lo ^^^ r.lo)) (Bt.bits (l.lo ^^^ r.lo) - 1) l r
theorem sz_pos (t:T):0 < t.sz:=Nat.two_pow_pos _
theorem Good.up {t:T} (h:Good t):t.lo + t.sz<=all:=by
 cases h with
 | lf h=>simp [T.lo,T.sz,T.q,T.e];lia
 | nd _ _ _ _ _ _ h=>exact h
theorem mk_good {l r:T} (hl:Good l) (hr:Good r) (hd:l.lo + l.sz<=r.lo):Good (mk l r):=by
 have pl:=sz_pos l
 have pr:=sz_pos r
 have ul:=hl.up
 have ur:=hr.up
 have hpos:0 < Bt.bits (l.lo ^^^ r.lo):=Bt.bits_pos (by lia)
 obtain ⟨m,hm⟩:∃ m,Bt.bits (l.lo ^^^ r.lo)=m + 1:=⟨Bt.bits (l.lo ^^^ r.lo) - 1,by lia⟩
 have hh:=Bt.halves (q:=l.q) (i:=l.e) (r:=r.q) (j:=r.e) (n:=m) hd hm rfl
 have h30:(2:Nat) ^ 30=all:=by decide
 have hm30:m + 1<=30:=by
  rw [← hm]
  exact Bt.bits_le (Nat.xor_lt_two_pow (by rw [h30];lia) (by rw [h30];lia))
 have hb:=Bt.block (f:=l.lo) (n:=m + 1) (by rw [h30];lia) hm30
 rw [h30] at hb
 unfold mk
 rw [hm]
 exact .nd hl hr hh.1 hh.2.1 hh.2.2.1 hh.2.2.2 hb
theorem mk_same {q k:Nat} {l r:T} (h:Good (.nd q k l r)):mk l r=.nd q k l r:=by
 cases h with
 | nd hl hr h1 h2 h3 h4 h5 =>
  have pl:=sz_pos l
  have pr:=sz_pos r
  have pk:=Nat.two_pow_pos k
  have e2:2 ^ (k + 1)=2 ^ k * 2:=Nat.pow_succ ..
  have b1:l.lo / 2 ^ (k + 1)=q:=Bt.in_block.mpr ⟨h1,by lia⟩
  have b2:r.lo / 2 ^ (k + 1)=q:=Bt.in_block.mpr ⟨by lia,by lia⟩
  have ek:q * 2 ^ (k + 1)=2 * q * 2 ^ k:=by rw [e2,Nat.mul_comm (2 ^ k) 2,← Nat.mul_assoc,Nat.mul_comm q 2]
  have b3:l.lo / 2 ^ k=2 * q:=Bt.in_block.mpr ⟨by lia,by lia⟩
  have b4:r.lo / 2 ^ k=2 * q + 1:=Bt.in_block.mpr ⟨by rw [Nat.add_mul];lia,by rw [Nat.add_mul];lia⟩
  have c1:Bt.bits (l.lo ^^^ r.lo)<=k + 1:=Bt.bits_le_iff.mpr (b1.trans b2.symm)
  have c2:¬ Bt.bits (l.lo ^^^ r.lo)<=k:=fun z=>by
   have:=Bt.bits_le_iff.mp z
   lia
  have c3:Bt.bits (l.lo ^^^ r.lo)=k + 1:=by lia
  unfold mk
  rw [c3,b1]
  rfl
theorem times_in {t:T} (h:Good t):∀ p∈t.ds,t.lo<=p.1/\p.1 < t.lo + t.sz:=by
 induction h with
 | lf h=>intro p hp;simp [T.ds] at hp;subst hp;simp [T.lo,T.sz,T.q,T.e]
 | @nd q k l r hl hr h1 h2 h3 h4 h5 ihl ihr =>
  intro p hp
  have pk:=Nat.two_pow_pos k
  have e2:2 ^ (k + 1)=2 ^ k * 2:=Nat.pow_succ ..
  show q * 2 ^ (k + 1)<=p.1/\p.1 < q * 2 ^ (k + 1) + 2 ^ (k + 1)
  rcases List.mem_append.mp hp with hp | hp
  ·have:=ihl p hp;lia
  ·have:=ihr p hp;lia
theorem ds_sorted {t:T} (h:Good t):t.ds.Pairwise (fun a b=>a.1 < b.1):=by
 induction h with
 | lf h=>simp [T.ds]
 | nd hl hr h1 h2 h3 h4 h5 ihl ihr =>
  unfold T.ds
  rw [List.pairwise_append]
  refine ⟨ihl,ihr,fun a ha b hb=>?_⟩
  have:=times_in hl a ha
  have:=times_in hr b hb
  lia
theorem ds_ne:∀ t:T,t.ds≠[]
 | .lf a d=>by simp [T.ds]
 | .nd q k l r=>by
  have:=ds_ne l
  simp [T.ds,this]
def insK (a:Nat) (d:D):List (Nat×D)->List (Nat×D)
 | []=>[(a,d)]
 | p::r=>if a < p.1 then (a,d)::p::r else p::insK a d r
theorem insK_front {a:Nat} {d:D}:∀ {r:List (Nat×D)},(∀ p∈r,a < p.1)->insK a d r=(a,d)::r
 | [],_=>rfl
 | p::r,h=>by simp [insK,h p List.mem_cons_self]
theorem insK_back {a:Nat} {d:D}:∀ {r:List (Nat×D)},(∀ p∈r,p.1 < a)->insK a d r=r++[(a,d)]
 | [],_=>rfl
 | p::r,h=>by
  have h1:=h p List.mem_cons_self
  simp only [insK,List.cons_append]
  rw [if_neg (by lia),insK_back fun p hp=>h p (List.mem_cons_of_mem _ hp)]
theorem insK_left {a:Nat} {d:D}:∀ {l r:List (Nat×D)},(∀ p∈r,a < p.1)->insK a d (l++r)=insK a d l++r
 | [],r,h=>by rw [List.nil_append,insK_front h];rfl
 | p::l,r,h=>by
  simp only [List.cons_append,insK]
  by_cases hc:a < p.1
  ·rw [if_pos hc,if_pos hc];rfl
  ·rw [if_neg hc,if_neg hc,insK_left h];rfl
theorem insK_right {a:Nat} {d:D}:∀ {l r:List (Nat×D)},(∀ p∈l,p.1 < a)->insK a d (l++r)=l++insK a d r
 | [],r,h=>rfl
 | p::l,r,h=>by
  have h1:=h p List.mem_cons_self
  simp only [List.cons_append,insK]
  rw [if_neg (by lia),insK_right fun p hp=>h p (List.mem_cons_of_mem _ hp)]
def put (a:Nat) (d:D):T->Option T
 | .lf b e=>if a < b then some (mk (.lf a d) (.lf b e)) else if b < a then some (mk (.lf b e) (.lf a d)) else none
 | .nd q k l r=>if a < q * 2 ^ (k + 1) then some (mk (.lf a d) (.nd q k l r)) else if q * 2 ^ (k + 1) + 2 ^ (k + 1)<=a then some (mk (.nd q k l r) (.lf a d))
  else if a < q * 2 ^ (k + 1) + 2 ^ k then (put a d l).map fun l'=>mk l' r else (put a d r).map fun r'=>mk l r'
def Within (t:T) (Q n:Nat):Prop:=Q * 2 ^ n<=t.lo/\t.lo + t.sz<=Q * 2 ^ n + 2 ^ n
theorem mk_within {l r:T} {Q n:Nat} (hd:l.lo + l.sz<=r.lo) (hl:Within l Q n) (hr:Within r Q n):Within (mk l r) Q n:=by
 have pl:=sz_pos l
 have pr:=sz_pos r
 obtain ⟨l1,l2⟩:=hl
 obtain ⟨r1,r2⟩:=hr
 have b1:l.lo / 2 ^ n=Q:=Bt.in_block.mpr ⟨l1,by lia⟩
 have b2:r.lo / 2 ^ n=Q:=Bt.in_block.mpr ⟨by lia,by lia⟩
 have hb:Bt.bits (l.lo ^^^ r.lo)<=n:=Bt.bits_le_iff.mpr (b1.trans b2.symm)
 have hpos:0 < Bt.bits (l.lo ^^^ r.lo):=Bt.bits_pos (by lia)
 show Q * 2 ^ n<=l.lo / 2 ^ Bt.bits (l.lo ^^^ r.lo) * 2 ^ (Bt.bits (l.lo ^^^ r.lo) - 1 + 1)/\l.lo / 2 ^ Bt.bits (l.lo ^^^ r.lo) * 2 ^ (Bt.bits (l.lo ^^^ r.lo) - 1 + 1) + 2 ^ (Bt.bits (l.lo ^^^ r.lo) - 1 + 1)<=Q * 2 ^ n + 2 ^ n
 have e:Bt.bits (l.lo ^^^ r.lo) - 1 + 1=Bt.bits (l.lo ^^^ r.lo):=by lia
 rw [e]
 generalize Bt.bits (l.lo ^^^ r.lo)=m at *
 obtain ⟨c,rfl⟩:=Nat.exists_eq_add_of_le hb
 have hq:l.lo / 2 ^ m / 2 ^ c=Q:=by rw [Nat.div_div_eq_div_mul,← Nat.pow_add];exact b1
 have hw:=Bt.in_block.mp hq
 have e1:Q * 2 ^ (m + c)=Q * 2 ^ c * 2 ^ m:=by rw [Nat.pow_add,Nat.mul_comm (2 ^ m),Nat.mul_assoc]
 have e2:2 ^ (m + c)=2 ^ c * 2 ^ m:=by rw [Nat.pow_add,Nat.mul_comm]
 have g1:Q * 2 ^ c * 2 ^ m<=l.lo / 2 ^ m * 2 ^ m:=Nat.mul_le_mul_right _ hw.1
 have g2:(l.lo / 2 ^ m + 1) * 2 ^ m<=(Q * 2 ^ c + 2 ^ c) * 2 ^ m:=Nat.mul_le_mul_right _ hw.2
 rw [Nat.add_mul,Nat.add_mul,Nat.one_mul] at g2
 rw [e1,e2]
 exact ⟨g1,g2⟩
structure PutOk (a:Nat) (d:D) (t t':T):Prop where
 eq:put a d t=some t'
 good:Good t'
 ds:t'.ds=insK a d t.ds
 win:∀ Q n,Within t Q n->a / 2 ^ n=Q->Within t' Q n
theorem lf_within {a:Nat} {d:D} {Q n:Nat} (h:a / 2 ^ n=Q):Within (.lf a d) Q n:=by
 have:=Bt.in_block.mp h
 simp only [Within,T.lo,T.sz,T.q,T.e,Nat.pow_zero,Nat.mul_one]
 lia
theorem put_ok {a:Nat} {d:D} (ha:a < all) {t:T} (h:Good t) (hn:∀ p∈t.ds,p.1≠a):∃ t',PutOk a d t t':=by
 have gl:Good (.lf a d):=.lf ha
 have la:(T.lf a d).lo=a:=by simp [T.lo,T.q,T.e]
 have sa:(T.lf a d).sz=1:=rfl
 induction h with
 | @lf b e hb =>
  have hne:b≠a:=hn (b,e) (by simp [T.ds])
  have lb:(T.lf b e).lo=b:=by simp [T.lo,T.q,T.e]
  have sb:(T.lf b e).sz=1:=rfl
  have gb:Good (.lf b e):=.lf hb
  by_cases h1:a < b
  ·have hd:(T.lf a d).lo + (T.lf a d).sz<=(T.lf b e).lo:=by lia
   exact ⟨mk (.lf a d) (.lf b e),by simp [put,h1],mk_good gl gb hd,by simp [mk,T.ds,insK,h1],fun Q n w1 w2=>mk_within hd (lf_within w2) w1⟩
  ·have h2:b < a:=by lia
   have hd:(T.lf b e).lo + (T.lf b e).sz<=(T.lf a d).lo:=by lia
   exact ⟨mk (.lf b e) (.lf a d),by simp [put,h1,h2],mk_good gb gl hd,by simp [mk,T.ds,insK,h1],fun Q n w1 w2=>mk_within hd w1 (lf_within w2)⟩
 | @nd q k l r hl hr h1 h2 h3 h4 h5 ihl ihr =>
  have G:Good (.nd q k l r):=.nd hl hr h1 h2 h3 h4 h5
  have tin:=times_in G
  have L:(T.nd q k l r).lo=q * 2 ^ (k + 1):=rfl
  have S:(T.nd q k l r).sz=2 ^ (k + 1):=rfl
  have pk:=Nat.two_pow_pos k
  have e2:2 ^ (k + 1)=2 ^ k * 2:=Nat.pow_succ ..
  by_cases c1:a < q * 2 ^ (k + 1)
  ·have hd:(T.lf a d).lo + (T.lf a d).sz<=(T.nd q k l r).lo:=by lia
   refine ⟨mk (.lf a d) (.nd q k l r),by simp [put,c1],mk_good gl G hd,?_,fun Q n w1 w2=>mk_within hd (lf_within w2) w1⟩
   rw [insK_front fun p hp=>by have:=tin p hp;lia]
   rfl
  ·by_cases c2:q * 2 ^ (k + 1) + 2 ^ (k + 1)<=a
   ·have hd:(T.nd q k l r).lo + (T.nd q k l r).sz<=(T.lf a d).lo:=by lia
    refine ⟨mk (.nd q k l r) (.lf a d),by simp [put,c1,c2],mk_good G gl hd,?_,fun Q n w1 w2=>mk_within hd w1 (lf_within w2)⟩
    rw [insK_back fun p hp=>by have:=tin p hp;lia]
    rfl
   ·have ek:q * 2 ^ (k + 1)=2 * q * 2 ^ k:=by rw [e2,Nat.mul_comm (2 ^ k) 2,← Nat.mul_assoc,Nat.mul_comm q 2]
    by_cases c3:a < q * 2 ^ (k + 1) + 2 ^ k
    ·obtain ⟨l',P⟩:=ihl fun p hp=>hn p (List.mem_append_left _ hp)
     have wl:Within l' (2 * q) k:=P.win (2 * q) k ⟨by lia,by lia⟩ (Bt.in_block.mpr ⟨by lia,by lia⟩)
     have G':Good (.nd q k l' r):=.nd P.good hr (by have:=wl.1;lia) (by have:=wl.2;lia) h3 h4 h5
     have em:=mk_same G'
     refine ⟨.nd q k l' r,?_,G',?_,fun Q n w1 _=>w1⟩
     ·simp [put,c1,c2,c3,P.eq,em]
     ·show l'.ds++r.ds=insK a d (l.ds++r.ds)
      rw [insK_left fun p hp=>by have:=times_in hr p hp;lia,P.ds]
    ·obtain ⟨r',P⟩:=ihr fun p hp=>hn p (List.mem_append_right _ hp)
     have eb:(2 * q + 1) * 2 ^ k=q * 2 ^ (k + 1) + 2 ^ k:=by rw [Nat.add_mul,Nat.one_mul,ek]
     have wr:Within r' (2 * q + 1) k:=P.win (2 * q + 1) k ⟨by lia,by lia⟩ (Bt.in_block.mpr ⟨by lia,by lia⟩)
     have G':Good (.nd q k l r'):=.nd hl P.good h1 h2 (by have:=wr.1;lia) (by have:=wr.2;lia) h5
     have em:=mk_same G'
     refine ⟨.nd q k l r',?_,G',?_,fun Q n w1 _=>w1⟩
     ·simp [put,c1,c2,c3,P.eq,em]
     ·show l.ds++r'.ds=insK a d (l.ds++r.ds)
      rw [insK_right fun p hp=>by have:=times_in hl p hp;lia,P.ds]
theorem put_new {a:Nat} {d:D}:∀ t:T,put a d t≠none->Good t->∀ p∈t.ds,p.1≠a
 | .lf b e,h,_=>fun p hp z=>by
  simp [T.ds] at hp
  subst hp
  simp at z
  subst z
  simp [put] at h
 | .nd q k l r,h,G=>fun p hp z=>by
  have tin:=times_in G p hp
  have L:(T.nd q k l r).lo=q * 2 ^ (k + 1):=rfl
  have S:(T.nd q k l r).sz=2 ^ (k + 1):=rfl
  cases G with
  | nd hl hr h1 h2 h3 h4 h5 =>
   have n1:¬ a < q * 2 ^ (k + 1):=by lia
   have n2:¬ q * 2 ^ (k + 1) + 2 ^ (k + 1)<=a:=by lia
   simp only [put,if_neg n1,if_neg n2] at h
   rcases List.mem_append.mp hp with hp | hp
   ·have:=times_in hl p hp
    rw [if_pos (by lia)] at h
    exact put_new l (fun z=>h (by rw [z];rfl)) hl p hp z
   ·have:=times_in hr p hp
    rw [if_neg (by lia)] at h
    exact put_new r (fun z=>h (by rw [z];rfl)) hr p hp z
end Tr
namespace Tr
open DL
instance (t:T) (Q n:Nat):Decidable (Within t Q n):=by unfold Within;infer_instance
def insT (Q n:Nat):T->Option T
 | .lf a d=>if Within (.lf a d) Q n then some (.lf a d) else none
 | .nd q k l r=>if Within (.nd q k l r) Q n then some (.nd q k l r)
  else if q * 2 ^ (k + 1)<=Q * 2 ^ n/\Q * 2 ^ n + 2 ^ n<=q * 2 ^ (k + 1) + 2 ^ k then insT Q n l
  else if q * 2 ^ (k + 1) + 2 ^ k<=Q * 2 ^ n/\Q * 2 ^ n + 2 ^ n<=q * 2 ^ (k + 1) + 2 ^ (k + 1) then insT Q n r else none
def dsO:Option T->List (Nat×D)
 | some t=>t.ds
 | none=>[]
theorem filter_all {P:Nat×D->Bool} {l:List (Nat×D)} (h:∀ p∈l,P p=true):l.filter P=l:=List.filter_eq_self.mpr h
theorem filter_none {P:Nat×D->Bool} {l:List (Nat×D)} (h:∀ p∈l,P p=false):l.filter P=[]:=List.filter_eq_nil_iff.mpr fun p hp=>by simp [h p hp]
theorem insT_ok {Q n:Nat} {t:T} (h:Good t):dsO (insT Q n t)=t.ds.filter (fun p=>decide (p.1 / 2 ^ n=Q))/\∀ s,insT Q n t=some s->Good s/\s.e<=t.e:=by
 induction h with
 | @lf a d ha =>
  unfold insT
  by_cases hw:Within (.lf a d) Q n
  ·rw [if_pos hw]
   have hb:a / 2 ^ n=Q:=by
    obtain ⟨h1,h2⟩:=hw
    simp only [T.lo,T.sz,T.q,T.e,Nat.pow_zero,Nat.mul_one] at h1 h2
    exact Bt.in_block.mpr ⟨h1,by lia⟩
   exact ⟨by simp [dsO,T.ds,hb],fun s hs=>by cases hs;exact ⟨.lf ha,Nat.le_refl _⟩⟩
  ·rw [if_neg hw]
   have hb:¬ a / 2 ^ n=Q:=fun z=>hw (lf_within z)
   exact ⟨by simp [dsO,T.ds,hb],fun s hs=>by cases hs⟩
 | @nd q k l r hl hr h1 h2 h3 h4 h5 ihl ihr =>
  have G:Good (.nd q k l r):=.nd hl hr h1 h2 h3 h4 h5
  have tin:=times_in G
  have L:(T.nd q k l r).lo=q * 2 ^ (k + 1):=rfl
  have S:(T.nd q k l r).sz=2 ^ (k + 1):=rfl
  have pk:=Nat.two_pow_pos k
  have pn:=Nat.two_pow_pos n
  have e2:2 ^ (k + 1)=2 ^ k * 2:=Nat.pow_succ ..
  have el:l.e<=k:=by
   refine Nat.le_of_not_lt fun z=>?_
   have:=Nat.pow_lt_pow_right (a:=2) (by decide) z
   have:l.sz=2 ^ l.e:=rfl
   lia
  have er:r.e<=k:=by
   refine Nat.le_of_not_lt fun z=>?_
   have:=Nat.pow_lt_pow_right (a:=2) (by decide) z
   have:r.sz=2 ^ r.e:=rfl
   lia
  have ek:q * 2 ^ (k + 1)=2 * q * 2 ^ k:=by rw [e2,Nat.mul_comm (2 ^ k) 2,← Nat.mul_assoc,Nat.mul_comm q 2]
  unfold insT
  by_cases hw:Within (.nd q k l r) Q n
  ·rw [if_pos hw]
   refine ⟨?_,fun s hs=>by cases hs;exact ⟨G,Nat.le_refl _⟩⟩
   refine (filter_all fun p hp=>?_).symm
   have:=tin p hp
   obtain ⟨w1,w2⟩:=hw
   exact decide_eq_true (Bt.in_block.mpr ⟨by lia,by lia⟩)
  ·rw [if_neg hw]
   by_cases c1:q * 2 ^ (k + 1)<=Q * 2 ^ n/\Q * 2 ^ n + 2 ^ n<=q * 2 ^ (k + 1) + 2 ^ k
   ·rw [if_pos c1]
    refine ⟨?_,fun s hs=>?_⟩
    ·rw [ihl.1]
     show _=(l.ds++r.ds).filter _
     rw [List.filter_append,filter_none (l:=r.ds) fun p hp=>?_,List.append_nil]
     have:=times_in hr p hp
     refine decide_eq_false fun z=>?_
     have:=Bt.in_block.mp z
     lia
    ·have:=ihl.2 s hs
     exact ⟨this.1,by show s.e<=k + 1;lia⟩
   ·rw [if_neg c1]
    by_cases c2:q * 2 ^ (k + 1) + 2 ^ k<=Q * 2 ^ n/\Q * 2 ^ n + 2 ^ n<=q * 2 ^ (k + 1) + 2 ^ (k + 1)
    ·rw [if_pos c2]
     refine ⟨?_,fun s hs=>?_⟩
     ·rw [ihr.1]
      show _=(l.ds++r.ds).filter _
      rw [List.filter_append,filter_none (l:=l.ds) fun p hp=>?_,List.nil_append]
      have:=times_in hl p hp
      refine decide_eq_false fun z=>?_
      have:=Bt.in_block.mp z
      lia
     ·have:=ihr.2 s hs
      exact ⟨this.1,by show s.e<=k + 1;lia⟩
    ·rw [if_neg c2]
     refine ⟨(filter_none fun p hp=>decide_eq_false fun z=>?_).symm,fun s hs=>by cases hs⟩
     have ht:=tin p hp
     have hp1:p.1 / 2 ^ (k + 1)=q:=Bt.in_block.mpr ⟨by lia,by lia⟩
     rcases Nat.lt_or_ge k n with hk | hk
     ·
      apply hw
      obtain ⟨c,rfl⟩:=Nat.exists_eq_add_of_le (show k + 1<=n from hk)
      have hq:q / 2 ^ c=Q:=by rw [← hp1,Nat.div_div_eq_div_mul,← Nat.pow_add];exact z
      have w:=Bt.in_block.mp hq
      have e3:Q * 2 ^ (k + 1 + c)=Q * 2 ^ c * 2 ^ (k + 1):=by rw [Nat.pow_add,Nat.mul_comm (2 ^ (k + 1)),Nat.mul_assoc]
      have e4:2 ^ (k + 1 + c)=2 ^ c * 2 ^ (k + 1):=by rw [Nat.pow_add,Nat.mul_comm]
      have g1:Q * 2 ^ c * 2 ^ (k + 1)<=q * 2 ^ (k + 1):=Nat.mul_le_mul_right _ w.1
      have g2:(q + 1) * 2 ^ (k + 1)<=(Q * 2 ^ c + 2 ^ c) * 2 ^ (k + 1):=Nat.mul_le_mul_right _ w.2
      rw [Nat.add_mul,Nat.add_mul,Nat.one_mul] at g2
      refine ⟨?_,?_⟩
      ·rw [e3,L];exact g1
      ·rw [e3,e4,L,S];exact g2
     ·
      obtain ⟨c,rfl⟩:=Nat.exists_eq_add_of_le hk
      have fit:∀ w,p.1 / 2 ^ (n + c)=w->w * 2 ^ (n + c)<=Q * 2 ^ n/\Q * 2 ^ n + 2 ^ n<=w * 2 ^ (n + c) + 2 ^ (n + c):=fun w hw'=>by
       have hq:Q / 2 ^ c=w:=by rw [← z,Nat.div_div_eq_div_mul,← Nat.pow_add];exact hw'
       have v:=Bt.in_block.mp hq
       have e3:w * 2 ^ (n + c)=w * 2 ^ c * 2 ^ n:=by rw [Nat.pow_add,Nat.mul_comm (2 ^ n),Nat.mul_assoc]
       have e4:2 ^ (n + c)=2 ^ c * 2 ^ n:=by rw [Nat.pow_add,Nat.mul_comm]
       have g1:w * 2 ^ c * 2 ^ n<=Q * 2 ^ n:=Nat.mul_le_mul_right _ v.1
       have g2:(Q + 1) * 2 ^ n<=(w * 2 ^ c + 2 ^ c) * 2 ^ n:=Nat.mul_le_mul_right _ v.2
       rw [Nat.add_mul,Nat.add_mul,Nat.one_mul] at g2
       rw [e3,e4]
       exact ⟨g1,g2⟩
      by_cases hm:p.1 < q * 2 ^ (n + c + 1) + 2 ^ (n + c)
      ·have f:=fit (2 * q) (Bt.in_block.mpr ⟨by lia,by lia⟩)
       exact c1 ⟨by lia,by lia⟩
      ·have eb:(2 * q + 1) * 2 ^ (n + c)=q * 2 ^ (n + c + 1) + 2 ^ (n + c):=by rw [Nat.add_mul,Nat.one_mul,ek]
       have f:=fit (2 * q + 1) (Bt.in_block.mpr ⟨by lia,by lia⟩)
       exact c2 ⟨by lia,by lia⟩
def cov:Nat->Nat->Nat->List (Nat×Nat)
 | 0,_,_=>[]
 | r + 1,lo,e=>if lo + 2 ^ r<=e then (lo / 2 ^ r,r)::cov r (lo + 2 ^ r) e else cov r lo e
theorem two_parts {lo mid e:Nat} (h1:lo<=mid) (h2:mid<=e):∀ {l:List (Nat×D)},l.Pairwise (fun a b=>a.1 < b.1)->l.filter (fun p=>decide (lo<=p.1/\p.1 < mid))++l.filter (fun p=>decide (mid<=p.1/\p.1 < e))=l.filter (fun p=>decide (lo<=p.1/\p.1 < e))
 | [],_=>rfl
 | p::l,h=>by
  obtain ⟨h3,h4⟩:=List.pairwise_cons.mp h
  have ih:=two_parts h1 h2 h4
  by_cases c1:lo<=p.1/\p.1 < mid
  ·have c2:¬ (mid<=p.1/\p.1 < e):=by lia
   have c3:lo<=p.1/\p.1 < e:=by lia
   rw [List.filter_cons_of_pos (by simpa using c1),List.filter_cons_of_neg (by simpa using c2),List.filter_cons_of_pos (by simpa using c3),List.cons_append,ih]
  ·by_cases c2:mid<=p.1/\p.1 < e
   ·have c3:lo<=p.1/\p.1 < e:=by lia
    have hn:l.filter (fun p=>decide (lo<=p.1/\p.1 < mid))=[]:=filter_none fun x hx=>by
     have:=h3 x hx
     exact decide_eq_false (by lia)
    rw [List.filter_cons_of_neg (by simpa using c1),List.filter_cons_of_pos (by simpa using c2),List.filter_cons_of_pos (by simpa using c3),hn,List.nil_append]
    rw [hn,List.nil_append] at ih
    rw [ih]
   ·have c3:¬ (lo<=p.1/\p.1 < e):=by lia
    rw [List.filter_cons_of_neg (by simpa using c1),List.filter_cons_of_neg (by simpa using c2),List.filter_cons_of_neg (by simpa using c3),ih]
theorem cov_ds {t:T} (h:Good t):∀ (r lo e:Nat),lo % 2 ^ r=0->lo<=e->e < lo + 2 ^ r->((cov r lo e).filterMap fun b=>insT b.1 b.2 t).flatMap T.ds=t.ds.filter (fun p=>decide (lo<=p.1/\p.1 < e))
 | 0,lo,e,_,h2,h3=>by
  have:lo=e:=by simp at h3;lia
  subst this
  exact (filter_none fun p _=>decide_eq_false (by lia)).symm
 | r + 1,lo,e,h1,h2,h3=>by
  have p:=Nat.two_pow_pos r
  have e2:2 ^ (r + 1)=2 ^ r * 2:=Nat.pow_succ ..
  have hm:lo % 2 ^ r=0:=by
   have hd:2 ^ (r + 1) ∣ lo:=Nat.dvd_of_mod_eq_zero h1
   exact Nat.mod_eq_zero_of_dvd (Nat.dvd_trans ⟨2,e2⟩ hd)
  unfold cov
  by_cases hc:lo + 2 ^ r<=e
  ·rw [if_pos hc]
   have ih:=cov_ds h r (lo + 2 ^ r) e (by rw [Nat.add_mod_right];exact hm) hc (by lia)
   have hb:lo / 2 ^ r * 2 ^ r=lo:=Nat.div_mul_cancel (Nat.dvd_of_mod_eq_zero hm)
   have hi:=(insT_ok (Q:=lo / 2 ^ r) (n:=r) h).1
   have hf:t.ds.filter (fun p=>decide (p.1 / 2 ^ r=lo / 2 ^ r))=t.ds.filter (fun p=>decide (lo<=p.1/\p.1 < lo + 2 ^ r)):=by
    congr 1
    funext p
    congr 1
    rw [Bt.in_block,hb]
   rw [hf] at hi
   rw [← two_parts (show lo<=lo + 2 ^ r by lia) hc (ds_sorted h),← hi,← ih]
   cases e:insT (lo / 2 ^ r) r t with
   | none=>simp [e,dsO]
   | some s=>simp [e,dsO]
  ·rw [if_neg hc]
   exact cov_ds h r lo e hm h2 (by lia)
theorem cov_good {t:T} (h:Good t) {cs:List (Nat×Nat)}:∀ s∈cs.filterMap fun b=>insT b.1 b.2 t,Good s:=fun s hs=>by
 obtain ⟨b,_,hb⟩:=List.mem_filterMap.mp hs
 exact ((insT_ok h).2 s hb).1
end Tr
namespace Tr
open DL
section
variable {τ:Type} (en:τ->D) (lone:Nat->D->τ) (join:τ->τ->τ)
def tv:T->τ
 | .lf a d=>lone a d
 | .nd _ _ l r=>join (tv l) (tv r)
def enc:T->D
 | .lf a d=>.tup [.int (a:Int),.int 1,en (lone a d),d]
 | .nd q k l r=>.tup [.int ((q * 2 ^ (k + 1):Nat):Int),.int ((2 ^ (k + 1):Nat):Int),en (join (tv lone join l) (tv lone join r)),enc l,enc r]
def encO:Option T->D
 | some t=>enc en lone join t
 | none=>.non
theorem enc_form:∀ t:T,∃ r,enc en lone join t=.tup (.int (t.lo:Int)::.int (t.sz:Int)::en (tv lone join t)::r)
 | .lf a d=>⟨[d],by simp [enc,tv,T.lo,T.sz,T.q,T.e]⟩
 | .nd q k l r=>⟨_,rfl⟩
theorem enc_mk {l r:T} (h:l.lo < r.lo):enc en lone join (mk l r)=.tup [.int ((l.lo / 2 ^ Bt.bits (l.lo ^^^ r.lo) * 2 ^ Bt.bits (l.lo ^^^ r.lo):Nat):Int),.int ((2 ^ Bt.bits (l.lo ^^^ r.lo):Nat):Int),en (join (tv lone join l) (tv lone join r)),enc en lone join l,enc en lone join r]:=by
 have hp:=Bt.bits_pos h
 have e:Bt.bits (l.lo ^^^ r.lo) - 1 + 1=Bt.bits (l.lo ^^^ r.lo):=by lia
 show D.tup [.int ((l.lo / 2 ^ Bt.bits (l.lo ^^^ r.lo) * 2 ^ (Bt.bits (l.lo ^^^ r.lo) - 1 + 1):Nat):Int),.int ((2 ^ (Bt.bits (l.lo ^^^ r.lo) - 1 + 1):Nat):Int),_,_,_]=_
 rw [e]
theorem self_enc {m:Nat} (he:∀ x,Self m (en x)):∀ t:T,Good t->(∀ p∈t.ds,Self m p.2)->Self (m + t.e + 1) (enc en lone join t)
 | .lf a d,_,h=>by
  refine Self.tup fun x hx=>?_
  simp only [List.mem_cons,List.not_mem_nil,or_false] at hx
  have hm:1<=m\/m=0:=by lia
  have hd:=h (a,d) (by simp [T.ds])
  have h1:1<=m:=by
   rcases hm with h | h
   ·exact h
   ·subst h;exact nomatch hd
  rcases hx with rfl | rfl | rfl | rfl
  ·exact (Self.int _).mono h1
  ·exact (Self.int _).mono h1
  ·exact he _
  ·exact hd
 | .nd q k l r,G,h=>by
  cases G with
  | nd hl hr h1 h2 h3 h4 h5 =>
   have pk:=Nat.two_pow_pos k
   have el:l.e<=k:=by
    refine Nat.le_of_not_lt fun z=>?_
    have:=Nat.pow_lt_pow_right (a:=2) (by decide) z
    have:l.sz=2 ^ l.e:=rfl
    lia
   have er:r.e<=k:=by
    refine Nat.le_of_not_lt fun z=>?_
    have:=Nat.pow_lt_pow_right (a:=2) (by decide) z
    have:r.sz=2 ^ r.e:=rfl
    have:2 ^ (k + 1)=2 ^ k * 2:=Nat.pow_succ ..
    lia
   have i1:=self_enc he l hl fun p hp=>h p (List.mem_append_left _ hp)
   have i2:=self_enc he r hr fun p hp=>h p (List.mem_append_right _ hp)
   show Self (m + (k + 1) + 1) _
   refine Self.tup fun x hx=>?_
   simp only [List.mem_cons,List.not_mem_nil,or_false] at hx
   rcases hx with rfl | rfl | rfl | rfl | rfl
   ·exact (Self.int _).mono (by lia)
   ·exact (Self.int _).mono (by lia)
   ·exact (he _).mono (by lia)
   ·exact i1.mono (by lia)
   ·exact i2.mono (by lia)
theorem depth {t:T} (h:Good t):t.e<=30:=by
 refine Nat.le_of_not_lt fun z=>?_
 have u:=h.up
 have:(2:Nat) ^ 31<=2 ^ t.e:=Nat.pow_le_pow_right (by decide) z
 have h31:(2:Nat) ^ 31=2147483648:=by decide
 have:t.sz=2 ^ t.e:=rfl
 have:all=1073741824:=rfl
 lia
theorem sub_e {q k:Nat} {l r:T} (G:Good (.nd q k l r)):Good l/\Good r/\l.e<=k/\r.e<=k/\l.lo + l.sz<=r.lo:=by
 cases G with
 | nd hl hr h1 h2 h3 h4 h5 =>
  have pk:=Nat.two_pow_pos k
  refine ⟨hl,hr,?_,?_,by lia⟩
  ·refine Nat.le_of_not_lt fun z=>?_
   have:=Nat.pow_lt_pow_right (a:=2) (by decide) z
   have:l.sz=2 ^ l.e:=rfl
   lia
  ·refine Nat.le_of_not_lt fun z=>?_
   have:=Nat.pow_lt_pow_right (a:=2) (by decide) z
   have:r.sz=2 ^ r.e:=rfl
   have:2 ^ (k + 1)=2 ^ k * 2:=Nat.pow_succ ..
   lia
end
end Tr
namespace Tr
open DL PySem
theorem insK_perm {a:Nat} {d:D}:∀ l:List (Nat×D),(insK a d l).Perm ((a,d)::l)
 | []=>.refl _
 | p::l=>by
  simp only [insK]
  split
  ·exact .refl _
  ·exact ((insK_perm l).cons p).trans (.swap ..)
def bkeys (al:List (Nat×D)):List L2.Key:=al.map fun p=>.inl (p.1:Int)
def dict (al:List (Nat×D)):D:=.dic (bkeys al) (al.map (·.2))
theorem key_inj {a b:Nat}:((.inl (a:Int):L2.Key)=.inl (b:Int)) ↔ a=b:=by
 constructor
 ·intro h;injection h;lia
 ·intro h;rw [h]
theorem dGet_none:∀ {al:List (Nat×D)} {a:Nat},(∀ p∈al,p.1≠a)->dGet (bkeys al) (al.map (·.2)) (.inl (a:Int))=none
 | [],_,_=>rfl
 | p::al,a,h=>by
  have h1:¬ ((.inl (p.1:Int):L2.Key)=.inl (a:Int)):=fun z=>h p List.mem_cons_self (key_inj.mp z)
  simp only [bkeys,List.map_cons,dGet]
  rw [if_neg h1]
  exact dGet_none fun p hp=>h p (List.mem_cons_of_mem _ hp)
theorem dGet_some:∀ {al:List (Nat×D)} {p:Nat×D},(al.map (·.1)).Nodup->p∈al->dGet (bkeys al) (al.map (·.2)) (.inl (p.1:Int))=some p.2
 | x::al,p,hn,hp=>by
  simp only [bkeys,List.map_cons,dGet]
  rw [List.map_cons,List.nodup_cons] at hn
  rcases List.mem_cons.mp hp with rfl | hp
  ·rw [if_pos rfl]
  ·have:¬ ((.inl (x.1:Int):L2.Key)=.inl (p.1:Int)):=fun z=>hn.1 (by rw [key_inj.mp z];exact List.mem_map_of_mem hp)
   rw [if_neg this]
   exact dGet_some hn.2 hp
theorem keys_any {al:List (Nat×D)} {a:Nat}:((bkeys al).any fun k=>decide (k=.inl (a:Int)))=decide (∃ p∈al,p.1=a):=by
 rw [Bool.eq_iff_iff]
 simp only [List.any_eq_true,decide_eq_true_eq,bkeys,List.mem_map]
 constructor
 ·rintro ⟨k,⟨p,hp,rfl⟩,h⟩
  exact ⟨p,hp,key_inj.mp h⟩
 ·rintro ⟨p,hp,h⟩
  exact ⟨_,⟨p,hp,rfl⟩,by rw [h]⟩
theorem dict_in (neg:Bool) (al:List (Nat×D)) (a:Nat) (h:∀ p∈al,p.1≠a):gDIn neg (.int (a:Int)) (dict al)=.ok (.bl neg):=by
 have e:=dGet_none h
 simp only [gDIn,dict,keyD,bkeys,List.length_map]
 simp only [bkeys] at e
 rw [e]
 cases neg <;> simp
theorem dict_in' (neg:Bool) {al:List (Nat×D)} {p:Nat×D} (hn:(al.map (·.1)).Nodup) (hp:p∈al):gDIn neg (.int (p.1:Int)) (dict al)=.ok (.bl (!neg)):=by
 have e:=dGet_some hn hp
 simp only [gDIn,dict,keyD,bkeys,List.length_map]
 simp only [bkeys] at e
 rw [e]
 cases neg <;> simp
theorem dict_put {al:List (Nat×D)} {a:Nat} {d:D} (h:∀ p∈al,p.1≠a):D.dic (dPutK (bkeys al) (.inl (a:Int))) (dPutV (bkeys al) (al.map (·.2)) (.inl (a:Int)) d)=dict (al++[(a,d)]):=by
 have hf:((bkeys al).any fun k=>decide (k=.inl (a:Int)))=false:=by
  rw [keys_any]
  exact decide_eq_false fun ⟨p,hp,z⟩=>h p hp z
 have e1:dPutK (bkeys al) (.inl (a:Int))=bkeys (al++[(a,d)]):=by
  unfold dPutK
  rw [hf]
  simp [bkeys]
 have e2:dPutV (bkeys al) (al.map (·.2)) (.inl (a:Int)) d=(al++[(a,d)]).map (·.2):=by
  unfold dPutV
  rw [hf]
  simp
 rw [e1,e2]
 rfl
structure Book (al:List (Nat×D)) (o:Option T):Prop where
 good:match o with | some t=>Good t | none=>True
 perm:(dsO o).Perm al
theorem Book.sorted {al:List (Nat×D)} {o:Option T} (b:Book al o):(dsO o).Pairwise (fun x y=>x.1 < y.1):=by
 cases o with
 | none=>exact .nil
 | some t=>exact ds_sorted b.good
theorem Book.put {al:List (Nat×D)} {o:Option T} (b:Book al o) {a:Nat} {d:D} {t:T} (hg:Good t) (hd:t.ds=insK a d (dsO o)):Book (al++[(a,d)]) (some t):=by
 refine ⟨hg,?_⟩
 show t.ds.Perm _
 rw [hd]
 exact (insK_perm _).trans ((b.perm.cons _).trans (List.perm_append_singleton ..).symm)
theorem Book.none_at {al:List (Nat×D)} {o:Option T} (b:Book al o) {a:Nat} (h:∀ p∈al,p.1≠a):∀ p∈dsO o,p.1≠a:=fun p hp=>h p (b.perm.mem_iff.mp hp)
end Tr
namespace Tr
open DL
theorem first_in {t:T} (h:Good t):∃ p r,t.ds=p::r/\t.lo<=p.1:=by
 cases e:t.ds with
 | nil=>exact absurd e (ds_ne t)
 | cons p r=>exact ⟨p,r,rfl,(times_in h p (by rw [e];exact List.mem_cons_self)).1⟩
theorem split_at {m:Nat}:∀ {a b a' b':List (Nat×D)},a++b=a'++b'->(∀ p∈a,p.1 < m)->(∀ p∈b,m<=p.1)->(∀ p∈a',p.1 < m)->(∀ p∈b',m<=p.1)->a=a'/\b=b'
 | [],b,[],b',h,_,_,_,_=>⟨rfl,by simpa using h⟩
 | [],b,x::a',b',h,_,hb,ha',_=>by
  have:x∈b:=by
   have h':b=x::(a'++b'):=by simpa using h
   rw [h'];exact List.mem_cons_self
  have:=hb x this
  have:=ha' x List.mem_cons_self
  lia
 | x::a,b,[],b',h,ha,_,_,hb'=>by
  have:x∈b':=by
   have h':x::(a++b)=b':=by simpa using h
   rw [← h'];exact List.mem_cons_self
  have:=hb' x this
  have:=ha x List.mem_cons_self
  lia
 | x::a,b,y::a',b',h,ha,hb,ha',hb'=>by
  have h1:x=y/\a++b=a'++b':=by simpa using h
  obtain ⟨rfl,h2⟩:=h1
  obtain ⟨e1,e2⟩:=split_at h2 (fun p hp=>ha p (List.mem_cons_of_mem _ hp)) hb (fun p hp=>ha' p (List.mem_cons_of_mem _ hp)) hb'
  exact ⟨by rw [e1],e2⟩
theorem stretch_told {q k q' k' x y:Nat} (h1:q * 2 ^ (k + 1)<=x) (h2:x < q * 2 ^ (k + 1) + 2 ^ k) (h3:q * 2 ^ (k + 1) + 2 ^ k<=y) (h4:y < q * 2 ^ (k + 1) + 2 ^ (k + 1))
  (g1:q' * 2 ^ (k' + 1)<=x) (g2:x < q' * 2 ^ (k' + 1) + 2 ^ k') (g3:q' * 2 ^ (k' + 1) + 2 ^ k'<=y) (g4:y < q' * 2 ^ (k' + 1) + 2 ^ (k' + 1)):q=q'/\k=k':=by
 have one:∀ {q k x y:Nat},q * 2 ^ (k + 1)<=x->x < q * 2 ^ (k + 1) + 2 ^ k->q * 2 ^ (k + 1) + 2 ^ k<=y->y < q * 2 ^ (k + 1) + 2 ^ (k + 1)->Bt.bits (x ^^^ y)=k + 1/\x / 2 ^ (k + 1)=q:=by
  intro q k x y h1 h2 h3 h4
  have pk:=Nat.two_pow_pos k
  have e2:2 ^ (k + 1)=2 ^ k * 2:=Nat.pow_succ ..
  have ek:q * 2 ^ (k + 1)=2 * q * 2 ^ k:=by rw [e2,Nat.mul_comm (2 ^ k) 2,← Nat.mul_assoc,Nat.mul_comm q 2]
  have b1:x / 2 ^ (k + 1)=q:=Bt.in_block.mpr ⟨h1,by lia⟩
  have b2:y / 2 ^ (k + 1)=q:=Bt.in_block.mpr ⟨by lia,h4⟩
  have b3:x / 2 ^ k=2 * q:=Bt.in_block.mpr ⟨by lia,by lia⟩
  have b4:y / 2 ^ k=2 * q + 1:=Bt.in_block.mpr ⟨by rw [Nat.add_mul];lia,by rw [Nat.add_mul];lia⟩
  have c1:Bt.bits (x ^^^ y)<=k + 1:=Bt.bits_le_iff.mpr (b1.trans b2.symm)
  have c2:¬ Bt.bits (x ^^^ y)<=k:=fun z=>by
   have:=Bt.bits_le_iff.mp z
   lia
  exact ⟨by lia,b1⟩
 obtain ⟨a1,a2⟩:=one h1 h2 h3 h4
 obtain ⟨a3,a4⟩:=one g1 g2 g3 g4
 obtain rfl:k=k':=by lia
 exact ⟨by rw [← a2,← a4],rfl⟩
theorem one_tree:∀ {t t':T},Good t->Good t'->t.ds=t'.ds->t=t'
 | .lf a d,.lf b e,_,_,h=>by
  simp [T.ds] at h
  rw [h.1,h.2]
 | .lf a d,.nd q k l r,_,G',h=>by
  have hl:(T.nd q k l r).ds.length=1:=by rw [← h];rfl
  have e:(T.nd q k l r).ds=l.ds++r.ds:=rfl
  rw [e,List.length_append] at hl
  have:=List.length_pos_iff.mpr (ds_ne l)
  have:=List.length_pos_iff.mpr (ds_ne r)
  lia
 | .nd q k l r,.lf b e,G,_,h=>by
  have hl:(T.nd q k l r).ds.length=1:=by rw [h];rfl
  have e:(T.nd q k l r).ds=l.ds++r.ds:=rfl
  rw [e,List.length_append] at hl
  have:=List.length_pos_iff.mpr (ds_ne l)
  have:=List.length_pos_iff.mpr (ds_ne r)
  lia
 | .nd q k l r,.nd q' k' l' r',G,G',h=>by
  cases G with
  | nd hl hr h1 h2 h3 h4 h5 =>
   cases G' with
   | nd hl' hr' h1' h2' h3' h4' h5' =>
    have h:l.ds++r.ds=l'.ds++r'.ds:=h
    obtain ⟨x,rx,ex,_⟩:=first_in hl
    obtain ⟨x',rx',ex',_⟩:=first_in hl'
    have hx:x=x':=by
     rw [ex,ex'] at h
     simp only [List.cons_append,List.cons.injEq] at h
     exact h.1
    obtain ⟨ry,y,ey⟩:=snoc (ds_ne r)
    obtain ⟨ry',y',ey'⟩:=snoc (ds_ne r')
    have hy:y=y':=by
     rw [ey,ey',← List.append_assoc,← List.append_assoc] at h
     have:=(List.append_inj' h rfl).2
     simpa using this
    subst hx hy
    have a1:=times_in hl x (by rw [ex];exact List.mem_cons_self)
    have a2:=times_in hl' x (by rw [ex'];exact List.mem_cons_self)
    have b1:=times_in hr y (by rw [ey];simp)
    have b2:=times_in hr' y (by rw [ey'];simp)
    obtain ⟨rfl,rfl⟩:=stretch_told (q:=q) (k:=k) (q':=q') (k':=k') (x:=x.1) (y:=y.1) (by lia) (by lia) (by lia) (by lia) (by lia) (by lia) (by lia) (by lia)
    obtain ⟨e1,e2⟩:=split_at (m:=q * 2 ^ (k + 1) + 2 ^ k) h (fun p hp=>by have:=times_in hl p hp;lia) (fun p hp=>by have:=times_in hr p hp;lia) (fun p hp=>by have:=times_in hl' p hp;lia) (fun p hp=>by have:=times_in hr' p hp;lia)
    rw [one_tree hl hl' e1,one_tree hr hr' e2]
end Tr
namespace Tr
open DL
def left2:Option T->Option T->Option T
 | none,r=>r
 | l,none=>l
 | some l,some r=>some (mk l r)
def out (a:Nat):T->Option (Option T)
 | .lf b _=>if a=b then some none else none
 | .nd q k l r=>if a < q * 2 ^ (k + 1)\/q * 2 ^ (k + 1) + 2 ^ (k + 1)<=a then none
  else if a < q * 2 ^ (k + 1) + 2 ^ k then (out a l).map fun l'=>left2 l' (some r) else (out a r).map fun r'=>left2 (some l) r'
def but (a:Nat) (l:List (Nat×D)):List (Nat×D):=l.filter fun p=>decide (p.1≠a)
structure OutOk (a:Nat) (t:T) (o:Option T):Prop where
 eq:out a t=some o
 good:∀ s,o=some s->Good s
 ds:dsO o=but a t.ds
 win:∀ s,o=some s->∀ Q n,Within t Q n->Within s Q n
end Tr
namespace DL
open PySem PySem.Spec PyProof.Rows L2
section
variable {X:Cx} {pins:List (Addr×Obj)} {σ:L2.St} {H H':Hp} {s:Shared} {a kS l q:Addr} {o:Obj} {g:Int->Int} {vs:List Value} {ns:List Int} {A:Around} {E:Value->Shared->Prop}
theorem no_cell (I:Inv X pins σ H s) (e:s.heap.get? a=some o) (h:∀ v,o.data≠.cell v):∀ x c,X.env.cells.lookup x=some c->c≠a:=fun x c z w=>by
 obtain ⟨v,ob,e1,e2⟩:=I.cell x c z
 rw [w,e] at e1;cases e1
 exact h v e2
theorem adopt {u:HO} (I:Inv X pins σ H s) (hn:H a=none) (h0:X.s₀.heap.objs.size<=a) (hL:a≠X.env.locals) (hc:∀ x c,X.env.cells.lookup x=some c->c≠a) (hp:∀ p∈X.pn++pins,p.1≠a)
  (new:ObjOk X.prog X.w (upd H a u) s.heap a u):Inv X pins σ (upd H a u) s:=by
 have ne:∀ {b v},H b=some v->b≠a:=fun {b v} e z=>by rw [z,hn] at e;cases e
 refine ⟨I.ok,I.os,I.bare,⟨I.base.keep,I.base.slot,fun b ob e n hx=>?_,I.base.there,fun b xs e=>?_,fun b ob v e=>?_,fun b ps e=>?_⟩,I.loc,I.cell,?_,fun x c e=>?_,fun p hq=>?_,fun b v e=>?_,I.len⟩
 ·rw [upd_ne (Nat.ne_of_lt (Nat.lt_of_lt_of_le (Heap.lt_size e) h0))]
  exact I.base.free b ob e n hx
 ·have:=I.base.tups b xs e
  rw [upd_ne (ne this)];exact this
 ·have:=I.base.frzs b ob v e
  rw [upd_ne (ne this)];exact this
 ·obtain ⟨more,this⟩:=I.base.tbls b ps e
  exact ⟨more,by rw [upd_ne (ne this)];exact this⟩
 ·rw [upd_ne (Ne.symm hL)];exact I.free
 ·rw [upd_ne (hc x c e)];exact I.freeC x c e
 ·obtain ⟨h1,h2,h3⟩:=I.pin p hq
  exact ⟨h1,by rw [upd_ne (hp p hq)];exact h2,h3⟩
 ·by_cases hb:b=a
  ·subst hb
   rw [upd_same] at e;cases e
   exact new
  ·rw [upd_ne hb] at e
   exact (I.hok b v e).stay (fun _ _ _ z=>z) (fun c z=>by rw [upd_ne (ne z)];exact z) fun c xs z=>by rw [upd_ne (ne z)];exact z
def KeyC (X:Cx) (A:Around) (pins:List (Addr×Obj)) (σ:L2.St) (H:Hp) (f:Value) (ns:List Int) (g:Int->Int):Prop :=
 ∀ (pl:List (Addr×Obj)) (s':Shared) (H':Hp) (i:Int) (t:Tok),i∈ns->Same H H'->Inv X (pins++pl) σ H' s' ->
  wpAny (model X.prog X.w) A (call f [.int i t]) (fun v s2=>(∃ t',v=.int (g i) t')/\∃ H2,Same H' H2/\Inv X (pins++pl) σ H2 s2) (fun _ _=>False) s'
theorem ints_at:∀ {us:List Value} {ms:List Int},IntsAre us ms->∀ {j:Nat} {x:Value},us[j]? = some x->∃ n t,ms[j]? = some n/\x=.int n t
 | _,_,.nil,j,x,h=>by simp at h
 | _,_,.cons n t r,j,x,h=>by
  cases j with
  | zero=>simp only [List.getElem?_cons_zero,Option.some.injEq] at h ⊢;exact ⟨n,t,rfl,h.symm⟩
  | succ j=>simp only [List.getElem?_cons_succ] at h ⊢;exact ints_at r h
theorem key_rest {f:Value} {b:Bool} {e1:Nat} {Q:PySem.Fin->Shared->Prop} (I:Inv X (pins++[(kS,seqObj "list" #[] 0),(a,seqObj "list" #[] e1)]) σ H s) (hka:kS≠a)
  (hk0:X.s₀.heap.objs.size<=kS) (ha0:X.s₀.heap.objs.size<=a) (hpk:∀ p∈X.pn++pins,p.1≠kS) (hpa:∀ p∈X.pn++pins,p.1≠a) (hv:IntsAre vs ns) (h64:ns.length < 64) (key:KeyC X A pins σ H f ns g)
  (h:∀ s2 H2 out c,Same H H2->Inv X pins σ H2 s2->s2.heap.get? a=some (seqObj "list" out c)->H2 a=none->KskOut b (ns.map g) vs out.toList->Q (.done (.ret .none)) s2) :
  wpAny (model X.prog X.w) A (ksk_rest a f b vs.toArray e1 (.ref kS)) Q E s:=by
 have hlen:=hv.length
 unfold ksk_rest
 refine wpAny_bind (wpAny_rule ?_)
 first
  | rw [List.forIn_toArray]
  | (rw [← Array.forIn_toList];simp only [List.toList_toArray])
  | rw [← Array.forIn_toList]
 refine wpAny_bind (ksk_fold (fun i s2=>∃ H2 kA e,Same H H2/\Inv X (pins++[(kS,seqObj "list" kA e),(a,seqObj "list" #[] e1)]) σ H2 s2/\IntsAre kA.toList ((ns.map g).take i)) vs 0 s
  ⟨H,#[],0,.refl H,I,by simpa using IntsAre.nil⟩ ?step ?done)
 case step =>
  rintro j x s2 hx ⟨H2,kA,e,S2,I2,hk⟩
  rw [Nat.zero_add] at hk ⊢
  obtain ⟨n,t,hn,rfl⟩:=ints_at hv hx
  have hj:j < ns.length:=(List.getElem?_eq_some_iff.mp hn).1
  have hz:kA.size<=64:=by
   have h1:=hk.length
   rw [Array.length_toList,List.length_take,List.length_map] at h1
   omega
  refine wpAny_bind (wpAny_attempt (wpAny_mono (key _ s2 H2 n t (List.mem_of_getElem? hn) S2 I2) (fun v s3 hw=>?_) fun _ _ hF=>hF.elim))
  obtain ⟨⟨t3,rfl⟩,H3,S3,I3⟩:=hw
  try dsimp only
  obtain ⟨nk,nkH,nkL,nkf,nkc⟩:=I3.pin (kS,seqObj "list" kA e) (by simp)
  obtain ⟨na,naH,naL,naf,nac⟩:=I3.pin (a,seqObj "list" #[] e1) (by simp)
  have s1:=Heap.SameBut.update s3.heap kS (Obj.mapSeq (·.push (.int (g n) t3)))
  obtain ⟨c2,hc2⟩:∃ c2,(s3.heap.update kS (Obj.mapSeq (·.push (.int (g n) t3)))).get? kS=some (seqObj "list" (kA.push (.int (g n) t3)) c2):=⟨_,get?_update_seq nk (·.push (.int (g n) t3))⟩
  have e2:(ns.map g).take (j + 1)=(ns.map g).take j++[g n]:=by rw [List.take_add_one,List.getElem?_map,hn];simp
  have I4:Inv X pins σ H3 s3:=I3.unpinned
  have I5:=I4.turned (t':=s3.toks) (h':=s3.heap.update kS (Obj.mapSeq (·.push (.int (g n) t3)))) (it:=kS) (fun b o hb q=>(s1.2 b hb).trans q) nkH nkL (.inr hk0) (no_cell I4 nk nkc) hpk
  refine wpAny_bind (listUpdate_at nk rfl ?_ (by rw [sizeLine_eq];omega) (Nat.le_trans (Nat.le_of_eq (Array.size_push ..)) (by rw [sizeLine_eq];omega)))
  refine wpAny_pure ⟨rfl,H3,kA.push (.int (g n) t3),c2,S2.trans S3,?_,?_⟩
  ·refine I5.pins_of fun p hp=>?_
   rcases List.mem_append.mp hp with hp | hp
   ·exact I5.pin p (List.mem_append_right _ hp)
   ·rcases List.mem_cons.mp hp with rfl | hp
    ·exact ⟨hc2,nkH,nkL,nkf,fun v z=>by cases z⟩
    ·rw [List.mem_singleton.mp hp]
     exact ⟨(s1.2 a hka.symm).trans na,naH,naL,naf,nac⟩
  ·rw [Array.toList_push,e2]
   exact ksk_snoc hk
 case done =>
  rintro s2 ⟨H2,kA,e,S2,I2,hk⟩
  have hk':IntsAre kA.toList (ns.map g):=by
   have e3:(ns.map g).take (0 + vs.length)=ns.map g:=List.take_of_length_le (by rw [List.length_map];omega)
   rw [e3] at hk
   exact hk
  obtain ⟨nk,nkH,nkL,nkf,nkc⟩:=I2.pin (kS,seqObj "list" kA e) (by simp)
  obtain ⟨na,naH,naL,naf,nac⟩:=I2.pin (a,seqObj "list" #[] e1) (by simp)
  have I4:Inv X pins σ H2 s2:=I2.unpinned
  obtain ⟨m,hns,_⟩:=id I4.loc
  have mem:∀ {b:Addr} {o:Obj},(b,o)∈(Att.ledger s2.heap X.env.locals kS).filter (fun p=>decide (p.1≠a)) ↔ (b≠X.env.locals/\b≠kS/\s2.heap.get? b=some o)/\b≠a:=fun {b o}=>by
   rw [List.mem_filter,Att.mem_ledger,decide_eq_true_iff]
  have N:News (Att.noObjs s2.heap) X.env.locals s2.heap ((Att.ledger s2.heap X.env.locals kS).filter (fun p=>decide (p.1≠a))++[(kS,seqObj "list" kA e),(a,seqObj "list" #[] e1)]):=by
   rintro ⟨b,o⟩ hp
   rcases List.mem_append.mp hp with hp | hp
   ·obtain ⟨⟨h1,h2,h3⟩,h4⟩:=mem.mp hp
    exact ⟨h3,h1,Att.noObjs_get _ _⟩
   ·rcases List.mem_cons.mp hp with z | hp
    ·cases z
     exact ⟨nk,nkL,Att.noObjs_get _ _⟩
    ·cases List.mem_singleton.mp hp
     exact ⟨na,naL,Att.noObjs_get _ _⟩
  refine wpAny_bind (listItems_at nk rfl ?_)
  refine ksk_end_ (b:=b) (vs:=vs) (Att.fr_all hns) N hka (fun ⟨b,o⟩ hp=>(mem.mp hp).1.2.1) (fun ⟨b,o⟩ hp=>(mem.mp hp).2) hk' (by rw [List.length_map];omega) (by omega) fun h3 tk out c F3 N3 hout=>?_
  have kp:∀ b o,b≠X.env.locals->b ∉ [kS,a]->s2.heap.get? b=some o->h3.get? b=some o:=fun b o n1 n2 z=>by
   have n3:b≠kS/\b≠a:=by simpa using n2
   exact (N3 (b,o) (List.mem_cons_of_mem _ (mem.mpr ⟨⟨n1,n3.1,z⟩,n3.2⟩))).1
  have nsl:∀ m',s2.heap.Ns X.env.locals m'->h3.Ns X.env.locals m':=fun m' z=>by
   rw [z.eq_nsMap,← hns.eq_nsMap]
   exact F3.ns
  have nt:∀ {b v},H2 b=some v->b≠X.env.locals/\b ∉ [kS,a]:=fun {b v} z=>by
   refine ⟨fun w=>?_,fun w=>?_⟩
   ·rw [w,I4.free] at z;cases z
   ·rcases List.mem_cons.mp w with w | w
    ·rw [w,nkH] at z;cases z
    ·rw [List.mem_singleton.mp w,naH] at z;cases z
  refine h _ H2 out c S2 (I4.step (g':=s2.gens) (d':=s2.drawn) (t':=tk) (h':=h3) (H':=H2) (ch:=[kS,a]) (fun b hb=>?_) (fun b o n1 _ n2 z _=>kp b o n1 n2 z) (fun b o n1 _ n2 z _=>⟨o.slots,kp b o n1 n2 z⟩) (fun _ _ _ _ z=>z)
   (fun b o n2 z=>?_) (fun _ _ z=>z) (fun _ _ _ z=>z) (fun b ps z=>⟨#[],by rw [z];simp⟩) nsl (fun b v z=>?_) I4.bare) (N3 (a,seqObj "list" out c) (List.mem_cons_self ..)).1 naH hout
  ·rcases List.mem_cons.mp hb with w | w
   ·rw [w];exact ⟨.inr hk0,nkL,no_cell I4 nk nkc,hpk⟩
   ·rw [List.mem_singleton.mp w];exact ⟨.inr ha0,naL,no_cell I4 na nac,hpa⟩
  ·by_cases w:b=X.env.locals
   ·subst w
    obtain ⟨o',_,_,z',_⟩:=F3.ns
    exact ⟨o',z'⟩
   ·exact ⟨o,kp b o w n2 z⟩
  ·refine (I4.hok b v z).stay (fun b' u w y=>?_) (fun _ w=>w) fun _ _ w=>w
   have:=nt z
   rcases w with w | w
   ·rw [w] at y ⊢;exact kp b u this.1 this.2 y
   ·exact kp b' u (nt w).1 (nt w).2 y
def vInt:Value->Int
 | .int n _=>n
 | _=>0
theorem ints_map:∀ {us:List Value} {ms:List Int},IntsAre us ms->us.map vInt=ms
 | _,_,.nil=>rfl
 | _,_,.cons n t r=>by rw [List.map_cons,ints_map r];rfl
theorem ints_all:∀ {us:List Value} {ms:List Int},IntsAre us ms->∀ v∈us,∃ n t,v=Value.int n t
 | _,_,.nil,v,h=>by cases h
 | _,_,.cons n t r,v,h=>by
  rcases List.mem_cons.mp h with rfl | h
  ·exact ⟨n,t,rfl⟩
  ·exact ints_all r v h
theorem ints_by:∀ {us:List Value},(∀ v∈us,∃ n t,v=Value.int n t)->IntsAre us (us.map vInt)
 | [],_=>.nil
 | u::us,h=>by
  obtain ⟨n,t,rfl⟩:=h u (List.mem_cons_self ..)
  exact .cons n t (ints_by fun v hv=>h v (List.mem_cons_of_mem _ hv))
theorem ints_turned {us:List Value} (p:us.Perm vs) (hv:IntsAre vs ns):∃ ms,IntsAre us ms/\ms.Perm ns :=
 ⟨us.map vInt,ints_by fun v h=>ints_all hv v (p.mem_iff.mp h),by rw [← ints_map hv];exact p.map vInt⟩
theorem sort_keyed {Q:Value->Shared->Prop} (I:Inv X pins σ H s) (hl:s.heap.IsList l vs.toArray) (hv:IntsAre vs ns) (h64:ns.length < 64) (key:KeyC X X.A.in1.in1 pins σ H (.ref q) ns g)
  (h:∀ (D:Addr) (H2:Hp) (s2:Shared) (out:List Int),Same H H2->H D=none->H2 D=none->Inv X pins σ (upd H2 D (.lst (out.map V.int))) s2->out.Perm ns->Q (.ref D) s2) :
  wpAny (model X.prog X.w) X.A (call (.builtin "sorted") [.ref l] [(Str.ofString "key",.ref q)]) Q E s:=by
 have hlen:=hv.length
 have hz:vs.length<=sizeLine:=by rw [sizeLine_eq];omega
 refine call_function_entry_kw kind_sorted plain_sorted entry_sorted (ksk_s1 _ _) ?_
 unfold Builtin.«sorted»
 refine wpAny_bind (m:=checkCount "sorted" 1 1 _) (wpAny_pure (wpAny_bind (collect_list hl ?_ hz)))
 refine wpAny_bind (wpAny_newList ?_ hz)
 have hsz:((s.heap.push (seqObj "list" #[] 0)).update s.heap.objs.size (Obj.mapSeq (·++vs.toArray))).objs.size=s.heap.objs.size + 1:=(Heap.size_update ..).trans (size_push' ..)
 generalize hg1:(s.heap.push (seqObj "list" #[] 0)).update s.heap.objs.size (Obj.mapSeq (·++vs.toArray))=g1 at hsz ⊢
 have k1:∀ b o,s.heap.get? b=some o->g1.get? b=some o:=fun b o z=>by
  have hlt:b < s.heap.objs.size:=Heap.lt_size z
  rw [← hg1,Heap.get?_update_ne _ _ _ _ (Nat.ne_of_lt hlt),Heap.get?_push_ne _ _ _ (Nat.ne_of_lt hlt)];exact z
 show wpAny _ _ _ _ _ { s with heap:=g1.push (seqObj "list" vs.toArray 0) }
 have ho2:(g1.push (seqObj "list" vs.toArray 0)).get? g1.objs.size=some (seqObj "list" vs.toArray 0):=Heap.get?_push_size _ rfl
 have z2:(g1.push (seqObj "list" vs.toArray 0)).objs.size=s.heap.objs.size + 2:=by rw [size_push',hsz]
 have k2:∀ b o,s.heap.get? b=some o->(g1.push (seqObj "list" vs.toArray 0)).get? b=some o:=fun b o z=>Heap.get?_push_of_some _ (k1 b o z)
 rw [hsz] at ho2 ⊢
 generalize g1.push (seqObj "list" vs.toArray 0)=g2 at ho2 z2 k2 ⊢
 refine wpAny_bind (wpAny_holding (wpAny_call_entry_kw slot_list_sort ⟨_,ho2,rfl⟩ entry_list_sort ?body (ksk_l1 _ _)))
 case body =>
  rw [ksk_t1]
  unfold ksk_tree
  have s1:=Heap.SameBut.update g2 (s.heap.objs.size + 1) (Obj.mapSeq fun _=>(#[]:Array Value))
  obtain ⟨e1,ho3⟩:∃ e1,(g2.update (s.heap.objs.size + 1) (Obj.mapSeq fun _=>(#[]:Array Value))).get? (s.heap.objs.size + 1)=some (seqObj "list" #[] e1):=⟨_,get?_update_seq ho2 fun _=>#[]⟩
  have z3:(g2.update (s.heap.objs.size + 1) (Obj.mapSeq fun _=>(#[]:Array Value))).objs.size=s.heap.objs.size + 2:=(Heap.size_update ..).trans z2
  have k3:∀ b o,s.heap.get? b=some o->(g2.update (s.heap.objs.size + 1) (Obj.mapSeq fun _=>(#[]:Array Value))).get? b=some o:=fun b o z =>
   (s1.2 b (Nat.ne_of_lt (Nat.lt_succ_of_lt (Heap.lt_size z)))).trans (k2 b o z)
  refine wpAny_bind (listItems_at ho2 rfl (wpAny_bind (listUpdate_at ho2 rfl ?_ (by rw [List.size_toArray];exact hz) (Nat.zero_le _))))
  generalize g2.update (s.heap.objs.size + 1) (Obj.mapSeq fun _=>(#[]:Array Value))=g3 at ho3 z3 k3 ⊢
  refine wpAny_bind (seqEpoch_at ho3 rfl (wpAny_bind (wpAny_newTuple ?_ (by show vs.length<=_;exact hz))))
  refine wpAny_bind (wpAny_newList ?_ (Nat.zero_le _))
  refine wpAny_holding ?_
  have ho5:((g3.push (seqObj "tuple" vs.toArray 0)).push (seqObj "list" #[] 0)).get? (g3.push (seqObj "tuple" vs.toArray 0)).objs.size=some (seqObj "list" #[] 0):=Heap.get?_push_size _ rfl
  have ho4:((g3.push (seqObj "tuple" vs.toArray 0)).push (seqObj "list" #[] 0)).get? (s.heap.objs.size + 1)=some (seqObj "list" #[] e1):=Heap.get?_push_of_some _ (Heap.get?_push_of_some _ ho3)
  have k4:∀ b o,s.heap.get? b=some o->((g3.push (seqObj "tuple" vs.toArray 0)).push (seqObj "list" #[] 0)).get? b=some o:=fun b o z=>Heap.get?_push_of_some _ (Heap.get?_push_of_some _ (k3 b o z))
  have z4:(g3.push (seqObj "tuple" vs.toArray 0)).objs.size=s.heap.objs.size + 3:=by rw [size_push',z3]
  show wpAny _ _ (ksk_rest _ _ _ _ _ (.ref (g3.push (seqObj "tuple" vs.toArray 0)).objs.size)) _ _ { s with heap:=(g3.push (seqObj "tuple" vs.toArray 0)).push (seqObj "list" #[] 0) }
  rw [z4] at ho5 ⊢
  generalize (g3.push (seqObj "tuple" vs.toArray 0)).push (seqObj "list" #[] 0)=g4 at ho5 ho4 k4 ⊢
  have I4:Inv X pins σ H { s with heap:=g4 }:=I.kept (t':=s.toks) k4
  have nw:∀ {d:Nat},s.heap.objs.size<=d->H d=none/\d≠X.env.locals/\d ∉ X.fs:=fun hd=>⟨I.hok.fresh hd,Nat.ne_of_gt (Nat.lt_of_lt_of_le I.lt hd),I.nofs hd⟩
  have np:∀ {d:Nat},s.heap.objs.size<=d->∀ p∈X.pn++pins,p.1≠d:=fun hd p hp=>Nat.ne_of_lt (Nat.lt_of_lt_of_le (Heap.lt_size (I.pin p hp).1) hd)
  have I5:Inv X (pins++[(s.heap.objs.size + 3,seqObj "list" #[] 0),(s.heap.objs.size + 1,seqObj "list" #[] e1)]) σ H { s with heap:=g4 }:=I4.pins_of fun p hp=>by
   rcases List.mem_append.mp hp with hp | hp
   ·exact I4.pin p (List.mem_append_right _ hp)
   ·rcases List.mem_cons.mp hp with rfl | hp
    ·exact ⟨ho5,(nw (Nat.le_add_right _ _)).1,(nw (Nat.le_add_right _ _)).2.1,(nw (Nat.le_add_right _ _)).2.2,fun v z=>by cases z⟩
    ·rw [List.mem_singleton.mp hp]
     exact ⟨ho4,(nw (Nat.le_add_right _ _)).1,(nw (Nat.le_add_right _ _)).2.1,(nw (Nat.le_add_right _ _)).2.2,fun v z=>by cases z⟩
  refine key_rest (a:=s.heap.objs.size + 1) (kS:=s.heap.objs.size + 3) I5 (Nat.ne_of_gt (Nat.add_lt_add_left (by decide:1 < 3) _)) (Nat.le_trans I.sz (Nat.le_add_right _ _)) (Nat.le_trans I.sz (Nat.le_add_right _ _)) (np (Nat.le_add_right _ _)) (np (Nat.le_add_right _ _)) hv h64 key
   fun s2 H2 out c S2 I2 e2 n2 hout=>⟨_,rfl,?_⟩
  obtain ⟨ps,p1,p2,_⟩:=hout
  have pp:out.toList.Perm vs:=by
   rw [p2]
   refine (p1.map Prod.snd).trans ?_
   rw [List.map_snd_zip (by rw [List.length_map];omega)]
  obtain ⟨ms,m1,m2⟩:=ints_turned pp hv
  refine wpAny_pure ⟨_,rfl,h _ H2 s2 ms S2 (nw (Nat.le_add_right _ _)).1 n2 (adopt I2 n2 (Nat.le_trans I.sz (Nat.le_add_right _ _)) (nw (Nat.le_add_right _ _)).2.1 (no_cell I2 e2 fun v z=>by cases z) (np (Nat.le_add_right _ _)) ?_) m2⟩
  exact ⟨by rw [List.length_map,m2.length_eq,sizeLine_eq];omega,out.toList,c,ints_vals m1,e2⟩
end
end DL
namespace DL
open PySem PySem.Spec PyProof.Rows L2
def lamCx (X:Cx) (A:Around) (p y:Str) (qual:Str) (sc:Scope) (f:Addr) (cd:Value) (c:Addr) (s:Shared) (H:Hp):Cx where
 prog:=X.prog
 w:=X.w
 K:=X.K
 mg:=X.mg
 base:=X.base
 A:=A.deeper (PySem.W.envX qual sc s.heap.objs.size f cd [(y,c)])
 N:=[p,y]
 s₀:=s
 H₀:=H
 env:=PySem.W.envX qual sc s.heap.objs.size f cd [(y,c)]
 outer:=X.stack
 stack:=PySem.W.envX qual sc s.heap.objs.size f cd [(y,c)]::X.stack
 ex:=[]
 fn:=fun _=>false
 calm:=true
 pn:=[]
 xe:=fun _ _=>False
def CodeAt (c:Addr) (qual:Str):Heap->Prop:=fun h=>h.CodeRec (.ref c) qual
def Tab (P:Addr) (lp:Pos) (qual:Str) (H:Hp):Prop :=
 ∃ ps,H P=some (.tbl ps)/\TriplesOk ps.toList/\(codeAmong lp ps.toList=none\/∃ c,codeAmong lp ps.toList=some (.ref c)/\H c=some (.ext (CodeAt c qual)))
structure LamB (mg:Str->Option Value) (base:Heap) (c P:Addr):Prop where
 code:PySem.W.CodeHd base c P
 blt:base.BuiltinsAt mg P
 ne:mainGlobals≠P
def SameT (P:Addr) (H H':Hp):Prop:=∀ b o,b≠P->H b=some o->H' b=some o
structure LamSc (p y:Str) (sc:Scope):Prop where
 kind:sc.kind=.function
 co:sc.isCoroutine=false
 gen:sc.isGenerator=false
 nocell:∀ x∈sc.names,x.2≠.cell
 loc:sc.names.lookup p=some .local
 free:sc.names.lookup y=some .free
 only:∀ x∈sc.names,x.2=.free->x.1=y
section
variable {X:Cx} {A:Around} {pins:List (Addr×Obj)} {σ:L2.St} {H:Hp} {s:Shared} {p y qual:Str} {sc:Scope} {f c:Addr} {cd:Value}
theorem lam_start {i:Int} {t:Tok} {v:V} {u:Value} {h1:Heap} {tk:Nat} (S:LamSc p y sc) (I:Inv X pins σ H s) (hd:A.handled=none) (hA:A.frames=some X.stack) (hc:X.env.cells.lookup y=some c)
  (hu:s.heap.IsCell c (some u)) (r:RelV v u) (hns:h1.Ns s.heap.objs.size (fun x=>([(p,Value.int i t)]:List (Str×Value)).reverse.lookup x)) (hk:∀ b o,s.heap.get? b=some o->h1.get? b=some o) :
  Inv (lamCx X A p y qual sc f cd c s H) [] [some (.int i),some v] H { s with heap:=h1,toks:=tk }:=by
 have one:∀ {x:Str} {c':Addr},([(y,c)]:List (Str×Addr)).lookup x=some c'->x=y/\c'=c:=fun {x c'} e=>by
  rw [List.lookup_cons] at e
  cases hb:x == y with
  | true=>rw [hb] at e;cases e;exact ⟨eq_of_beq hb,rfl⟩
  | false=>rw [hb] at e;cases e
 have cell:h1.IsCell c (some u):=let ⟨o,e1,e2⟩:=hu;⟨o,hk _ _ e1,e2⟩
 have noA:∀ b:Addr,b ∉ ([]:List Addr):=fun b z=>nomatch z
 have ly:([(y,c)]:List (Str×Addr)).lookup y=some c:=by rw [List.lookup_cons,beq_self_eq_true]
 refine ⟨⟨I.ok.mod,S.kind,rfl,rfl,Nat.le_refl _,fun a b c' e1 e2=>(one e1).1.trans (one e2).1.symm,fun x hx=>?_,fun x c' e=>absurd e Bool.false_ne_true,fun _=>hd,Around.frames_deeper hA,.inr ⟨rfl,rfl⟩,fun b z=>absurd z (noA b),fun b o e=>I.bs b o e,
  Nat.le_trans I.ok.bsz I.sz,fun b _ _=>noA b,fun b z=>absurd z (noA b),I.stack,I.stkFree⟩,rfl,I.bare,Un.kept hk,⟨_,hns,fun j x v' e1 e2 e3=>?_⟩,fun x c' e=>?_,I.hok.fresh (Nat.le_refl _),fun x c' e=>?_,(fun q hq=>by cases hq),I.hok.kept hk,rfl⟩
 ·have hx':sc.names.lookup x=some .cell\/sc.names.lookup x=some .free:=hx
  rcases hx' with z | z
  ·exact absurd rfl (S.nocell _ (PySem.mem_of_lookup z))
  ·have:x=y:=S.only _ (PySem.mem_of_lookup z) rfl
   subst this
   exact ⟨c,ly⟩
 ·have e1':([p,y]:List Str)[j]? = some x:=e1
  match j,e1',e2 with
  | 0,e1',e2 =>
   cases e1'
   cases e2
   exact ⟨.int i t,⟨t,rfl⟩,.inl ⟨S.loc,by simp⟩⟩
  | 1,e1',e2 =>
   cases e1'
   cases e2
   exact ⟨u,r,.inr ⟨.inr S.free,c,ly,cell⟩⟩
 ·obtain ⟨rfl,rfl⟩:=one e
  exact ⟨_,cell⟩
 ·obtain ⟨rfl,rfl⟩:=one e
  exact I.freeC _ _ hc
theorem lam_key {name:Str} {params:Arguments} {body:Expr} {mv ctv:Value} {c':Addr} {ns:List Int} {iy:Nat} {v:V} {d:D} {B:Addr->Prop} {fb:Fn} {g:Int->Int} (S:LamSc p y sc) (hd:A.handled=none) (hA:A.frames=some X.stack) (hroom:A.depth < recursionLimit)
  (hf:(f,PySem.W.kla_obj name qual params body sc [(y,c)] mv c' ctv)∈pins) (hco:H c'=some (.ext (CodeAt c' qual)))
  (hc:X.env.cells.lookup y=some c) (hyN:X.N[iy]? = some y) (hyk:X.env.scope.names.lookup y=some .cell) (hσ:σ[iy]? = some (some v)) (hrep:Rep X.K B H d v)
  (hbind:∀ u:Value,bindArgs (PySem.W.kla_fn name qual params body sc [(y,c)] mv (.ref c') ctv) ⟨[u],[]⟩=pure [(p,u)])
  (hb:∀ (s':Shared) (H':Hp),PE (lamCx X A p y qual sc f (.ref c') c s' H') body (tX X.K E0 .W fb)) (hg:∀ i∈ns,fb [.val (.int i),.val d]=.ok (.int (g i))) :
  KeyC X A pins σ H (.ref f) ns g:=by
 intro pl s' H' i t hi hS I
 have pf:=(I.pin _ (List.mem_append_right _ (List.mem_append_left _ hf))).1
 have pc:s'.heap.CodeRec (.ref c') qual:=(I.hok c' _ (hS _ _ hco)).1
 obtain ⟨m,hm,hl⟩:=id I.loc
 obtain ⟨u,ru,hlk⟩:=hl iy y v hyN hσ (.inr (.inl hyk))
 have hcell:s'.heap.IsCell c (some u):=by
  rcases hlk with ⟨z,_⟩ | ⟨_,c2,z,w⟩
  ·have z':X.env.scope.names.lookup y=some .local:=z
   rw [hyk] at z';cases z'
  ·rw [hc] at z;cases z
   exact w
 refine wpAny_call (PySem.W.kla_callFunE hroom pf rfl S.co S.gen rfl pc ?_)
 rw [hbind]
 refine wpAny_pure (wpAny_newFunctionEnv S.nocell (fun x hx=>by rw [List.mem_singleton.mp hx];exact S.loc) (fun h1 hns hsb=>?_) S.kind)
 have hk1:∀ b o,s'.heap.get? b=some o->h1.get? b=some o:=fun b o e=>hsb.extBut b o (Nat.ne_of_lt (Heap.lt_size e)) (Heap.get?_push_of_some _ e)
 refine ⟨I.nolimit.keeps hk1,PySem.W.kla_codeExpr ?_⟩
 have J:=lam_start (A:=A) (p:=p) (qual:=qual) (sc:=sc) (f:=f) (cd:=.ref c') (tk:=s'.toks + 1) S I hd hA hc hcell ru hns hk1
 have hr:Reps X.K B H' [.int i,d] [.int i,v]:=⟨.int i,[v],rfl,rfl,v,[],rfl,hrep.same hS,rfl⟩
 have ab:=start_abs (N:=[p,y]) hr (Nat.le_refl _)
 refine wpAny_mono (hb s' H' [] _ _ H' (fun v2 H2=>v2=.int (g i)/\Same H' H2) J ⟨_,_,rfl,ab,?_⟩) (fun u2 s2 h2=>?_) fun _ _ h2=>h2.elim
 ·show Res X.K E0 _ (fb [.val (.int i),.val d]) _
  rw [hg i hi]
  intro v2 H2 e2 q2
  exact ⟨q2,e2⟩
 ·obtain ⟨v2,H2,J2,r2,rfl,e2⟩:=h2
  obtain ⟨t2,rfl⟩:=r2
  exact ⟨⟨t2,rfl⟩,H2,e2,I.call' J2.os J2.base J2.hok J2.bare fun b z=>nomatch z⟩
theorem code_at {c':Addr} {h:Heap} (x:h.CodeRec (.ref c') qual):ObjOk X.prog X.w H h c' (.ext (CodeAt c' qual)):=by
 obtain ⟨c2,o,vs,t,e,g1,g2⟩:=id x
 cases e
 refine ⟨x,⟨o,g1⟩,fun h1 h2 x1 k=>?_⟩
 obtain ⟨c2,o',vs',t',e,y1,y2⟩:=x1
 cases e
 exact ⟨c',o',vs',t',rfl,k o' y1,y2⟩
theorem lam_make {M:Model} {A':Around} {E:Value->Shared->Prop} {Q:Value->Shared->Prop} {c0 P:Addr} {params:Arguments} {body:Expr} {lp:Pos} {cl:List (Str×Addr)} (L:LamB X.mg X.base c0 P) (hcode:X.env.code=.ref c0) (hT:Tab P lp (X.env.qual++"<lambda>") H) (I:Inv X pins σ H s)
  (hcl:closureFor sc X.env=pure cl) (hdef:defaultsOf params X.env=([],[]))
  (h:∀ (f c':Addr) (ctv mv:Value) (H1:Hp) (s1:Shared),SameT P H H1->Tab P lp (X.env.qual++"<lambda>") H1->H1 c'=some (.ext (CodeAt c' (X.env.qual++"<lambda>")))->Inv X pins σ H1 s1->s.heap.objs.size<=f->H1 f=none ->
   s1.heap.get? f=some (PySem.W.kla_obj "<lambda>" (X.env.qual++"<lambda>") params body sc cl mv c' ctv)->Q (.ref f) s1) :
  wpAny M A' (eval (.Lambda params body sc lp) X.env) Q E s:=by
 obtain ⟨ps,hP,ht,hn⟩:=hT
 have hPo:s.heap.get? P=some (PySem.W.tabObj ps):=I.hok P _ hP
 have hbs:s.heap.BuiltinsAt X.mg P:=let ⟨bm,o,b1,b2,b3,b4,b5,b6⟩:=L.blt;⟨bm,o,b1,b2,b3,b4,I.bk _ _ b5,b6⟩
 have hgs:s.heap.Ns mainGlobals X.mg:=let ⟨o,es,ep,e,r⟩:=I.ok.mod.glob;⟨o,es,ep,I.bk _ _ e,r⟩
 have hC:=L.code.keeps I.bk
 refine PySem.W.kla_eval hdef ?_
 rcases hn with hn | ⟨c',hn,hc'⟩
 ·refine PySem.W.kla_makeFunction (mg:=X.mg) hcl I.ok.glob hgs hcode hC hPo ht hn L.ne hbs fun c' ctv h' tk hx hge hlt hrec htb=>?_
  have neP:∀ {b v},H b=some v->(∀ qs,v≠.tbl qs)->b≠P:=fun {b v} e z w=>by rw [w,hP] at e;cases e;exact z _ rfl
  have nec:∀ {b v},H b=some v->b≠c':=fun {b v} e=>Nat.ne_of_lt (Nat.lt_of_lt_of_le (I.hok.lt e) hge)
  have hPc:P≠c':=nec hP
  have e1:upd (upd H P (.tbl (ps++#[rawInt lp.line,rawInt lp.col,.ref c']))) c' (.ext (CodeAt c' (X.env.qual++"<lambda>"))) P=some (.tbl (ps++#[rawInt lp.line,rawInt lp.col,.ref c'])):=by rw [upd_ne hPc,upd_same]
  have oth:∀ {b:Addr},b≠P->b≠c'->upd (upd H P (.tbl (ps++#[rawInt lp.line,rawInt lp.col,.ref c']))) c' (.ext (CodeAt c' (X.env.qual++"<lambda>"))) b=H b:=fun {b} h1 h2=>by rw [upd_ne h2,upd_ne h1]
  have ltc:∀ {b o},s.heap.get? b=some o->b≠c':=fun {b o} e=>Nat.ne_of_lt (Nat.lt_of_lt_of_le (Heap.lt_size e) hge)
  have nP:∀ {b},H b=none->b≠P:=fun {b} e w=>by rw [w,hP] at e;cases e
  have J:Inv X pins σ (upd (upd H P (.tbl (ps++#[rawInt lp.line,rawInt lp.col,.ref c']))) c' (.ext (CodeAt c' (X.env.qual++"<lambda>")))) { s with heap:=h',toks:=tk }:=by
   refine I.step (g':=s.gens) (d':=s.drawn) (ch:=[]) (fun _ z=>nomatch z) (fun b o _ _ _ e n=>hx b o (nP n) e) (fun b o _ _ _ e n=>⟨o.slots,hx b o (nP n) e⟩) (fun b o _ e n=>by rw [oth (nP n) (ltc e)];exact n)
    (fun b o _ e=>?_) (fun b xs e=>by rw [oth (neP e fun _ z=>by cases z) (nec e)];exact e) (fun b o v e=>by rw [oth (neP e fun _ z=>by cases z) (nec e)];exact e) (fun b qs e=>?_) (fun m hm=>hm.extBut hx (nP I.free)) (fun b v e=>?_) I.bare
   ·by_cases hb:b=P
    ·exact ⟨_,by rw [hb];exact htb⟩
    ·exact ⟨o,hx b o hb e⟩
   ·by_cases hb:b=P
    ·subst hb
     rw [hP] at e;cases e
     exact ⟨_,e1⟩
    ·exact ⟨#[],by rw [oth hb (nec e),e];simp⟩
   ·by_cases hbc:b=c'
    ·subst hbc
     rw [upd_same] at e;cases e
     exact code_at hrec
    ·by_cases hb:b=P
     ·subst hb
      rw [e1] at e;cases e
      exact htb
     ·rw [oth hb hbc] at e
      refine (I.hok b v e).stay (fun b' o w z=>hx b' o ?_ z) (fun b' w=>by rw [oth (neP w fun _ z=>by cases z) (nec w)];exact w) fun b' xs w=>by rw [oth (neP w fun _ z=>by cases z) (nec w)];exact w
      rcases w with rfl | w
      ·exact hb
      ·exact neP w fun _ z=>by cases z
  have J2:=J.kept (t':=tk) (h':=h'.push (PySem.W.kla_obj "<lambda>" (X.env.qual++"<lambda>") params body sc cl ((X.mg "__name__").getD .none) c' ctv)) fun b u e=>Heap.get?_push_of_some _ e
  refine h _ c' ctv _ _ _ (fun b o hb e=>by rw [oth hb (nec e)];exact e) ⟨_,e1,?_,.inr ⟨c',?_,upd_same⟩⟩ upd_same J2 (Nat.le_trans hge (Nat.le_of_lt hlt)) (J.hok.fresh (Nat.le_refl _)) (Heap.get?_push_size _ rfl)
  ·rw [Array.toList_append]
   exact TriplesOk_snoc _ _ _ _ ht
  ·rw [Array.toList_append]
   exact codeAmong_snoc _ ht hn
 ·refine PySem.W.kla_makeFunctionHit (mg:=X.mg) hcl I.ok.glob hgs hcode hC hPo ht hn hbs fun ctv h' tk hk hsz=>?_
  have J:=I.kept (t':=tk) (h':=h'.push { cls:=.type "function",data:=.func (PySem.W.kla_fn "<lambda>" (X.env.qual++"<lambda>") params body sc cl ((X.mg "__name__").getD .none) (.ref c') ctv) }) fun b u e=>Heap.get?_push_of_some _ (hk b u e)
  exact h _ c' ctv _ H _ (fun b o _ e=>e) ⟨ps,hP,ht,.inr ⟨c',hn,hc'⟩⟩ hc' J hsz (I.hok.fresh hsz) (Heap.get?_push_size _ rfl)
theorem Tab.same {P:Addr} {lp:Pos} {H H':Hp} (h:Tab P lp qual H) (e:Same H H'):Tab P lp qual H':=by
 obtain ⟨ps,h1,h2,h3⟩:=h
 refine ⟨ps,e _ _ h1,h2,h3.imp id ?_⟩
 rintro ⟨c,h4,h5⟩
 exact ⟨c,h4,e _ _ h5⟩
theorem Tab.ne {P a:Addr} {lp:Pos} {o:HO} (h:Tab P lp qual H) (e:H a=some o) (n:∀ ps,o≠.tbl ps):a≠P:=fun z=>by
 obtain ⟨ps,h1,_⟩:=h
 rw [z,h1] at e;cases e
 exact n _ rfl
theorem stayT {K:PySem.W.Frag} {B:Addr->Prop} {P:Addr} {lp:Pos} {H H':Hp} (h:Tab P lp qual H) (e:SameT P H H') (hB:¬ B P):Stay K B H H' where
 tup:=fun a xs z=>by
  rcases z with (z | ⟨o,z⟩) | z
  ·exact .inl (.inl (e _ _ (h.ne z fun _ w=>by cases w) z))
  ·exact .inl (.inr ⟨o,e _ _ (h.ne z fun _ w=>by cases w) z⟩)
  ·exact .inr z
 frz:=fun a xs z=>by
  rcases z with ⟨o,z⟩ | z
  ·exact .inl ⟨o,e _ _ (h.ne z fun _ w=>by cases w) z⟩
  ·exact .inr z
 keep:=fun a o z w=>e _ _ (fun q=>hB (q ▸ z)) w
theorem repT {K:PySem.W.Frag} {B:Addr->Prop} {P:Addr} {lp:Pos} {H H':Hp} {d:D} {v:V} (h:Tab P lp qual H) (e:SameT P H H') (hB:¬ B P) (r:Rep K B H d v):Rep K B H' d v:=Rep.mono (fun _ _ z _=>z) (stayT h e hB) d v r
theorem sqT {K:PySem.W.Frag} {P a:Addr} {lp:Pos} {H H':Hp} {xs:List V} (h:Tab P lp qual H) (e:SameT P H H') (r:SqL K H a xs):SqL K H' a xs:=by
 rcases r with (r | ⟨o,r⟩) | r
 ·exact .inl (.inl (e _ _ (h.ne r fun _ w=>by cases w) r))
 ·exact .inl (.inr ⟨o,e _ _ (h.ne r fun _ w=>by cases w) r⟩)
 ·exact .inr r
theorem rep_ints:∀ {K:PySem.W.Frag} {B:Addr->Prop} {H:Hp} {ns:List Int} {xs:List V},Reps K B H (ns.map D.int) xs->xs=ns.map V.int
 | _,_,_,[],xs,r=>by simpa [Reps] using r
 | K,B,H,n::ns,xs,r=>by
  simp only [List.map_cons,Reps] at r
  obtain ⟨v,r1,rfl,h1,h2⟩:=r
  rw [rep_ints h2]
  simp only [Rep] at h1
  rw [h1];rfl
def tO (K:PySem.W.Frag) (P:Addr) (lp:Pos) (q:Str) (iy:Nat) (fl fb:Fn):TE:=fun σ H Q=>∃ (c:Cn) (δ:DS) (d:D) (ns:List Int) (g:Int->Int),c.K=K/\Abs c σ δ H/\δ[iy]? = some (.val d)/\¬ c.B P/\Tab P lp q H/\fl δ=.ok (.lst (ns.map D.int)) /\
 ns.length < 64/\(∀ i∈ns,fb [.val (.int i),.val d]=.ok (.int (g i)))/\∀ (l:Addr) (H':Hp) (out:List Int),SameT P H H'->Tab P lp q H'->H l=none->H' l=some (.lst (out.map V.int))->out.Perm ns->Q (.ref l) H'
theorem xsortK {kk:Nat} {c0 P:Addr} {params:Arguments} {body lc:Expr} {lp p1 pos kp:Pos} {iy:Nat} {fl fb:Fn} (L:LamB X.mg X.base c0 P) (hcode:X.env.code=.ref c0) (S:LamSc p y sc) (hr:Room (kk + 3) X.A)
  (hyN:X.N[iy]? = some y) (hyk:X.env.scope.names.lookup y=some .cell) (hc:∃ c,X.env.cells.lookup y=some c/\closureFor sc X.env=pure [(y,c)]) (hdef:defaultsOf params X.env=([],[]))
  (hbind:∀ (c c':Addr) (mv ctv u:Value),bindArgs (PySem.W.kla_fn "<lambda>" (X.env.qual++"<lambda>") params body sc [(y,c)] mv (.ref c') ctv) ⟨[u],[]⟩=pure [(p,u)])
  (ha:PA X [lc] (tXA X.K E0 .S [fl])) (hb:∀ (f c c':Addr) (s':Shared) (H':Hp),Room kk (lamCx X X.A.in1.in1 p y (X.env.qual++"<lambda>") sc f (.ref c') c s' H').A->PE (lamCx X X.A.in1.in1 p y (X.env.qual++"<lambda>") sc f (.ref c') c s' H') body (tX X.K E0 .W fb))
  (hm:X.mg "sorted" = none) (hgl:Gl X "sorted":=by rfl) (he:starEach [lc] X.env=(false,eval lc X.env)::starEach [] X.env:=by rfl) :
  PE X (.Call (.Name "sorted" p1) [lc] [⟨some "key",.Lambda params body sc lp,kp⟩] pos) (tO X.K P lp (X.env.qual++"<lambda>") iy fl fb):=by
 intro pins s σ H Q I ⟨c,δ,d,ns,g,hK,ab,hδ,hB,hT,hfl,h64,hg,q⟩
 obtain ⟨ca,hca,hcl⟩:=hc
 obtain ⟨v,hσ,hrep⟩:=ab.val iy d hδ
 have hA:¬ Av c σ δ P:=fun z=>hB z.1
 refine wpAny_Call_Name_kw (ld_blt I hgl hm rfl ?_ (by decide) (by decide))
 refine callWith_kw (thn (ha pos pins s σ H (fun vs H1=>∃ a,vs=[.ref a]/\SqL X.K H1 a (ns.map V.int)/\Same H H1) I ⟨c,δ,hK,ab,?_⟩) fun us s1 ⟨vs,H1,I1,r,hvs⟩=>?_) (by rw [he];rfl) (by rw [he];rfl)
 ·show Res _ _ _ (fArgs [fl] δ) _
  have:fArgs [fl] δ=.ok [.lst (ns.map D.int)]:=by simp [fArgs,hfl]
  rw [this]
  intro vs H1 e1 r1
  simp only [Reps] at r1
  obtain ⟨v1,r2,rfl,r3,r4⟩:=r1
  simp only [Rep] at r3
  obtain ⟨a,xs,rfl,_,h1,h2⟩:=r3
  have:=rep_ints h2
  subst this
  subst r4
  exact ⟨a,rfl,.of h1,e1⟩
 ·obtain ⟨a,rfl,hq,e1⟩:=hvs
  obtain ⟨u,rfl,ru⟩:=vals1 r
  obtain rfl:u=Value.ref a:=ru
  refine kws_cons (lam_make L hcode (hT.same e1) I1 hcl hdef fun f c' ctv mv H2 s2 e2 T2 hc2 I2 hsz hf2 ho2=>kws_nil ?_)
  show wpAny _ _ (call (.builtin "sorted") [.ref a] [(Str.ofString "key",.ref f)]) _ _ _
  obtain ⟨its,r',pl,hz⟩:=I2.list (sqT (hT.same e1) e2 hq)
  have hI:=vals_ints r'
  have I3:Inv X (pins++[(f,PySem.W.kla_obj "<lambda>" (X.env.qual++"<lambda>") params body sc [(y,ca)] mv c' ctv)]) σ H2 s2:=I2.pins_of fun z hp=>by
   rcases List.mem_append.mp hp with hp | hp
   ·exact I2.pin z (List.mem_append_right _ hp)
   ·rw [List.mem_singleton.mp hp]
    exact ⟨ho2,hf2,Nat.ne_of_gt (Nat.lt_of_lt_of_le I1.lt hsz),I1.nofs hsz,fun w x=>by cases x⟩
  have hrep2:Rep X.K (Av c σ δ) H2 d v:=by rw [← hK];exact repT (hT.same e1) e2 hA (hrep.same e1)
  refine sort_keyed I3 pl.isList hI h64 (lam_key S hr.hd I.ok.frames hr.in1.in1.depth (List.mem_append_right _ (List.mem_singleton.mpr rfl)) hc2 hca hyN hyk hσ hrep2 (fun u=>hbind _ _ _ _ u) (fun s' H'=>hb f ca c' s' H' (hr.in1.in1.deeper _)) hg) fun l H4 s4 out e4 n0 n4 I4 p4=>?_
  have e5:Same H2 (upd H4 l (.lst (out.map V.int))):=fun b o z=>by
   rw [upd_ne (fun w=>by rw [w,n0] at z;cases z)];exact e4 b o z
  have e6:SameT P H (upd H4 l (.lst (out.map V.int))):=fun b o n z=>e5 b o (e2 b o n (e1 b o z))
  refine ⟨.ref l,_,I4.unpinned,rfl,q l _ out e6 (T2.same e5) ?_ upd_same p4⟩
  cases w:H l with
  | none=>rfl
  | some o =>
   have:l≠P:=fun z=>by
    obtain ⟨ps,h1,_⟩:=T2
    rw [← z,n0] at h1;cases h1
   have:=e2 l o this (e1 l o w)
   rw [n0] at this;cases this
end
end DL
namespace DL
open PySem PySem.Spec PyProof.Rows L2
structure LP where
 P:Addr
 lp:Pos
 q:Str
def LP.T (Λ:LP) (H:Hp):Prop:=Tab Λ.P Λ.lp Λ.q H
def cnL (K:PySem.W.Frag) (Λ:LP) (H₀:Hp):Cn:={ K:=K,B:=fun a=>a≠Λ.P,H₀:=H₀,G:=[] }
def EndL (K:PySem.W.Frag) (Λ:LP) (He:Hp) (D:Ends):Fl->Prop
 | .nx δ'=>∀ H₀ σ' H',Λ.T H₀->SameT Λ.P He H₀->Abs (cnL K Λ H₀) σ' δ' H'->D.nx σ' H'
 | .rt d=>∀ v H',Λ.T H'->SameT Λ.P He H'->Rep K (fun a=>a≠Λ.P) H' d v->D.rt v H'
 | _=>False
def tL (K:PySem.W.Frag) (Λ:LP) (He:Hp) (F:Sm):TS:=fun D σ H=>∃ H₀ δ,Λ.T H₀/\SameT Λ.P He H₀/\Abs (cnL K Λ H₀) σ δ H/\Res K E0 H₀ (F δ) (EndL K Λ He D)
def noOwn (δ:DS):Bool:=δ.all fun s=>match s with
 | .own _=>false
 | _=>true
section
variable {X:Cx} {Λ:LP} {He H H1 H2:Hp} {P:Addr} {F G:Sm} {st:Stmt} {sts:List Stmt} {K:PySem.W.Frag}
theorem SameT.refl:SameT P H H:=fun _ _ _ e=>e
theorem SameT.next (a:SameT P H H1) (b:Same H1 H2):SameT P H H2:=fun c o n e=>b c o (a c o n e)
theorem SameT.trans (a:SameT P H H1) (b:SameT P H1 H2):SameT P H H2:=fun c o n e=>b c o n (a c o n e)
theorem LP.T.grow (t:Λ.T H) (e:Same H H1):Λ.T H1:=Tab.same t e
theorem LP.T.at_ (t:Λ.T H):H Λ.P≠none:=by
 obtain ⟨ps,h,_⟩:=t
 rw [h];simp
theorem res0 {α:Type} {o:Ou α} {k:α->Prop} (h:Res K E0 H o k):Res K E0 H1 o k:=by
 cases o with
 | ok a=>exact h
 | ex e=>exact (h .none none H (Same.refl H) trivial).elim
 | bad=>exact h
theorem no_own {δ:DS} (h:noOwn δ=true) {i:Nat} {d:D} (e:δ[i]? = some (Sl.own d)):False:=by
 have:=List.all_eq_true.mp h _ (List.mem_of_getElem? e)
 cases this
theorem not_own {δ:DS} {σ:St} {a:Addr} (h:noOwn δ=true):¬ Own σ δ a:=fun ⟨i,d,e,_⟩=>no_own h e
theorem rebase {H₀:Hp} {σ:St} {δ:DS} (ab:Abs (cnL K Λ H₀) σ δ H) (hn:noOwn δ=true) (t:Λ.T H) (e:SameT Λ.P H H1) (t1:Λ.T H1):Abs (cnL K Λ H1) σ δ H1 where
 same:=Same.refl _
 fr:=fun a h z=>t1.at_ (z ▸ h)
 len:=ab.len
 val:=fun i d h=>by
  obtain ⟨v,h1,h2⟩:=ab.val i d h
  exact ⟨v,h1,repT t e (fun z=>z.1 rfl) h2⟩
 own:=fun i d h=>(no_own hn h).elim
 gho:=fun d v h=>by cases h
 inj:=fun i j di dj p h=>(no_own hn h).elim
theorem forget {c:Cn} {σ:St} {δ:DS} {k:Nat} (ab:Abs c σ δ H):Abs c σ (δ.set k .un) H:=by
 have back:∀ {i:Nat} {s:Sl},(δ.set k .un)[i]? = some s->s≠.un->δ[i]? = some s:=fun {i s} e n=>by
  by_cases hk:k=i
  ·subst hk
   by_cases hl:k < δ.length
   ·rw [List.getElem?_set_self hl] at e;cases e;exact (n rfl).elim
   ·rw [List.getElem?_eq_none (by rw [List.length_set];omega)] at e;cases e
  ·rw [List.getElem?_set_ne hk] at e;exact e
 have ow:∀ {a},Own σ (δ.set k .un) a->Own σ δ a:=fun ⟨i,d,e,z⟩=>⟨i,d,back e (by simp),z⟩
 have av:∀ {a},Av c σ δ a->Av c σ (δ.set k .un) a:=fun z=>⟨z.1,fun w=>z.2 (ow w)⟩
 refine ⟨ab.same,ab.fr,by rw [List.length_set];exact ab.len,fun i d h=>?_,fun i d h=>?_,fun d v h=>(ab.gho d v h).weak fun _=>av,fun i j di dj p h1 h2=>ab.inj i j di dj p (back h1 (by simp)) (back h2 (by simp))⟩
 ·obtain ⟨v,h1,h2⟩:=ab.val i d (back h (by simp))
  exact ⟨v,h1,h2.weak fun _=>av⟩
 ·obtain ⟨p,xs,h1,h2,h3,h4⟩:=ab.own i d (back h (by simp))
  exact ⟨p,xs,h1,h2,h3,h4.weak fun _=>av⟩
theorem xl_of (h:PS X st (tS X.K E0 false F)):PS X st (tL X.K Λ He F):=h.imp fun D σ H ⟨H₀,δ,t,e,ab,q⟩=>⟨cnL X.K Λ H₀,δ,rfl,ab,q.imp fun r _ k=>by
 cases r with
 | nx δ'=>exact fun σ' H' ab'=>k H₀ σ' H' t e ab'
 | rt d=>exact fun v H' e' r'=>k v H' (t.grow e') (e.next e') r'
 | bk δ'=>exact k.elim
 | ct δ'=>exact k.elim⟩
theorem xls_of (h:PSs X sts (tS X.K E0 false F)):PSs X sts (tL X.K Λ He F):=h.imp fun D σ H ⟨H₀,δ,t,e,ab,q⟩=>⟨cnL X.K Λ H₀,δ,rfl,ab,q.imp fun r _ k=>by
 cases r with
 | nx δ'=>exact fun σ' H' ab'=>k H₀ σ' H' t e ab'
 | rt d=>exact fun v H' e' r'=>k v H' (t.grow e') (e.next e') r'
 | bk δ'=>exact k.elim
 | ct δ'=>exact k.elim⟩
theorem xl_cons (h1:PS X st (tL X.K Λ He F)) (h2:PSs X sts (tL X.K Λ He G)):PSs X (st::sts) (tL X.K Λ He (sSeq F G)):=(pss_cons h1 h2).imp fun D σ H ⟨H₀,δ,t,e,ab,q⟩ =>
 ⟨H₀,δ,t,e,ab,(Res.bind q).imp fun r _ k=>by
  cases r with
  | nx δ'=>exact fun H₀' σ' H' t' e' ab'=>⟨H₀',δ',t',e',ab',res0 k⟩
  | rt d=>exact k
  | bk δ'=>exact k.elim
  | ct δ'=>exact k.elim⟩
end
def spL (K:PySem.W.Frag) (Λ:LP) (n:Nat) (mm:List D->Ou D):Sp:=fun vs H Q _=>∃ ds:List D,ds.length=n/\Reps K (fun a=>a≠Λ.P) H ds vs/\Λ.T H /\
 Res K E0 H (mm ds) fun d=>∀ v H',Λ.T H'->SameT Λ.P H H'->Rep K (fun a=>a≠Λ.P) H' d v->Q v H'
def spO (K:PySem.W.Frag) (Λ:LP) (n:Nat) (mo:List D->Ou (List Int)):Sp:=fun vs H Q _=>∃ (ds:List D) (ns:List Int),ds.length=n/\Reps K (fun a=>a≠Λ.P) H ds vs/\Λ.T H/\mo ds=.ok ns /\
 ∀ (l:Addr) (H':Hp) (out:List Int),SameT Λ.P H H'->Λ.T H'->H l=none->H' l=some (.lst (out.map V.int))->out.Perm ns->Q (.ref l) H'
def isI:Ou D->Bool
 | .ok (.int _)=>true
 | _=>false
def theI:Ou D->Int
 | .ok (.int i)=>i
 | _=>0
def intsOf:List D->Option (List Int)
 | []=>some []
 | .int i::r=>(intsOf r).map (i::·)
 | _::_=>none
theorem intsOf_eq:∀ {xs:List D} {ns:List Int},intsOf xs=some ns->xs=ns.map D.int
 | [],ns,h=>by cases h;rfl
 | .int i::r,ns,h=>by
  simp only [intsOf,Option.map_eq_some_iff] at h
  obtain ⟨ms,h1,rfl⟩:=h
  rw [List.map_cons,← intsOf_eq h1]
 | .non::_,_,h=>by simp [intsOf] at h
 | .bl _::_,_,h=>by simp [intsOf] at h
 | .str _::_,_,h=>by simp [intsOf] at h
 | .tup _::_,_,h=>by simp [intsOf] at h
 | .lst _::_,_,h=>by simp [intsOf] at h
 | .frl _::_,_,h=>by simp [intsOf] at h
 | .dic _ _::_,_,h=>by simp [intsOf] at h
 | .obj _::_,_,h=>by simp [intsOf] at h
 | .dip _ _::_,_,h=>by simp [intsOf] at h
def mOrd (n iy:Nat) (fl fb:Fn) (ds:List D):Ou (List Int):=match fl (startD n ds),ds[iy]? with
 | .ok (.lst xs),some d=>(match intsOf xs with
  | some ns=>if ns.length < 64/\ns.all (fun i=>isI (fb [.val (.int i),.val d]))=true then .ok ns else .bad
  | none=>.bad)
 | _,_=>.bad
section
variable {P:Program} {w:World} {K:PySem.W.Frag} {mg:Str->Option Value} {base:Heap} {Λ:LP}
theorem start_absL {N:List Str} {H:Hp} {ds:List D} {vs:List V} (t:Λ.T H) (r:Reps K (fun a=>a≠Λ.P) H ds vs) (hl:ds.length<=N.length):Abs (cnL K Λ H) (start N vs) (startD N.length ds) H:=by
 have e:(fun a=>a≠Λ.P\/H a=none)=fun a=>a≠Λ.P:=funext fun a=>propext ⟨fun z=>z.elim id fun z w=>t.at_ (w ▸ z),.inl⟩
 have:=start_abs (N:=N) r hl
 unfold cnL
 rw [← e]
 exact this
theorem fn_ofL {N ps:List Str} {st:Stmt} {x:Str} {k:Nat} {F:Sm} {f:Addr} {fd:FuncData} (Fn:Fun K x x st f fd) (sc:FnScope N ps (defScope st)) (hn:ps.length<=N.length)
  (hbody:∀ (f:Addr) (cdv:Value) (A:Around) (outer:List Env) (s:Shared) (H:Hp) (E:XK),Room k (A.deeper (envOfC x (defScope st) s.heap.objs.size f cdv)) ->
   PSs (cxOf CX0 P w K mg base N x (defScope st) f cdv A outer s H E).nox (defBody st) (tL K Λ H F)):FnOk P w K mg base CX0 (k + 1) f fd ps (spL K Λ ps.length (runD false N.length F)):=by
 refine Fn.ok sc (fun vs H Q E h=>?_) (fun cdv A outer s H vs Q E hr h=>⟨_,hbody f cdv A outer s H E hr,?_⟩)
 ·obtain ⟨ds,hl,r,_⟩:=h
  rw [r.length];exact hl
 ·obtain ⟨ds,hl,r,t,h⟩:=h
  refine ⟨H,startD N.length ds,t,SameT.refl,start_absL t r (by rw [hl];exact hn),(Res.bind h).imp fun z _ k=>?_⟩
  cases z with
  | rt d=>exact k
  | nx δ=>exact fun H₀ σ' H' t' e' ab=>k .non H' (t'.grow ab.same) (e'.next ab.same) (by simp [Rep])
  | bk δ=>exact k.elim
  | ct δ=>exact k.elim
end
structure DfL (P:Program) (w:World) (K:PySem.W.Frag) (mg:Str->Option Value) (base:Heap) (Λ:LP) (x:Str) (k:Nat) (ps:List Str) (mm:List D->Ou D):Prop where
 ex:∃ f fd,FnOk P w K mg base CX0 k f fd ps (spL K Λ ps.length mm)/\Binds K fd ps []/\PySem.W.keepIn K (.ref f)=true/\mg x=some (.ref f)
structure DfO (P:Program) (w:World) (K:PySem.W.Frag) (mg:Str->Option Value) (base:Heap) (Λ:LP) (x:Str) (k:Nat) (ps:List Str) (mo:List D->Ou (List Int)):Prop where
 ex:∃ f fd,FnOk P w K mg base CX0 k f fd ps (spO K Λ ps.length mo)/\Binds K fd ps []/\PySem.W.keepIn K (.ref f)=true/\mg x=some (.ref f)
section
variable {P:Program} {w:World} {K:PySem.W.Frag} {mg:Str->Option Value} {base:Heap} {Λ:LP}
theorem DfL.mono {x:Str} {j k:Nat} {ps:List Str} {mm:List D->Ou D} (h:DfL P w K mg base Λ x j ps mm) (hj:j<=k):DfL P w K mg base Λ x k ps mm:=by
 obtain ⟨f,fd,h1,h2⟩:=h.ex
 exact ⟨f,fd,h1.mono hj,h2⟩
theorem DfO.mono {x:Str} {j k:Nat} {ps:List Str} {mo:List D->Ou (List Int)} (h:DfO P w K mg base Λ x j ps mo) (hj:j<=k):DfO P w K mg base Λ x k ps mo:=by
 obtain ⟨f,fd,h1,h2⟩:=h.ex
 exact ⟨f,fd,h1.mono hj,h2⟩
theorem dfL_of {N ps:List Str} {st:Stmt} {x:Str} {k:Nat} {F:Sm} (S:Src K mg x st ps) (sc:FnScope N ps (defScope st)) (hn:ps.length<=N.length)
  (hbody:∀ (f:Addr) (cdv:Value) (A:Around) (outer:List Env) (s:Shared) (H:Hp) (E:XK),Room k (A.deeper (envOfC x (defScope st) s.heap.objs.size f cdv)) ->
   PSs (cxOf CX0 P w K mg base N x (defScope st) f cdv A outer s H E).nox (defBody st) (tL K Λ H F)):DfL P w K mg base Λ x (k + 1) ps (runD false N.length F):=by
 obtain ⟨f,fd,Fn,b,hm⟩:=S.ex
 exact ⟨f,fd,fn_ofL Fn sc hn hbody,b,Fn.kp,hm⟩
theorem dfO_of {N ps:List Str} {st:Stmt} {x:Str} {k iy:Nat} {fl fb:Fn} {c0:Addr} {e:Expr} {pos:Pos} (S:Src K mg x st ps) (sc:FnScope N ps (defScope st)) (hn:ps.length<=N.length) (hcd:∀ f fd,mg x=some (.ref f)->(∃ oc od sl,K.lookup f=some ⟨oc,od,.func fd,sl⟩)->fd.code=.ref c0)
  (hb:defBody st=[.Return (some e) pos])
  (hbody:∀ (f:Addr) (A:Around) (outer:List Env) (s:Shared) (H:Hp) (E:XK),Room k (A.deeper (envOfC x (defScope st) s.heap.objs.size f (.ref c0))) ->
   PE (cxOf CX0 P w K mg base N x (defScope st) f (.ref c0) A outer s H E).nox e (tO K Λ.P Λ.lp Λ.q iy fl fb)):DfO P w K mg base Λ x (k + 1) ps (mOrd N.length iy fl fb):=by
 obtain ⟨f,fd,Fn,b,hm⟩:=S.ex
 refine ⟨f,fd,?_,b,Fn.kp,hm⟩
 have hc:=hcd f fd hm
 obtain ⟨oc,od,kV,doc,pm,an,cdv,ct,osl,rfl,lk,hci⟩:=Fn.ex
 have hc2:cdv=.ref c0:=hc ⟨_,_,_,lk⟩
 subst hc2
 refine fn_of lk hci sc (fun vs H Q E h=>?_) fun A outer s H vs Q E hr h=>?_
 ·obtain ⟨ds,ns,hl,r,_⟩:=h
  rw [r.length];exact hl
 ·obtain ⟨ds,ns,hl,r,t,hmo,q⟩:=h
  rw [hb]
  refine ⟨_,(pss_cons (ps_ret (hbody f A outer s H E hr)) pss_nil).nox,?_⟩
  have ab:=start_absL (N:=N) t r (by rw [hl];exact hn)
  unfold mOrd at hmo
  split at hmo
  ·rename_i xs d hfl hd
   split at hmo
   ·rename_i ns' hns
    split at hmo
    ·rename_i hcond
     cases hmo
     have:=intsOf_eq hns
     subst this
     obtain ⟨h64,hall⟩:=hcond
     have hd':(startD N.length ds)[iy]? = some (Sl.val d):=by
      have hi:iy < ds.length:=(List.getElem?_eq_some_iff.mp hd).1
      unfold startD
      rw [List.getElem?_append_left (by rw [List.length_map];exact hi),List.getElem?_map,hd];rfl
     refine ⟨cnL K Λ H,startD N.length ds,d,ns,fun i=>theI (fb [.val (.int i),.val d]),rfl,ab,hd',fun z=>z rfl,t,hfl,h64,fun i hi=>?_,q⟩
     have:=List.all_eq_true.mp hall i hi
     cases hfb:fb [.val (.int i),.val d] with
     | ok z =>
      rw [hfb] at this
      cases z <;> first | (show Ou.ok _=Ou.ok (D.int (theI (fb [.val (.int i),.val d])));rw [hfb];rfl) | (simp [isI] at this;done)
     | ex z=>rw [hfb] at this;simp [isI] at this
     | bad=>rw [hfb] at this;simp [isI] at this
    ·cases hmo
   ·cases hmo
  ·cases hmo
end
def sSetL (i:Nat) (f:Fn):Sm:=fun δ=>if noOwn δ=true then sSet i f δ else .bad
open Classical in
noncomputable def sForP (fs:List Fn) (mo:List D->Ou (List Int)) (g:D->DS->Ou DS) (F:Sm) (ik:Nat):Sm:=fun δ=>if noOwn δ=true then (fArgs fs δ).bind fun ds=>(mo ds).bind fun ns =>
 if h:∃ δ',∀ out:List Int,out.Perm ns->∃ δ1,forL g F (out.map D.int) δ=.ok (.nx δ1)/\δ1.set ik .un=δ' then .ok (.nx (choose h)) else .bad else .bad
theorem ints_nums:∀ ms:List Int,intsOf (ms.map D.int)=some ms
 | []=>rfl
 | m::ms=>by rw [List.map_cons];unfold intsOf;rw [ints_nums ms];rfl
theorem e_ord {n iy:Nat} {fl fb:Fn} {ds:List D} {d:D} {ns:List Int} (h1:fl (startD n ds)=.ok (.lst (ns.map D.int))) (h2:ds[iy]? = some d) (h3:ns.length < 64) (h4:ns.all (fun i=>isI (fb [.val (.int i),.val d]))=true):mOrd n iy fl fb ds=.ok ns:=by
 unfold mOrd
 rw [h1,h2]
 simp only [ints_nums]
 rw [if_pos ⟨h3,h4⟩]
theorem e_forP {fs:List Fn} {mo:List D->Ou (List Int)} {g:D->DS->Ou DS} {F:Sm} {ik:Nat} {δ δ':DS} {ds:List D} {ns:List Int} (h1:noOwn δ=true) (h2:fArgs fs δ=.ok ds) (h3:mo ds=.ok ns)
  (h4:∀ out:List Int,out.Perm ns->∃ δ1,forL g F (out.map D.int) δ=.ok (.nx δ1)/\δ1.set ik .un=δ'):sForP fs mo g F ik δ=.ok (.nx δ'):=by
 have hex:∃ δ',∀ out:List Int,out.Perm ns->∃ δ1,forL g F (out.map D.int) δ=.ok (.nx δ1)/\δ1.set ik .un=δ':=⟨δ',h4⟩
 obtain ⟨δ1,e1,e2⟩:=Classical.choose_spec hex ns (List.Perm.refl _)
 obtain ⟨δ2,e3,e4⟩:=h4 ns (List.Perm.refl _)
 rw [e1] at e3
 cases e3
 unfold sForP
 rw [if_pos h1,h2,bind_ok,h3,bind_ok,dif_pos hex,← e2,e4]
section
variable {X:Cx} {Λ:LP} {He:Hp} {x y:Str} {k:Nat} {ps:List Str} {mm:List D->Ou D} {mo:List D->Ou (List Int)} {e:Expr} {es:List Expr} {fs:List Fn} {p pos pos2:Pos} {F:Sm}
theorem xl_set (i:Nat) {pos':Pos} (h:DfL X.prog X.w X.K X.mg X.base Λ x k ps mm) (hr:Room k X.A) (hN:X.N.Nodup) (ha:PA X (e::es) (tXA X.K E0 .W fs)) (hl:fs.length=ps.length:=by rfl) (hg:Gl X x:=by rfl) (hdb:(x == ("__debug__":Str))=false:=by decide)
  (he:starEach (e::es) X.env=(false,eval e X.env)::starEach es X.env:=by rfl) (hpl:(backTo pos (starEach es X.env)).any (·.1)=false:=by rfl) (hi:X.N[i]? = some y:=by rfl) (hx:Loc X.env.scope y:=by first | exact Or.inl rfl | exact Or.inr rfl)
  (hs:swapsWith (.Call (.Name x p) (e::es) [] pos) (some (.Name y pos')) pos2.line X.env=pure false:=by rfl) (hf:X.fn y=true\/X.env.scope.names.lookup y=some .local:=by first | exact .inl rfl | exact .inr rfl) :
  PS X (.Assign [.Name y pos'] (.Call (.Name x p) (e::es) [] pos) pos2) (tL X.K Λ He (sSetL i (fCall mm fs))):=by
 obtain ⟨f,fd,h1,h2,h3,h4⟩:=h.ex
 refine (ps_set hN hi hx (pe_call h1 hr hg h4 h3 h2 .nil pass0 ha hdb he hpl) hs hf).imp fun D σ H ⟨H₀,δ,t,e0,ab,q⟩=>?_
 unfold sSetL at q
 split at q
 ·rename_i hn
  refine ⟨cnL X.K Λ H₀,δ,rfl,ab,(Res.bind (Res.bind q)).imp fun ds hds k vs H1 e1 r1=>?_⟩
  have t1:Λ.T H1:=(t.grow ab.same).grow e1
  refine ⟨ds,by rw [fArgs_len hds];exact hl,by rw [List.append_nil];exact r1,t1,(res0 k).imp fun d _ k v H' t' e' r'=>?_⟩
  have ab1:=rebase (ab.grow e1) hn t1 e' t'
  exact k H' _ H' t' ((e0.next (ab.same.trans e1)).trans e') (ab1.set_val (Same.refl _) (r'.weak fun a z=>⟨z,not_own hn⟩))
 ·exact q.elim
theorem xl_forP (ik:Nat) {tg:Expr} {body:List Stmt} {g:D->DS->Ou DS} (h:DfO X.prog X.w X.K X.mg X.base Λ x k ps mo) (hr:Room k X.A) (hp:PassesOwn (model X.prog X.w) X.A X.env X.xe) (hc:X.calm=true) (ha:PA X (e::es) (tXA X.K E0 .W fs))
  (hG:PG X tg (tG X.K E0 g)) (hb:PSs X body (tS X.K E0 false F)) (hl:fs.length=ps.length:=by rfl) (hg:Gl X x:=by rfl) (hdb:(x == ("__debug__":Str))=false:=by decide)
  (he:starEach (e::es) X.env=(false,eval e X.env)::starEach es X.env:=by rfl) (hpl:(backTo pos (starEach es X.env)).any (·.1)=false:=by rfl)
  (hs:∀ z,foldedSetIterable (.Call (.Name x p) (e::es) [] pos) X.env z=pure z:=by intro _;rfl) :
  PS X (.For tg (.Call (.Name x p) (e::es) [] pos) body [] pos2) (tL X.K Λ He (sForP fs mo g F ik)):=by
 obtain ⟨f,fd,h1,h2,h3,h4⟩:=h.ex
 refine (ps_for hp hc (pi_list (pe_call h1 hr hg h4 h3 h2 .nil pass0 ha hdb he hpl)) hG hb hs).imp fun D σ H ⟨H₀,δ,t,e0,ab,q⟩=>?_
 unfold sForP at q
 split at q
 ·rename_i hn
  refine ⟨cnL X.K Λ H₀,δ,rfl,ab,(Res.bind q).imp fun ds hds k vs H1 e1 r1=>?_⟩
  have t1:Λ.T H1:=(t.grow ab.same).grow e1
  cases hmo:mo ds with
  | ex z=>rw [hmo] at k;exact ((res0 (H1:=H) k) .none none H (Same.refl _) trivial).elim
  | bad=>rw [hmo] at k;exact k.elim
  | ok ns =>
   rw [hmo] at k
   simp only [bind_ok] at k
   split at k
   ·rename_i hex
    have hch:=Classical.choose_spec hex
    refine ⟨ds,ns,by rw [fArgs_len hds];exact hl,by rw [List.append_nil];exact r1,t1,hmo,fun l H2 out e2 t2 nl hl2 perm=>⟨l,rfl,⟨_,.of hl2⟩,?_⟩⟩
    have ab2:=rebase (ab.grow e1) hn t1 e2 t2
    have reps:∀ (B:Addr->Prop) (H:Hp) (zs:List Int),Reps X.K B H (zs.map DL.D.int) (zs.map V.int):=fun B H zs=>by
     induction zs with
     | nil=>simp [Reps]
     | cons z zs ih=>exact ⟨_,_,rfl,rfl,ih⟩
    have hlP:l≠Λ.P:=fun z=>by
     obtain ⟨ps,z1,_⟩:=t2
     rw [← z,hl2] at z1;cases z1
    have rl:Rep X.K (Av (cnL X.K Λ H2) σ δ) H2 (.lst (out.map DL.D.int)) (.ref l):=by
     simp only [Rep]
     exact ⟨l,_,rfl,⟨hlP,not_own hn⟩,hl2,reps _ _ out⟩
    obtain ⟨δ1,hf1,hf2⟩:=hch out perm
    refine rd_for (c:=cnL X.K Λ H2) (ds:=out.map DL.D.int) rfl ab2 rl (fun B H z=>?_) ?_
    ·simp only [Rep] at z
     obtain ⟨b,ys,ez,_,w1,w2⟩:=z
     cases ez
     exact ⟨ys,.of w1,w2⟩
    ·rw [hf1]
     intro σ' H' ab'
     refine k H2 σ' H' t2 ((e0.next (ab.same.trans e1)).trans e2) ?_
     rw [← hf2]
     exact forget ab'
   ·exact k.elim
 ·exact q.elim
end
end DL
namespace DL
open PySem PySem.Spec PyProof.Rows L2
section
theorem codeL {P:Program} {w:World} {K:PySem.W.Frag} {mg mb:Str->Option Value} {k:Nat} {fa a c T:Addr} {fd:FuncData} {x:Str} {lp:Pos} {q:Str} {mm:List D->Ou D} {s₁:Shared} {vs:List Value} {ns:List Int}
  (KX:K.In s₁.heap) (hns:s₁.heap.Ns mainGlobals mg) (hb:s₁.heap.Ns builtinsNs mb) (hbb:∀ x:Str,x≠"__name__"->mb x=bootBuiltins x) (hlim:s₁.heap.NoLimit) (hg:s₁.gens=#[])
  (hbm:∃ bm ob,mg "__builtins__" = some (.ref bm)/\bm≠builtinsNs/\s₁.heap.get? bm=some ob/\ob.cls=.type "module"/\ob.dict=some builtinsNs/\ob.data=.plain)
  (hC:PySem.W.CodeHd s₁.heap c T) (hT:s₁.heap.get? T=some (PySem.W.tabObj #[])) (hTK:K.lookup T=none)
  (ha:s₁.heap.get? a=some { cls:=.type "list",data:=.seq vs.toArray }) (hi:IntsAre vs ns) (hl:ns.length<=sizeLine) (hr:Room k callerA)
  (F:∀ base:Heap,K.In base->base.Ns mainGlobals mg->LamB mg base c T->FnOk P w K mg base CX0 k fa fd [x] (spL K ⟨T,lp,q⟩ 1 mm)) (hbind:∀ (s:Shared) (u:Value),BindsTo s fd ⟨[u],[]⟩ [(x,u)])
  (law:mm [.frl (ns.map D.int)]=.ok (.bl true)) :
  codeAny (model P w) callerA (.call (.ref fa) ⟨[.ref a],[]⟩) (fun r s'=>r=.ok (.ret (.bool true))/\OldK s₁.heap s'.heap/\s'.os=s₁.os/\AllBare s'.gens) s₁:=by
 have rv:=ints_vals hi
 have lenV:=hi.length
 have haT:a≠T:=fun z=>by rw [z,hT] at ha;cases ha
 have core:∀ H:Hp,H T=some (.tbl #[])->(∀ b,b≠T->H b=none\/(b=a/\K.lookup a=none/\H b=some (.frz { cls:=.type "list",data:=.seq vs.toArray } (.lst (ns.map V.int)))))->FrK K H a (ns.map V.int)->HOk P w H s₁.heap ->
   codeAny (model P w) callerA (.call (.ref fa) ⟨[.ref a],[]⟩) (fun r s'=>r=.ok (.ret (.bool true))/\OldK s₁.heap s'.heap/\s'.os=s₁.os/\AllBare s'.gens) s₁:=by
  intro H hHT hO hS hok
  have free:∀ {b:Addr} {o:Obj},s₁.heap.get? b=some o->o.cls≠.none->o.cls≠.type "list"->H b=none:=fun {b o} e h1 h2=>by
   have hbT:b≠T:=fun z=>by rw [z,hT] at e;cases e;exact h1 rfl
   rcases hO b hbT with z | ⟨z,_,_⟩
   ·exact z
   ·rw [z,ha] at e;cases e;exact (h2 rfl).elim
  have freeD:∀ {b:Addr} {o:Obj} {es:Array DictEntry} {ep:Nat},s₁.heap.get? b=some o->o.data=.dict es ep->H b=none:=fun {b o es ep} e d=>by
   have hbT:b≠T:=fun z=>by rw [z,hT] at e;cases e;cases d
   rcases hO b hbT with z | ⟨z,_,_⟩
   ·exact z
   ·rw [z,ha] at e;cases e;cases d
  have up:∀ {b:Addr} {o:Obj},s₁.heap.get? b=some o->H b=none->(hidT s₁.heap H).get? b=some o:=fun e n=>hidT_get e n
  have nsK:∀ {b:Addr} {m:Str->Option Value},s₁.heap.Ns b m->(hidT s₁.heap H).Ns b m:=fun {b m} ⟨o,es,ep,e,d,r⟩=>⟨o,es,ep,up e (freeD e d),d,r⟩
  have hKb:K.In (hidT s₁.heap H):=fun b o e=>up (KX b o e) (by
   have hbT:b≠T:=fun z=>by rw [z,hTK] at e;cases e
   rcases hO b hbT with z | ⟨z,h1,_⟩
   ·exact z
   ·rw [z,h1] at e;cases e)
  have hM:Mod K mg (hidT s₁.heap H):=⟨hKb,nsK hns,⟨mb,nsK hb,hbb⟩,let ⟨mc,h1,h2⟩:=hlim;⟨mc,nsK h1,h2⟩⟩
  have hLB:LamB mg (hidT s₁.heap H) c T:=by
   refine ⟨?_,?_,fun z=>?_⟩
   ·obtain ⟨o,ws,file,tf,flags,tg,inF,text,tt,e1,e2,r⟩:=hC
    exact ⟨o,ws,file,tf,flags,tg,inF,text,tt,up e1 (free e1 (by rw [e2];nofun) (by rw [e2];simp)),e2,r⟩
   ·obtain ⟨bm,ob,b1,b2,b3,b4,b5,b6⟩:=hbm
    refine ⟨bm,ob,b1,b2,fun z=>?_,fun z=>?_,up b3 (free b3 (by rw [b4];nofun) (by rw [b4];simp)),b4,b5,b6⟩
    ·obtain ⟨o,es,ep,e,hd,_⟩:=hns
     rw [z,e] at b3;cases b3;rw [hd] at b6;cases b6
    ·rw [z,hT] at b3;cases b3;cases b4
   ·obtain ⟨o,es,ep,e,hd,_⟩:=hns
    rw [z,hT] at e;cases e;cases hd
  have e0:Env0 P w K mg (hidT s₁.heap H) callerA [] s₁ H:=⟨rfl,hM,fun b o e=>of_hidT e,Nat.le_of_eq (hidT_size _ _),trivial,fun b z=>(nomatch z),hok,.of_eq hg⟩
  have tab:LP.T ⟨T,lp,q⟩ H:=⟨#[],hHT,trivial,.inl rfl⟩
  refine codeAny_mono ((F _ hKb (nsK hns) hLB).run callerA [] s₁ H ⟨[.ref a],[]⟩ [.ref a] [.ref a] (fun v _=>v=.bl true) E0 hr e0 (hbind s₁ (.ref a)) (.cons rfl .nil) ⟨[.frl (ns.map D.int)],rfl,?_,tab,?_⟩) fun r s' h=>?_
  ·simp only [Reps]
   refine ⟨.ref a,[],rfl,?_,rfl⟩
   simp only [Rep]
   exact ⟨a,_,rfl,hS,Reps.ints ns⟩
  ·rw [law]
   intro v H' _ _ r
   simpa only [Rep] using r
  ·cases r with
   | error e=>exact False.elim h
   | ok fl =>
    cases fl with
    | next=>exact False.elim h
    | brk=>exact False.elim h
    | cont=>exact False.elim h
    | ret u =>
     obtain ⟨v,H',os,bare,un,hok',r',rfl⟩:=h
     obtain rfl:u=Value.bool true:=r'
     have kp:∀ b o,b≠T->s₁.heap.get? b=some o->s'.heap.get? b=some o:=fun b o hbT e=>by
      rcases hO b hbT with z | ⟨z,_,z2⟩
      ·exact un.keep b o e z (fun w=>nomatch w) (fun w=>nomatch w)
      ·obtain ⟨e2,_⟩:=hok' b _ (un.frzs b _ _ z2)
       obtain ⟨e1,_⟩:=hok b _ z2
       rw [e] at e1;cases e1
       exact e2
     obtain ⟨more,hm⟩:=un.tbls T #[] hHT
     have hT':s'.heap.get? T=some (PySem.W.tabObj (#[]++more)):=hok' T _ hm
     refine ⟨rfl,⟨fun b o e=>?_,fun b o e=>?_⟩,os,bare⟩
     ·by_cases hbT:b=T
      ·subst hbT
       rw [hT] at e;cases e
       exact .inr (.inl ⟨(hC.tab hT).isCodeTable,rfl,#[],more,rfl,hT'⟩)
      ·exact .inl (kp b o hbT e)
     ·by_cases hbT:b=T
      ·exact ⟨_,by rw [hbT];exact hT'⟩
      ·exact ⟨o,kp b o hbT e⟩
 have okT:∀ {H:Hp} {u:HO},some (HO.tbl #[])=some u->ObjOk P w H s₁.heap T u:=fun {H u} z=>by cases z;exact hT
 cases hk:K.lookup a with
 | some o =>
  have e:=KX a o hk
  rw [ha] at e;cases e
  refine core (fun b=>if b=T then some (.tbl #[]) else none) (if_pos rfl) (fun b hbT=>.inl (if_neg hbT)) (.inr ⟨_,vs.toArray,_,hk,rfl,rfl,rfl,by rw [List.size_toArray,lenV];exact hl,by simpa using rv⟩) fun b u z=>?_
  by_cases hbT:b=T
  ·subst hbT
   exact okT ((if_pos rfl).symm.trans z)
  ·have z':=(if_neg hbT).symm.trans z
   cases z'
 | none =>
  refine core (fun b=>if b=T then some (.tbl #[]) else if b=a then some (.frz { cls:=.type "list",data:=.seq vs.toArray } (.lst (ns.map V.int))) else none) (if_pos rfl) (fun b hbT=>?_) (.inl ⟨{ cls:=.type "list",data:=.seq vs.toArray },(if_neg haT).trans (if_pos rfl)⟩) fun b u z=>?_
  ·by_cases hb:b=a
   ·exact .inr ⟨hb,hk,(if_neg hbT).trans (if_pos hb)⟩
   ·exact .inl ((if_neg hbT).trans (if_neg hb))
  ·by_cases hbT:b=T
   ·subst hbT
    exact okT ((if_pos rfl).symm.trans z)
   ·by_cases hb:b=a
    ·have z':=(if_pos hb).symm.trans ((if_neg hbT).symm.trans z)
     cases z'
     subst hb
     exact ⟨ha,by rw [List.length_map];exact hl,vs,_,rv,ha⟩
    ·have z':=(if_neg hb).symm.trans ((if_neg hbT).symm.trans z)
     cases z'
theorem walkL {l:PySem.W.OpenLaw} {n k:Nat} {qq:Program} {loose:List Str} {XP:(Str->Option Value)->Heap->Prop} {YP:World->Heap->Prop} {d:DefRec} {K:Params->PySem.W.Frag} {x:Str} {lp:Pos} {q:Str} {mm:List D->Ou D} {c T:Addr}
  (hn:l.most=some n) (hn2:n<=sizeLine) (hdf:d.params.defaults=[]) (hr:Room k callerA) (hY:∀ (w:World) (h:Heap),YP w h->(K w.params).In h)
  (hTb:∀ (w:World) (h:Heap),YP w h->h.get? T=some (PySem.W.tabObj #[])) (hCd:∀ w:World,PySem.W.codeHdIn (K w.params) c T=true) (hTK:∀ w:World,(K w.params).lookup T=none)
  (law:∀ ns:List Int,ns.length<=n->mm [.frl (ns.map D.int)]=.ok (.bl true))
  (F:∀ (w:World) (mg:Str->Option Value) (fa:Addr) (h:Heap),(K w.params).In h->h.Ns mainGlobals mg->mg d.name=some (.ref fa) ->
   ∃ fd:FuncData,(∀ (s:Shared) (u:Value),BindsTo s fd ⟨[u],[]⟩ [(x,u)])/\∀ base:Heap,(K w.params).In base->base.Ns mainGlobals mg->LamB mg base c T->FnOk l.prog w (K w.params) mg base CX0 k fa fd [x] (spL (K w.params) ⟨T,lp,q⟩ 1 mm)) :
  PySem.W.WalkO qq loose XP YP l.row.toRowW d [] (fun f vs=>PySem.call f vs):=by
 refine Att.attach_call hn hdf fun w s₀ s₁ mg mb fa o pm cd doc a vs ns G Y ho hd hcd hmg hobj hints hlen hg=>?_
 have KX:=hY w _ Y
 obtain ⟨fd,hb,hF⟩:=F w mg fa _ KX G.T.g hmg
 exact codeL KX G.T.g G.T.b G.T.builtins G.T.nolimit hg G.T.bmain (PySem.W.codeHd_of_K KX (hCd w)) (hTb w _ Y) (hTK w) hobj hints (Nat.le_trans hlen hn2) hr hF hb (law ns hlen)
theorem tab_code {K:PySem.W.Frag} {h:Heap} {mg:Str->Option Value} {x:Str} {c T:Addr} (ht:PySem.W.tabIn K x=some (c,T)) (X:K.In h) (G:h.Ns mainGlobals mg) :
  ∀ f fd,mg x=some (.ref f)->(∃ oc od sl,K.lookup f=some ⟨oc,od,.func fd,sl⟩)->fd.code=.ref c:=fun f fd hm ⟨_,_,_,lk⟩=>PySem.W.law_code X G ht hm (X _ _ lk) rfl
end
end DL
namespace DL
open PySem PySem.Spec PyProof.Rows L2
section
variable {X:Cx}
theorem op_notinD (hu:X.A.units + 64 < cLine):OpR X (compareOp .NotIn) (rInD X.K true):=by
 intro pins s σ H x y v u Q I rx ry h
 obtain ⟨B,dx,ds,bs,p,xs,rfl,hq,r1,r2,he,q⟩:=h
 cases ry
 have hu1:X.A.in1.units + 61 < cLine:=by show X.A.units + 1 + 61 < cLine;lia
 rcases hq with hq | hq
 ·obtain ⟨us,r,pl,hz⟩:=I.list hq
  obtain ⟨f,f1,f2⟩:=(eqRow_of I hu1 r1 rx ds xs us bs r2 r he).fn
  refine SeqAt.notIn_listAt f pl.isList (fun w hw=>f1 w (by simpa using hw)) ⟨.bl _,H,I,rfl,?_⟩
  rw [show us.toArray.any f=us.any f by simp,f2]
  exact q
 ·obtain ⟨us,r,pl,hz⟩:=I.tuple hq
  obtain ⟨f,f1,f2⟩:=(eqRow_of I hu1 r1 rx ds xs us bs r2 r he).fn
  refine SeqAt.notIn_tupleAt f pl (fun w hw=>f1 w (by simpa using hw)) ⟨.bl _,H,I,rfl,?_⟩
  rw [show us.toArray.any f=us.any f by simp,f2]
  exact q
theorem od_notinD (hu:X.A.units + 64 < cLine):OpD X (compareOp .NotIn) (gInD true):=by
 refine ⟨_,op_notinD hu,fun B H dx dy x y Q rx ry=>?_⟩
 unfold gInD
 by_cases hc:rk dy=1\/rk dy=2
 ·rw [if_pos hc]
  cases e:eqsD dx (its dy) with
  | none=>trivial
  | some bs =>
   refine ⟨rfl,fun q=>?_⟩
   rcases hc with h3 | h3
   ·obtain ⟨a,xs,rfl,z1,z2⟩:=rk1 h3 ry
    exact ⟨B,dx,its dy,bs,a,xs,rfl,.inr z1,rx,z2,e,q⟩
   ·obtain ⟨a,xs,rfl,z1,z2⟩:=rk2 h3 ry
    exact ⟨B,dx,its dy,bs,a,xs,rfl,.inl z1,rx,z2,e,q⟩
 ·rw [if_neg hc];trivial
def pairI:D->Option (Int×Int)
 | .tup [.int a,.int b]=>some (a,b)
 | _=>none
def gLtP (x y:D):Ou D:=match pairI x,pairI y with
 | some p,some q=>.ok (.bl (Tim.plt p q))
 | _,_=>.bad
def rLtP (K:PySem.W.Frag):R2:=fun x y H Q=>∃ p q,PrV K H x p/\PrV K H y q/\Q (.bl (Tim.plt p q)) H
theorem op_ltP (hu:X.A.units + 64 < cLine):OpR X (compareOp .Lt) (rLtP X.K):=by
 intro pins s σ H x y v u Q I rx ry h
 obtain ⟨p,q,h1,h2,k⟩:=h
 obtain ⟨a1,t1,u1,rfl,o1,y1,c1,n1,d1⟩:=pair_at I rx h1
 obtain ⟨a2,t2,u2,rfl,o2,y2,c2,n2,d2⟩:=pair_at I ry h2
 refine HT.lt_tupInts (ns:=[p.1,p.2]) (ms:=[q.1,q.2]) ⟨o1,y1,c1,n1,d1⟩ ⟨o2,y2,c2,n2,d2⟩ (.cons _ _ (.cons _ _ .nil)) (.cons _ _ (.cons _ _ .nil)) (by show X.A.units < cLine;lia) ?_
 rw [lex_plt]
 exact ⟨.bl _,H,I,rfl,k⟩
theorem pair_rep {K:PySem.W.Frag} {B:Addr->Prop} {H:Hp} {d:D} {p:Int×Int} {x:V} (h:pairI d=some p) (r:Rep K B H d x):PrV K H x p:=by
 unfold pairI at h
 split at h
 ·cases h
  simp only [Rep,Reps] at r
  obtain ⟨a,xs,rfl,z1,y1,r1,rfl,e1,y2,r2,rfl,e2,rfl⟩:=r
  subst e1;subst e2
  exact ⟨a,rfl,z1⟩
 ·cases h
theorem od_ltP (hu:X.A.units + 64 < cLine):OpD X (compareOp .Lt) gLtP:=by
 refine ⟨_,op_ltP hu,fun B H dx dy x y Q rx ry=>?_⟩
 unfold gLtP
 cases e1:pairI dx with
 | none=>trivial
 | some p =>
  cases e2:pairI dy with
  | none=>trivial
  | some q=>exact ⟨rfl,fun k=>⟨p,q,pair_rep e1 rx,pair_rep e2 ry,k⟩⟩
end
@[simp] theorem e_ltP {a b c d:Int}:gLtP (.tup [.int a,.int b]) (.tup [.int c,.int d])=.ok (.bl (Tim.plt (a,b) (c,d))):=rfl
end DL
namespace DL
open PySem PySem.Spec PyProof.Rows L2
section
variable {X:Cx} {elt tg:Expr} {ifs:List Expr} {scope:Scope} {N':List Str} {k:Nat} {ix:List Nat} {pos:Pos} {g:D->DS->Ou DS} {gc:DS->Ou Bool} {fe fl fl2 fl3:Fn} {a b c:Expr} {p:Pos}
end
end DL
set_option maxHeartbeats 4000000
namespace Pr
open PySem PySem.Spec PyProof.Rows L2 DL
def top (i : Nat) : Stmt := PySem.Challenge.pw_pastdesk_k44_sources_in_a_bag.main.body.getD i (.Pass ⟨0,0,0,0⟩)
abbrev s_last_time:Stmt:=top 8
abbrev s_holds:Stmt:=top 9
abbrev s_within:Stmt:=top 10
abbrev s_halves:Stmt:=top 11
abbrev s_least:Stmt:=top 12
abbrev s_cover:Stmt:=top 13
abbrev s_stretch_of:Stmt:=top 15
abbrev s_total_of:Stmt:=top 16
abbrev s_is_leaf:Stmt:=top 17
abbrev s_joined_lack:Stmt:=top 26
abbrev s_Bag__joined:Stmt:=inClass (top 28) 4
abbrev s_Bag__nothing:Stmt:=inClass (top 28) 3
abbrev s_Kind__joined:Stmt:=inClass (top 2) 4
abbrev s_Kind__nothing:Stmt:=inClass (top 2) 3
abbrev s_row_total:Stmt:=top 18
abbrev s_Bag__lone:Stmt:=inClass (top 28) 2
abbrev s_Kind__lone:Stmt:=inClass (top 2) 2
abbrev s_leaf:Stmt:=top 19
abbrev s_knot:Stmt:=top 20
abbrev s_beside:Stmt:=top 21
abbrev s_is_early:Stmt:=top 22
abbrev s_put_in:Stmt:=top 23
abbrev s_numbers_ahead:Stmt:=top 25
abbrev s_one_step_down:Stmt:=top 31
abbrev s_inside:Stmt:=top 30
abbrev s_ahead:Stmt:=top 32
abbrev s__law_cell_at:Stmt:=top 34
abbrev s__law_whole:Stmt:=top 35
abbrev s__law_number:Stmt:=top 36
abbrev s__law_deed:Stmt:=top 37
abbrev s__law_times:Stmt:=top 38
abbrev s__law_row:Stmt:=top 39
abbrev s__law_order:Stmt:=top 40
abbrev s__law_tree:Stmt:=top 41
abbrev s__law_on:Stmt:=top 42
abbrev s__law_meets:Stmt:=top 43
abbrev s_Bag__put_asked:Stmt:=inClass (top 28) 8
abbrev s_Bag__answer:Stmt:=inClass (top 28) 6
abbrev s_Bag__source:Stmt:=inClass (top 28) 7
abbrev s_Kind__answer:Stmt:=inClass (top 2) 6
abbrev s_Kind__source:Stmt:=inClass (top 2) 7
abbrev s_law:Stmt:=top 44
def b_last_time:Sm:=(sSeq (sRet (f2 gSub (f2 gAdd (f2 gIx (fVar 0) (fC (.int 0))) (f2 gIx (fVar 0) (fC (.int 1)))) (fC (.int 1)))) sNext)
def m_last_time:List D->Ou D:=runD false 1 b_last_time
def b_holds:Sm:=(sSeq (sRet (fChn gLe gLe (f2 gIx (fVar 0) (fC (.int 0))) (fVar 1) (fCall (m_last_time) [(fVar 0)]))) sNext)
def m_holds:List D->Ou D:=runD false 2 b_holds
def b_within:Sm:=(sSeq (sRet (fAndV (fCall (m_holds) [(fVar 1),(f2 gIx (fVar 0) (fC (.int 0)))]) (fCall (m_holds) [(fVar 1),(fCall (m_last_time) [(fVar 0)])]))) sNext)
def m_within:List D->Ou D:=runD false 2 b_within
def b_halves:Sm:=(sSeq (sSet 1 (f2 gIx (fVarS 0) (fC (.int 0)))) (sSeq (sSet 2 (f2 gDiv (f2 gIx (fVar 0) (fC (.int 1))) (fC (.int 2)))) (sSeq (sRet (fTup [(fTup [(fVar 1),(fVar 2)]),(fTup [(f2 gAdd (fVar 1) (fVar 2)),(fVar 2)])])) sNext)))
def m_halves:List D->Ou D:=runD false 3 b_halves
def b_least:Sm:=(sSeq (sSet 2 (fCall gMin [(f2 gIx (fVar 0) (fC (.int 0))),(f2 gIx (fVar 1) (fC (.int 0)))])) (sSeq (sSet 3 (fCall gMax [(fCall (m_last_time) [(fVar 0)]),(fCall (m_last_time) [(fVar 1)])])) (sSeq (sSet 4 (f2 gShl (fC (.int 1)) (f1 gBits (f2 gXor (fVar 2) (fVar 3))))) (sSeq (sRet (fTup [(f2 gMul (f2 gDiv (fVar 2) (fVar 4)) (fVar 4)),(fVar 4)])) sNext))))
def m_least:List D->Ou D:=runD false 5 b_least
def b_cover:Sm:=(sSeq (sOwn 1 (fLst [])) (sSeq (sSet 2 (fC (.int 0))) (sSeq (sSet 3 (fC (.int 1073741824))) (sSeq (whileF (fAsB (f2 gGt (fVar 3) (fC (.int 0)))) (sSeq (sIf (fAsB (f2 gLe (f2 gAdd (fVar 2) (fVar 3)) (fVar 0))) (sSeq (sApp 1 (fTup [(fVarS 2),(fVarS 3)])) (sSeq (sSet 2 (f2 gAdd (fVar 2) (fVar 3))) sNext)) sNext) (sSeq (sSet 3 (f2 gDiv (fVar 3) (fC (.int 2)))) sNext)) 40) (sSeq (sRetO 1) sNext)))))
def m_cover:List D->Ou D:=runD true 4 b_cover
def b_stretch_of:Sm:=(sSeq (sRet (fTup [(f2 gIx (fVar 0) (fC (.int 0))),(f2 gIx (fVar 0) (fC (.int 1)))])) sNext)
def m_stretch_of:List D->Ou D:=runD false 1 b_stretch_of
def b_total_of:Sm:=(sSeq (sRet (f2 gIx (fVar 0) (fC (.int 2)))) sNext)
def m_total_of:List D->Ou D:=runD false 1 b_total_of
def b_is_leaf:Sm:=(sSeq (sRet (f2 gEq (f2 gIx (fVar 0) (fC (.int 1))) (fC (.int 1)))) sNext)
def m_is_leaf:List D->Ou D:=runD false 1 b_is_leaf
def b_joined_lack:Sm:=(sSeq (sRet (f2 gAdd (fVar 0) (fCall gMax [(fC (.int 0)),(f2 gSub (fVar 2) (fVar 1))]))) sNext)
def m_joined_lack:List D->Ou D:=runD false 3 b_joined_lack
def b_Bag__joined:Sm:=(sSeq (sSet 3 (f1 gSortP (f2 gCatU (f2 gIx (fVarS 1) (fC (.int 2))) (f2 gIx (fVarS 2) (fC (.int 1)))))) (sSeq (sSet 4 (f2 gAdd (fCall gLen [(f2 gIx (fVar 2) (fC (.int 1)))]) (fCall gMin [(fCall gLen [(f2 gIx (fVar 1) (fC (.int 2)))]),(f2 gIx (fVar 2) (fC (.int 0)))]))) (sSeq (sSet 5 (f1 gSortP (f2 gCat (f1 gListOf (f2 gIx (fVarS 1) (fC (.int 1)))) (fSl (fVarS 3) none (some (fVar 4)))))) (sSeq (sSet 6 (f1 gSortP (f2 gCat (f1 gListOf (f2 gIx (fVarS 2) (fC (.int 2)))) (fSl (fVarS 3) (some (fVar 4)) none)))) (sSeq (sRet (fTup [(fCall (m_joined_lack) [(f2 gIx (fVar 1) (fC (.int 0))),(fCall gLen [(f2 gIx (fVar 1) (fC (.int 2)))]),(f2 gIx (fVar 2) (fC (.int 0)))]),(f1 gTupOf (fVarS 5)),(f1 gTupOf (fVarS 6))])) sNext)))))
def m_Bag__joined:List D->Ou D:=runD false 7 b_Bag__joined
def b_Bag__nothing:Sm:=(sSeq (sRet (fTup [(fC (.int 0)),(fTup []),(fTup [])])) sNext)
def m_Bag__nothing:List D->Ou D:=runD false 1 b_Bag__nothing
def b_Kind__joined:Sm:=(sSeq (sRet (f2 gAdd (fVar 1) (fVar 2))) sNext)
def m_Kind__joined:List D->Ou D:=runD false 3 b_Kind__joined
def b_Kind__nothing:Sm:=(sSeq (sRet (fC (.int 0))) sNext)
def m_Kind__nothing:List D->Ou D:=runD false 1 b_Kind__nothing
def b_row_total:Sm:=(sSeq (sSet 2 (fMeth [("Kind",m_Kind__nothing),("Bag",m_Bag__nothing)] (fVarS 0) [])) (sSeq (sFor (fVarS 1) (gNm 3) (sSeq (sSet 2 (fMeth [("Kind",m_Kind__joined),("Bag",m_Bag__joined)] (fVarS 0) [(fVarS 2),(fCall (m_total_of) [(fVarS 3)])])) sNext)) (sSeq (sRet (fVar 2)) sNext)))
def m_row_total:List D->Ou D:=runD false 4 b_row_total
def b_Bag__lone:Sm:=(sSeq (sIf (fAsB (f2 gEq (f2 gIx (fVar 2) (fC (.int 0))) (fC (.str "put")))) (sSeq (sRet (fTup [(fC (.int 0)),(fTup []),(fTup [(fTup [(f2 gIx (fVar 2) (fC (.int 1))),(fVar 1)])])])) sNext) sNext) (sSeq (sIf (fAsB (f2 gEq (f2 gIx (fVar 2) (fC (.int 0))) (fC (.str "take")))) (sSeq (sRet (fTup [(fC (.int 1)),(fTup []),(fTup [])])) sNext) sNext) (sSeq (sRet (fMeth [("Kind",m_Kind__nothing),("Bag",m_Bag__nothing)] (fVar 0) [])) sNext)))
def m_Bag__lone:List D->Ou D:=runD false 3 b_Bag__lone
def b_Kind__lone:Sm:=(sSeq (sRet (fC (.int 1))) sNext)
def m_Kind__lone:List D->Ou D:=runD false 3 b_Kind__lone
def b_leaf:Sm:=(sSeq (sRet (fTup [(fVar 1),(fC (.int 1)),(fMeth [("Kind",m_Kind__lone),("Bag",m_Bag__lone)] (fVar 0) [(fVar 1),(fVar 2)]),(fVar 2)])) sNext)
def m_leaf:List D->Ou D:=runD false 3 b_leaf
def b_knot:Sm:=(sSeq (sSet 3 (fCall (m_least) [(fCall (m_stretch_of) [(fVarS 1)]),(fCall (m_stretch_of) [(fVarS 2)])])) (sSeq (sSet 4 (fMeth [("Kind",m_Kind__joined),("Bag",m_Bag__joined)] (fVarS 0) [(fCall (m_total_of) [(fVarS 1)]),(fCall (m_total_of) [(fVarS 2)])])) (sSeq (sRet (fTup [(f2 gIx (fVar 3) (fC (.int 0))),(f2 gIx (fVar 3) (fC (.int 1))),(fVar 4),(fVar 1),(fVar 2)])) sNext)))
def m_knot:List D->Ou D:=runD false 5 b_knot
def b_beside:Sm:=(sSeq (sIf (fAsB (f2 gLt (f2 gIx (fVar 2) (fC (.int 0))) (f2 gIx (fVar 1) (fC (.int 0))))) (sSeq (sRet (fCall (m_knot) [(fVar 0),(fVar 2),(fVar 1)])) sNext) sNext) (sSeq (sRet (fCall (m_knot) [(fVar 0),(fVar 1),(fVar 2)])) sNext))
def m_beside:List D->Ou D:=runD false 3 b_beside
def b_is_early:Sm:=(sSeq (sRet (fCall (m_holds) [(f2 gIx (fCall (m_halves) [(fCall (m_stretch_of) [(fVar 0)])]) (fC (.int 0))),(fVar 1)])) sNext)
def m_is_early:List D->Ou D:=runD false 2 b_is_early
def b_put_in (r_put_in:List D->Ou D):Sm:=(sSeq (sIf (fAsB (f1 gIsN (fVar 1))) (sSeq (sRet (fCall (m_leaf) [(fVar 0),(fVar 2),(fVar 3)])) sNext) sNext) (sSeq (sIf (fNotT (fTru (fCall (m_holds) [(fCall (m_stretch_of) [(fVar 1)]),(fVar 2)]))) (sSeq (sRet (fCall (m_beside) [(fVar 0),(fVar 1),(fCall (m_leaf) [(fVar 0),(fVar 2),(fVar 3)])])) sNext) sNext) (sSeq (sIf (fTru (fCall (m_is_leaf) [(fVar 1)])) (sSeq sBad sNext) sNext) (sSeq (sIf (fTru (fCall (m_is_early) [(fVar 1),(fVar 2)])) (sSeq (sRet (fCall (m_knot) [(fVar 0),(fCall (r_put_in) [(fVar 0),(f2 gIx (fVar 1) (fC (.int 3))),(fVar 2),(fVar 3)]),(f2 gIx (fVar 1) (fC (.int 4)))])) sNext) sNext) (sSeq (sRet (fCall (m_knot) [(fVar 0),(f2 gIx (fVar 1) (fC (.int 3))),(fCall (r_put_in) [(fVar 0),(f2 gIx (fVar 1) (fC (.int 4))),(fVar 2),(fVar 3)])])) sNext)))))
def m_put_in:Nat->List D->Ou D
 | 0,_=>.bad
 | n + 1,ds=>runD false 4 (b_put_in (m_put_in n)) ds
def b_numbers_ahead:Sm:=(sSeq (sRet (fIfE (fAsB (f2 gEq (f2 gIx (fVar 0) (fC (.int 0))) (fC (.str "look")))) (f2 gIx (fVar 0) (fC (.int 1))) (fC (.int 0)))) sNext)
def m_numbers_ahead:List D->Ou D:=runD false 1 b_numbers_ahead
def b_one_step_down:Sm:=(sSeq (sIf (fTru (fCall (m_is_leaf) [(fVar 0)])) (sSeq (sRet (fC .non)) sNext) sNext) (sSeq (sSet 2 (fCall (m_halves) [(fCall (m_stretch_of) [(fVarS 0)])])) (sSeq (sIf (fTru (fCall (m_within) [(fVar 1),(f2 gIx (fVar 2) (fC (.int 0)))])) (sSeq (sRet (f2 gIx (fVar 0) (fC (.int 3)))) sNext) sNext) (sSeq (sIf (fTru (fCall (m_within) [(fVar 1),(f2 gIx (fVar 2) (fC (.int 1)))])) (sSeq (sRet (f2 gIx (fVar 0) (fC (.int 4)))) sNext) sNext) (sSeq (sRet (fC .non)) sNext)))))
def m_one_step_down:List D->Ou D:=runD false 3 b_one_step_down
def b_inside:Sm:=(sSeq (sSet 2 (fVarS 0)) (sSeq (whileF (fAndT (fAsB (f1 gNotN (fVar 2))) (fNotT (fTru (fCall (m_within) [(fCall (m_stretch_of) [(fVar 2)]),(fVar 1)])))) (sSeq (sSet 2 (fCall (m_one_step_down) [(fVarS 2),(fVarS 1)])) sNext) 40) (sSeq (sRet (fVar 2)) sNext)))
def m_inside:List D->Ou D:=runD false 3 b_inside
def b_ahead:Sm:=(sSeq (sSet 2 (fComp (fItems (fCall (m_cover) [(fVarS 1)])) (gNm 0) fYes (fCall (m_inside) [(fVarS 1),(fVarS 0)]) 1 [0])) (sSeq (sRet (fComp (fItems (fVarS 2)) (gNm 0) (fAsB (f1 gNotN (fVar 0))) (fVarS 0) 1 [])) sNext))
def m_ahead:List D->Ou D:=runD true 3 b_ahead
def b__law_cell_at:Sm:=(sSeq (sIf (fAsB (f2 gLt (fVar 1) (fCall gLen [(fVar 0)]))) (sSeq (sRet (f2 gIx (fVar 0) (fVar 1))) sNext) sNext) (sSeq (sRet (fC (.int 0))) sNext))
def m__law_cell_at:List D->Ou D:=runD false 2 b__law_cell_at
def b__law_whole:Sm:=(sSeq (sRet (fAndV (f1 (gIs "int") (fVar 0)) (fNotV (f1 (gIs "bool") (fVar 0))))) sNext)
def m__law_whole:List D->Ou D:=runD false 1 b__law_whole
def b__law_number:Sm:=(sSeq (sSet 2 (f2 gMod (fVar 0) (fC (.int 4)))) (sSeq (sIf (fAsB (f2 gEq (fVar 2) (fC (.int 0)))) (sSeq (sRet (f2 gSub (f2 gMod (f2 gAdd (f2 gDiv (fVar 0) (fC (.int 4))) (f2 gMul (f2 gMul (fC (.int 17)) (fVar 1)) (fVar 1))) (fC (.int 101))) (fC (.int 50)))) sNext) sNext) (sSeq (sIf (fAsB (f2 gEq (fVar 2) (fC (.int 1)))) (sSeq (sRet (f2 gSub (f2 gMod (f2 gDiv (fVar 0) (fC (.int 4))) (f2 gMul (fC (.int 2)) (f2 gPow (fC (.int 10)) (fC (.int 30))))) (f2 gPow (fC (.int 10)) (fC (.int 30))))) sNext) sNext) (sSeq (sIf (fAsB (f2 gEq (fVar 2) (fC (.int 2)))) (sSeq (sRet (f2 gSub (f2 gMod (f2 gDiv (fVar 0) (fC (.int 4))) (fC (.int 5))) (fC (.int 2)))) sNext) sNext) (sSeq (sRet (f2 gMod (f2 gDiv (fVar 0) (fC (.int 4))) (f2 gPow (fC (.int 10)) (fC (.int 60))))) sNext)))))
def m__law_number:List D->Ou D:=runD false 3 b__law_number
def b__law_deed:Sm:=(sSeq (sSet 3 (f2 gMod (fVar 0) (fC (.int 8)))) (sSeq (sIf (fAsB (f2 gLt (fVar 3) (f2 gAdd (fC (.int 3)) (fVar 2)))) (sSeq (sRet (fTup [(fC (.str "put")),(fCall (m__law_number) [(f2 gDiv (fVar 0) (fC (.int 8))),(fVar 1)])])) sNext) sNext) (sSeq (sIf (fAsB (f2 gLt (fVar 3) (fC (.int 6)))) (sSeq (sRet (fTup [(fC (.str "take"))])) sNext) sNext) (sSeq (sIf (fAsB (f2 gEq (fVar 3) (fC (.int 7)))) (sSeq (sRet (fTup [(fC (.str "many"))])) sNext) sNext) (sSeq (sIf (fAsB (f2 gEq (f2 gMod (f2 gDiv (fVar 0) (fC (.int 8))) (fC (.int 3))) (fC (.int 2)))) (sSeq (sRet (fTup [(fC (.str "look")),(f2 gMod (f2 gDiv (fVar 0) (fC (.int 24))) (f2 gPow (fC (.int 10)) (fC (.int 60))))])) sNext) sNext) (sSeq (sRet (fTup [(fC (.str "look")),(f2 gMod (f2 gAdd (f2 gDiv (fVar 0) (fC (.int 24))) (fVar 1)) (fC (.int 7)))])) sNext))))))
def m__law_deed:List D->Ou D:=runD false 4 b__law_deed
def b__law_times:Sm:=(sSeq (sSet 2 (f2 gIx (fLst [(fC (.int 1)),(fC (.int 5)),(fC (.int 16777216))]) (f2 gMod (fVar 1) (fC (.int 3))))) (sSeq (sOwn 3 (fLst [])) (sSeq (sSet 4 (fC (.int 0))) (sSeq (sRng [(fCall gLen [(fVar 0)])] (gNm 5) (sSeq (sApp 3 (fVarS 4)) (sSeq (sSet 4 (f2 gAdd (f2 gAdd (fVar 4) (fC (.int 1))) (f2 gMod (f2 gAdd (f2 gDiv (f2 gIx (fVar 0) (fVar 5)) (fC (.int 3))) (f2 gIx (fVar 0) (f2 gSub (fVar 5) (fC (.int 1))))) (fVar 2)))) sNext))) (sSeq (fun δ=>(sIf (fAsB (f2 gEq (fVar 3) (fLst []))) (sSeq (sRet (fLst [])) sNext) sNext) (thaw 3 δ)) (sSeq (sSet 6 (f2 gMod (f2 gDiv (fVar 1) (fC (.int 3))) (f2 gSub (fC (.int 1073741824)) (f2 gIx (fVar 3) (f1 gNeg (fC (.int 1))))))) (sSeq (sRet (fComp (fItems (fVarS 3)) (gNm 0) fYes (f2 gAdd (fVar 1) (fVar 0)) 1 [6])) sNext)))))))
def m__law_times:List D->Ou D:=runD false 7 b__law_times
def b__law_row:Sm:=(sSeq (sSet 1 (fSl (fVarS 0) (some (fC (.int 1))) (some (fC (.int 63))))) (sSeq (sSet 2 (f2 gMod (f2 gDiv (fCall (m__law_cell_at) [(fVar 0),(fC (.int 0))]) (fC (.int 7))) (fC (.int 3)))) (sSeq (sSet 3 (fCall (m__law_times) [(fVarS 1),(fCall (m__law_cell_at) [(fVarS 0),(fC (.int 0))])])) (sSeq (sRet (fComp (fRange [(fCall gLen [(fVar 1)])]) (gNm 0) fYes (fTup [(f2 gIx (fVarS 1) (fVar 0)),(fCall (m__law_deed) [(f2 gIx (fVarS 2) (fVar 0)),(fVarS 0),(fVarS 3)])]) 1 [3,1,2])) sNext))))
def m__law_row:List D->Ou D:=runD false 4 b__law_row
def fl__law_order:Fn:=(fComp (fRange [(fVar 1)]) (gNm 0) fYes (fVarS 0) 1 [])
def fb__law_order:Fn:=(f2 gMod (f2 gAdd (f2 gMul (fCall (m__law_cell_at) [(fVar 1),(fVar 0)]) (fC (.int 48271))) (f2 gMul (f2 gMul (fVar 0) (fVar 0)) (fC (.int 7919)))) (fC (.int 65537)))
def mo__law_order:List D->Ou (List Int):=mOrd 2 0 fl__law_order fb__law_order
noncomputable def b__law_tree:Sm:=(sSeq (sSet 3 (fC .non)) (sSeq (sForP [(fVar 2),(fCall gLen [(fVar 1)])] mo__law_order (gNm 4) (sSeq (sSet 3 (fCall (m_put_in 64) [(fVarS 0),(fVarS 3),(f2 gIx (f2 gIx (fVarS 1) (fVar 4)) (fC (.int 0))),(f2 gIx (f2 gIx (fVarS 1) (fVar 4)) (fC (.int 1)))])) sNext) 4) (sSeq (sRet (fVar 3)) sNext)))
noncomputable def m__law_tree:List D->Ou D:=runD false 5 b__law_tree
def b__law_on:Sm:=(sSeq (sIf (fAsB (f2 gEq (f2 gIx (fVar 0) (fC (.int 0))) (fC (.str "look")))) (sSeq (sRet (f2 gIx (fVar 0) (fC (.int 1)))) sNext) sNext) (sSeq (sRet (fC (.int 0))) sNext))
def m__law_on:List D->Ou D:=runD false 1 b__law_on
def b__law_meets:Sm:=(sSeq (sIf (fAsB (f2 gEq (f2 gIx (fVar 1) (fC (.int 0))) (fC (.str "many")))) (sSeq (sRet (fAndV (f1 gIsN (fVar 2)) (fAndV (fCall (m__law_whole) [(fVar 3)]) (f2 gEq (fVar 3) (fCall gLen [(fVar 0)]))))) sNext) sNext) (sSeq (sIf (fAsB (f2 gGe (fCall (m__law_on) [(fVar 1)]) (fCall gLen [(fVar 0)]))) (sSeq (sRet (fAndV (f1 gIsN (fVar 2)) (f1 gIsN (fVar 3)))) sNext) sNext) (sSeq (sIf (fOrT (fNotT (fTru (fCall (m__law_whole) [(fVar 2)]))) (fNotT (fTru (fCall (m__law_whole) [(fVar 3)])))) (sSeq (sRet (fC (.bl false))) sNext) sNext) (sSeq (sIf (fAsB (f2 (gInD true) (fTup [(fVar 3),(fVar 2)]) (fVar 0))) (sSeq (sRet (fC (.bl false))) sNext) sNext) (sSeq (sSet 4 (fComp (fItems (fVarS 0)) (gNm 0) (fAsB (f2 gLtP (fVar 0) (fTup [(fVar 1),(fVar 2)]))) (fVarS 0) 1 [3,2])) (sSeq (sRet (f2 gEq (fCall gLen [(fVar 4)]) (fCall (m__law_on) [(fVar 1)]))) sNext))))))
def m__law_meets:List D->Ou D:=runD false 5 b__law_meets
def b_Bag__put_asked:Sm:=(sSeq (sSet 3 (f2 gIx (fCall (m_row_total) [(fVarS 0),(fVarS 1)]) (fC (.int 2)))) (sSeq (sSet 4 (fCall (m_numbers_ahead) [(fVarS 2)])) (sSeq (sRet (fIfE (fAsB (f2 gLt (fVar 4) (fCall gLen [(fVar 3)]))) (f2 gIx (fVar 3) (fVar 4)) (fTup [(fC .non),(fC .non)]))) sNext)))
def m_Bag__put_asked:List D->Ou D:=runD false 5 b_Bag__put_asked
def b_Bag__answer:Sm:=(sSeq (sIf (fAsB (f2 gEq (f2 gIx (fVar 2) (fC (.int 0))) (fC (.str "many")))) (sSeq (sRet (fCall gLen [(f2 gIx (fCall (m_row_total) [(fVar 0),(fVar 1)]) (fC (.int 2)))])) sNext) sNext) (sSeq (sRet (f2 gIx (fMeth [("Bag",m_Bag__put_asked)] (fVar 0) [(fVar 1),(fVar 2)]) (fC (.int 0)))) sNext))
def m_Bag__answer:List D->Ou D:=runD false 3 b_Bag__answer
def b_Bag__source:Sm:=(sSeq (sIf (fAsB (f2 gEq (f2 gIx (fVar 2) (fC (.int 0))) (fC (.str "many")))) (sSeq (sRet (fC .non)) sNext) sNext) (sSeq (sRet (f2 gIx (fMeth [("Bag",m_Bag__put_asked)] (fVar 0) [(fVar 1),(fVar 2)]) (fC (.int 1)))) sNext))
def m_Bag__source:List D->Ou D:=runD false 3 b_Bag__source
def b_Kind__answer:Sm:=(sSeq (sRet (fC .non)) sNext)
def m_Kind__answer:List D->Ou D:=runD false 3 b_Kind__answer
def b_Kind__source:Sm:=(sSeq (sRet (fC .non)) sNext)
def m_Kind__source:List D->Ou D:=runD false 3 b_Kind__source
noncomputable def b_law:Sm:=(sSeq (sSet 1 (fMake0 "Bag")) (sSeq (sSet 2 (fSl (fCall (m__law_row) [(fVarS 0)]) none (some (fC (.int 24))))) (sSeq (sSetL 3 (fCall (m__law_tree) [(fVar 1),(fVar 2),(fVar 0)])) (sSeq (sOwn 4 fDic0) (sSeq (sRng [(fCall gLen [(fVar 2)])] (gNm 5) (sSeq (sAsg (f2 gIx (fVarS 2) (fVar 5)) (gNm2 6 7)) (sSeq (sSet 8 (fVarS 7)) (sSeq (sIf (fAsB (f2 gEq (f2 gIx (fVar 7) (fC (.int 0))) (fC (.str "put")))) (sSeq (sSet 8 (fTup [(fC (.str "look")),(f2 gMod (fVar 5) (fC (.int 5)))])) sNext) sNext) (sSeq (sSet 9 (fCall (m_ahead) [(fVarS 3),(fVarS 6)])) (sSeq (sSet 10 (f1 gListOf (fVarS 9))) (sSeq (sSet 11 (fMeth [("Kind",m_Kind__source),("Bag",m_Bag__source)] (fVarS 1) [(fVarS 9),(fVarS 8)])) (sSeq (sSet 12 (fMeth [("Kind",m_Kind__answer),("Bag",m_Bag__answer)] (fVarS 1) [(fVarS 9),(fVarS 8)])) (sSeq (sSet 13 (fCompN (fItems (fSl (fVarS 2) none (some (fVar 5)))) (fAndT (fAsB (f2 gEq (f2 gIx (f2 gIx (fVar 0) (fC (.int 1))) (fC (.int 0))) (fC (.str "put")))) (fAsB (f2 (gDIn true) (f2 gIx (fVar 0) (fC (.int 0))) (fVar 1)))) (fTup [(f2 gIx (f2 gIx (fVarS 0) (fC (.int 1))) (fC (.int 1))),(f2 gIx (fVarS 0) (fC (.int 0)))]) [4])) (sSeq (sIf (fOrT (fNotT (fTru (fCall (m__law_meets) [(fVar 13),(fVar 8),(fVar 11),(fVar 12)]))) (fAsB (f2 gNe (fVar 9) (fVar 10)))) (sSeq (sRet (fC (.bl false))) sNext) sNext) (sSeq (sIf (fAndT (fAsB (f2 gEq (f2 gIx (fVar 7) (fC (.int 0))) (fC (.str "take")))) (fAsB (f1 gNotN (fVar 11)))) (sSeq (sDPut 4 (fVar 11) (fC (.bl true))) sNext) sNext) sNext))))))))))) (sSeq (fun δ=>(sRet (fC (.bl true))) (thaw 4 δ)) sNext))))))
noncomputable def m_law:List D->Ou D:=runD false 14 b_law
section
variable {P:Program} {w:World} {K:PySem.W.Frag} {mg:Str->Option Value} {base:Heap}
theorem sc_last_time:FnScope ["stretch"] ["stretch"] (defScope s_last_time):=⟨rfl,rfl,rfl,by decide +kernel,rfl,by decide +kernel,by decide +kernel⟩
theorem df_last_time (S_last_time:Src K mg "last_time" s_last_time ["stretch"]):Df P w K mg base "last_time" 1 ["stretch"] false m_last_time:=df_of (N:=["stretch"]) (fr:=false) (F:=b_last_time) S_last_time sc_last_time (by decide) fun f cdv A outer s H E hr=>by
 have nd:=sc_last_time.nd
 exact (by refine xs_cons ?_ ?_;exact (xs_ret (xop od_sub (xop od_add (xix (xv 0) xint) (xix (xv 0) xint)) xint));exact xs_nil)
theorem sc_holds:FnScope ["stretch","number"] ["stretch","number"] (defScope s_holds):=⟨rfl,rfl,rfl,by decide +kernel,rfl,by decide +kernel,by decide +kernel⟩
theorem df_holds (S_holds:Src K mg "holds" s_holds ["stretch","number"]) (h_last_time:Df P w K mg base "last_time" 1 ["stretch"] false (m_last_time)):Df P w K mg base "holds" 2 ["stretch","number"] false m_holds:=df_of (N:=["stretch","number"]) (fr:=false) (F:=b_holds) S_holds sc_holds (by decide) fun f cdv A outer s H E hr=>by
 have nd:=sc_holds.nd
 exact (by refine xs_cons ?_ ?_;exact (xs_ret (xchn od_le od_le (xix (xv 0) xint) (xv 1) (xcall (h_last_time.mono (by omega)) hr (xa_cons (xv 0) xa_nil))));exact xs_nil)
theorem sc_within:FnScope ["one","other"] ["one","other"] (defScope s_within):=⟨rfl,rfl,rfl,by decide +kernel,rfl,by decide +kernel,by decide +kernel⟩
theorem df_within (S_within:Src K mg "within" s_within ["one","other"]) (h_holds:Df P w K mg base "holds" 2 ["stretch","number"] false (m_holds)) (h_last_time:Df P w K mg base "last_time" 1 ["stretch"] false (m_last_time)):Df P w K mg base "within" 3 ["one","other"] false m_within:=df_of (N:=["one","other"]) (fr:=false) (F:=b_within) S_within sc_within (by decide) fun f cdv A outer s H E hr=>by
 have nd:=sc_within.nd
 exact (by refine xs_cons ?_ ?_;exact (xs_ret (xand (xcall (h_holds.mono (by omega)) hr (xa_cons (xv 1) (xa_cons (xix (xv 0) xint) xa_nil))) (xone (xcall (h_holds.mono (by omega)) hr (xa_cons (xv 1) (xa_cons (xcall (h_last_time.mono (by omega)) hr (xa_cons (xv 0) xa_nil)) xa_nil))))));exact xs_nil)
theorem sc_halves:FnScope ["stretch","low","half"] ["stretch"] (defScope s_halves):=⟨rfl,rfl,rfl,by decide +kernel,rfl,by decide +kernel,by decide +kernel⟩
theorem df_halves (S_halves:Src K mg "halves" s_halves ["stretch"]):Df P w K mg base "halves" 1 ["stretch"] false m_halves:=df_of (N:=["stretch","low","half"]) (fr:=false) (F:=b_halves) S_halves sc_halves (by decide) fun f cdv A outer s H E hr=>by
 have nd:=sc_halves.nd
 exact (by refine xs_cons ?_ ?_;exact (xs_set 1 nd (xix (xvS 0) xint));exact (by refine xs_cons ?_ ?_;exact (xs_set 2 nd (xop od_div (xix (xv 0) xint) xint));exact (by refine xs_cons ?_ ?_;exact (xs_ret (xtup (xa_cons (xtup (xa_cons (xv 1) (xa_cons (xv 2) xa_nil))) (xa_cons (xtup (xa_cons (xop od_add (xv 1) (xv 2)) (xa_cons (xv 2) xa_nil))) xa_nil))));exact xs_nil)))
theorem sc_least:FnScope ["one","other","first","last","size"] ["one","other"] (defScope s_least):=⟨rfl,rfl,rfl,by decide +kernel,rfl,by decide +kernel,by decide +kernel⟩
theorem df_least (S_least:Src K mg "least" s_least ["one","other"]) (z_max:mg "max" = none) (z_min:mg "min" = none) (h_last_time:Df P w K mg base "last_time" 1 ["stretch"] false (m_last_time)):Df P w K mg base "least" 2 ["one","other"] false m_least:=df_of (N:=["one","other","first","last","size"]) (fr:=false) (F:=b_least) S_least sc_least (by decide) fun f cdv A outer s H E hr=>by
 have nd:=sc_least.nd
 exact (by refine xs_cons ?_ ?_;exact (xs_set 2 nd (xb cd_min z_min (xa_cons (xix (xv 0) xint) (xa_cons (xix (xv 1) xint) xa_nil))));exact (by refine xs_cons ?_ ?_;exact (xs_set 3 nd (xb cd_max z_max (xa_cons (xcall (h_last_time.mono (by omega)) hr (xa_cons (xv 0) xa_nil)) (xa_cons (xcall (h_last_time.mono (by omega)) hr (xa_cons (xv 1) xa_nil)) xa_nil))));exact (by refine xs_cons ?_ ?_;exact (xs_set 4 nd (xop od_shl xint (xbits (xop od_xor (xv 2) (xv 3)))));exact (by refine xs_cons ?_ ?_;exact (xs_ret (xtup (xa_cons (xop od_mul (xop od_div (xv 2) (xv 4)) (xv 4)) (xa_cons (xv 4) xa_nil))));exact xs_nil))))
theorem sc_cover:FnScope ["end","parts","low","size"] ["end"] (defScope s_cover):=⟨rfl,rfl,rfl,by decide +kernel,rfl,by decide +kernel,by decide +kernel⟩
theorem df_cover (S_cover:Src K mg "cover" s_cover ["end"]) {u_ALL_TIMES:Value} (c_ALL_TIMES:mg "ALL_TIMES" = some u_ALL_TIMES/\L2.RelV (toV (.int 1073741824)) u_ALL_TIMES):Df P w K mg base "cover" 1 ["end"] true m_cover:=df_of (N:=["end","parts","low","size"]) (fr:=true) (F:=b_cover) S_cover sc_cover (by decide) fun f cdv A outer s H E hr=>by
 have nd:=sc_cover.nd
 exact (by refine xs_cons ?_ ?_;exact (xs_own 1 nd (xlst xa_nil));exact (by refine xs_cons ?_ ?_;exact (xs_set 2 nd xint);exact (by refine xs_cons ?_ ?_;exact (xs_set 3 nd (xglob c_ALL_TIMES.1 c_ALL_TIMES.2));exact (by refine xs_cons ?_ ?_;exact (xs_while 40 PassesOwn.never (xt_cmp od_gt (xv 3) xint (nomark _)) (by refine xs_cons ?_ ?_;exact (xs_if (xt_cmp od_le (xop od_add (xv 2) (xv 3)) (xv 0) (nomark _)) (by refine xs_cons ?_ ?_;exact (xs_app 1 (xtup (xa_cons (xvS 2) (xa_cons (xvS 3) xa_nil))));exact (by refine xs_cons ?_ ?_;exact (xs_set 2 nd (xop od_add (xv 2) (xv 3)));exact xs_nil)) xs_nil);exact (by refine xs_cons ?_ ?_;exact (xs_set 3 nd (xop od_div (xv 3) xint));exact xs_nil)));exact (by refine xs_cons ?_ ?_;exact (xs_retO 1);exact xs_nil)))))
theorem sc_stretch_of:FnScope ["tree"] ["tree"] (defScope s_stretch_of):=⟨rfl,rfl,rfl,by decide +kernel,rfl,by decide +kernel,by decide +kernel⟩
theorem df_stretch_of (S_stretch_of:Src K mg "stretch_of" s_stretch_of ["tree"]):Df P w K mg base "stretch_of" 1 ["tree"] false m_stretch_of:=df_of (N:=["tree"]) (fr:=false) (F:=b_stretch_of) S_stretch_of sc_stretch_of (by decide) fun f cdv A outer s H E hr=>by
 have nd:=sc_stretch_of.nd
 exact (by refine xs_cons ?_ ?_;exact (xs_ret (xtup (xa_cons (xix (xv 0) xint) (xa_cons (xix (xv 0) xint) xa_nil))));exact xs_nil)
theorem sc_total_of:FnScope ["tree"] ["tree"] (defScope s_total_of):=⟨rfl,rfl,rfl,by decide +kernel,rfl,by decide +kernel,by decide +kernel⟩
theorem df_total_of (S_total_of:Src K mg "total_of" s_total_of ["tree"]):Df P w K mg base "total_of" 1 ["tree"] false m_total_of:=df_of (N:=["tree"]) (fr:=false) (F:=b_total_of) S_total_of sc_total_of (by decide) fun f cdv A outer s H E hr=>by
 have nd:=sc_total_of.nd
 exact (by refine xs_cons ?_ ?_;exact (xs_ret (xix (xv 0) xint));exact xs_nil)
theorem sc_is_leaf:FnScope ["tree"] ["tree"] (defScope s_is_leaf):=⟨rfl,rfl,rfl,by decide +kernel,rfl,by decide +kernel,by decide +kernel⟩
theorem df_is_leaf (S_is_leaf:Src K mg "is_leaf" s_is_leaf ["tree"]):Df P w K mg base "is_leaf" 1 ["tree"] false m_is_leaf:=df_of (N:=["tree"]) (fr:=false) (F:=b_is_leaf) S_is_leaf sc_is_leaf (by decide) fun f cdv A outer s H E hr=>by
 have nd:=sc_is_leaf.nd
 exact (by refine xs_cons ?_ ?_;exact (xs_ret (xcmp (od_eq hr.units) (xix (xv 0) xint) xint (nomark _)));exact xs_nil)
theorem sc_joined_lack:FnScope ["lack","left","next_lack"] ["lack","left","next_lack"] (defScope s_joined_lack):=⟨rfl,rfl,rfl,by decide +kernel,rfl,by decide +kernel,by decide +kernel⟩
theorem df_joined_lack (S_joined_lack:Src K mg "joined_lack" s_joined_lack ["lack","left","next_lack"]) (z_max:mg "max" = none):Df P w K mg base "joined_lack" 1 ["lack","left","next_lack"] false m_joined_lack:=df_of (N:=["lack","left","next_lack"]) (fr:=false) (F:=b_joined_lack) S_joined_lack sc_joined_lack (by decide) fun f cdv A outer s H E hr=>by
 have nd:=sc_joined_lack.nd
 exact (by refine xs_cons ?_ ?_;exact (xs_ret (xop od_add (xv 0) (xb cd_max z_max (xa_cons xint (xa_cons (xop od_sub (xv 2) (xv 1)) xa_nil)))));exact xs_nil)
theorem sc_Bag__joined:FnScope ["self","one","other","found","many","gone","left"] ["self","one","other"] (defScope s_Bag__joined):=⟨rfl,rfl,rfl,by decide +kernel,rfl,by decide +kernel,by decide +kernel⟩
theorem df_Bag__joined {f_Bag__joined:Addr} {fd_Bag__joined:FuncData} (S_Bag__joined:Fun K "joined" "Bag.joined" s_Bag__joined f_Bag__joined fd_Bag__joined) (z_len:mg "len" = none) (z_list:mg "list" = none) (z_min:mg "min" = none) (z_sorted:mg "sorted" = none) (z_tuple:mg "tuple" = none) (h_joined_lack:Df P w K mg base "joined_lack" 1 ["lack","left","next_lack"] false (m_joined_lack)):FnOk P w K mg base CX0 2 f_Bag__joined fd_Bag__joined ["self","one","other"] (spD K false 3 m_Bag__joined):=fn_ofM S_Bag__joined sc_Bag__joined (by decide) fun f cdv A outer s H E hr=>by
 have nd:=sc_Bag__joined.nd
 exact (by refine xs_cons ?_ ?_;exact (xs_set 3 nd (toS (xsortP z_sorted (xcatU (xix (xvS 1) xint) (xix (xvS 2) xint)))));exact (by refine xs_cons ?_ ?_;exact (xs_set 4 nd (xop od_add (xb cd_len z_len (xa_cons (xix (xv 2) xint) xa_nil)) (xb cd_min z_min (xa_cons (xb cd_len z_len (xa_cons (xix (xv 1) xint) xa_nil)) (xa_cons (xix (xv 2) xint) xa_nil)))));exact (by refine xs_cons ?_ ?_;exact (xs_set 5 nd (toS (xsortP z_sorted (toS (xcat (toS (xlistOf z_list (xix (xvS 1) xint))) (toS (xsl (xvS 3) po_none' (po_some' (xv 4)))))))));exact (by refine xs_cons ?_ ?_;exact (xs_set 6 nd (toS (xsortP z_sorted (toS (xcat (toS (xlistOf z_list (xix (xvS 2) xint))) (toS (xsl (xvS 3) (po_some' (xv 4)) po_none')))))));exact (by refine xs_cons ?_ ?_;exact (xs_ret (xtup (xa_cons (xcall (h_joined_lack.mono (by omega)) hr (xa_cons (xix (xv 1) xint) (xa_cons (xb cd_len z_len (xa_cons (xix (xv 1) xint) xa_nil)) (xa_cons (xix (xv 2) xint) xa_nil)))) (xa_cons (toW (xtupOf z_tuple (xvS 5))) (xa_cons (toW (xtupOf z_tuple (xvS 6))) xa_nil)))));exact xs_nil)))))
theorem sc_Bag__nothing:FnScope ["self"] ["self"] (defScope s_Bag__nothing):=⟨rfl,rfl,rfl,by decide +kernel,rfl,by decide +kernel,by decide +kernel⟩
theorem df_Bag__nothing {f_Bag__nothing:Addr} {fd_Bag__nothing:FuncData} (S_Bag__nothing:Fun K "nothing" "Bag.nothing" s_Bag__nothing f_Bag__nothing fd_Bag__nothing):FnOk P w K mg base CX0 1 f_Bag__nothing fd_Bag__nothing ["self"] (spD K false 1 m_Bag__nothing):=fn_ofM S_Bag__nothing sc_Bag__nothing (by decide) fun f cdv A outer s H E hr=>by
 have nd:=sc_Bag__nothing.nd
 exact (by refine xs_cons ?_ ?_;exact (xs_ret (xtup (xa_cons xint (xa_cons (xtup xa_nil) (xa_cons (xtup xa_nil) xa_nil)))));exact xs_nil)
theorem sc_Kind__joined:FnScope ["self","one","other"] ["self","one","other"] (defScope s_Kind__joined):=⟨rfl,rfl,rfl,by decide +kernel,rfl,by decide +kernel,by decide +kernel⟩
theorem df_Kind__joined {f_Kind__joined:Addr} {fd_Kind__joined:FuncData} (S_Kind__joined:Fun K "joined" "Kind.joined" s_Kind__joined f_Kind__joined fd_Kind__joined):FnOk P w K mg base CX0 1 f_Kind__joined fd_Kind__joined ["self","one","other"] (spD K false 3 m_Kind__joined):=fn_ofM S_Kind__joined sc_Kind__joined (by decide) fun f cdv A outer s H E hr=>by
 have nd:=sc_Kind__joined.nd
 exact (by refine xs_cons ?_ ?_;exact (xs_ret (xop od_add (xv 1) (xv 2)));exact xs_nil)
theorem sc_Kind__nothing:FnScope ["self"] ["self"] (defScope s_Kind__nothing):=⟨rfl,rfl,rfl,by decide +kernel,rfl,by decide +kernel,by decide +kernel⟩
theorem df_Kind__nothing {f_Kind__nothing:Addr} {fd_Kind__nothing:FuncData} (S_Kind__nothing:Fun K "nothing" "Kind.nothing" s_Kind__nothing f_Kind__nothing fd_Kind__nothing):FnOk P w K mg base CX0 1 f_Kind__nothing fd_Kind__nothing ["self"] (spD K false 1 m_Kind__nothing):=fn_ofM S_Kind__nothing sc_Kind__nothing (by decide) fun f cdv A outer s H E hr=>by
 have nd:=sc_Kind__nothing.nd
 exact (by refine xs_cons ?_ ?_;exact (xs_ret xint);exact xs_nil)
theorem sc_row_total:FnScope ["kind","knots","total","one"] ["kind","knots"] (defScope s_row_total):=⟨rfl,rfl,rfl,by decide +kernel,rfl,by decide +kernel,by decide +kernel⟩
theorem df_row_total (S_row_total:Src K mg "row_total" s_row_total ["kind","knots"]) (h_total_of:Df P w K mg base "total_of" 1 ["tree"] false (m_total_of)) (hm_Bag_joined:MDf P w K mg base "Bag" "joined" 2 ["self","one","other"] false (m_Bag__joined)) (hm_Bag_nothing:MDf P w K mg base "Bag" "nothing" 1 ["self"] false (m_Bag__nothing)) (hm_Kind_joined:MDf P w K mg base "Kind" "joined" 1 ["self","one","other"] false (m_Kind__joined)) (hm_Kind_nothing:MDf P w K mg base "Kind" "nothing" 1 ["self"] false (m_Kind__nothing)):Df P w K mg base "row_total" 3 ["kind","knots"] false m_row_total:=df_of (N:=["kind","knots","total","one"]) (fr:=false) (F:=b_row_total) S_row_total sc_row_total (by decide) fun f cdv A outer s H E hr=>by
 have nd:=sc_row_total.nd
 exact (by refine xs_cons ?_ ?_;exact (xs_set 2 nd (xmeth0 (MAll.cons (hm_Kind_nothing.mono (by omega)) rfl (MAll.cons (hm_Bag_nothing.mono (by omega)) rfl MAll.nil)) hr (xvS 0)));exact (by refine xs_cons ?_ ?_;exact (xs_for PassesOwn.never rfl (xvS 1) (xg_name 3 nd) (by refine xs_cons ?_ ?_;exact (xs_set 2 nd (xmeth (MAll.cons (hm_Kind_joined.mono (by omega)) rfl (MAll.cons (hm_Bag_joined.mono (by omega)) rfl MAll.nil)) hr (xvS 0) (xa_cons (xvS 2) (xa_cons (xcall (h_total_of.mono (by omega)) hr (xa_cons (xvS 3) xa_nil)) xa_nil))));exact xs_nil));exact (by refine xs_cons ?_ ?_;exact (xs_ret (xv 2));exact xs_nil)))
theorem sc_Bag__lone:FnScope ["self","at","deed"] ["self","at","deed"] (defScope s_Bag__lone):=⟨rfl,rfl,rfl,by decide +kernel,rfl,by decide +kernel,by decide +kernel⟩
theorem df_Bag__lone {f_Bag__lone:Addr} {fd_Bag__lone:FuncData} (S_Bag__lone:Fun K "lone" "Bag.lone" s_Bag__lone f_Bag__lone fd_Bag__lone) (hm_Bag_nothing:MDf P w K mg base "Bag" "nothing" 1 ["self"] false (m_Bag__nothing)) (hm_Kind_nothing:MDf P w K mg base "Kind" "nothing" 1 ["self"] false (m_Kind__nothing)):FnOk P w K mg base CX0 2 f_Bag__lone fd_Bag__lone ["self","at","deed"] (spD K false 3 m_Bag__lone):=fn_ofM S_Bag__lone sc_Bag__lone (by decide) fun f cdv A outer s H E hr=>by
 have nd:=sc_Bag__lone.nd
 exact (by refine xs_cons ?_ ?_;exact (xs_if (xt_cmp (od_eq hr.units) (xix (xv 2) xint) xstr (nomark _)) (by refine xs_cons ?_ ?_;exact (xs_ret (xtup (xa_cons xint (xa_cons (xtup xa_nil) (xa_cons (xtup (xa_cons (xtup (xa_cons (xix (xv 2) xint) (xa_cons (xv 1) xa_nil))) xa_nil)) xa_nil)))));exact xs_nil) xs_nil);exact (by refine xs_cons ?_ ?_;exact (xs_if (xt_cmp (od_eq hr.units) (xix (xv 2) xint) xstr (nomark _)) (by refine xs_cons ?_ ?_;exact (xs_ret (xtup (xa_cons xint (xa_cons (xtup xa_nil) (xa_cons (xtup xa_nil) xa_nil)))));exact xs_nil) xs_nil);exact (by refine xs_cons ?_ ?_;exact (xs_ret (xmeth0 (MAll.cons (hm_Kind_nothing.mono (by omega)) rfl (MAll.cons (hm_Bag_nothing.mono (by omega)) rfl MAll.nil)) hr (xv 0)));exact xs_nil)))
theorem sc_Kind__lone:FnScope ["self","at","deed"] ["self","at","deed"] (defScope s_Kind__lone):=⟨rfl,rfl,rfl,by decide +kernel,rfl,by decide +kernel,by decide +kernel⟩
theorem df_Kind__lone {f_Kind__lone:Addr} {fd_Kind__lone:FuncData} (S_Kind__lone:Fun K "lone" "Kind.lone" s_Kind__lone f_Kind__lone fd_Kind__lone):FnOk P w K mg base CX0 1 f_Kind__lone fd_Kind__lone ["self","at","deed"] (spD K false 3 m_Kind__lone):=fn_ofM S_Kind__lone sc_Kind__lone (by decide) fun f cdv A outer s H E hr=>by
 have nd:=sc_Kind__lone.nd
 exact (by refine xs_cons ?_ ?_;exact (xs_ret xint);exact xs_nil)
theorem sc_leaf:FnScope ["kind","at","deed"] ["kind","at","deed"] (defScope s_leaf):=⟨rfl,rfl,rfl,by decide +kernel,rfl,by decide +kernel,by decide +kernel⟩
theorem df_leaf (S_leaf:Src K mg "leaf" s_leaf ["kind","at","deed"]) (hm_Bag_lone:MDf P w K mg base "Bag" "lone" 2 ["self","at","deed"] false (m_Bag__lone)) (hm_Kind_lone:MDf P w K mg base "Kind" "lone" 1 ["self","at","deed"] false (m_Kind__lone)):Df P w K mg base "leaf" 3 ["kind","at","deed"] false m_leaf:=df_of (N:=["kind","at","deed"]) (fr:=false) (F:=b_leaf) S_leaf sc_leaf (by decide) fun f cdv A outer s H E hr=>by
 have nd:=sc_leaf.nd
 exact (by refine xs_cons ?_ ?_;exact (xs_ret (xtup (xa_cons (xv 1) (xa_cons xint (xa_cons (xmeth (MAll.cons (hm_Kind_lone.mono (by omega)) rfl (MAll.cons (hm_Bag_lone.mono (by omega)) rfl MAll.nil)) hr (xv 0) (xa_cons (xv 1) (xa_cons (xv 2) xa_nil))) (xa_cons (xv 2) xa_nil))))));exact xs_nil)
theorem sc_knot:FnScope ["kind","left","right","stretch","total"] ["kind","left","right"] (defScope s_knot):=⟨rfl,rfl,rfl,by decide +kernel,rfl,by decide +kernel,by decide +kernel⟩
theorem df_knot (S_knot:Src K mg "knot" s_knot ["kind","left","right"]) (h_least:Df P w K mg base "least" 2 ["one","other"] false (m_least)) (h_stretch_of:Df P w K mg base "stretch_of" 1 ["tree"] false (m_stretch_of)) (h_total_of:Df P w K mg base "total_of" 1 ["tree"] false (m_total_of)) (hm_Bag_joined:MDf P w K mg base "Bag" "joined" 2 ["self","one","other"] false (m_Bag__joined)) (hm_Kind_joined:MDf P w K mg base "Kind" "joined" 1 ["self","one","other"] false (m_Kind__joined)):Df P w K mg base "knot" 3 ["kind","left","right"] false m_knot:=df_of (N:=["kind","left","right","stretch","total"]) (fr:=false) (F:=b_knot) S_knot sc_knot (by decide) fun f cdv A outer s H E hr=>by
 have nd:=sc_knot.nd
 exact (by refine xs_cons ?_ ?_;exact (xs_set 3 nd (xcall (h_least.mono (by omega)) hr (xa_cons (xcall (h_stretch_of.mono (by omega)) hr (xa_cons (xvS 1) xa_nil)) (xa_cons (xcall (h_stretch_of.mono (by omega)) hr (xa_cons (xvS 2) xa_nil)) xa_nil))));exact (by refine xs_cons ?_ ?_;exact (xs_set 4 nd (xmeth (MAll.cons (hm_Kind_joined.mono (by omega)) rfl (MAll.cons (hm_Bag_joined.mono (by omega)) rfl MAll.nil)) hr (xvS 0) (xa_cons (xcall (h_total_of.mono (by omega)) hr (xa_cons (xvS 1) xa_nil)) (xa_cons (xcall (h_total_of.mono (by omega)) hr (xa_cons (xvS 2) xa_nil)) xa_nil))));exact (by refine xs_cons ?_ ?_;exact (xs_ret (xtup (xa_cons (xix (xv 3) xint) (xa_cons (xix (xv 3) xint) (xa_cons (xv 4) (xa_cons (xv 1) (xa_cons (xv 2) xa_nil)))))));exact xs_nil)))
theorem sc_beside:FnScope ["kind","tree","other"] ["kind","tree","other"] (defScope s_beside):=⟨rfl,rfl,rfl,by decide +kernel,rfl,by decide +kernel,by decide +kernel⟩
theorem df_beside (S_beside:Src K mg "beside" s_beside ["kind","tree","other"]) (h_knot:Df P w K mg base "knot" 3 ["kind","left","right"] false (m_knot)):Df P w K mg base "beside" 4 ["kind","tree","other"] false m_beside:=df_of (N:=["kind","tree","other"]) (fr:=false) (F:=b_beside) S_beside sc_beside (by decide) fun f cdv A outer s H E hr=>by
 have nd:=sc_beside.nd
 exact (by refine xs_cons ?_ ?_;exact (xs_if (xt_cmp od_lt (xix (xv 2) xint) (xix (xv 1) xint) (nomark _)) (by refine xs_cons ?_ ?_;exact (xs_ret (xcall (h_knot.mono (by omega)) hr (xa_cons (xv 0) (xa_cons (xv 2) (xa_cons (xv 1) xa_nil)))));exact xs_nil) xs_nil);exact (by refine xs_cons ?_ ?_;exact (xs_ret (xcall (h_knot.mono (by omega)) hr (xa_cons (xv 0) (xa_cons (xv 1) (xa_cons (xv 2) xa_nil)))));exact xs_nil))
theorem sc_is_early:FnScope ["tree","at"] ["tree","at"] (defScope s_is_early):=⟨rfl,rfl,rfl,by decide +kernel,rfl,by decide +kernel,by decide +kernel⟩
theorem df_is_early (S_is_early:Src K mg "is_early" s_is_early ["tree","at"]) (h_halves:Df P w K mg base "halves" 1 ["stretch"] false (m_halves)) (h_holds:Df P w K mg base "holds" 2 ["stretch","number"] false (m_holds)) (h_stretch_of:Df P w K mg base "stretch_of" 1 ["tree"] false (m_stretch_of)):Df P w K mg base "is_early" 3 ["tree","at"] false m_is_early:=df_of (N:=["tree","at"]) (fr:=false) (F:=b_is_early) S_is_early sc_is_early (by decide) fun f cdv A outer s H E hr=>by
 have nd:=sc_is_early.nd
 exact (by refine xs_cons ?_ ?_;exact (xs_ret (xcall (h_holds.mono (by omega)) hr (xa_cons (xix (xcall (h_halves.mono (by omega)) hr (xa_cons (xcall (h_stretch_of.mono (by omega)) hr (xa_cons (xv 0) xa_nil)) xa_nil)) xint) (xa_cons (xv 1) xa_nil))));exact xs_nil)
theorem sc_put_in:FnScope ["kind","tree","at","deed"] ["kind","tree","at","deed"] (defScope s_put_in):=⟨rfl,rfl,rfl,by decide +kernel,rfl,by decide +kernel,by decide +kernel⟩
theorem df_put_in (S_put_in:Src K mg "put_in" s_put_in ["kind","tree","at","deed"]) (h_beside:Df P w K mg base "beside" 4 ["kind","tree","other"] false (m_beside)) (h_holds:Df P w K mg base "holds" 2 ["stretch","number"] false (m_holds)) (h_is_early:Df P w K mg base "is_early" 3 ["tree","at"] false (m_is_early)) (h_is_leaf:Df P w K mg base "is_leaf" 1 ["tree"] false (m_is_leaf)) (h_knot:Df P w K mg base "knot" 3 ["kind","left","right"] false (m_knot)) (h_leaf:Df P w K mg base "leaf" 3 ["kind","at","deed"] false (m_leaf)) (h_stretch_of:Df P w K mg base "stretch_of" 1 ["tree"] false (m_stretch_of)):∀ n:Nat,Df P w K mg base "put_in" (5 + n) ["kind","tree","at","deed"] false (m_put_in n)
 | 0=>df_bad S_put_in
 | n + 1=>by
  have h_put_in:=df_put_in S_put_in h_beside h_holds h_is_early h_is_leaf h_knot h_leaf h_stretch_of n
  exact df_of (N:=["kind","tree","at","deed"]) (fr:=false) (F:=b_put_in (m_put_in n)) S_put_in sc_put_in (by decide) fun f cdv A outer s H E hr=>by
   have nd:=sc_put_in.nd
   replace hr:Room (5 + n) _:=hr
   exact (by refine xs_cons ?_ ?_;exact (xs_if (xt_isN (xv 1)) (by refine xs_cons ?_ ?_;exact (xs_ret (xcall (h_leaf.mono (by omega)) hr (xa_cons (xv 0) (xa_cons (xv 2) (xa_cons (xv 3) xa_nil)))));exact xs_nil) xs_nil);exact (by refine xs_cons ?_ ?_;exact (xs_if (xt_not (xt (xcall (h_holds.mono (by omega)) hr (xa_cons (xcall (h_stretch_of.mono (by omega)) hr (xa_cons (xv 1) xa_nil)) (xa_cons (xv 2) xa_nil))))) (by refine xs_cons ?_ ?_;exact (xs_ret (xcall (h_beside.mono (by omega)) hr (xa_cons (xv 0) (xa_cons (xv 1) (xa_cons (xcall (h_leaf.mono (by omega)) hr (xa_cons (xv 0) (xa_cons (xv 2) (xa_cons (xv 3) xa_nil)))) xa_nil)))));exact xs_nil) xs_nil);exact (by refine xs_cons ?_ ?_;exact (xs_if (xt (xcall (h_is_leaf.mono (by omega)) hr (xa_cons (xv 1) xa_nil))) (by refine xs_cons ?_ ?_;exact xs_raise;exact xs_nil) xs_nil);exact (by refine xs_cons ?_ ?_;exact (xs_if (xt (xcall (h_is_early.mono (by omega)) hr (xa_cons (xv 1) (xa_cons (xv 2) xa_nil)))) (by refine xs_cons ?_ ?_;exact (xs_ret (xcall (h_knot.mono (by omega)) hr (xa_cons (xv 0) (xa_cons (xcall (h_put_in.mono (by omega)) hr (xa_cons (xv 0) (xa_cons (xix (xv 1) xint) (xa_cons (xv 2) (xa_cons (xv 3) xa_nil))))) (xa_cons (xix (xv 1) xint) xa_nil)))));exact xs_nil) xs_nil);exact (by refine xs_cons ?_ ?_;exact (xs_ret (xcall (h_knot.mono (by omega)) hr (xa_cons (xv 0) (xa_cons (xix (xv 1) xint) (xa_cons (xcall (h_put_in.mono (by omega)) hr (xa_cons (xv 0) (xa_cons (xix (xv 1) xint) (xa_cons (xv 2) (xa_cons (xv 3) xa_nil))))) xa_nil)))));exact xs_nil)))))
theorem sc_numbers_ahead:FnScope ["deed"] ["deed"] (defScope s_numbers_ahead):=⟨rfl,rfl,rfl,by decide +kernel,rfl,by decide +kernel,by decide +kernel⟩
theorem df_numbers_ahead (S_numbers_ahead:Src K mg "numbers_ahead" s_numbers_ahead ["deed"]):Df P w K mg base "numbers_ahead" 1 ["deed"] false m_numbers_ahead:=df_of (N:=["deed"]) (fr:=false) (F:=b_numbers_ahead) S_numbers_ahead sc_numbers_ahead (by decide) fun f cdv A outer s H E hr=>by
 have nd:=sc_numbers_ahead.nd
 exact (by refine xs_cons ?_ ?_;exact (xs_ret (xife (xt_cmp (od_eq hr.units) (xix (xv 0) xint) xstr (nomark _)) (xix (xv 0) xint) xint));exact xs_nil)
theorem sc_one_step_down:FnScope ["tree","stretch","both"] ["tree","stretch"] (defScope s_one_step_down):=⟨rfl,rfl,rfl,by decide +kernel,rfl,by decide +kernel,by decide +kernel⟩
theorem df_one_step_down (S_one_step_down:Src K mg "one_step_down" s_one_step_down ["tree","stretch"]) (h_halves:Df P w K mg base "halves" 1 ["stretch"] false (m_halves)) (h_is_leaf:Df P w K mg base "is_leaf" 1 ["tree"] false (m_is_leaf)) (h_stretch_of:Df P w K mg base "stretch_of" 1 ["tree"] false (m_stretch_of)) (h_within:Df P w K mg base "within" 3 ["one","other"] false (m_within)):Df P w K mg base "one_step_down" 4 ["tree","stretch"] false m_one_step_down:=df_of (N:=["tree","stretch","both"]) (fr:=false) (F:=b_one_step_down) S_one_step_down sc_one_step_down (by decide) fun f cdv A outer s H E hr=>by
 have nd:=sc_one_step_down.nd
 exact (by refine xs_cons ?_ ?_;exact (xs_if (xt (xcall (h_is_leaf.mono (by omega)) hr (xa_cons (xv 0) xa_nil))) (by refine xs_cons ?_ ?_;exact (xs_ret xnon);exact xs_nil) xs_nil);exact (by refine xs_cons ?_ ?_;exact (xs_set 2 nd (xcall (h_halves.mono (by omega)) hr (xa_cons (xcall (h_stretch_of.mono (by omega)) hr (xa_cons (xvS 0) xa_nil)) xa_nil)));exact (by refine xs_cons ?_ ?_;exact (xs_if (xt (xcall (h_within.mono (by omega)) hr (xa_cons (xv 1) (xa_cons (xix (xv 2) xint) xa_nil)))) (by refine xs_cons ?_ ?_;exact (xs_ret (xix (xv 0) xint));exact xs_nil) xs_nil);exact (by refine xs_cons ?_ ?_;exact (xs_if (xt (xcall (h_within.mono (by omega)) hr (xa_cons (xv 1) (xa_cons (xix (xv 2) xint) xa_nil)))) (by refine xs_cons ?_ ?_;exact (xs_ret (xix (xv 0) xint));exact xs_nil) xs_nil);exact (by refine xs_cons ?_ ?_;exact (xs_ret xnon);exact xs_nil)))))
theorem sc_inside:FnScope ["tree","stretch","there"] ["tree","stretch"] (defScope s_inside):=⟨rfl,rfl,rfl,by decide +kernel,rfl,by decide +kernel,by decide +kernel⟩
theorem df_inside (S_inside:Src K mg "inside" s_inside ["tree","stretch"]) (h_one_step_down:Df P w K mg base "one_step_down" 4 ["tree","stretch"] false (m_one_step_down)) (h_stretch_of:Df P w K mg base "stretch_of" 1 ["tree"] false (m_stretch_of)) (h_within:Df P w K mg base "within" 3 ["one","other"] false (m_within)):Df P w K mg base "inside" 5 ["tree","stretch"] false m_inside:=df_of (N:=["tree","stretch","there"]) (fr:=false) (F:=b_inside) S_inside sc_inside (by decide) fun f cdv A outer s H E hr=>by
 have nd:=sc_inside.nd
 exact (by refine xs_cons ?_ ?_;exact (xs_set 2 nd (xvS 0));exact (by refine xs_cons ?_ ?_;exact (xs_while 40 PassesOwn.never (PW.pt (xw_and (xt_notN (xv 2)) (xw_and1 (xt_not (xt (xcall (h_within.mono (by omega)) hr (xa_cons (xcall (h_stretch_of.mono (by omega)) hr (xa_cons (xv 2) xa_nil)) (xa_cons (xv 1) xa_nil)))))))) (by refine xs_cons ?_ ?_;exact (xs_set 2 nd (xcall (h_one_step_down.mono (by omega)) hr (xa_cons (xvS 2) (xa_cons (xvS 1) xa_nil))));exact xs_nil));exact (by refine xs_cons ?_ ?_;exact (xs_ret (xv 2));exact xs_nil)))
theorem sc_ahead:FnScope ["tree","end","found"] ["tree","end"] (defScope s_ahead):=⟨rfl,rfl,rfl,by decide +kernel,rfl,by decide +kernel,by decide +kernel⟩
theorem df_ahead (S_ahead:Src K mg "ahead" s_ahead ["tree","end"]) (h_cover:Df P w K mg base "cover" 1 ["end"] true (m_cover)) (h_inside:Df P w K mg base "inside" 5 ["tree","stretch"] false (m_inside)):Df P w K mg base "ahead" 6 ["tree","end"] true m_ahead:=df_of (N:=["tree","end","found"]) (fr:=true) (F:=b_ahead) S_ahead sc_ahead (by decide) fun f cdv A outer s H E hr=>by
 have nd:=sc_ahead.nd
 exact (by refine xs_cons ?_ ?_;exact (xs_setC 2 nd (by refine xcompL (N':=["stretch","tree"]) (k:=1) (ix:=[0]) (cnames _ ["tree","end","found"] ?_) ?_ fun _ _ _ _ _=>⟨?_,?_,?_⟩;exact (by first | decide +kernel | (change cnOk (defScope s_ahead) _ _ _ _ _=true;decide +kernel));exact (toS (xcallF (h_cover.mono (by omega)) hr (xa_cons (xvS 1) xa_nil)));exact (xg_name 0 (show (["stretch","tree"]:List Str).Nodup from by decide +kernel));exact xc_yes;exact (xcall (h_inside.mono (by omega)) hr (xa_cons (xvS 1) (xa_cons (xvS 0) xa_nil)))));exact (by refine xs_cons ?_ ?_;exact (xs_retF (by refine CompR.pe ?_;refine xcompL (N':=["knot"]) (k:=1) (ix:=[]) (cnames _ ["tree","end","found"] ?_) ?_ fun _ _ _ _ _=>⟨?_,?_,?_⟩;exact (by first | decide +kernel | (change cnOk (defScope s_ahead) _ _ _ _ _=true;decide +kernel));exact (xvS 2);exact (xg_name 0 (show (["knot"]:List Str).Nodup from by decide +kernel));exact (pcs_one (xt_notN (xv 0)));exact (xvS 0)));exact xs_nil))
theorem sc__law_cell_at:FnScope ["_law_script","_law_k"] ["_law_script","_law_k"] (defScope s__law_cell_at):=⟨rfl,rfl,rfl,by decide +kernel,rfl,by decide +kernel,by decide +kernel⟩
theorem df__law_cell_at (S__law_cell_at:Src K mg "_law_cell_at" s__law_cell_at ["_law_script","_law_k"]) (z_len:mg "len" = none):Df P w K mg base "_law_cell_at" 1 ["_law_script","_law_k"] false m__law_cell_at:=df_of (N:=["_law_script","_law_k"]) (fr:=false) (F:=b__law_cell_at) S__law_cell_at sc__law_cell_at (by decide) fun f cdv A outer s H E hr=>by
 have nd:=sc__law_cell_at.nd
 exact (by refine xs_cons ?_ ?_;exact (xs_if (xt_cmp od_lt (xv 1) (xb cd_len z_len (xa_cons (xv 0) xa_nil)) (nomark _)) (by refine xs_cons ?_ ?_;exact (xs_ret (xix (xv 0) (xv 1)));exact xs_nil) xs_nil);exact (by refine xs_cons ?_ ?_;exact (xs_ret xint);exact xs_nil))
theorem sc__law_whole:FnScope ["_law_found"] ["_law_found"] (defScope s__law_whole):=⟨rfl,rfl,rfl,by decide +kernel,rfl,by decide +kernel,by decide +kernel⟩
theorem df__law_whole (S__law_whole:Src K mg "_law_whole" s__law_whole ["_law_found"]) (z_bool:mg "bool" = none) (z_int:mg "int" = none) (z_isinstance:mg "isinstance" = none):Df P w K mg base "_law_whole" 1 ["_law_found"] false m__law_whole:=df_of (N:=["_law_found"]) (fr:=false) (F:=b__law_whole) S__law_whole sc__law_whole (by decide) fun f cdv A outer s H E hr=>by
 have nd:=sc__law_whole.nd
 exact (by refine xs_cons ?_ ?_;exact (xs_ret (xand (xis z_isinstance z_int (xv 0)) (xone (xnot (xis z_isinstance z_bool (xv 0))))));exact xs_nil)
theorem sc__law_number:FnScope ["_law_cell","_law_k","_law_way"] ["_law_cell","_law_k"] (defScope s__law_number):=⟨rfl,rfl,rfl,by decide +kernel,rfl,by decide +kernel,by decide +kernel⟩
theorem df__law_number (S__law_number:Src K mg "_law_number" s__law_number ["_law_cell","_law_k"]):Df P w K mg base "_law_number" 1 ["_law_cell","_law_k"] false m__law_number:=df_of (N:=["_law_cell","_law_k","_law_way"]) (fr:=false) (F:=b__law_number) S__law_number sc__law_number (by decide) fun f cdv A outer s H E hr=>by
 have nd:=sc__law_number.nd
 exact (by refine xs_cons ?_ ?_;exact (xs_set 2 nd (xop od_mod (xv 0) xint));exact (by refine xs_cons ?_ ?_;exact (xs_if (xt_cmp (od_eq hr.units) (xv 2) xint (nomark _)) (by refine xs_cons ?_ ?_;exact (xs_ret (xop od_sub (xop od_mod (xop od_add (xop od_div (xv 0) xint) (xop od_mul (xop od_mul xint (xv 1)) (xv 1))) xint) xint));exact xs_nil) xs_nil);exact (by refine xs_cons ?_ ?_;exact (xs_if (xt_cmp (od_eq hr.units) (xv 2) xint (nomark _)) (by refine xs_cons ?_ ?_;exact (xs_ret (xop od_sub (xop od_mod (xop od_div (xv 0) xint) (xop od_mul xint (xop od_pow xint xint))) (xop od_pow xint xint)));exact xs_nil) xs_nil);exact (by refine xs_cons ?_ ?_;exact (xs_if (xt_cmp (od_eq hr.units) (xv 2) xint (nomark _)) (by refine xs_cons ?_ ?_;exact (xs_ret (xop od_sub (xop od_mod (xop od_div (xv 0) xint) xint) xint));exact xs_nil) xs_nil);exact (by refine xs_cons ?_ ?_;exact (xs_ret (xop od_mod (xop od_div (xv 0) xint) (xop od_pow xint xint)));exact xs_nil)))))
theorem sc__law_deed:FnScope ["_law_cell","_law_k","_law_tilt","_law_way"] ["_law_cell","_law_k","_law_tilt"] (defScope s__law_deed):=⟨rfl,rfl,rfl,by decide +kernel,rfl,by decide +kernel,by decide +kernel⟩
theorem df__law_deed (S__law_deed:Src K mg "_law_deed" s__law_deed ["_law_cell","_law_k","_law_tilt"]) (h__law_number:Df P w K mg base "_law_number" 1 ["_law_cell","_law_k"] false (m__law_number)):Df P w K mg base "_law_deed" 2 ["_law_cell","_law_k","_law_tilt"] false m__law_deed:=df_of (N:=["_law_cell","_law_k","_law_tilt","_law_way"]) (fr:=false) (F:=b__law_deed) S__law_deed sc__law_deed (by decide) fun f cdv A outer s H E hr=>by
 have nd:=sc__law_deed.nd
 exact (by refine xs_cons ?_ ?_;exact (xs_set 3 nd (xop od_mod (xv 0) xint));exact (by refine xs_cons ?_ ?_;exact (xs_if (xt_cmp od_lt (xv 3) (xop od_add xint (xv 2)) (nomark _)) (by refine xs_cons ?_ ?_;exact (xs_ret (xtup (xa_cons xstr (xa_cons (xcall (h__law_number.mono (by omega)) hr (xa_cons (xop od_div (xv 0) xint) (xa_cons (xv 1) xa_nil))) xa_nil))));exact xs_nil) xs_nil);exact (by refine xs_cons ?_ ?_;exact (xs_if (xt_cmp od_lt (xv 3) xint (nomark _)) (by refine xs_cons ?_ ?_;exact (xs_ret (xtup (xa_cons xstr xa_nil)));exact xs_nil) xs_nil);exact (by refine xs_cons ?_ ?_;exact (xs_if (xt_cmp (od_eq hr.units) (xv 3) xint (nomark _)) (by refine xs_cons ?_ ?_;exact (xs_ret (xtup (xa_cons xstr xa_nil)));exact xs_nil) xs_nil);exact (by refine xs_cons ?_ ?_;exact (xs_if (xt_cmp (od_eq hr.units) (xop od_mod (xop od_div (xv 0) xint) xint) xint (nomark _)) (by refine xs_cons ?_ ?_;exact (xs_ret (xtup (xa_cons xstr (xa_cons (xop od_mod (xop od_div (xv 0) xint) (xop od_pow xint xint)) xa_nil))));exact xs_nil) xs_nil);exact (by refine xs_cons ?_ ?_;exact (xs_ret (xtup (xa_cons xstr (xa_cons (xop od_mod (xop od_add (xop od_div (xv 0) xint) (xv 1)) xint) xa_nil))));exact xs_nil))))))
theorem sc__law_times:FnScope ["_law_cells","_law_cell","_law_wide","_law_times_here","_law_at","_law_k","_law_shift"] ["_law_cells","_law_cell"] (defScope s__law_times):=⟨rfl,rfl,rfl,by decide +kernel,rfl,by decide +kernel,by decide +kernel⟩
theorem df__law_times (S__law_times:Src K mg "_law_times" s__law_times ["_law_cells","_law_cell"]) (z_len:mg "len" = none) (z_range:mg "range" = none):Df P w K mg base "_law_times" 1 ["_law_cells","_law_cell"] false m__law_times:=df_of (N:=["_law_cells","_law_cell","_law_wide","_law_times_here","_law_at","_law_k","_law_shift"]) (fr:=false) (F:=b__law_times) S__law_times sc__law_times (by decide) fun f cdv A outer s H E hr=>by
 have nd:=sc__law_times.nd
 exact (by refine xs_cons ?_ ?_;refine @xs_set _ _ _ _ _ _ 2 _ _ nd ?_ rfl (by first | exact Or.inl rfl | exact Or.inr rfl) rfl (by first | exact .inl rfl | exact .inr rfl);refine xix ?_ ?_;refine toS ?_;refine xlst ?_;refine xa_cons ?_ ?_;exact xint;refine xa_cons ?_ ?_;exact xint;refine xa_cons ?_ ?_;exact xint;exact xa_nil;exact (xop od_mod (xv 1) xint);exact (by refine xs_cons ?_ ?_;exact (xs_own 3 nd (xlst xa_nil));exact (by refine xs_cons ?_ ?_;exact (xs_set 4 nd xint);exact (by refine xs_cons ?_ ?_;exact (xs_rng1 PassesOwn.never rfl z_range (xa_cons (xb cd_len z_len (xa_cons (xv 0) xa_nil)) xa_nil) (xg_name 5 nd) (by refine xs_cons ?_ ?_;exact (xs_app 3 (xvS 4));exact (by refine xs_cons ?_ ?_;exact (xs_set 4 nd (xop od_add (xop od_add (xv 4) xint) (xop od_mod (xop od_add (xop od_div (xix (xv 0) (xv 5)) xint) (xix (xv 0) (xop od_sub (xv 5) xint))) (xv 2))));exact xs_nil)));exact (by refine xs_cons ?_ ?_;exact (xs_thaw 3 (xs_if (xt_cmp (od_eq hr.units) (xv 3) (toW (m:=.F) (xlst xa_nil)) (nomark _)) (by refine xs_cons ?_ ?_;exact (xs_ret (toW (m:=.F) (xlst xa_nil)));exact xs_nil) xs_nil));exact (by refine xs_cons ?_ ?_;exact (xs_set 6 nd (xop od_mod (xop od_div (xv 1) xint) (xop od_sub xint (xix (xv 3) (xneg xint)))));exact (by refine xs_cons ?_ ?_;exact (xs_ret (toW (m:=.F) (by refine CompR.pe ?_;refine xcompL (N':=["_law_at","_law_shift"]) (k:=1) (ix:=[6]) (cnames _ ["_law_cells","_law_cell","_law_wide","_law_times_here","_law_at","_law_k","_law_shift"] ?_) ?_ fun _ _ _ _ _=>⟨?_,?_,?_⟩;exact (by first | decide +kernel | (change cnOk (defScope s__law_times) _ _ _ _ _=true;decide +kernel));exact (xvS 3);exact (xg_name 0 (show (["_law_at","_law_shift"]:List Str).Nodup from by decide +kernel));exact xc_yes;exact (xop od_add (xv 1) (xv 0)))));exact xs_nil)))))))
theorem sc__law_row:FnScope ["_law_script","_law_cells","_law_tilt","_law_times_here"] ["_law_script"] (defScope s__law_row):=⟨rfl,rfl,rfl,by decide +kernel,rfl,by decide +kernel,by decide +kernel⟩
theorem df__law_row (S__law_row:Src K mg "_law_row" s__law_row ["_law_script"]) (z_len:mg "len" = none) (z_range:mg "range" = none) (h__law_cell_at:Df P w K mg base "_law_cell_at" 1 ["_law_script","_law_k"] false (m__law_cell_at)) (h__law_deed:Df P w K mg base "_law_deed" 2 ["_law_cell","_law_k","_law_tilt"] false (m__law_deed)) (h__law_times:Df P w K mg base "_law_times" 1 ["_law_cells","_law_cell"] false (m__law_times)):Df P w K mg base "_law_row" 3 ["_law_script"] false m__law_row:=df_of (N:=["_law_script","_law_cells","_law_tilt","_law_times_here"]) (fr:=false) (F:=b__law_row) S__law_row sc__law_row (by decide) fun f cdv A outer s H E hr=>by
 have nd:=sc__law_row.nd
 exact (by refine xs_cons ?_ ?_;exact (xs_set 1 nd (toS (xsl (xvS 0) (po_some' xint) (po_some' xint))));exact (by refine xs_cons ?_ ?_;exact (xs_set 2 nd (xop od_mod (xop od_div (xcall (h__law_cell_at.mono (by omega)) hr (xa_cons (xv 0) (xa_cons xint xa_nil))) xint) xint));exact (by refine xs_cons ?_ ?_;exact (xs_set 3 nd (xcall (h__law_times.mono (by omega)) hr (xa_cons (xvS 1) (xa_cons (xcall (h__law_cell_at.mono (by omega)) hr (xa_cons (xvS 0) (xa_cons xint xa_nil))) xa_nil))));exact (by refine xs_cons ?_ ?_;exact (xs_ret (toW (m:=.F) (by refine CompR.pe ?_;refine xcompR1 (N':=["_law_k","_law_times_here","_law_cells","_law_tilt"]) (k:=1) (ix:=[3,1,2]) (cnames _ ["_law_script","_law_cells","_law_tilt","_law_times_here"] ?_) z_range ?_ fun _ _ _ _ _=>⟨?_,?_,?_⟩;exact (by first | decide +kernel | (change cnOk (defScope s__law_row) _ _ _ _ _=true;decide +kernel));exact (xa_cons (xb cd_len z_len (xa_cons (xv 1) xa_nil)) xa_nil);exact (xg_name 0 (show (["_law_k","_law_times_here","_law_cells","_law_tilt"]:List Str).Nodup from by decide +kernel));exact xc_yes;exact (xtup (xa_cons (xix (xvS 1) (xv 0)) (xa_cons (xcall (h__law_deed.mono (by omega)) hr (xa_cons (xix (xvS 2) (xv 0)) (xa_cons (xvS 0) (xa_cons (xvS 3) xa_nil)))) xa_nil))))));exact xs_nil))))
theorem sc__law_order:FnScope ["_law_script","_law_size"] ["_law_script","_law_size"] (defScope s__law_order):=⟨rfl,rfl,rfl,by decide +kernel,rfl,by decide +kernel,by decide +kernel⟩
def lamA__law_order:Option (Scope×Pos):=match defBody s__law_order with
 | [.Return (some (.Call _ _ [⟨_,.Lambda _ _ sc lp,_⟩] _)) _]=>some (sc,lp)
 | _=>none
abbrev lamS:Scope:=((lamA__law_order).map (·.1)).getD (defScope s__law_order)
abbrev lamL:Pos:=((lamA__law_order).map (·.2)).getD ⟨0,0,0,0⟩
abbrev lamP (T:Addr):LP:=⟨T,lamL,("_law_order":Str)++".<locals>."++"<lambda>"⟩
theorem lsc__law_order:LamSc "_law_k" "_law_script" lamS:=⟨rfl,rfl,rfl,by decide +kernel,rfl,rfl,by decide +kernel⟩
theorem df__law_order {c0 T:Addr} (LB:LamB mg base c0 T) (cd:∀ f fd,mg "_law_order" = some (.ref f)->(∃ oc od sl,K.lookup f=some ⟨oc,od,.func fd,sl⟩)->fd.code=.ref c0) (S__law_order:Src K mg "_law_order" s__law_order ["_law_script","_law_size"]) (z_range:mg "range" = none) (z_sorted:mg "sorted" = none) (h__law_cell_at:Df P w K mg base "_law_cell_at" 1 ["_law_script","_law_k"] false (m__law_cell_at)):DfO P w K mg base (lamP T) "_law_order" 5 ["_law_script","_law_size"] mo__law_order:=by
 refine dfO_of (N:=["_law_script","_law_size"]) (fl:=fl__law_order) (fb:=fb__law_order) (iy:=0) S__law_order sc__law_order (by decide) cd rfl fun f A outer s H E hr=>?_
 have nd:=sc__law_order.nd
 exact xsortK (kk:=1) (p:="_law_k") (y:="_law_script") (iy:=0) LB rfl lsc__law_order hr rfl rfl ⟨_,rfl,rfl⟩ rfl (fun _ _ _ _ _=>rfl) (xa_cons (toS (by refine CompR.pe ?_;refine xcompR1 (N':=["_law_k"]) (k:=1) (ix:=[]) (cnames _ ["_law_script","_law_size"] ?_) z_range ?_ fun _ _ _ _ _=>⟨?_,?_,?_⟩;exact (by first | decide +kernel | (change cnOk (defScope s__law_order) _ _ _ _ _=true;decide +kernel));exact (xa_cons (xv 1) xa_nil);exact (xg_name 0 (show (["_law_k"]:List Str).Nodup from by decide +kernel));exact xc_yes;exact (xvS 0))) xa_nil) (fun f2 c2 c3 s2 H2 hr=>(xop od_mod (xop od_add (xop od_mul (xcall (h__law_cell_at.mono (by omega)) hr (xa_cons (xv 1) (xa_cons (xv 0) xa_nil))) xint) (xop od_mul (xop od_mul (xv 0) (xv 0)) xint)) xint)) z_sorted
theorem sc__law_tree:FnScope ["_law_kind","_law_row_here","_law_script","_law_tree_here","_law_k"] ["_law_kind","_law_row_here","_law_script"] (defScope s__law_tree):=⟨rfl,rfl,rfl,by decide +kernel,rfl,by decide +kernel,by decide +kernel⟩
theorem df__law_tree {T:Addr} (S__law_tree:Src K mg "_law_tree" s__law_tree ["_law_kind","_law_row_here","_law_script"]) (z_len:mg "len" = none) (h__law_order:DfO P w K mg base (lamP T) "_law_order" 5 ["_law_script","_law_size"] mo__law_order) (h_put_in:Df P w K mg base "put_in" 69 ["kind","tree","at","deed"] false (m_put_in 64)):DfL P w K mg base (lamP T) "_law_tree" 70 ["_law_kind","_law_row_here","_law_script"] m__law_tree:=dfL_of (N:=["_law_kind","_law_row_here","_law_script","_law_tree_here","_law_k"]) (F:=b__law_tree) S__law_tree sc__law_tree (by decide) fun f cdv A outer s H E hr=>by
 have nd:=sc__law_tree.nd
 exact (by refine xl_cons ?_ ?_;exact (by refine xl_of ?_;exact (xs_set 3 nd xnon));exact (by refine xl_cons ?_ ?_;exact (xl_forP 4 (h__law_order.mono (by omega)) hr PassesOwn.never rfl (xa_cons (xv 2) (xa_cons (xb cd_len z_len (xa_cons (xv 1) xa_nil)) xa_nil)) (xg_name 4 nd) (by refine xs_cons ?_ ?_;exact (xs_set 3 nd (xcall (h_put_in.mono (by omega)) hr (xa_cons (xvS 0) (xa_cons (xvS 3) (xa_cons (xix (xix (xvS 1) (xv 4)) xint) (xa_cons (xix (xix (xvS 1) (xv 4)) xint) xa_nil))))));exact xs_nil));exact (by refine xls_of ?_;exact (by refine xs_cons ?_ ?_;exact (xs_ret (xv 3));exact xs_nil))))
theorem sc__law_on:FnScope ["_law_question"] ["_law_question"] (defScope s__law_on):=⟨rfl,rfl,rfl,by decide +kernel,rfl,by decide +kernel,by decide +kernel⟩
theorem df__law_on (S__law_on:Src K mg "_law_on" s__law_on ["_law_question"]):Df P w K mg base "_law_on" 1 ["_law_question"] false m__law_on:=df_of (N:=["_law_question"]) (fr:=false) (F:=b__law_on) S__law_on sc__law_on (by decide) fun f cdv A outer s H E hr=>by
 have nd:=sc__law_on.nd
 exact (by refine xs_cons ?_ ?_;exact (xs_if (xt_cmp (od_eq hr.units) (xix (xv 0) xint) xstr (nomark _)) (by refine xs_cons ?_ ?_;exact (xs_ret (xix (xv 0) xint));exact xs_nil) xs_nil);exact (by refine xs_cons ?_ ?_;exact (xs_ret xint);exact xs_nil))
theorem sc__law_meets:FnScope ["_law_free","_law_question","_law_source","_law_answer","_law_less"] ["_law_free","_law_question","_law_source","_law_answer"] (defScope s__law_meets):=⟨rfl,rfl,rfl,by decide +kernel,rfl,by decide +kernel,by decide +kernel⟩
theorem df__law_meets (S__law_meets:Src K mg "_law_meets" s__law_meets ["_law_free","_law_question","_law_source","_law_answer"]) (z_len:mg "len" = none) (h__law_on:Df P w K mg base "_law_on" 1 ["_law_question"] false (m__law_on)) (h__law_whole:Df P w K mg base "_law_whole" 1 ["_law_found"] false (m__law_whole)):Df P w K mg base "_law_meets" 2 ["_law_free","_law_question","_law_source","_law_answer"] false m__law_meets:=df_of (N:=["_law_free","_law_question","_law_source","_law_answer","_law_less"]) (fr:=false) (F:=b__law_meets) S__law_meets sc__law_meets (by decide) fun f cdv A outer s H E hr=>by
 have nd:=sc__law_meets.nd
 exact (by refine xs_cons ?_ ?_;exact (xs_if (xt_cmp (od_eq hr.units) (xix (xv 1) xint) xstr (nomark _)) (by refine xs_cons ?_ ?_;exact (xs_ret (xand (xisN (xv 2)) (xand (xcall (h__law_whole.mono (by omega)) hr (xa_cons (xv 3) xa_nil)) (xone (xcmp (od_eq hr.units) (xv 3) (xb cd_len z_len (xa_cons (xv 0) xa_nil)) (nomark _))))));exact xs_nil) xs_nil);exact (by refine xs_cons ?_ ?_;exact (xs_if (xt_cmp od_ge (xcall (h__law_on.mono (by omega)) hr (xa_cons (xv 1) xa_nil)) (xb cd_len z_len (xa_cons (xv 0) xa_nil)) (nomark _)) (by refine xs_cons ?_ ?_;exact (xs_ret (xand (xisN (xv 2)) (xone (xisN (xv 3)))));exact xs_nil) xs_nil);exact (by refine xs_cons ?_ ?_;exact (xs_if (PW.pt (xw_or (xt_not (xt (xcall (h__law_whole.mono (by omega)) hr (xa_cons (xv 2) xa_nil)))) (xw_or1 (xt_not (xt (xcall (h__law_whole.mono (by omega)) hr (xa_cons (xv 3) xa_nil))))))) (by refine xs_cons ?_ ?_;exact (xs_ret xbl);exact xs_nil) xs_nil);exact (by refine xs_cons ?_ ?_;exact (xs_if (xt_cmp (od_notinD hr.units) (xtup (xa_cons (xv 3) (xa_cons (xv 2) xa_nil))) (xv 0) (by rfl)) (by refine xs_cons ?_ ?_;exact (xs_ret xbl);exact xs_nil) xs_nil);exact (by refine xs_cons ?_ ?_;exact (xs_setC 4 nd (by refine xcompL (N':=["_law_pair","_law_answer","_law_source"]) (k:=1) (ix:=[3,2]) (cnames _ ["_law_free","_law_question","_law_source","_law_answer","_law_less"] ?_) ?_ fun _ _ _ _ _=>⟨?_,?_,?_⟩;exact (by first | decide +kernel | (change cnOk (defScope s__law_meets) _ _ _ _ _=true;decide +kernel));exact (xvS 0);exact (xg_name 0 (show (["_law_pair","_law_answer","_law_source"]:List Str).Nodup from by decide +kernel));exact (pcs_one (xt_cmp (od_ltP hr.units) (xv 0) (xtup (xa_cons (xv 1) (xa_cons (xv 2) xa_nil))) (nomark _)));exact (xvS 0)));exact (by refine xs_cons ?_ ?_;exact (xs_ret (xcmp (od_eq hr.units) (xb cd_len z_len (xa_cons (xv 4) xa_nil)) (xcall (h__law_on.mono (by omega)) hr (xa_cons (xv 1) xa_nil)) (nomark _)));exact xs_nil))))))
theorem sc_Bag__put_asked:FnScope ["self","knots","deed","left","place"] ["self","knots","deed"] (defScope s_Bag__put_asked):=⟨rfl,rfl,rfl,by decide +kernel,rfl,by decide +kernel,by decide +kernel⟩
theorem df_Bag__put_asked {f_Bag__put_asked:Addr} {fd_Bag__put_asked:FuncData} (S_Bag__put_asked:Fun K "put_asked" "Bag.put_asked" s_Bag__put_asked f_Bag__put_asked fd_Bag__put_asked) (z_len:mg "len" = none) (h_numbers_ahead:Df P w K mg base "numbers_ahead" 1 ["deed"] false (m_numbers_ahead)) (h_row_total:Df P w K mg base "row_total" 3 ["kind","knots"] false (m_row_total)):FnOk P w K mg base CX0 4 f_Bag__put_asked fd_Bag__put_asked ["self","knots","deed"] (spD K false 3 m_Bag__put_asked):=fn_ofM S_Bag__put_asked sc_Bag__put_asked (by decide) fun f cdv A outer s H E hr=>by
 have nd:=sc_Bag__put_asked.nd
 exact (by refine xs_cons ?_ ?_;exact (xs_set 3 nd (xix (xcall (h_row_total.mono (by omega)) hr (xa_cons (xvS 0) (xa_cons (xvS 1) xa_nil))) xint));exact (by refine xs_cons ?_ ?_;exact (xs_set 4 nd (xcall (h_numbers_ahead.mono (by omega)) hr (xa_cons (xvS 2) xa_nil)));exact (by refine xs_cons ?_ ?_;exact (xs_ret (xife (xt_cmp od_lt (xv 4) (xb cd_len z_len (xa_cons (xv 3) xa_nil)) (nomark _)) (xix (xv 3) (xv 4)) (xtup (xa_cons xnon (xa_cons xnon xa_nil)))));exact xs_nil)))
theorem sc_Bag__answer:FnScope ["self","knots","deed"] ["self","knots","deed"] (defScope s_Bag__answer):=⟨rfl,rfl,rfl,by decide +kernel,rfl,by decide +kernel,by decide +kernel⟩
theorem df_Bag__answer {f_Bag__answer:Addr} {fd_Bag__answer:FuncData} (S_Bag__answer:Fun K "answer" "Bag.answer" s_Bag__answer f_Bag__answer fd_Bag__answer) (z_len:mg "len" = none) (h_row_total:Df P w K mg base "row_total" 3 ["kind","knots"] false (m_row_total)) (hm_Bag_put_asked:MDf P w K mg base "Bag" "put_asked" 4 ["self","knots","deed"] false (m_Bag__put_asked)):FnOk P w K mg base CX0 5 f_Bag__answer fd_Bag__answer ["self","knots","deed"] (spD K false 3 m_Bag__answer):=fn_ofM S_Bag__answer sc_Bag__answer (by decide) fun f cdv A outer s H E hr=>by
 have nd:=sc_Bag__answer.nd
 exact (by refine xs_cons ?_ ?_;exact (xs_if (xt_cmp (od_eq hr.units) (xix (xv 2) xint) xstr (nomark _)) (by refine xs_cons ?_ ?_;exact (xs_ret (xb cd_len z_len (xa_cons (xix (xcall (h_row_total.mono (by omega)) hr (xa_cons (xv 0) (xa_cons (xv 1) xa_nil))) xint) xa_nil)));exact xs_nil) xs_nil);exact (by refine xs_cons ?_ ?_;exact (xs_ret (xix (xmeth (MAll.cons (hm_Bag_put_asked.mono (by omega)) rfl MAll.nil) hr (xv 0) (xa_cons (xv 1) (xa_cons (xv 2) xa_nil))) xint));exact xs_nil))
theorem sc_Bag__source:FnScope ["self","knots","deed"] ["self","knots","deed"] (defScope s_Bag__source):=⟨rfl,rfl,rfl,by decide +kernel,rfl,by decide +kernel,by decide +kernel⟩
theorem df_Bag__source {f_Bag__source:Addr} {fd_Bag__source:FuncData} (S_Bag__source:Fun K "source" "Bag.source" s_Bag__source f_Bag__source fd_Bag__source) (hm_Bag_put_asked:MDf P w K mg base "Bag" "put_asked" 4 ["self","knots","deed"] false (m_Bag__put_asked)):FnOk P w K mg base CX0 5 f_Bag__source fd_Bag__source ["self","knots","deed"] (spD K false 3 m_Bag__source):=fn_ofM S_Bag__source sc_Bag__source (by decide) fun f cdv A outer s H E hr=>by
 have nd:=sc_Bag__source.nd
 exact (by refine xs_cons ?_ ?_;exact (xs_if (xt_cmp (od_eq hr.units) (xix (xv 2) xint) xstr (nomark _)) (by refine xs_cons ?_ ?_;exact (xs_ret xnon);exact xs_nil) xs_nil);exact (by refine xs_cons ?_ ?_;exact (xs_ret (xix (xmeth (MAll.cons (hm_Bag_put_asked.mono (by omega)) rfl MAll.nil) hr (xv 0) (xa_cons (xv 1) (xa_cons (xv 2) xa_nil))) xint));exact xs_nil))
theorem sc_Kind__answer:FnScope ["self","knots","deed"] ["self","knots","deed"] (defScope s_Kind__answer):=⟨rfl,rfl,rfl,by decide +kernel,rfl,by decide +kernel,by decide +kernel⟩
theorem df_Kind__answer {f_Kind__answer:Addr} {fd_Kind__answer:FuncData} (S_Kind__answer:Fun K "answer" "Kind.answer" s_Kind__answer f_Kind__answer fd_Kind__answer):FnOk P w K mg base CX0 1 f_Kind__answer fd_Kind__answer ["self","knots","deed"] (spD K false 3 m_Kind__answer):=fn_ofM S_Kind__answer sc_Kind__answer (by decide) fun f cdv A outer s H E hr=>by
 have nd:=sc_Kind__answer.nd
 exact (by refine xs_cons ?_ ?_;exact (xs_ret xnon);exact xs_nil)
theorem sc_Kind__source:FnScope ["self","knots","deed"] ["self","knots","deed"] (defScope s_Kind__source):=⟨rfl,rfl,rfl,by decide +kernel,rfl,by decide +kernel,by decide +kernel⟩
theorem df_Kind__source {f_Kind__source:Addr} {fd_Kind__source:FuncData} (S_Kind__source:Fun K "source" "Kind.source" s_Kind__source f_Kind__source fd_Kind__source):FnOk P w K mg base CX0 1 f_Kind__source fd_Kind__source ["self","knots","deed"] (spD K false 3 m_Kind__source):=fn_ofM S_Kind__source sc_Kind__source (by decide) fun f cdv A outer s H E hr=>by
 have nd:=sc_Kind__source.nd
 exact (by refine xs_cons ?_ ?_;exact (xs_ret xnon);exact xs_nil)
theorem sc_law:FnScope ["_law_script","_law_kind","_law_row_here","_law_tree_here","_law_gone","_law_k","_law_at","_law_deed_here","_law_question","_law_handed","_law_stay","_law_source","_law_answer","_law_free"] ["_law_script"] (defScope s_law):=⟨rfl,rfl,rfl,by decide +kernel,rfl,by decide +kernel,by decide +kernel⟩
theorem fn_law {T:Addr} {f:Addr} {fd:FuncData} (S_law:Fun K "law" "law" s_law f fd) (z_len:mg "len" = none) (z_list:mg "list" = none) (z_range:mg "range" = none) {C_Bag:Addr} (k_Bag:Mk0 K C_Bag/\PySem.W.nsIn K mainGlobals "Bag" = some (some (.ref C_Bag))/\mg "Bag" = some (.ref C_Bag)) (h__law_meets:Df P w K mg base "_law_meets" 2 ["_law_free","_law_question","_law_source","_law_answer"] false (m__law_meets)) (h__law_row:Df P w K mg base "_law_row" 3 ["_law_script"] false (m__law_row)) (h__law_tree:DfL P w K mg base (lamP T) "_law_tree" 70 ["_law_kind","_law_row_here","_law_script"] m__law_tree) (h_ahead:Df P w K mg base "ahead" 6 ["tree","end"] true (m_ahead)) (hm_Bag_answer:MDf P w K mg base "Bag" "answer" 5 ["self","knots","deed"] false (m_Bag__answer)) (hm_Bag_source:MDf P w K mg base "Bag" "source" 5 ["self","knots","deed"] false (m_Bag__source)) (hm_Kind_answer:MDf P w K mg base "Kind" "answer" 1 ["self","knots","deed"] false (m_Kind__answer)) (hm_Kind_source:MDf P w K mg base "Kind" "source" 1 ["self","knots","deed"] false (m_Kind__source)):FnOk P w K mg base CX0 71 f fd ["_law_script"] (spL K (lamP T) 1 m_law):=fn_ofL S_law sc_law (by decide) fun f cdv A outer s H E hr=>by
 have nd:=sc_law.nd
 exact (by refine xl_cons ?_ ?_;exact (by refine xl_of ?_;exact (xs_set 1 nd (xmake0 k_Bag.1 k_Bag.2.1 k_Bag.2.2)));exact (by refine xl_cons ?_ ?_;exact (by refine xl_of ?_;exact (xs_set 2 nd (toS (xsl (xcall (h__law_row.mono (by omega)) hr (xa_cons (xvS 0) xa_nil)) po_none' (po_some' xint)))));exact (by refine xl_cons ?_ ?_;exact (xl_set 3 (h__law_tree.mono (by omega)) hr nd (xa_cons (xv 1) (xa_cons (xv 2) (xa_cons (xv 0) xa_nil))));exact (by refine xls_of ?_;exact (by refine xs_cons ?_ ?_;exact (xs_own 4 nd xdnew);exact (by refine xs_cons ?_ ?_;exact (xs_rng1 PassesOwn.never rfl z_range (xa_cons (xb cd_len z_len (xa_cons (xv 2) xa_nil)) xa_nil) (xg_name 5 nd) (by refine xs_cons ?_ ?_;exact (xs_asg (xix (xvS 2) (xv 5)) (xg_2 6 7 nd));exact (by refine xs_cons ?_ ?_;exact (xs_set 8 nd (xvS 7));exact (by refine xs_cons ?_ ?_;exact (xs_if (xt_cmp (od_eq hr.units) (xix (xv 7) xint) xstr (nomark _)) (by refine xs_cons ?_ ?_;exact (xs_set 8 nd (xtup (xa_cons xstr (xa_cons (xop od_mod (xv 5) xint) xa_nil))));exact xs_nil) xs_nil);exact (by refine xs_cons ?_ ?_;exact (xs_set 9 nd (toS (xcallF (h_ahead.mono (by omega)) hr (xa_cons (xvS 3) (xa_cons (xvS 6) xa_nil)))));exact (by refine xs_cons ?_ ?_;exact (xs_set 10 nd (toS (xlistOf z_list (xvS 9))));exact (by refine xs_cons ?_ ?_;exact (xs_set 11 nd (xmeth (MAll.cons (hm_Kind_source.mono (by omega)) rfl (MAll.cons (hm_Bag_source.mono (by omega)) rfl MAll.nil)) hr (xvS 1) (xa_cons (xvS 9) (xa_cons (xvS 8) xa_nil))));exact (by refine xs_cons ?_ ?_;exact (xs_set 12 nd (xmeth (MAll.cons (hm_Kind_answer.mono (by omega)) rfl (MAll.cons (hm_Bag_answer.mono (by omega)) rfl MAll.nil)) hr (xvS 1) (xa_cons (xvS 9) (xa_cons (xvS 8) xa_nil))));exact (by refine xs_cons ?_ ?_;exact (xs_setC 13 nd (by refine xcompN (N':=["_law_one","_law_gone"]) (ix:=[4]) (cnames _ ["_law_script","_law_kind","_law_row_here","_law_tree_here","_law_gone","_law_k","_law_at","_law_deed_here","_law_question","_law_handed","_law_stay","_law_source","_law_answer","_law_free"] ?_) ?_ fun _ _ _ _ _=>⟨?_,?_,?_⟩;exact (by first | decide +kernel | (change cnOk (defScope s_law) _ _ _ _ _=true;decide +kernel));exact (toS (xsl (xvS 2) po_none' (po_some' (xv 5))));exact (xg0 (show (["_law_one","_law_gone"]:List Str).Nodup from by decide +kernel));exact (pcs_one (PW.pt (xw_and (xt_cmp (od_eq hr.units) (xix (xix (xv 0) xint) xint) xstr (nomark _)) (xw_and1 (xt_cmp (od_dnotin hr.units) (xix (xv 0) xint) (xv 1) (by rfl))))));exact (xtup (xa_cons (xix (xix (xvS 0) xint) xint) (xa_cons (xix (xvS 0) xint) xa_nil)))));exact (by refine xs_cons ?_ ?_;exact (xs_if (PW.pt (xw_or (xt_not (xt (xcall (h__law_meets.mono (by omega)) hr (xa_cons (xv 13) (xa_cons (xv 8) (xa_cons (xv 11) (xa_cons (xv 12) xa_nil))))))) (xw_or1 (xt_cmp (od_ne hr.units) (xv 9) (xv 10) (nomark _))))) (by refine xs_cons ?_ ?_;exact (xs_ret xbl);exact xs_nil) xs_nil);exact (by refine xs_cons ?_ ?_;exact (xs_if (PW.pt (xw_and (xt_cmp (od_eq hr.units) (xix (xv 7) xint) xstr (nomark _)) (xw_and1 (xt_notN (xv 11))))) (by refine xs_cons ?_ ?_;exact (xs_dput 4 hr.units (xv 11) xbl);exact xs_nil) xs_nil);exact xs_nil)))))))))));exact (by refine xs_cons ?_ ?_;exact (xs_thaw 4 (xs_ret xbl));exact xs_nil)))))))
end
theorem all_mk {l:PySem.W.OpenLaw} {w:World} {K:PySem.W.Frag} {h:Heap} {mg:Str->Option Value} {fa:Addr} (X:K.In h) (G:h.Ns mainGlobals mg) (hfa:mg "law" = some (.ref fa)) {cL T:Addr} (htab:PySem.W.tabIn K "_law_order" = some (cL,T)) {f0:Addr} {od0 an0:Option Addr} {sl0:Array (Option Value)} {oc0 kV0 dc0 pm0 cd0 ct0:Value} {f1:Addr} {od1 an1:Option Addr} {sl1:Array (Option Value)} {oc1 kV1 dc1 pm1 cd1 ct1:Value} {f2:Addr} {od2 an2:Option Addr} {sl2:Array (Option Value)} {oc2 kV2 dc2 pm2 cd2 ct2:Value} {f3:Addr} {od3 an3:Option Addr} {sl3:Array (Option Value)} {oc3 kV3 dc3 pm3 cd3 ct3:Value} {f4:Addr} {od4 an4:Option Addr} {sl4:Array (Option Value)} {oc4 kV4 dc4 pm4 cd4 ct4:Value} {f5:Addr} {od5 an5:Option Addr} {sl5:Array (Option Value)} {oc5 kV5 dc5 pm5 cd5 ct5:Value} {f6:Addr} {od6 an6:Option Addr} {sl6:Array (Option Value)} {oc6 kV6 dc6 pm6 cd6 ct6:Value} {f7:Addr} {od7 an7:Option Addr} {sl7:Array (Option Value)} {oc7 kV7 dc7 pm7 cd7 ct7:Value} {f8:Addr} {od8 an8:Option Addr} {sl8:Array (Option Value)} {oc8 kV8 dc8 pm8 cd8 ct8:Value} {f9:Addr} {od9 an9:Option Addr} {sl9:Array (Option Value)} {oc9 kV9 dc9 pm9 cd9 ct9:Value} {f10:Addr} {od10 an10:Option Addr} {sl10:Array (Option Value)} {oc10 kV10 dc10 pm10 cd10 ct10:Value} {f11:Addr} {od11 an11:Option Addr} {sl11:Array (Option Value)} {oc11 kV11 dc11 pm11 cd11 ct11:Value} {f12:Addr} {od12 an12:Option Addr} {sl12:Array (Option Value)} {oc12 kV12 dc12 pm12 cd12 ct12:Value} {f13:Addr} {od13 an13:Option Addr} {sl13:Array (Option Value)} {oc13 kV13 dc13 pm13 cd13 ct13:Value} {f14:Addr} {od14 an14:Option Addr} {sl14:Array (Option Value)} {oc14 kV14 dc14 pm14 cd14 ct14:Value} {f15:Addr} {od15 an15:Option Addr} {sl15:Array (Option Value)} {oc15 kV15 dc15 pm15 cd15 ct15:Value} {f16:Addr} {od16 an16:Option Addr} {sl16:Array (Option Value)} {oc16 kV16 dc16 pm16 cd16 ct16:Value} {f17:Addr} {od17 an17:Option Addr} {sl17:Array (Option Value)} {oc17 kV17 dc17 pm17 cd17 ct17:Value} {f18:Addr} {od18 an18:Option Addr} {sl18:Array (Option Value)} {oc18 kV18 dc18 pm18 cd18 ct18:Value} {f19:Addr} {od19 an19:Option Addr} {sl19:Array (Option Value)} {oc19 kV19 dc19 pm19 cd19 ct19:Value} {f20:Addr} {od20 an20:Option Addr} {sl20:Array (Option Value)} {oc20 kV20 dc20 pm20 cd20 ct20:Value} {f21:Addr} {od21 an21:Option Addr} {sl21:Array (Option Value)} {oc21 kV21 dc21 pm21 cd21 ct21:Value} {f22:Addr} {od22 an22:Option Addr} {sl22:Array (Option Value)} {oc22 kV22 dc22 pm22 cd22 ct22:Value} {f23:Addr} {od23 an23:Option Addr} {sl23:Array (Option Value)} {oc23 kV23 dc23 pm23 cd23 ct23:Value} {f24:Addr} {od24 an24:Option Addr} {sl24:Array (Option Value)} {oc24 kV24 dc24 pm24 cd24 ct24:Value} {f25:Addr} {od25 an25:Option Addr} {sl25:Array (Option Value)} {oc25 kV25 dc25 pm25 cd25 ct25:Value} {f26:Addr} {od26 an26:Option Addr} {sl26:Array (Option Value)} {oc26 kV26 dc26 pm26 cd26 ct26:Value} {f27:Addr} {od27 an27:Option Addr} {sl27:Array (Option Value)} {oc27 kV27 dc27 pm27 cd27 ct27:Value} {f28:Addr} {od28 an28:Option Addr} {sl28:Array (Option Value)} {oc28 kV28 dc28 pm28 cd28 ct28:Value} {f29:Addr} {od29 an29:Option Addr} {sl29:Array (Option Value)} {oc29 kV29 dc29 pm29 cd29 ct29:Value} {f30:Addr} {od30 an30:Option Addr} {sl30:Array (Option Value)} {oc30 kV30 dc30 pm30 cd30 ct30:Value} {f31:Addr} {od31 an31:Option Addr} {sl31:Array (Option Value)} {oc31 kV31 dc31 pm31 cd31 ct31:Value} {f32:Addr} {od32 an32:Option Addr} {sl32:Array (Option Value)} {oc32 kV32 dc32 pm32 cd32 ct32:Value} {f33:Addr} {od33 an33:Option Addr} {sl33:Array (Option Value)} {oc33 kV33 dc33 pm33 cd33 ct33:Value} {f34:Addr} {od34 an34:Option Addr} {sl34:Array (Option Value)} {oc34 kV34 dc34 pm34 cd34 ct34:Value} {f35:Addr} {od35 an35:Option Addr} {sl35:Array (Option Value)} {oc35 kV35 dc35 pm35 cd35 ct35:Value} {f36:Addr} {od36 an36:Option Addr} {sl36:Array (Option Value)} {oc36 kV36 dc36 pm36 cd36 ct36:Value} {f37:Addr} {od37 an37:Option Addr} {sl37:Array (Option Value)} {oc37 kV37 dc37 pm37 cd37 ct37:Value} {f38:Addr} {od38 an38:Option Addr} {sl38:Array (Option Value)} {oc38 kV38 dc38 pm38 cd38 ct38:Value} {f39:Addr} {od39 an39:Option Addr} {sl39:Array (Option Value)} {oc39 kV39 dc39 pm39 cd39 ct39:Value} {f40:Addr} {od40 an40:Option Addr} {sl40:Array (Option Value)} {oc40 kV40 dc40 pm40 cd40 ct40:Value} {f41:Addr} {od41 an41:Option Addr} {sl41:Array (Option Value)} {oc41 kV41 dc41 pm41 cd41 ct41:Value} {C_Bag:Addr} {C_Kind:Addr} {u_ALL_TIMES:Value} (aC_Bag:PySem.W.nsIn K mainGlobals "Bag" = some (some (.ref C_Bag))) (aC_Kind:PySem.W.nsIn K mainGlobals "Kind" = some (some (.ref C_Kind))) (a0:PySem.W.nsIn K mainGlobals "last_time" = some (some (.ref f0))) (l0:K.lookup f0=some ⟨oc0,od0,.func (PySem.W.fnOf "last_time" "last_time" (defArgs s_last_time) (defBody s_last_time) (defScope s_last_time) .none kV0 dc0 pm0 an0 cd0 ct0),sl0⟩) (c0:PySem.W.codeIn K cd0 "last_time" = true) (k0:PySem.W.keepIn K (.ref f0)=true) (a1:PySem.W.nsIn K mainGlobals "holds" = some (some (.ref f1))) (l1:K.lookup f1=some ⟨oc1,od1,.func (PySem.W.fnOf "holds" "holds" (defArgs s_holds) (defBody s_holds) (defScope s_holds) .none kV1 dc1 pm1 an1 cd1 ct1),sl1⟩) (c1:PySem.W.codeIn K cd1 "holds" = true) (k1:PySem.W.keepIn K (.ref f1)=true) (a2:PySem.W.nsIn K mainGlobals "within" = some (some (.ref f2))) (l2:K.lookup f2=some ⟨oc2,od2,.func (PySem.W.fnOf "within" "within" (defArgs s_within) (defBody s_within) (defScope s_within) .none kV2 dc2 pm2 an2 cd2 ct2),sl2⟩) (c2:PySem.W.codeIn K cd2 "within" = true) (k2:PySem.W.keepIn K (.ref f2)=true) (a3:PySem.W.nsIn K mainGlobals "halves" = some (some (.ref f3))) (l3:K.lookup f3=some ⟨oc3,od3,.func (PySem.W.fnOf "halves" "halves" (defArgs s_halves) (defBody s_halves) (defScope s_halves) .none kV3 dc3 pm3 an3 cd3 ct3),sl3⟩) (c3:PySem.W.codeIn K cd3 "halves" = true) (k3:PySem.W.keepIn K (.ref f3)=true) (a4:PySem.W.nsIn K mainGlobals "least" = some (some (.ref f4))) (l4:K.lookup f4=some ⟨oc4,od4,.func (PySem.W.fnOf "least" "least" (defArgs s_least) (defBody s_least) (defScope s_least) .none kV4 dc4 pm4 an4 cd4 ct4),sl4⟩) (c4:PySem.W.codeIn K cd4 "least" = true) (k4:PySem.W.keepIn K (.ref f4)=true) (a5:PySem.W.nsIn K mainGlobals "cover" = some (some (.ref f5))) (l5:K.lookup f5=some ⟨oc5,od5,.func (PySem.W.fnOf "cover" "cover" (defArgs s_cover) (defBody s_cover) (defScope s_cover) .none kV5 dc5 pm5 an5 cd5 ct5),sl5⟩) (c5:PySem.W.codeIn K cd5 "cover" = true) (k5:PySem.W.keepIn K (.ref f5)=true) (a6:PySem.W.nsIn K mainGlobals "stretch_of" = some (some (.ref f6))) (l6:K.lookup f6=some ⟨oc6,od6,.func (PySem.W.fnOf "stretch_of" "stretch_of" (defArgs s_stretch_of) (defBody s_stretch_of) (defScope s_stretch_of) .none kV6 dc6 pm6 an6 cd6 ct6),sl6⟩) (c6:PySem.W.codeIn K cd6 "stretch_of" = true) (k6:PySem.W.keepIn K (.ref f6)=true) (a7:PySem.W.nsIn K mainGlobals "total_of" = some (some (.ref f7))) (l7:K.lookup f7=some ⟨oc7,od7,.func (PySem.W.fnOf "total_of" "total_of" (defArgs s_total_of) (defBody s_total_of) (defScope s_total_of) .none kV7 dc7 pm7 an7 cd7 ct7),sl7⟩) (c7:PySem.W.codeIn K cd7 "total_of" = true) (k7:PySem.W.keepIn K (.ref f7)=true) (a8:PySem.W.nsIn K mainGlobals "is_leaf" = some (some (.ref f8))) (l8:K.lookup f8=some ⟨oc8,od8,.func (PySem.W.fnOf "is_leaf" "is_leaf" (defArgs s_is_leaf) (defBody s_is_leaf) (defScope s_is_leaf) .none kV8 dc8 pm8 an8 cd8 ct8),sl8⟩) (c8:PySem.W.codeIn K cd8 "is_leaf" = true) (k8:PySem.W.keepIn K (.ref f8)=true) (a9:PySem.W.nsIn K mainGlobals "joined_lack" = some (some (.ref f9))) (l9:K.lookup f9=some ⟨oc9,od9,.func (PySem.W.fnOf "joined_lack" "joined_lack" (defArgs s_joined_lack) (defBody s_joined_lack) (defScope s_joined_lack) .none kV9 dc9 pm9 an9 cd9 ct9),sl9⟩) (c9:PySem.W.codeIn K cd9 "joined_lack" = true) (k9:PySem.W.keepIn K (.ref f9)=true) (a10:PySem.W.findIn K (.ref C_Bag) "joined" = some (some (.ref f10))) (l10:K.lookup f10=some ⟨oc10,od10,.func (PySem.W.fnOf "joined" "Bag.joined" (defArgs s_Bag__joined) (defBody s_Bag__joined) (defScope s_Bag__joined) .none kV10 dc10 pm10 an10 cd10 ct10),sl10⟩) (c10:PySem.W.codeIn K cd10 "Bag.joined" = true) (k10:PySem.W.keepIn K (.ref f10)=true) (i10:PySem.W.isFn K (.ref f10)=true) (a11:PySem.W.findIn K (.ref C_Bag) "nothing" = some (some (.ref f11))) (l11:K.lookup f11=some ⟨oc11,od11,.func (PySem.W.fnOf "nothing" "Bag.nothing" (defArgs s_Bag__nothing) (defBody s_Bag__nothing) (defScope s_Bag__nothing) .none kV11 dc11 pm11 an11 cd11 ct11),sl11⟩) (c11:PySem.W.codeIn K cd11 "Bag.nothing" = true) (k11:PySem.W.keepIn K (.ref f11)=true) (i11:PySem.W.isFn K (.ref f11)=true) (a12:PySem.W.findIn K (.ref C_Kind) "joined" = some (some (.ref f12))) (l12:K.lookup f12=some ⟨oc12,od12,.func (PySem.W.fnOf "joined" "Kind.joined" (defArgs s_Kind__joined) (defBody s_Kind__joined) (defScope s_Kind__joined) .none kV12 dc12 pm12 an12 cd12 ct12),sl12⟩) (c12:PySem.W.codeIn K cd12 "Kind.joined" = true) (k12:PySem.W.keepIn K (.ref f12)=true) (i12:PySem.W.isFn K (.ref f12)=true) (a13:PySem.W.findIn K (.ref C_Kind) "nothing" = some (some (.ref f13))) (l13:K.lookup f13=some ⟨oc13,od13,.func (PySem.W.fnOf "nothing" "Kind.nothing" (defArgs s_Kind__nothing) (defBody s_Kind__nothing) (defScope s_Kind__nothing) .none kV13 dc13 pm13 an13 cd13 ct13),sl13⟩) (c13:PySem.W.codeIn K cd13 "Kind.nothing" = true) (k13:PySem.W.keepIn K (.ref f13)=true) (i13:PySem.W.isFn K (.ref f13)=true) (a14:PySem.W.nsIn K mainGlobals "row_total" = some (some (.ref f14))) (l14:K.lookup f14=some ⟨oc14,od14,.func (PySem.W.fnOf "row_total" "row_total" (defArgs s_row_total) (defBody s_row_total) (defScope s_row_total) .none kV14 dc14 pm14 an14 cd14 ct14),sl14⟩) (c14:PySem.W.codeIn K cd14 "row_total" = true) (k14:PySem.W.keepIn K (.ref f14)=true) (a15:PySem.W.findIn K (.ref C_Bag) "lone" = some (some (.ref f15))) (l15:K.lookup f15=some ⟨oc15,od15,.func (PySem.W.fnOf "lone" "Bag.lone" (defArgs s_Bag__lone) (defBody s_Bag__lone) (defScope s_Bag__lone) .none kV15 dc15 pm15 an15 cd15 ct15),sl15⟩) (c15:PySem.W.codeIn K cd15 "Bag.lone" = true) (k15:PySem.W.keepIn K (.ref f15)=true) (i15:PySem.W.isFn K (.ref f15)=true) (a16:PySem.W.findIn K (.ref C_Kind) "lone" = some (some (.ref f16))) (l16:K.lookup f16=some ⟨oc16,od16,.func (PySem.W.fnOf "lone" "Kind.lone" (defArgs s_Kind__lone) (defBody s_Kind__lone) (defScope s_Kind__lone) .none kV16 dc16 pm16 an16 cd16 ct16),sl16⟩) (c16:PySem.W.codeIn K cd16 "Kind.lone" = true) (k16:PySem.W.keepIn K (.ref f16)=true) (i16:PySem.W.isFn K (.ref f16)=true) (a17:PySem.W.nsIn K mainGlobals "leaf" = some (some (.ref f17))) (l17:K.lookup f17=some ⟨oc17,od17,.func (PySem.W.fnOf "leaf" "leaf" (defArgs s_leaf) (defBody s_leaf) (defScope s_leaf) .none kV17 dc17 pm17 an17 cd17 ct17),sl17⟩) (c17:PySem.W.codeIn K cd17 "leaf" = true) (k17:PySem.W.keepIn K (.ref f17)=true) (a18:PySem.W.nsIn K mainGlobals "knot" = some (some (.ref f18))) (l18:K.lookup f18=some ⟨oc18,od18,.func (PySem.W.fnOf "knot" "knot" (defArgs s_knot) (defBody s_knot) (defScope s_knot) .none kV18 dc18 pm18 an18 cd18 ct18),sl18⟩) (c18:PySem.W.codeIn K cd18 "knot" = true) (k18:PySem.W.keepIn K (.ref f18)=true) (a19:PySem.W.nsIn K mainGlobals "beside" = some (some (.ref f19))) (l19:K.lookup f19=some ⟨oc19,od19,.func (PySem.W.fnOf "beside" "beside" (defArgs s_beside) (defBody s_beside) (defScope s_beside) .none kV19 dc19 pm19 an19 cd19 ct19),sl19⟩) (c19:PySem.W.codeIn K cd19 "beside" = true) (k19:PySem.W.keepIn K (.ref f19)=true) (a20:PySem.W.nsIn K mainGlobals "is_early" = some (some (.ref f20))) (l20:K.lookup f20=some ⟨oc20,od20,.func (PySem.W.fnOf "is_early" "is_early" (defArgs s_is_early) (defBody s_is_early) (defScope s_is_early) .none kV20 dc20 pm20 an20 cd20 ct20),sl20⟩) (c20:PySem.W.codeIn K cd20 "is_early" = true) (k20:PySem.W.keepIn K (.ref f20)=true) (a21:PySem.W.nsIn K mainGlobals "put_in" = some (some (.ref f21))) (l21:K.lookup f21=some ⟨oc21,od21,.func (PySem.W.fnOf "put_in" "put_in" (defArgs s_put_in) (defBody s_put_in) (defScope s_put_in) .none kV21 dc21 pm21 an21 cd21 ct21),sl21⟩) (c21:PySem.W.codeIn K cd21 "put_in" = true) (k21:PySem.W.keepIn K (.ref f21)=true) (a22:PySem.W.nsIn K mainGlobals "numbers_ahead" = some (some (.ref f22))) (l22:K.lookup f22=some ⟨oc22,od22,.func (PySem.W.fnOf "numbers_ahead" "numbers_ahead" (defArgs s_numbers_ahead) (defBody s_numbers_ahead) (defScope s_numbers_ahead) .none kV22 dc22 pm22 an22 cd22 ct22),sl22⟩) (c22:PySem.W.codeIn K cd22 "numbers_ahead" = true) (k22:PySem.W.keepIn K (.ref f22)=true) (a23:PySem.W.nsIn K mainGlobals "one_step_down" = some (some (.ref f23))) (l23:K.lookup f23=some ⟨oc23,od23,.func (PySem.W.fnOf "one_step_down" "one_step_down" (defArgs s_one_step_down) (defBody s_one_step_down) (defScope s_one_step_down) .none kV23 dc23 pm23 an23 cd23 ct23),sl23⟩) (c23:PySem.W.codeIn K cd23 "one_step_down" = true) (k23:PySem.W.keepIn K (.ref f23)=true) (a24:PySem.W.nsIn K mainGlobals "inside" = some (some (.ref f24))) (l24:K.lookup f24=some ⟨oc24,od24,.func (PySem.W.fnOf "inside" "inside" (defArgs s_inside) (defBody s_inside) (defScope s_inside) .none kV24 dc24 pm24 an24 cd24 ct24),sl24⟩) (c24:PySem.W.codeIn K cd24 "inside" = true) (k24:PySem.W.keepIn K (.ref f24)=true) (a25:PySem.W.nsIn K mainGlobals "ahead" = some (some (.ref f25))) (l25:K.lookup f25=some ⟨oc25,od25,.func (PySem.W.fnOf "ahead" "ahead" (defArgs s_ahead) (defBody s_ahead) (defScope s_ahead) .none kV25 dc25 pm25 an25 cd25 ct25),sl25⟩) (c25:PySem.W.codeIn K cd25 "ahead" = true) (k25:PySem.W.keepIn K (.ref f25)=true) (a26:PySem.W.nsIn K mainGlobals "_law_cell_at" = some (some (.ref f26))) (l26:K.lookup f26=some ⟨oc26,od26,.func (PySem.W.fnOf "_law_cell_at" "_law_cell_at" (defArgs s__law_cell_at) (defBody s__law_cell_at) (defScope s__law_cell_at) .none kV26 dc26 pm26 an26 cd26 ct26),sl26⟩) (c26:PySem.W.codeIn K cd26 "_law_cell_at" = true) (k26:PySem.W.keepIn K (.ref f26)=true) (a27:PySem.W.nsIn K mainGlobals "_law_whole" = some (some (.ref f27))) (l27:K.lookup f27=some ⟨oc27,od27,.func (PySem.W.fnOf "_law_whole" "_law_whole" (defArgs s__law_whole) (defBody s__law_whole) (defScope s__law_whole) .none kV27 dc27 pm27 an27 cd27 ct27),sl27⟩) (c27:PySem.W.codeIn K cd27 "_law_whole" = true) (k27:PySem.W.keepIn K (.ref f27)=true) (a28:PySem.W.nsIn K mainGlobals "_law_number" = some (some (.ref f28))) (l28:K.lookup f28=some ⟨oc28,od28,.func (PySem.W.fnOf "_law_number" "_law_number" (defArgs s__law_number) (defBody s__law_number) (defScope s__law_number) .none kV28 dc28 pm28 an28 cd28 ct28),sl28⟩) (c28:PySem.W.codeIn K cd28 "_law_number" = true) (k28:PySem.W.keepIn K (.ref f28)=true) (a29:PySem.W.nsIn K mainGlobals "_law_deed" = some (some (.ref f29))) (l29:K.lookup f29=some ⟨oc29,od29,.func (PySem.W.fnOf "_law_deed" "_law_deed" (defArgs s__law_deed) (defBody s__law_deed) (defScope s__law_deed) .none kV29 dc29 pm29 an29 cd29 ct29),sl29⟩) (c29:PySem.W.codeIn K cd29 "_law_deed" = true) (k29:PySem.W.keepIn K (.ref f29)=true) (a30:PySem.W.nsIn K mainGlobals "_law_times" = some (some (.ref f30))) (l30:K.lookup f30=some ⟨oc30,od30,.func (PySem.W.fnOf "_law_times" "_law_times" (defArgs s__law_times) (defBody s__law_times) (defScope s__law_times) .none kV30 dc30 pm30 an30 cd30 ct30),sl30⟩) (c30:PySem.W.codeIn K cd30 "_law_times" = true) (k30:PySem.W.keepIn K (.ref f30)=true) (a31:PySem.W.nsIn K mainGlobals "_law_row" = some (some (.ref f31))) (l31:K.lookup f31=some ⟨oc31,od31,.func (PySem.W.fnOf "_law_row" "_law_row" (defArgs s__law_row) (defBody s__law_row) (defScope s__law_row) .none kV31 dc31 pm31 an31 cd31 ct31),sl31⟩) (c31:PySem.W.codeIn K cd31 "_law_row" = true) (k31:PySem.W.keepIn K (.ref f31)=true) (a32:PySem.W.nsIn K mainGlobals "_law_order" = some (some (.ref f32))) (l32:K.lookup f32=some ⟨oc32,od32,.func (PySem.W.fnOf "_law_order" "_law_order" (defArgs s__law_order) (defBody s__law_order) (defScope s__law_order) .none kV32 dc32 pm32 an32 cd32 ct32),sl32⟩) (c32:PySem.W.codeIn K cd32 "_law_order" = true) (k32:PySem.W.keepIn K (.ref f32)=true) (a33:PySem.W.nsIn K mainGlobals "_law_tree" = some (some (.ref f33))) (l33:K.lookup f33=some ⟨oc33,od33,.func (PySem.W.fnOf "_law_tree" "_law_tree" (defArgs s__law_tree) (defBody s__law_tree) (defScope s__law_tree) .none kV33 dc33 pm33 an33 cd33 ct33),sl33⟩) (c33:PySem.W.codeIn K cd33 "_law_tree" = true) (k33:PySem.W.keepIn K (.ref f33)=true) (a34:PySem.W.nsIn K mainGlobals "_law_on" = some (some (.ref f34))) (l34:K.lookup f34=some ⟨oc34,od34,.func (PySem.W.fnOf "_law_on" "_law_on" (defArgs s__law_on) (defBody s__law_on) (defScope s__law_on) .none kV34 dc34 pm34 an34 cd34 ct34),sl34⟩) (c34:PySem.W.codeIn K cd34 "_law_on" = true) (k34:PySem.W.keepIn K (.ref f34)=true) (a35:PySem.W.nsIn K mainGlobals "_law_meets" = some (some (.ref f35))) (l35:K.lookup f35=some ⟨oc35,od35,.func (PySem.W.fnOf "_law_meets" "_law_meets" (defArgs s__law_meets) (defBody s__law_meets) (defScope s__law_meets) .none kV35 dc35 pm35 an35 cd35 ct35),sl35⟩) (c35:PySem.W.codeIn K cd35 "_law_meets" = true) (k35:PySem.W.keepIn K (.ref f35)=true) (a36:PySem.W.findIn K (.ref C_Bag) "put_asked" = some (some (.ref f36))) (l36:K.lookup f36=some ⟨oc36,od36,.func (PySem.W.fnOf "put_asked" "Bag.put_asked" (defArgs s_Bag__put_asked) (defBody s_Bag__put_asked) (defScope s_Bag__put_asked) .none kV36 dc36 pm36 an36 cd36 ct36),sl36⟩) (c36:PySem.W.codeIn K cd36 "Bag.put_asked" = true) (k36:PySem.W.keepIn K (.ref f36)=true) (i36:PySem.W.isFn K (.ref f36)=true) (a37:PySem.W.findIn K (.ref C_Bag) "answer" = some (some (.ref f37))) (l37:K.lookup f37=some ⟨oc37,od37,.func (PySem.W.fnOf "answer" "Bag.answer" (defArgs s_Bag__answer) (defBody s_Bag__answer) (defScope s_Bag__answer) .none kV37 dc37 pm37 an37 cd37 ct37),sl37⟩) (c37:PySem.W.codeIn K cd37 "Bag.answer" = true) (k37:PySem.W.keepIn K (.ref f37)=true) (i37:PySem.W.isFn K (.ref f37)=true) (a38:PySem.W.findIn K (.ref C_Bag) "source" = some (some (.ref f38))) (l38:K.lookup f38=some ⟨oc38,od38,.func (PySem.W.fnOf "source" "Bag.source" (defArgs s_Bag__source) (defBody s_Bag__source) (defScope s_Bag__source) .none kV38 dc38 pm38 an38 cd38 ct38),sl38⟩) (c38:PySem.W.codeIn K cd38 "Bag.source" = true) (k38:PySem.W.keepIn K (.ref f38)=true) (i38:PySem.W.isFn K (.ref f38)=true) (a39:PySem.W.findIn K (.ref C_Kind) "answer" = some (some (.ref f39))) (l39:K.lookup f39=some ⟨oc39,od39,.func (PySem.W.fnOf "answer" "Kind.answer" (defArgs s_Kind__answer) (defBody s_Kind__answer) (defScope s_Kind__answer) .none kV39 dc39 pm39 an39 cd39 ct39),sl39⟩) (c39:PySem.W.codeIn K cd39 "Kind.answer" = true) (k39:PySem.W.keepIn K (.ref f39)=true) (i39:PySem.W.isFn K (.ref f39)=true) (a40:PySem.W.findIn K (.ref C_Kind) "source" = some (some (.ref f40))) (l40:K.lookup f40=some ⟨oc40,od40,.func (PySem.W.fnOf "source" "Kind.source" (defArgs s_Kind__source) (defBody s_Kind__source) (defScope s_Kind__source) .none kV40 dc40 pm40 an40 cd40 ct40),sl40⟩) (c40:PySem.W.codeIn K cd40 "Kind.source" = true) (k40:PySem.W.keepIn K (.ref f40)=true) (i40:PySem.W.isFn K (.ref f40)=true) (a41:PySem.W.nsIn K mainGlobals "law" = some (some (.ref f41))) (l41:K.lookup f41=some ⟨oc41,od41,.func (PySem.W.fnOf "law" "law" (defArgs s_law) (defBody s_law) (defScope s_law) .none kV41 dc41 pm41 an41 cd41 ct41),sl41⟩) (c41:PySem.W.codeIn K cd41 "law" = true) (k41:PySem.W.keepIn K (.ref f41)=true) (pg_Bag:PySem.W.plainGet K C_Bag Str.empty=true) (hd_Bag:PySem.W.hasDictIn K C_Bag=true) (po_Bag:PySem.W.plainOver K C_Bag=true) (sa_Bag:PySem.W.findIn K (.ref C_Bag) "__setattr__" = some (some (.builtin "object.__setattr__"))) (mk_Bag:PySem.W.makesIn K C_Bag=true) (in_Bag:PySem.W.findIn K (.ref C_Bag) "__init__" = some (some (.builtin "object.__init__"))) (kc_Bag:PySem.W.keepIn K (.ref C_Bag)=true) (pg_Kind:PySem.W.plainGet K C_Kind Str.empty=true) (hd_Kind:PySem.W.hasDictIn K C_Kind=true) (po_Kind:PySem.W.plainOver K C_Kind=true) (sa_Kind:PySem.W.findIn K (.ref C_Kind) "__setattr__" = some (some (.builtin "object.__setattr__"))) (z_bool:PySem.W.nsIn K mainGlobals "bool" = some none) (z_int:PySem.W.nsIn K mainGlobals "int" = some none) (z_isinstance:PySem.W.nsIn K mainGlobals "isinstance" = some none) (z_len:PySem.W.nsIn K mainGlobals "len" = some none) (z_list:PySem.W.nsIn K mainGlobals "list" = some none) (z_max:PySem.W.nsIn K mainGlobals "max" = some none) (z_min:PySem.W.nsIn K mainGlobals "min" = some none) (z_range:PySem.W.nsIn K mainGlobals "range" = some none) (z_sorted:PySem.W.nsIn K mainGlobals "sorted" = some none) (z_tuple:PySem.W.nsIn K mainGlobals "tuple" = some none) (g_ALL_TIMES:PySem.W.nsIn K mainGlobals "ALL_TIMES" = some (some u_ALL_TIMES)) (r_ALL_TIMES:L2.RelV (toV (.int 1073741824)) u_ALL_TIMES) :
  ∃ fd:FuncData,(∀ (s:Shared) (v:Value),BindsTo s fd ⟨[v],[]⟩ [("_law_script",v)])/\∀ base:Heap,K.In base->base.Ns mainGlobals mg->LamB mg base cL T->FnOk l.prog w K mg base CX0 71 fa fd ["_law_script"] (spL K (lamP T) 1 m_law):=by
 have F_last_time:=fun_mk (st:=s_last_time) l0 c0 k0
 have B_last_time:=F_last_time.binds (ps:=["stretch"]) fun _ _ _ _ _ _=>len1 (fun _=>rfl)
 have S_last_time:Src K mg "last_time" s_last_time ["stretch"]:=⟨f0,_,F_last_time,B_last_time,PySem.W.mg_of X G a0⟩
 have F_holds:=fun_mk (st:=s_holds) l1 c1 k1
 have B_holds:=F_holds.binds (ps:=["stretch","number"]) fun _ _ _ _ _ _=>len2 (fun _ _=>rfl)
 have S_holds:Src K mg "holds" s_holds ["stretch","number"]:=⟨f1,_,F_holds,B_holds,PySem.W.mg_of X G a1⟩
 have F_within:=fun_mk (st:=s_within) l2 c2 k2
 have B_within:=F_within.binds (ps:=["one","other"]) fun _ _ _ _ _ _=>len2 (fun _ _=>rfl)
 have S_within:Src K mg "within" s_within ["one","other"]:=⟨f2,_,F_within,B_within,PySem.W.mg_of X G a2⟩
 have F_halves:=fun_mk (st:=s_halves) l3 c3 k3
 have B_halves:=F_halves.binds (ps:=["stretch"]) fun _ _ _ _ _ _=>len1 (fun _=>rfl)
 have S_halves:Src K mg "halves" s_halves ["stretch"]:=⟨f3,_,F_halves,B_halves,PySem.W.mg_of X G a3⟩
 have F_least:=fun_mk (st:=s_least) l4 c4 k4
 have B_least:=F_least.binds (ps:=["one","other"]) fun _ _ _ _ _ _=>len2 (fun _ _=>rfl)
 have S_least:Src K mg "least" s_least ["one","other"]:=⟨f4,_,F_least,B_least,PySem.W.mg_of X G a4⟩
 have F_cover:=fun_mk (st:=s_cover) l5 c5 k5
 have B_cover:=F_cover.binds (ps:=["end"]) fun _ _ _ _ _ _=>len1 (fun _=>rfl)
 have S_cover:Src K mg "cover" s_cover ["end"]:=⟨f5,_,F_cover,B_cover,PySem.W.mg_of X G a5⟩
 have F_stretch_of:=fun_mk (st:=s_stretch_of) l6 c6 k6
 have B_stretch_of:=F_stretch_of.binds (ps:=["tree"]) fun _ _ _ _ _ _=>len1 (fun _=>rfl)
 have S_stretch_of:Src K mg "stretch_of" s_stretch_of ["tree"]:=⟨f6,_,F_stretch_of,B_stretch_of,PySem.W.mg_of X G a6⟩
 have F_total_of:=fun_mk (st:=s_total_of) l7 c7 k7
 have B_total_of:=F_total_of.binds (ps:=["tree"]) fun _ _ _ _ _ _=>len1 (fun _=>rfl)
 have S_total_of:Src K mg "total_of" s_total_of ["tree"]:=⟨f7,_,F_total_of,B_total_of,PySem.W.mg_of X G a7⟩
 have F_is_leaf:=fun_mk (st:=s_is_leaf) l8 c8 k8
 have B_is_leaf:=F_is_leaf.binds (ps:=["tree"]) fun _ _ _ _ _ _=>len1 (fun _=>rfl)
 have S_is_leaf:Src K mg "is_leaf" s_is_leaf ["tree"]:=⟨f8,_,F_is_leaf,B_is_leaf,PySem.W.mg_of X G a8⟩
 have F_joined_lack:=fun_mk (st:=s_joined_lack) l9 c9 k9
 have B_joined_lack:=F_joined_lack.binds (ps:=["lack","left","next_lack"]) fun _ _ _ _ _ _=>len3 (fun _ _ _=>rfl)
 have S_joined_lack:Src K mg "joined_lack" s_joined_lack ["lack","left","next_lack"]:=⟨f9,_,F_joined_lack,B_joined_lack,PySem.W.mg_of X G a9⟩
 have F_Bag__joined:=fun_mk (st:=s_Bag__joined) l10 c10 k10
 have B_Bag__joined:=F_Bag__joined.binds (ps:=["self","one","other"]) fun _ _ _ _ _ _=>len3 (fun _ _ _=>rfl)
 have F_Bag__nothing:=fun_mk (st:=s_Bag__nothing) l11 c11 k11
 have B_Bag__nothing:=F_Bag__nothing.binds (ps:=["self"]) fun _ _ _ _ _ _=>len1 (fun _=>rfl)
 have F_Kind__joined:=fun_mk (st:=s_Kind__joined) l12 c12 k12
 have B_Kind__joined:=F_Kind__joined.binds (ps:=["self","one","other"]) fun _ _ _ _ _ _=>len3 (fun _ _ _=>rfl)
 have F_Kind__nothing:=fun_mk (st:=s_Kind__nothing) l13 c13 k13
 have B_Kind__nothing:=F_Kind__nothing.binds (ps:=["self"]) fun _ _ _ _ _ _=>len1 (fun _=>rfl)
 have F_row_total:=fun_mk (st:=s_row_total) l14 c14 k14
 have B_row_total:=F_row_total.binds (ps:=["kind","knots"]) fun _ _ _ _ _ _=>len2 (fun _ _=>rfl)
 have S_row_total:Src K mg "row_total" s_row_total ["kind","knots"]:=⟨f14,_,F_row_total,B_row_total,PySem.W.mg_of X G a14⟩
 have F_Bag__lone:=fun_mk (st:=s_Bag__lone) l15 c15 k15
 have B_Bag__lone:=F_Bag__lone.binds (ps:=["self","at","deed"]) fun _ _ _ _ _ _=>len3 (fun _ _ _=>rfl)
 have F_Kind__lone:=fun_mk (st:=s_Kind__lone) l16 c16 k16
 have B_Kind__lone:=F_Kind__lone.binds (ps:=["self","at","deed"]) fun _ _ _ _ _ _=>len3 (fun _ _ _=>rfl)
 have F_leaf:=fun_mk (st:=s_leaf) l17 c17 k17
 have B_leaf:=F_leaf.binds (ps:=["kind","at","deed"]) fun _ _ _ _ _ _=>len3 (fun _ _ _=>rfl)
 have S_leaf:Src K mg "leaf" s_leaf ["kind","at","deed"]:=⟨f17,_,F_leaf,B_leaf,PySem.W.mg_of X G a17⟩
 have F_knot:=fun_mk (st:=s_knot) l18 c18 k18
 have B_knot:=F_knot.binds (ps:=["kind","left","right"]) fun _ _ _ _ _ _=>len3 (fun _ _ _=>rfl)
 have S_knot:Src K mg "knot" s_knot ["kind","left","right"]:=⟨f18,_,F_knot,B_knot,PySem.W.mg_of X G a18⟩
 have F_beside:=fun_mk (st:=s_beside) l19 c19 k19
 have B_beside:=F_beside.binds (ps:=["kind","tree","other"]) fun _ _ _ _ _ _=>len3 (fun _ _ _=>rfl)
 have S_beside:Src K mg "beside" s_beside ["kind","tree","other"]:=⟨f19,_,F_beside,B_beside,PySem.W.mg_of X G a19⟩
 have F_is_early:=fun_mk (st:=s_is_early) l20 c20 k20
 have B_is_early:=F_is_early.binds (ps:=["tree","at"]) fun _ _ _ _ _ _=>len2 (fun _ _=>rfl)
 have S_is_early:Src K mg "is_early" s_is_early ["tree","at"]:=⟨f20,_,F_is_early,B_is_early,PySem.W.mg_of X G a20⟩
 have F_put_in:=fun_mk (st:=s_put_in) l21 c21 k21
 have B_put_in:=F_put_in.binds (ps:=["kind","tree","at","deed"]) fun _ _ _ _ _ _=>len4 (fun _ _ _ _=>rfl)
 have S_put_in:Src K mg "put_in" s_put_in ["kind","tree","at","deed"]:=⟨f21,_,F_put_in,B_put_in,PySem.W.mg_of X G a21⟩
 have F_numbers_ahead:=fun_mk (st:=s_numbers_ahead) l22 c22 k22
 have B_numbers_ahead:=F_numbers_ahead.binds (ps:=["deed"]) fun _ _ _ _ _ _=>len1 (fun _=>rfl)
 have S_numbers_ahead:Src K mg "numbers_ahead" s_numbers_ahead ["deed"]:=⟨f22,_,F_numbers_ahead,B_numbers_ahead,PySem.W.mg_of X G a22⟩
 have F_one_step_down:=fun_mk (st:=s_one_step_down) l23 c23 k23
 have B_one_step_down:=F_one_step_down.binds (ps:=["tree","stretch"]) fun _ _ _ _ _ _=>len2 (fun _ _=>rfl)
 have S_one_step_down:Src K mg "one_step_down" s_one_step_down ["tree","stretch"]:=⟨f23,_,F_one_step_down,B_one_step_down,PySem.W.mg_of X G a23⟩
 have F_inside:=fun_mk (st:=s_inside) l24 c24 k24
 have B_inside:=F_inside.binds (ps:=["tree","stretch"]) fun _ _ _ _ _ _=>len2 (fun _ _=>rfl)
 have S_inside:Src K mg "inside" s_inside ["tree","stretch"]:=⟨f24,_,F_inside,B_inside,PySem.W.mg_of X G a24⟩
 have F_ahead:=fun_mk (st:=s_ahead) l25 c25 k25
 have B_ahead:=F_ahead.binds (ps:=["tree","end"]) fun _ _ _ _ _ _=>len2 (fun _ _=>rfl)
 have S_ahead:Src K mg "ahead" s_ahead ["tree","end"]:=⟨f25,_,F_ahead,B_ahead,PySem.W.mg_of X G a25⟩
 have F__law_cell_at:=fun_mk (st:=s__law_cell_at) l26 c26 k26
 have B__law_cell_at:=F__law_cell_at.binds (ps:=["_law_script","_law_k"]) fun _ _ _ _ _ _=>len2 (fun _ _=>rfl)
 have S__law_cell_at:Src K mg "_law_cell_at" s__law_cell_at ["_law_script","_law_k"]:=⟨f26,_,F__law_cell_at,B__law_cell_at,PySem.W.mg_of X G a26⟩
 have F__law_whole:=fun_mk (st:=s__law_whole) l27 c27 k27
 have B__law_whole:=F__law_whole.binds (ps:=["_law_found"]) fun _ _ _ _ _ _=>len1 (fun _=>rfl)
 have S__law_whole:Src K mg "_law_whole" s__law_whole ["_law_found"]:=⟨f27,_,F__law_whole,B__law_whole,PySem.W.mg_of X G a27⟩
 have F__law_number:=fun_mk (st:=s__law_number) l28 c28 k28
 have B__law_number:=F__law_number.binds (ps:=["_law_cell","_law_k"]) fun _ _ _ _ _ _=>len2 (fun _ _=>rfl)
 have S__law_number:Src K mg "_law_number" s__law_number ["_law_cell","_law_k"]:=⟨f28,_,F__law_number,B__law_number,PySem.W.mg_of X G a28⟩
 have F__law_deed:=fun_mk (st:=s__law_deed) l29 c29 k29
 have B__law_deed:=F__law_deed.binds (ps:=["_law_cell","_law_k","_law_tilt"]) fun _ _ _ _ _ _=>len3 (fun _ _ _=>rfl)
 have S__law_deed:Src K mg "_law_deed" s__law_deed ["_law_cell","_law_k","_law_tilt"]:=⟨f29,_,F__law_deed,B__law_deed,PySem.W.mg_of X G a29⟩
 have F__law_times:=fun_mk (st:=s__law_times) l30 c30 k30
 have B__law_times:=F__law_times.binds (ps:=["_law_cells","_law_cell"]) fun _ _ _ _ _ _=>len2 (fun _ _=>rfl)
 have S__law_times:Src K mg "_law_times" s__law_times ["_law_cells","_law_cell"]:=⟨f30,_,F__law_times,B__law_times,PySem.W.mg_of X G a30⟩
 have F__law_row:=fun_mk (st:=s__law_row) l31 c31 k31
 have B__law_row:=F__law_row.binds (ps:=["_law_script"]) fun _ _ _ _ _ _=>len1 (fun _=>rfl)
 have S__law_row:Src K mg "_law_row" s__law_row ["_law_script"]:=⟨f31,_,F__law_row,B__law_row,PySem.W.mg_of X G a31⟩
 have F__law_order:=fun_mk (st:=s__law_order) l32 c32 k32
 have B__law_order:=F__law_order.binds (ps:=["_law_script","_law_size"]) fun _ _ _ _ _ _=>len2 (fun _ _=>rfl)
 have S__law_order:Src K mg "_law_order" s__law_order ["_law_script","_law_size"]:=⟨f32,_,F__law_order,B__law_order,PySem.W.mg_of X G a32⟩
 have F__law_tree:=fun_mk (st:=s__law_tree) l33 c33 k33
 have B__law_tree:=F__law_tree.binds (ps:=["_law_kind","_law_row_here","_law_script"]) fun _ _ _ _ _ _=>len3 (fun _ _ _=>rfl)
 have S__law_tree:Src K mg "_law_tree" s__law_tree ["_law_kind","_law_row_here","_law_script"]:=⟨f33,_,F__law_tree,B__law_tree,PySem.W.mg_of X G a33⟩
 have F__law_on:=fun_mk (st:=s__law_on) l34 c34 k34
 have B__law_on:=F__law_on.binds (ps:=["_law_question"]) fun _ _ _ _ _ _=>len1 (fun _=>rfl)
 have S__law_on:Src K mg "_law_on" s__law_on ["_law_question"]:=⟨f34,_,F__law_on,B__law_on,PySem.W.mg_of X G a34⟩
 have F__law_meets:=fun_mk (st:=s__law_meets) l35 c35 k35
 have B__law_meets:=F__law_meets.binds (ps:=["_law_free","_law_question","_law_source","_law_answer"]) fun _ _ _ _ _ _=>len4 (fun _ _ _ _=>rfl)
 have S__law_meets:Src K mg "_law_meets" s__law_meets ["_law_free","_law_question","_law_source","_law_answer"]:=⟨f35,_,F__law_meets,B__law_meets,PySem.W.mg_of X G a35⟩
 have F_Bag__put_asked:=fun_mk (st:=s_Bag__put_asked) l36 c36 k36
 have B_Bag__put_asked:=F_Bag__put_asked.binds (ps:=["self","knots","deed"]) fun _ _ _ _ _ _=>len3 (fun _ _ _=>rfl)
 have F_Bag__answer:=fun_mk (st:=s_Bag__answer) l37 c37 k37
 have B_Bag__answer:=F_Bag__answer.binds (ps:=["self","knots","deed"]) fun _ _ _ _ _ _=>len3 (fun _ _ _=>rfl)
 have F_Bag__source:=fun_mk (st:=s_Bag__source) l38 c38 k38
 have B_Bag__source:=F_Bag__source.binds (ps:=["self","knots","deed"]) fun _ _ _ _ _ _=>len3 (fun _ _ _=>rfl)
 have F_Kind__answer:=fun_mk (st:=s_Kind__answer) l39 c39 k39
 have B_Kind__answer:=F_Kind__answer.binds (ps:=["self","knots","deed"]) fun _ _ _ _ _ _=>len3 (fun _ _ _=>rfl)
 have F_Kind__source:=fun_mk (st:=s_Kind__source) l40 c40 k40
 have B_Kind__source:=F_Kind__source.binds (ps:=["self","knots","deed"]) fun _ _ _ _ _ _=>len3 (fun _ _ _=>rfl)
 have F_law:=fun_mk (st:=s_law) l41 c41 k41
 have B_law:=F_law.binds (ps:=["_law_script"]) fun _ _ _ _ _ _=>len1 (fun _=>rfl)
 have S_law:Src K mg "law" s_law ["_law_script"]:=⟨f41,_,F_law,B_law,PySem.W.mg_of X G a41⟩
 have cl_Bag:Cls K C_Bag:=⟨pg_Bag,hd_Bag,po_Bag,sa_Bag⟩
 have k_Bag:Mk0 K C_Bag/\PySem.W.nsIn K mainGlobals "Bag" = some (some (.ref C_Bag))/\mg "Bag" = some (.ref C_Bag):=⟨⟨mk_Bag,in_Bag,kc_Bag⟩,aC_Bag,PySem.W.mg_of X G aC_Bag⟩
 have cl_Kind:Cls K C_Kind:=⟨pg_Kind,hd_Kind,po_Kind,sa_Kind⟩
 have z'_bool:=PySem.W.mg_none_of X G z_bool
 have z'_int:=PySem.W.mg_none_of X G z_int
 have z'_isinstance:=PySem.W.mg_none_of X G z_isinstance
 have z'_len:=PySem.W.mg_none_of X G z_len
 have z'_list:=PySem.W.mg_none_of X G z_list
 have z'_max:=PySem.W.mg_none_of X G z_max
 have z'_min:=PySem.W.mg_none_of X G z_min
 have z'_range:=PySem.W.mg_none_of X G z_range
 have z'_sorted:=PySem.W.mg_none_of X G z_sorted
 have z'_tuple:=PySem.W.mg_none_of X G z_tuple
 have g'_ALL_TIMES:=PySem.W.mg_of X G g_ALL_TIMES
 have e:=hfa.symm.trans (PySem.W.mg_of X G a41)
 cases e
 refine ⟨PySem.W.fnOf "law" "law" (defArgs s_law) (defBody s_law) (defScope s_law) .none kV41 dc41 pm41 an41 cd41 ct41,fun s v=>.of_eq rfl,fun base _ _ LB=>?_⟩
 have h_last_time:=df_last_time (P:=l.prog) (w:=w) (K:=K) (mg:=mg) (base:=base) S_last_time
 have h_holds:=df_holds (P:=l.prog) (w:=w) (K:=K) (mg:=mg) (base:=base) S_holds h_last_time
 have h_within:=df_within (P:=l.prog) (w:=w) (K:=K) (mg:=mg) (base:=base) S_within h_holds h_last_time
 have h_halves:=df_halves (P:=l.prog) (w:=w) (K:=K) (mg:=mg) (base:=base) S_halves
 have h_least:=df_least (P:=l.prog) (w:=w) (K:=K) (mg:=mg) (base:=base) S_least z'_max z'_min h_last_time
 have h_cover:=df_cover (P:=l.prog) (w:=w) (K:=K) (mg:=mg) (base:=base) S_cover ⟨g'_ALL_TIMES,r_ALL_TIMES⟩
 have h_stretch_of:=df_stretch_of (P:=l.prog) (w:=w) (K:=K) (mg:=mg) (base:=base) S_stretch_of
 have h_total_of:=df_total_of (P:=l.prog) (w:=w) (K:=K) (mg:=mg) (base:=base) S_total_of
 have h_is_leaf:=df_is_leaf (P:=l.prog) (w:=w) (K:=K) (mg:=mg) (base:=base) S_is_leaf
 have h_joined_lack:=df_joined_lack (P:=l.prog) (w:=w) (K:=K) (mg:=mg) (base:=base) S_joined_lack z'_max
 have h_Bag__joined:=df_Bag__joined (P:=l.prog) (w:=w) (K:=K) (mg:=mg) (base:=base) F_Bag__joined z'_len z'_list z'_min z'_sorted z'_tuple h_joined_lack
 have hm_Bag_joined:MDf l.prog w K mg base "Bag" "joined" 2 ["self","one","other"] false (m_Bag__joined):=⟨C_Bag,f10,_,cl_Bag,aC_Bag,⟨a10,i10,k10⟩,h_Bag__joined,B_Bag__joined⟩
 have h_Bag__nothing:=df_Bag__nothing (P:=l.prog) (w:=w) (K:=K) (mg:=mg) (base:=base) F_Bag__nothing
 have hm_Bag_nothing:MDf l.prog w K mg base "Bag" "nothing" 1 ["self"] false (m_Bag__nothing):=⟨C_Bag,f11,_,cl_Bag,aC_Bag,⟨a11,i11,k11⟩,h_Bag__nothing,B_Bag__nothing⟩
 have h_Kind__joined:=df_Kind__joined (P:=l.prog) (w:=w) (K:=K) (mg:=mg) (base:=base) F_Kind__joined
 have hm_Kind_joined:MDf l.prog w K mg base "Kind" "joined" 1 ["self","one","other"] false (m_Kind__joined):=⟨C_Kind,f12,_,cl_Kind,aC_Kind,⟨a12,i12,k12⟩,h_Kind__joined,B_Kind__joined⟩
 have h_Kind__nothing:=df_Kind__nothing (P:=l.prog) (w:=w) (K:=K) (mg:=mg) (base:=base) F_Kind__nothing
 have hm_Kind_nothing:MDf l.prog w K mg base "Kind" "nothing" 1 ["self"] false (m_Kind__nothing):=⟨C_Kind,f13,_,cl_Kind,aC_Kind,⟨a13,i13,k13⟩,h_Kind__nothing,B_Kind__nothing⟩
 have h_row_total:=df_row_total (P:=l.prog) (w:=w) (K:=K) (mg:=mg) (base:=base) S_row_total h_total_of hm_Bag_joined hm_Bag_nothing hm_Kind_joined hm_Kind_nothing
 have h_Bag__lone:=df_Bag__lone (P:=l.prog) (w:=w) (K:=K) (mg:=mg) (base:=base) F_Bag__lone hm_Bag_nothing hm_Kind_nothing
 have hm_Bag_lone:MDf l.prog w K mg base "Bag" "lone" 2 ["self","at","deed"] false (m_Bag__lone):=⟨C_Bag,f15,_,cl_Bag,aC_Bag,⟨a15,i15,k15⟩,h_Bag__lone,B_Bag__lone⟩
 have h_Kind__lone:=df_Kind__lone (P:=l.prog) (w:=w) (K:=K) (mg:=mg) (base:=base) F_Kind__lone
 have hm_Kind_lone:MDf l.prog w K mg base "Kind" "lone" 1 ["self","at","deed"] false (m_Kind__lone):=⟨C_Kind,f16,_,cl_Kind,aC_Kind,⟨a16,i16,k16⟩,h_Kind__lone,B_Kind__lone⟩
 have h_leaf:=df_leaf (P:=l.prog) (w:=w) (K:=K) (mg:=mg) (base:=base) S_leaf hm_Bag_lone hm_Kind_lone
 have h_knot:=df_knot (P:=l.prog) (w:=w) (K:=K) (mg:=mg) (base:=base) S_knot h_least h_stretch_of h_total_of hm_Bag_joined hm_Kind_joined
 have h_beside:=df_beside (P:=l.prog) (w:=w) (K:=K) (mg:=mg) (base:=base) S_beside h_knot
 have h_is_early:=df_is_early (P:=l.prog) (w:=w) (K:=K) (mg:=mg) (base:=base) S_is_early h_halves h_holds h_stretch_of
 have h_put_in:=df_put_in (P:=l.prog) (w:=w) (K:=K) (mg:=mg) (base:=base) S_put_in h_beside h_holds h_is_early h_is_leaf h_knot h_leaf h_stretch_of 64
 have h_numbers_ahead:=df_numbers_ahead (P:=l.prog) (w:=w) (K:=K) (mg:=mg) (base:=base) S_numbers_ahead
 have h_one_step_down:=df_one_step_down (P:=l.prog) (w:=w) (K:=K) (mg:=mg) (base:=base) S_one_step_down h_halves h_is_leaf h_stretch_of h_within
 have h_inside:=df_inside (P:=l.prog) (w:=w) (K:=K) (mg:=mg) (base:=base) S_inside h_one_step_down h_stretch_of h_within
 have h_ahead:=df_ahead (P:=l.prog) (w:=w) (K:=K) (mg:=mg) (base:=base) S_ahead h_cover h_inside
 have h__law_cell_at:=df__law_cell_at (P:=l.prog) (w:=w) (K:=K) (mg:=mg) (base:=base) S__law_cell_at z'_len
 have h__law_whole:=df__law_whole (P:=l.prog) (w:=w) (K:=K) (mg:=mg) (base:=base) S__law_whole z'_bool z'_int z'_isinstance
 have h__law_number:=df__law_number (P:=l.prog) (w:=w) (K:=K) (mg:=mg) (base:=base) S__law_number
 have h__law_deed:=df__law_deed (P:=l.prog) (w:=w) (K:=K) (mg:=mg) (base:=base) S__law_deed h__law_number
 have h__law_times:=df__law_times (P:=l.prog) (w:=w) (K:=K) (mg:=mg) (base:=base) S__law_times z'_len z'_range
 have h__law_row:=df__law_row (P:=l.prog) (w:=w) (K:=K) (mg:=mg) (base:=base) S__law_row z'_len z'_range h__law_cell_at h__law_deed h__law_times
 have h__law_order:=df__law_order (P:=l.prog) (w:=w) (K:=K) (mg:=mg) (base:=base) LB (tab_code htab X G) S__law_order z'_range z'_sorted h__law_cell_at
 have h__law_tree:=df__law_tree (P:=l.prog) (w:=w) (K:=K) (mg:=mg) (base:=base) S__law_tree z'_len h__law_order h_put_in
 have h__law_on:=df__law_on (P:=l.prog) (w:=w) (K:=K) (mg:=mg) (base:=base) S__law_on
 have h__law_meets:=df__law_meets (P:=l.prog) (w:=w) (K:=K) (mg:=mg) (base:=base) S__law_meets z'_len h__law_on h__law_whole
 have h_Bag__put_asked:=df_Bag__put_asked (P:=l.prog) (w:=w) (K:=K) (mg:=mg) (base:=base) F_Bag__put_asked z'_len h_numbers_ahead h_row_total
 have hm_Bag_put_asked:MDf l.prog w K mg base "Bag" "put_asked" 4 ["self","knots","deed"] false (m_Bag__put_asked):=⟨C_Bag,f36,_,cl_Bag,aC_Bag,⟨a36,i36,k36⟩,h_Bag__put_asked,B_Bag__put_asked⟩
 have h_Bag__answer:=df_Bag__answer (P:=l.prog) (w:=w) (K:=K) (mg:=mg) (base:=base) F_Bag__answer z'_len h_row_total hm_Bag_put_asked
 have hm_Bag_answer:MDf l.prog w K mg base "Bag" "answer" 5 ["self","knots","deed"] false (m_Bag__answer):=⟨C_Bag,f37,_,cl_Bag,aC_Bag,⟨a37,i37,k37⟩,h_Bag__answer,B_Bag__answer⟩
 have h_Bag__source:=df_Bag__source (P:=l.prog) (w:=w) (K:=K) (mg:=mg) (base:=base) F_Bag__source hm_Bag_put_asked
 have hm_Bag_source:MDf l.prog w K mg base "Bag" "source" 5 ["self","knots","deed"] false (m_Bag__source):=⟨C_Bag,f38,_,cl_Bag,aC_Bag,⟨a38,i38,k38⟩,h_Bag__source,B_Bag__source⟩
 have h_Kind__answer:=df_Kind__answer (P:=l.prog) (w:=w) (K:=K) (mg:=mg) (base:=base) F_Kind__answer
 have hm_Kind_answer:MDf l.prog w K mg base "Kind" "answer" 1 ["self","knots","deed"] false (m_Kind__answer):=⟨C_Kind,f39,_,cl_Kind,aC_Kind,⟨a39,i39,k39⟩,h_Kind__answer,B_Kind__answer⟩
 have h_Kind__source:=df_Kind__source (P:=l.prog) (w:=w) (K:=K) (mg:=mg) (base:=base) F_Kind__source
 have hm_Kind_source:MDf l.prog w K mg base "Kind" "source" 1 ["self","knots","deed"] false (m_Kind__source):=⟨C_Kind,f40,_,cl_Kind,aC_Kind,⟨a40,i40,k40⟩,h_Kind__source,B_Kind__source⟩
 exact fn_law (P:=l.prog) (w:=w) (K:=K) (mg:=mg) (base:=base) F_law z'_len z'_list z'_range k_Bag h__law_meets h__law_row h__law_tree h_ahead hm_Bag_answer hm_Bag_source hm_Kind_answer hm_Kind_source
theorem walk {l:PySem.W.OpenLaw} {qq:Program} {loose:List Str} {XP:(Str->Option Value)->Heap->Prop} {YP:World->Heap->Prop} {d:DefRec} {K:Params->PySem.W.Frag} {c T:Addr} (hn:l.most=some 63) (hdf:d.params.defaults=[])
  (hY:∀ (w:World) (h:Heap),YP w h->(K w.params).In h) (law:∀ ns:List Int,ns.length<=63->m_law [.frl (ns.map D.int)]=.ok (.bl true))
  (hTb:∀ (w:World) (h:Heap),YP w h->h.get? T=some (PySem.W.tabObj #[])) (hCd:∀ w:World,PySem.W.codeHdIn (K w.params) c T=true) (hTK:∀ w:World,(K w.params).lookup T=none)
  (F:∀ (w:World) (mg:Str->Option Value) (fa:Addr) (h:Heap),(K w.params).In h->h.Ns mainGlobals mg->mg d.name=some (.ref fa) ->
   ∃ fd:FuncData,(∀ (s:Shared) (u:Value),BindsTo s fd ⟨[u],[]⟩ [("_law_script",u)])/\∀ base:Heap,(K w.params).In base->base.Ns mainGlobals mg->LamB mg base c T->FnOk l.prog w (K w.params) mg base CX0 71 fa fd ["_law_script"] (spL (K w.params) (lamP T) 1 m_law)) :
  PySem.W.WalkO qq loose XP YP l.row.toRowW d [] (fun f vs=>PySem.call f vs) :=
 walkL (n:=63) (k:=71) (x:="_law_script") hn (by decide) hdf ⟨rfl,by decide,by decide⟩ hY hTb hCd hTK law F
end Pr
namespace Pr
open PySem L2 DL
theorem pow_int (k:Nat):(2:Int) ^ k=((2 ^ k:Nat):Int):=by simp
theorem bitXor_nat (x y:Nat):Builtin.bitXor (x:Int) (y:Int)=((x ^^^ y:Nat):Int):=by
 have h1:¬ (0:Int)<=Builtin.bitNot (x:Int):=by unfold Builtin.bitNot;omega
 have h2:¬ (0:Int)<=Builtin.bitNot (y:Int):=by unfold Builtin.bitNot;omega
 have e:∀ z:Int,Builtin.bitNot (Builtin.bitNot z)=z:=fun z=>by unfold Builtin.bitNot;omega
 have k1:(0:Int)<=(x:Int):=by omega
 have k2:(0:Int)<=(y:Int):=by omega
 have o:=Bt.or_xor_and x y
 unfold Builtin.bitXor Builtin.bitOr Builtin.bitAnd
 simp [k1,k2,h1,h2,e]
 omega
theorem p30:(2:Nat) ^ 30=1073741824:=by decide
theorem last_time_eq (a b:Int):m_last_time [.tup [.int a,.int b]]=.ok (.int (a + b - 1)):=by
 simp [m_last_time,b_last_time,startD,fVar,at_0,at_1]
theorem intBits_nat (z:Nat):Builtin.Int.intBits (z:Int)=Bt.bits z:=by
 unfold Builtin.Int.intBits Bt.bits
 by_cases h:z=0
 ·subst h;rfl
 ·have h':((z:Int) == 0)=false:=by simpa using h
  rw [if_neg h,h']
  simp
theorem least_eq {a b c d:Int} {f l:Nat} (hf:(if c < a then c else a)=(f:Int)) (hl:(if c + d - 1 > a + b - 1 then c + d - 1 else a + b - 1)=(l:Int)) (h1:f < 1073741824) (h2:l < 1073741824) :
  m_least [.tup [.int a,.int b],.tup [.int c,.int d]]=.ok (.tup [.int ((f / 2 ^ Bt.bits (f ^^^ l) * 2 ^ Bt.bits (f ^^^ l):Nat):Int),.int ((2 ^ Bt.bits (f ^^^ l):Nat):Int)]):=by
 have hb:Bt.bits (f ^^^ l)<=30:=Bt.bits_le (Nat.xor_lt_two_pow (by rw [p30];exact h1) (by rw [p30];exact h2))
 generalize hn:Bt.bits (f ^^^ l)=n at *
 have p:(1:Nat)<=2 ^ n:=Nat.one_le_two_pow
 have p2:(2:Nat) ^ n<=1073741824:=by rw [← p30];exact Nat.pow_le_pow_right (by decide) hb
 have c0:cPow 1 (n:Int)=true:=by simp [cPow];omega
 have ep:(2:Int) ^ n=((2 ^ n:Nat):Int):=pow_int n
 have c1:cDiv (f:Int) ((2 ^ n:Nat):Int)=true:=by simp only [cDiv,decide_eq_true_eq];omega
 have c2:cMul ((f:Int) / ((2 ^ n:Nat):Int)) ((2 ^ n:Nat):Int)=true:=by simp only [cMul,decide_eq_true_eq];omega
 have ex:Builtin.bitXor (f:Int) (l:Int)=((f ^^^ l:Nat):Int):=bitXor_nat f l
 have eb:Builtin.Int.intBits ((f ^^^ l:Nat):Int)=n:=by rw [intBits_nat,hn]
 have em:((f / 2 ^ n * 2 ^ n:Nat):Int)=(f:Int) / ((2 ^ n:Nat):Int) * ((2 ^ n:Nat):Int):=by rw [Int.natCast_mul,Int.natCast_ediv]
 have hl2:(if a + b < c + d then c + d - 1 else a + b - 1)=(l:Int):=by rw [← hl];split <;> split <;> omega
 rw [em]
 generalize hz:((2 ^ n:Nat):Int)=z at *
 simp -implicitDefEqProofs [-e_min',-e_max',m_least,b_least,startD,fVar,at_0,at_1,last_time_eq,hf,hl,hl2,gBits,ex,eb,c0,ep,c1,c2]
inductive Dk:D->Int->Prop
 | put (x:Int):Dk (.tup [.str "put",.int x]) 1
 | take:Dk (.tup [.str "take"]) (-1)
 | many:Dk (.tup [.str "many"]) 0
 | look (x:Int) (h:0<=x):Dk (.tup [.str "look",.int x]) 0
def lk:List Int->Int
 | []=>0
 | z::r=>if z=1 then max 0 (lk r - 1) else if z=-1 then 1 + lk r else lk r
def lf:List Int->Int
 | []=>0
 | z::r=>if z=1 then lf r + max 0 (1 - lk r) else lf r
theorem cell0_eq (ns:List Int):∃ c,m__law_cell_at [.frl (ns.map .int),.int 0]=.ok (.int c):=by
 cases ns with
 | nil=>exact ⟨0,by simp (decide:=true) -implicitDefEqProofs [tbM_tail,startD,fVar,fVarS,isT,at_0,at_1,at_2,at_3,at_4,m__law_cell_at,b__law_cell_at]⟩
 | cons n r=>exact ⟨n,by simp (decide:=true) -implicitDefEqProofs [tbM_tail,startD,fVar,fVarS,isT,at_0,at_1,at_2,at_3,at_4,m__law_cell_at,b__law_cell_at]⟩
theorem number_eq (c:Int) {k:Nat} (hk:k < 100):∃ n,m__law_number [.int c,.int k]=.ok (.int n):=by
 have c1:cMul 17 (k:Int)=true:=by simp [cMul]
 have c2:cMul (17 * (k:Int)) k=true:=by simp [cMul];omega
 have c3:cPow 10 30=true:=by decide
 have c4:cPow 10 60=true:=by decide
 have h:c % 4=0\/c % 4=1\/c % 4=2\/c % 4=3:=by omega
 rcases h with h | h | h | h
 ·exact ⟨_,by simp (decide:=true) -implicitDefEqProofs [tbM_tail,startD,fVar,fVarS,isT,at_0,at_1,at_2,at_3,at_4,m__law_number,b__law_number,h,c1,c2];rfl⟩
 ·exact ⟨_,by simp (decide:=true) -implicitDefEqProofs [tbM_tail,startD,fVar,fVarS,isT,at_0,at_1,at_2,at_3,at_4,m__law_number,b__law_number,h,c3];rfl⟩
 ·exact ⟨_,by simp (decide:=true) -implicitDefEqProofs [tbM_tail,startD,fVar,fVarS,isT,at_0,at_1,at_2,at_3,at_4,m__law_number,b__law_number,h];rfl⟩
 ·exact ⟨_,by simp (decide:=true) -implicitDefEqProofs [tbM_tail,startD,fVar,fVarS,isT,at_0,at_1,at_2,at_3,at_4,m__law_number,b__law_number,h,c4];rfl⟩
theorem deed_eq (c t:Int) {k:Nat} (hk:k < 100):∃ d z,m__law_deed [.int c,.int k,.int t]=.ok d/\Dk d z:=by
 obtain ⟨n,hn⟩:=number_eq (c / 8) hk
 have c4:cPow 10 60=true:=by decide
 by_cases h1:c % 8 < 3 + t
 ·exact ⟨_,_,by simp (decide:=true) -implicitDefEqProofs [tbM_tail,startD,fVar,fVarS,isT,at_0,at_1,at_2,at_3,at_4,m__law_deed,b__law_deed,h1,hn] <;> rfl,.put n⟩
 ·by_cases h2:c % 8 < 6
  ·exact ⟨_,_,by simp (decide:=true) -implicitDefEqProofs [tbM_tail,startD,fVar,fVarS,isT,at_0,at_1,at_2,at_3,at_4,m__law_deed,b__law_deed,h1,h2] <;> rfl,.take⟩
  ·by_cases h3:c % 8=7
   ·have h1':¬ (7:Int) < 3 + t:=by omega
    exact ⟨_,_,by simp (decide:=true) -implicitDefEqProofs [tbM_tail,startD,fVar,fVarS,isT,at_0,at_1,at_2,at_3,at_4,m__law_deed,b__law_deed,h1',h3] <;> rfl,.many⟩
   ·by_cases h4:c / 8 % 3=2
    ·have p:(0:Int) < 10 ^ 60:=by decide
     have h0:0<=c / 24 % 10 ^ 60:=Int.emod_nonneg _ (Int.ne_of_gt p)
     exact ⟨_,_,by simp (decide:=true) -implicitDefEqProofs [tbM_tail,startD,fVar,fVarS,isT,at_0,at_1,at_2,at_3,at_4,m__law_deed,b__law_deed,h1,h2,h3,h4,c4],.look (c / 24 % 10 ^ 60) h0⟩
    ·have h0:0<=(c / 24 + (k:Int)) % 7:=Int.emod_nonneg _ (by decide)
     exact ⟨_,_,by simp (decide:=true) -implicitDefEqProofs [tbM_tail,startD,fVar,fVarS,isT,at_0,at_1,at_2,at_3,at_4,m__law_deed,b__law_deed,h1,h2,h3,h4],.look ((c / 24 + (k:Int)) % 7) h0⟩
structure Ts (ts:List Int):Prop where
 inc:ts.Pairwise (· < ·)
 bnd:∀ t∈ts,0<=t/\t < 1073741824
theorem back_at {cs:List Int} {k:Nat} (h:k < cs.length):∃ c,atI (cs.map D.int) ((k:Int) - 1)=some (.int c):=by
 cases k with
 | zero =>
  obtain ⟨r,x,rfl⟩:=snoc (xs:=cs) (by intro e;subst e;simp at h)
  refine ⟨x,?_⟩
  rw [List.map_append,List.map_cons,List.map_nil]
  exact at_last
 | succ k =>
  have e:(((k + 1:Nat):Int) - 1)=(k:Int):=by omega
  rw [e]
  exact ⟨_,at_map (by omega)⟩
theorem shift_ts {bs:List Int} {b s:Int} (h1:(bs++[b]).Pairwise (· < ·)) (h2:∀ t∈bs++[b],0<=t) (h3:0<=s) (h4:s < 1073741824 - b):Ts ((bs++[b]).map fun t=>s + t):=by
 refine ⟨?_,?_⟩
 ·rw [List.pairwise_map]
  exact h1.imp fun h=>by omega
 ·intro t ht
  obtain ⟨u,hu,rfl⟩:=List.mem_map.mp ht
  have h5:=h2 u hu
  have h6:u<=b:=by
   rcases List.mem_append.mp hu with hu | hu
   ·have:=(List.pairwise_append.mp h1).2.2 u hu b (by simp)
    omega
   ·simp at hu;omega
  omega
theorem times_eq (cs:List Int) (cell:Int) (h:cs.length<=62):∃ ts:List Int,m__law_times [.lst (cs.map D.int),.int cell]=.ok (.lst (ts.map D.int))/\ts.length=cs.length/\Ts ts:=by
 obtain ⟨w,hw,hw1,hw2⟩:∃ w:Int,atI [D.int 1,.int 5,.int 16777216] (cell % 3)=some (.int w)/\1<=w/\w<=16777216:=by
  have h:cell % 3=0\/cell % 3=1\/cell % 3=2:=by omega
  rcases h with h | h | h <;> rw [h]
  ·exact ⟨1,at_0,by decide,by decide⟩
  ·exact ⟨5,at_1,by decide,by decide⟩
  ·exact ⟨16777216,at_2,by decide,by decide⟩
 simp -implicitDefEqProofs only [m__law_times,b__law_times,e_run,startD,e_seq,List.map_cons,List.map_nil,List.length_cons,List.length_nil,List.replicate,List.cons_append,List.nil_append,Nat.reduceAdd,Nat.reduceSub]
 have h1:(f2 gIx (fLst [(fC (.int 1)),(fC (.int 5)),(fC (.int 16777216))]) (f2 gMod (fVar 1) (fC (.int 3)))) [.val (.lst (cs.map D.int)),.val (.int cell),.un,.un,.un,.un,.un]=.ok (.int w):=by
  simp (decide:=true) -implicitDefEqProofs [tbM_tail,startD,fVar,fVarS,isT,at_0,at_1,at_2,at_3,at_4,hw]
 simp -implicitDefEqProofs only [e_set,e_sown,e_lst,e_args0,e_c,bind_ok,bind_bind,List.set,h1]
 refine Rng.useP (fun o:Ou D=>∃ ts:List Int,o=.ok (.lst (ts.map D.int))/\ts.length=cs.length/\Ts ts) (j:=(cs.length:Int)) (by simp (decide:=true) -implicitDefEqProofs [tbM_tail,startD,fVar,fVarS,isT,at_0,at_1,at_2,at_3,at_4]) (by simp [rOk];omega) (fun i δ=>∃ (bs:List Int) (a:Int) (s5:Sl),δ=[.val (.lst (cs.map D.int)),.val (.int cell),.val (.int w),.own (.lst (bs.map D.int)),.val (.int a),s5,.un]/\bs.length=i/\bs.Pairwise (· < ·)/\(∀ b∈bs,0<=b/\b < a)/\0<=a/\a<=i * 16777217) ⟨[],0,.un,rfl,rfl,.nil,by simp,by omega,by omega⟩ ?_ ?_
 ·rintro k hk δ ⟨bs,a,s5,rfl,hl,hp,hb,a0,a1⟩
  have k1:k < cs.length:=by omega
  have e1:=at_map k1
  obtain ⟨c',e2⟩:=back_at k1
  generalize cs[k]=c at *
  have hs:bs.length < sizeLine:=small1000 (by omega)
  have q1:0<=(c / 3 + c') % w:=Int.emod_nonneg _ (by omega)
  have q2:(c / 3 + c') % w < w:=Int.emod_lt_of_pos _ (by omega)
  have cm:cMod (c / 3 + c') w=true:=by simp [cMod];omega
  have em:bs.map D.int++[D.int a]=(bs++[a]).map D.int:=by simp
  have hp':(bs++[a]).Pairwise (· < ·):=by
   rw [List.pairwise_append]
   exact ⟨hp,by simp,fun x hx y hy=>by simp at hy;subst hy;exact (hb x hx).2⟩
  refine Goes.eq (δ2:=[.val (.lst (cs.map D.int)),.val (.int cell),.val (.int w),.own (.lst ((bs++[a]).map D.int)),.val (.int (a + 1 + (c / 3 + c') % w)),.val (.int k),.un]) ?_ ⟨bs++[a],_,_,rfl,by simp [hl],hp',?_,by omega,by omega⟩
  ·rw [← em]
   simp -implicitDefEqProofs only [e_nm,bind_ok,List.set]
   simp (decide:=true) -implicitDefEqProofs [tbM_tail,startD,fVar,fVarS,isT,at_0,at_1,at_2,at_3,at_4,sApp,hs,e1,e2,cm]
  ·intro b hb'
   rcases List.mem_append.mp hb' with z | z
   ·have:=hb b z;omega
   ·simp at z;omega
 ·rintro δ ⟨bs,a,s5,rfl,hl,hp,hb,a0,a1⟩
  have hl2:bs.length=cs.length:=by omega
  by_cases hn:bs=[]
  ·subst hn
   refine ⟨[],?_,by simpa using hl2,⟨.nil,by simp⟩⟩
   simp (decide:=true) -implicitDefEqProofs [tbM_tail,startD,fVar,fVarS,isT,at_0,at_1,at_2,at_3,at_4,thaw,eq_nilL]
  ·obtain ⟨bs',b,rfl⟩:=snoc hn
   have hbb:=hb b (by simp)
   have hlt:b < 1073741824:=by omega
   have e1:atI ((bs'++[b]).map D.int) (-1)=some (.int b):=by
    rw [List.map_append,List.map_cons,List.map_nil];exact at_last
   have q1:0<=cell / 3 % (1073741824 - b):=Int.emod_nonneg _ (by omega)
   have q2:cell / 3 % (1073741824 - b) < 1073741824 - b:=Int.emod_lt_of_pos _ (by omega)
   have cm:cMod (cell / 3) (1073741824 - b)=true:=by simp [cMod];omega
   refine ⟨(bs'++[b]).map fun t=>cell / 3 % (1073741824 - b) + t,?_,by simpa using hl2,shift_ts hp (fun t ht=>(hb t ht).1) q1 q2⟩
   have hsz:((bs'++[b]).map D.int).length<=sizeLine:=Nat.le_of_lt (small1000 (by rw [List.length_map];omega))
   generalize hsv:cell / 3 % (1073741824 - b)=s at q1 q2 ⊢
   have ec:compL (gNm 0) fYes (f2 gAdd (fVar 1) (fVar 0)) ((bs'++[b]).map D.int) [.un,.val (.int s)]=.ok (((bs'++[b]).map fun t=>s + t).map D.int):=by
    rw [comp_map (fun δ=>∃ s0,δ=[s0,.val (.int s)]) (fun d=>match d with | .int t=>.int (s + t) | d=>d) _ (fun d hd δ hI=>?_) _ ⟨_,rfl⟩]
    ·rw [List.map_map,List.map_map];rfl
    ·obtain ⟨s0,rfl⟩:=hI
     obtain ⟨t,_,rfl⟩:=List.mem_map.mp hd
     exact ⟨_,rfl,by simp (decide:=true) -implicitDefEqProofs [tbM_tail,startD,fVar,fVarS,isT,at_0,at_1,at_2,at_3,at_4],⟨_,rfl⟩⟩
   have hne:((bs'++[b]).map D.int=[])=False:=by simp
   generalize ((bs'++[b]).map fun t=>s + t).map D.int=R at ec ⊢
   generalize (bs'++[b]).map D.int=L at *
   simp (decide:=true) -implicitDefEqProofs [tbM_tail,startD,fVar,fVarS,isT,at_0,at_1,at_2,at_3,at_4,thaw,eq_nilL,hne,e1,cm,fComp,fItems,dsIn,slIn,hsz,hsv,ec]
def pr (p:Int×D):D:=.tup [.int p.1,p.2]
theorem pairs_of:∀ (ys:List D) (ts:List Int),ys.length=ts.length->(∀ (i:Nat) (y:D),ys[i]? = some y->∃ t d z,ts[i]? = some t/\y=.tup [.int t,d]/\Dk d z)->∃ (ps:List (Int×D)) (zs:List Int),ys=ps.map pr/\ps.map (·.1)=ts/\Row2 Dk (ps.map (·.2)) zs
 | [],[],_,_=>⟨[],[],rfl,rfl,.nil⟩
 | y::ys,t::ts,hl,h=>by
  obtain ⟨t',d,z,h1,h2,h3⟩:=h 0 y rfl
  obtain ⟨ps,zs,g1,g2,g3⟩:=pairs_of ys ts (by simpa using hl) fun i y hy=>by
   have:=h (i + 1) y (by simpa using hy)
   simpa using this
  simp at h1
  subst h1
  exact ⟨(t,d)::ps,z::zs,by rw [List.map_cons,← g1,h2];rfl,by rw [List.map_cons,g2],.cons h3 g3⟩
 | [],_::_,hl,_=>by simp at hl
 | _::_,[],hl,_=>by simp at hl
theorem cut_1_63 (ns:List Int):∃ cs:List Int,cutD (ns.map D.int) (some 1) (some 63)=cs.map D.int/\cs.length<=62:=by
 obtain ⟨cs,e,hl⟩:=cut_map ns (some 1) (some 63)
 refine ⟨cs,e,?_⟩
 have e1:HT.sIx ns.length 0 (some 1)=min 1 ns.length:=HT.sIx_nat _ _ 1
 have e2:HT.sIx ns.length ns.length (some 63)=min 63 ns.length:=HT.sIx_nat _ _ 63
 have h2:(cutD (ns.map D.int) (some 1) (some 63)).length<=62:=by
  unfold cutD
  rw [List.length_take,List.length_drop,List.length_map,e1,e2]
  omega
 rw [e,List.length_map] at h2
 exact h2
theorem row_eq (ns:List Int) (h:ns.length<=63):∃ (ps:List (Int×D)) (zs:List Int),m__law_row [.frl (ns.map D.int)]=.ok (.lst (ps.map pr))/\ps.length<=62/\Row2 Dk (ps.map (·.2)) zs/\Ts (ps.map (·.1)):=by
 obtain ⟨c0,hc0⟩:=cell0_eq ns
 obtain ⟨cs,hcut,hcl⟩:=cut_1_63 ns
 obtain ⟨ts,ht,htl,hts⟩:=times_eq cs c0 hcl
 obtain ⟨ys,e,hl,hR⟩:=comp_inv (g:=gNm 0) (gc:=fYes) (fe:=(fTup [(f2 gIx (fVarS 1) (fVar 0)),(fCall (m__law_deed) [(f2 gIx (fVarS 2) (fVar 0)),(fVarS 0),(fVarS 3)])])) (fun δ=>∃ s0,δ=[s0,.val (.lst (ts.map D.int)),.val (.lst (cs.map D.int)),.val (.int (c0 / 7 % 3))]) (fun i y=>∃ t d z,ts[i]? = some t/\y=.tup [.int t,d]/\Dk d z) (rng 0 cs.length) 0 (fun i d hd δ hI=>by
  obtain ⟨s0,rfl⟩:=hI
  obtain ⟨hi,rfl⟩:=rng_get hd
  have ez:(0:Int) + (i:Int)=i:=by omega
  rw [ez]
  have e1:=at_map (ns:=ts) (k:=i) (by omega)
  have e2:=at_map (ns:=cs) (k:=i) hi
  obtain ⟨d,z,hd,hz⟩:=deed_eq cs[i] (c0 / 7 % 3) (k:=i) (by omega)
  refine ⟨[.val (.int i),.val (.lst (ts.map D.int)),.val (.lst (cs.map D.int)),.val (.int (c0 / 7 % 3))],.tup [.int (ts[i]'(by omega)),d],rfl,rfl,?_,⟨_,rfl⟩,_,d,z,?_,rfl,hz⟩
  ·simp (decide:=true) -implicitDefEqProofs [tbM_tail,startD,fVar,fVarS,isT,at_0,at_1,at_2,at_3,at_4,e1,e2,hd]
  ·rw [Nat.zero_add];exact List.getElem?_eq_getElem _) [.un,.val (.lst (ts.map D.int)),.val (.lst (cs.map D.int)),.val (.int (c0 / 7 % 3))] ⟨_,rfl⟩
 rw [rng_len] at hl
 obtain ⟨ps,zs,g1,g2,g3⟩:=pairs_of ys ts (by omega) fun i y hy=>by have:=hR i y hy;rwa [Nat.zero_add] at this
 have hpl:ps.length=cs.length:=by rw [← hl,g1,List.length_map]
 refine ⟨ps,zs,?_,by omega,g3,by rw [g2];exact hts⟩
 rw [← g1]
 have hro:rOk (cs.length:Int)=true:=by simp [rOk];omega
 have hsz:cs.length<=sizeLine:=Nat.le_of_lt (small1000 (by omega))
 simp (decide:=true) -implicitDefEqProofs [tbM_tail,startD,fVar,fVarS,isT,at_0,at_1,at_2,at_3,at_4,m__law_row,b__law_row,fSl,fPart,hcut,hc0,ht,fComp,fRange,hro,rng_len,hsz,dsIn,slIn,e]
abbrev Pt:=Int×Int
abbrev le (a b:Pt):Prop:=Tim.plt b a=false
abbrev Srt (r:List Pt):Prop:=Tim.SB Tim.plt r
theorem le_tr {a b c:Pt} (h1:le a b) (h2:le b c):le a c:=Tim.plt_ord.neg h2 h1
theorem le_or {a b:Pt} (h:¬ le a b):le b a:=by
 have h':Tim.plt b a=true:=by simpa using h
 cases e:Tim.plt a b with
 | false=>exact e
 | true=>have:=Tim.plt_ord.tr h' e;rw [Tim.plt_ord.irr] at this;cases this
theorem ps_perm (r:List Pt):(psort r).Perm r:=Tim.srt_perm _ r
theorem ps_srt (r:List Pt):Srt (psort r):=Tim.srt_sorted Tim.plt_ord r
theorem ps_len (r:List Pt):(psort r).length=r.length:=(ps_perm r).length_eq
theorem ps_uniq {r q:List Pt} (h:r.Perm q) (hr:Srt r):psort q=r:=(Tim.srt_uniq Tim.plt_ord Tim.plt_tot h hr).symm
theorem ps_self {r:List Pt} (hr:Srt r):psort r=r:=ps_uniq (.refl _) hr
theorem ps_cong {r q:List Pt} (h:r.Perm q):psort r=psort q:=ps_uniq ((ps_perm q).trans h.symm) (ps_srt q)
theorem ps_part {r a b:List Pt} (h:r.Perm (a++b)) (hl:∀ x∈a,∀ y∈b,le x y):psort r=psort a++psort b:=by
 refine ps_uniq (((ps_perm a).append (ps_perm b)).trans h.symm) (List.pairwise_append.mpr ⟨ps_srt a,ps_srt b,fun x hx y hy=>?_⟩)
 exact hl x ((ps_perm a).mem_iff.mp hx) y ((ps_perm b).mem_iff.mp hy)
structure Bg where
 lack:Nat
 gone:List Pt
 left:List Pt
def Bg.nil:Bg:=⟨0,[],[]⟩
inductive Op
 | put (p:Pt) | take | oth
def Bg.step (b:Bg):Op->Bg
 | .put p=>⟨b.lack,b.gone,psort (b.left++[p])⟩
 | .take=>match b.left with
  | []=>⟨b.lack + 1,b.gone,[]⟩
  | p::r=>⟨b.lack,psort (b.gone++[p]),r⟩
 | .oth=>b
def Bg.join (a b:Bg):Bg :=
 ⟨a.lack + (b.lack - a.left.length),psort (a.gone++(psort (a.left++b.gone)).take (b.gone.length + min a.left.length b.lack)),psort (b.left++(psort (a.left++b.gone)).drop (b.gone.length + min a.left.length b.lack))⟩
structure Bg.Ok (b:Bg):Prop where
 gone:Srt b.gone
 left:Srt b.left
theorem Bg.nil_ok:Bg.nil.Ok:=⟨.nil,.nil⟩
theorem Bg.Ok.step {b:Bg} (h:b.Ok):∀ o,(b.step o).Ok
 | .put p=>⟨h.gone,ps_srt _⟩
 | .take=>by
  obtain ⟨l,g,f⟩:=b
  cases f with
  | nil=>exact ⟨h.gone,.nil⟩
  | cons p r=>exact ⟨ps_srt _,(List.pairwise_cons.mp h.left).2⟩
 | .oth=>h
theorem Bg.join_nil {a:Bg} (h:a.Ok):a.join Bg.nil=a:=by
 obtain ⟨l,g,f⟩:=a
 simp [Bg.join,Bg.nil,ps_self h.gone,ps_self h.left]
theorem srt_split {r:List Pt} (h:Srt r) (m:Nat):∀ x∈r.take m,∀ y∈r.drop m,le x y:=by
 have h':Srt (r.take m++r.drop m):=by rw [List.take_append_drop];exact h
 exact (List.pairwise_append.mp h').2.2
theorem Bg.join_step (a:Bg) {b:Bg} (hb:b.Ok):∀ o,a.join (b.step o)=(a.join b).step o
 | .put p=>by
  simp only [Bg.join,Bg.step,Bg.mk.injEq,true_and]
  refine ps_cong (((ps_perm (b.left++[p])).append_right _).trans ?_)
  refine List.Perm.trans ?_ ((ps_perm _).symm.append_right [p])
  rw [List.append_assoc,List.append_assoc]
  exact (List.perm_append_comm).append_left _
 | .oth=>rfl
 | .take=>by
  obtain ⟨l,g,f⟩:=b
  obtain ⟨al,ag,af⟩:=a
  have hF:=ps_srt (af++g)
  have hn:(psort (af++g)).length=af.length + g.length:=by rw [ps_len,List.length_append]
  cases f with
  | nil =>
   simp only [Bg.join,Bg.step,List.nil_append]
   by_cases c:af.length<=l
   ·have e1:min af.length (l + 1)=af.length:=by omega
    have e2:min af.length l=af.length:=by omega
    rw [e1,e2]
    have e3:(psort (af++g)).drop (g.length + af.length)=[]:=List.drop_eq_nil_of_le (by omega)
    rw [e3]
    simp only [Bg.mk.injEq,show psort ([]:List Pt)=[] from rfl,and_self,and_true]
    omega
   ·have e1:min af.length (l + 1)=l + 1:=by omega
    have e2:min af.length l=l:=by omega
    rw [e1,e2]
    have hm:g.length + l < (psort (af++g)).length:=by omega
    generalize psort (af++g)=F at hF hm
    have e3:=List.drop_eq_getElem_cons hm
    have hs:Srt (F.drop (g.length + l)):=hF.sublist (List.drop_sublist _ _)
    have hs':Srt (F.drop (g.length + l + 1)):=hF.sublist (List.drop_sublist _ _)
    rw [ps_self hs,e3]
    simp only [Bg.mk.injEq]
    refine ⟨by omega,ps_cong ?_,ps_self hs'⟩
    have e4:F.take (g.length + (l + 1))=F.take (g.length + l)++[F[g.length + l]]:=List.take_succ_eq_append_getElem hm
    rw [e4,← List.append_assoc]
    exact (ps_perm _).symm.append_right _
  | cons p r =>
   have hp:=List.pairwise_cons.mp hb.left
   simp only [Bg.join,Bg.step]
   have eL:(psort (g++[p])).length=g.length + 1:=by rw [ps_len,List.length_append];rfl
   have eF:psort (af++psort (g++[p]))=psort (p::psort (af++g)):=ps_cong (by
    refine ((ps_perm (g++[p])).append_left af).trans ?_
    rw [← List.append_assoc]
    exact List.perm_append_comm.trans ((ps_perm (af++g)).symm.cons p))
   have eM:(psort (g++[p])).length + min af.length l=(g.length + min af.length l) + 1:=by omega
   rw [eF,eM]
   generalize hmm:g.length + min af.length l=m
   have hm:m<=(psort (af++g)).length:=by omega
   generalize psort (af++g)=F at hF hm
   have spl:=srt_split hF m
   have len:=List.length_take_of_le hm
   cases ed:F.drop m with
   | nil =>
    rw [ed] at spl
    have eT:F.take m=F:=List.take_of_length_le (List.drop_eq_nil_iff.mp ed)
    have e1:(psort (p::F)).drop (m + 1)=[]:=List.drop_eq_nil_of_le (by rw [ps_len,List.length_cons];have:=congrArg List.length eT;omega)
    have e2:(psort (p::F)).take (m + 1)=psort (p::F):=List.take_of_length_le (by rw [ps_len,List.length_cons];have:=congrArg List.length eT;omega)
    rw [e1,e2,List.append_nil,List.append_nil,ps_self hb.left,ps_self hp.2,eT]
    simp only [Bg.mk.injEq,true_and,and_true]
    refine ps_cong (((ps_perm (p::F)).append_left ag).trans ?_)
    exact ((List.perm_append_comm (l₁:=[p]) (l₂:=F)).append_left ag).trans (by rw [← List.append_assoc];exact ((ps_perm (ag++F)).symm.append_right [p]))
   | cons y ys =>
    rw [ed] at spl
    have hd:Srt (y::ys):=by rw [← ed];exact hF.sublist (List.drop_sublist _ _)
    have hy:=List.pairwise_cons.mp hd
    have pF:F.Perm (F.take m++y::ys):=by rw [← ed,List.take_append_drop]
    by_cases c:le p y
    ·have e:psort (p::F)=psort (p::F.take m)++psort (y::ys):=ps_part (pF.cons p) (fun x hx z hz=>by
      have hyz:le y z:=by
       rcases List.mem_cons.mp hz with rfl | hz
       ·exact Tim.plt_ord.irr _
       ·exact hy.1 z hz
      rcases List.mem_cons.mp hx with rfl | hx
      ·exact le_tr c hyz
      ·exact spl x hx z hz)
     have el:(psort (p::F.take m)).length=m + 1:=by rw [ps_len,List.length_cons,len]
     rw [e,← el,List.take_left,List.drop_left]
     have e2:psort ((p::r)++y::ys)=psort [p]++psort (r++y::ys):=ps_part (.refl _) (fun x hx z hz=>by
      rw [List.mem_singleton.mp hx]
      rcases List.mem_append.mp hz with hz | hz
      ·exact hp.1 z hz
      ·rcases List.mem_cons.mp hz with rfl | hz
       ·exact c
       ·exact le_tr c (hy.1 z hz))
     rw [e2,show psort [p]=[p] from rfl,List.singleton_append]
     simp only [Bg.mk.injEq,true_and]
     refine ⟨ps_cong ?_,ps_cong ((ps_perm _).append_left r)⟩
     refine ((ps_perm _).append_left ag).trans ?_
     refine List.Perm.trans ?_ ((ps_perm _).symm.append_right [p])
     rw [List.append_assoc]
     exact (List.perm_append_comm (l₁:=[p])).append_left ag
    ·have c':=le_or c
     have e:psort (p::F)=psort (F.take m++[y])++psort (p::ys):=ps_part ((pF.cons p).trans (by
      rw [List.append_assoc]
      exact (List.perm_middle (a:=p) (l₁:=F.take m) (l₂:=y::ys)).symm.trans ((List.Perm.swap y p ys).append_left _))) (fun x hx z hz=>by
      have hxy:le x y:=by
       rcases List.mem_append.mp hx with hx | hx
       ·exact spl x hx y (List.mem_cons_self ..)
       ·rw [List.mem_singleton.mp hx];exact Tim.plt_ord.irr _
      rcases List.mem_cons.mp hz with rfl | hz
      ·exact le_tr hxy c'
      ·exact le_tr hxy (hy.1 z hz))
     have el:(psort (F.take m++[y])).length=m + 1:=by rw [ps_len,List.length_append,len];rfl
     rw [e,← el,List.take_left,List.drop_left]
     have e2:psort ((p::r)++y::ys)=psort [y]++psort (p::r++ys):=ps_part List.perm_middle (fun x hx z hz=>by
      rw [List.mem_singleton.mp hx]
      rcases List.mem_append.mp hz with hz | hz
      ·rcases List.mem_cons.mp hz with rfl | hz
       ·exact c'
       ·exact le_tr c' (hp.1 z hz)
      ·exact hy.1 z hz)
     rw [e2,show psort [y]=[y] from rfl,List.singleton_append]
     simp only [Bg.mk.injEq,true_and]
     refine ⟨ps_cong ?_,ps_cong ?_⟩
     ·refine ((ps_perm _).append_left ag).trans ?_
      rw [← List.append_assoc]
      exact (ps_perm _).symm.append_right [y]
     ·refine ((ps_perm _).append_left r).trans ?_
      exact List.perm_middle.trans (.refl _)
def run (os:List Op):Bg:=os.foldl Bg.step Bg.nil
theorem run_snoc (os:List Op) (o:Op):run (os++[o])=(run os).step o:=by simp [run]
theorem ok_fold:∀ (os:List Op) {b:Bg},b.Ok->(os.foldl Bg.step b).Ok
 | [],_,h=>h
 | o::os,_,h=>ok_fold os (h.step o)
theorem run_ok (os:List Op):(run os).Ok:=ok_fold os Bg.nil_ok
theorem join_fold {a:Bg}:∀ (os:List Op) {b:Bg},b.Ok->a.join (os.foldl Bg.step b)=os.foldl Bg.step (a.join b)
 | [],_,_=>rfl
 | o::os,b,h=>by
  rw [List.foldl_cons,List.foldl_cons,join_fold os (h.step o),Bg.join_step a h]
theorem join_run (os ps:List Op):(run os).join (run ps)=run (os++ps):=by
 rw [run,run,run,join_fold ps Bg.nil_ok,Bg.join_nil (ok_fold os Bg.nil_ok),List.foldl_append]
theorem len_fold:∀ (os:List Op) (b:Bg),(os.foldl Bg.step b).gone.length + (os.foldl Bg.step b).left.length<=b.gone.length + b.left.length + os.length/\(os.foldl Bg.step b).lack<=b.lack + os.length
 | [],b=>by simp
 | o::os,b=>by
  have h:=len_fold os (b.step o)
  have h2:(b.step o).gone.length + (b.step o).left.length<=b.gone.length + b.left.length + 1/\(b.step o).lack<=b.lack + 1:=by
   obtain ⟨l,g,f⟩:=b
   cases o with
   | put p=>simp only [Bg.step,ps_len,List.length_append,List.length_singleton];omega
   | take=>cases f <;> simp only [Bg.step,ps_len,List.length_append,List.length_singleton,List.length_cons,List.length_nil] <;> omega
   | oth=>simp only [Bg.step];omega
  rw [List.foldl_cons,List.length_cons]
  omega
theorem len_run (os:List Op):(run os).gone.length + (run os).left.length<=os.length/\(run os).lack<=os.length:=by
 have:=len_fold os Bg.nil
 simpa [run,Bg.nil] using this
def encB (b:Bg):D:=.tup [.int (b.lack:Nat),.tup (b.gone.map pairD),.tup (b.left.map pairD)]
def Bg.few (b:Bg) (n:Nat):Prop:=b.gone.length + b.left.length<=n
theorem run_few {os:List Op} {n:Nat} (h:os.length<=n):(run os).few n:=Nat.le_trans (len_run os).1 h
theorem catU_eq {xs ys:List Pt} (h:xs.length + ys.length < 1000):gCatU (.tup (xs.map pairD)) (.tup (ys.map pairD))=.ok (.tup ((xs++ys).map pairD)):=by
 have hs:xs.length + ys.length<=sizeLine:=Nat.le_of_lt (small1000 (Nat.le_of_lt h))
 simp only [gCatU,List.length_map,hs,if_true,List.map_append]
theorem catL_eq {xs ys:List Pt} (h:xs.length + ys.length < 1000):gCat (.lst (xs.map pairD)) (.lst (ys.map pairD))=.ok (.lst ((xs++ys).map pairD)):=by
 have hs:xs.length + ys.length<=sizeLine:=Nat.le_of_lt (small1000 (Nat.le_of_lt h))
 simp only [gCat,List.length_map,hs,if_true,List.map_append]
theorem lack_eq (a b c:Nat):m_joined_lack [.int a,.int b,.int c]=.ok (.int ((a + (c - b):Nat):Int)):=by
 simp (decide:=true) -implicitDefEqProofs [tbM_tail,startD,fVar,fVarS,isT,at_0,at_1,at_2,at_3,at_4,m_joined_lack,b_joined_lack]
 omega
theorem joined_eq {a b:Bg} (ha:a.few 127) (hb:b.few 127) (h1:a.left.length + b.gone.length < 128) (h2:a.gone.length + (b.gone.length + min a.left.length b.lack) < 128) (h3:b.left.length + (a.left.length + b.gone.length) < 128):m_Bag__joined [.obj "Bag",encB a,encB b]=.ok (encB (a.join b)):=by
 obtain ⟨al,ag,af⟩:=a
 obtain ⟨bl,bg,bf⟩:=b
 simp only [Bg.few] at ha hb h1 h2 h3
 have e1:=catU_eq (xs:=af) (ys:=bg) (by omega)
 have e2:=gSortP_tup (ps:=af++bg) (by rw [List.length_append];omega)
 have em:(bg.length:Int) + min (af.length:Int) (bl:Int)=((bg.length + min af.length bl:Nat):Int):=by omega
 have hm:bg.length + min af.length bl<=(psort (af++bg)).length:=by rw [ps_len,List.length_append];omega
 have hm':bg.length + min af.length bl<=((psort (af++bg)).map pairD).length:=by rw [List.length_map];exact hm
 have e3:=cut_take ((psort (af++bg)).map pairD) _ hm'
 have e4:=cut_drop ((psort (af++bg)).map pairD) _ hm'
 rw [← List.map_take] at e3
 rw [← List.map_drop] at e4
 have l3:((psort (af++bg)).take (bg.length + min af.length bl)).length=bg.length + min af.length bl:=List.length_take_of_le hm
 have l4:((psort (af++bg)).drop (bg.length + min af.length bl)).length<=af.length + bg.length:=by rw [List.length_drop,ps_len,List.length_append];omega
 have e5:=catL_eq (xs:=ag) (ys:=(psort (af++bg)).take (bg.length + min af.length bl)) (by omega)
 have e6:=catL_eq (xs:=bf) (ys:=(psort (af++bg)).drop (bg.length + min af.length bl)) (by omega)
 have e7:=gSortP_lst (ps:=ag++(psort (af++bg)).take (bg.length + min af.length bl)) (by rw [List.length_append];omega)
 have e8:=gSortP_lst (ps:=bf++(psort (af++bg)).drop (bg.length + min af.length bl)) (by rw [List.length_append];omega)
 have e9:=lack_eq al af.length bl
 generalize hM:bg.length + min af.length bl=M at *
 generalize hF:psort (af++bg)=F at *
 simp (decide:=true) -implicitDefEqProofs [tbM_tail,startD,fVar,fVarS,isT,at_0,at_1,at_2,at_3,at_4,m_Bag__joined,b_Bag__joined,encB,e1,e2,em,fSl,fPart,e3,e4,e5,e6,e7,e8,e9,gTupOf,Bg.join,hM,hF,-List.map_append,-List.map_take,-List.map_drop]
theorem join_eq {os ps:List Op} (h:os.length + ps.length < 128):m_Bag__joined [.obj "Bag",encB (run os),encB (run ps)]=.ok (encB (run (os++ps))):=by
 rw [← join_run]
 have h1:=len_run os
 have h2:=len_run ps
 exact joined_eq (run_few (by omega)) (run_few (by omega)) (by omega) (by omega) (by omega)
theorem nothing_eq:m_Bag__nothing [.obj "Bag"]=.ok (encB (run [])):=by
 simp (decide:=true) -implicitDefEqProofs [tbM_tail,startD,fVar,fVarS,isT,at_0,at_1,at_2,at_3,at_4,m_Bag__nothing,b_Bag__nothing,encB,run,Bg.nil]
abbrev Tv:=List Op
def en (x:Tv):D:=encB (run x)
def opOf (a:Nat):D->Op
 | .tup [.str w,.int x]=>if w = "put" then .put (x,(a:Int)) else .oth
 | .tup [.str w]=>if w = "take" then .take else .oth
 | _=>.oth
inductive Okd:D->Prop
 | put (x:Int):Okd (.tup [.str "put",.int x])
 | take:Okd (.tup [.str "take"])
 | many:Okd (.tup [.str "many"])
 | look (x:Nat):Okd (.tup [.str "look",.int (x:Int)])
def lone (a:Nat) (d:D):Tv:=[opOf a d]
def join (a b:Tv):Tv:=a++b
theorem lone_eq (a:Nat) {d:D} (h:Okd d):m_Bag__lone [.obj "Bag",.int (a:Int),d]=.ok (en (lone a d)):=by
 have e:=nothing_eq
 have p1:∀ x:Int,psort [((x,(a:Int)):Pt)]=[(x,(a:Int))]:=fun _=>rfl
 cases h with
 | put x=>simp (decide:=true) -implicitDefEqProofs [tbM_tail,startD,fVar,fVarS,isT,at_0,at_1,at_2,at_3,at_4,m_Bag__lone,b_Bag__lone,en,lone,opOf,encB,run,Bg.step,Bg.nil,p1,pairD]
 | take=>simp (decide:=true) -implicitDefEqProofs [tbM_tail,startD,fVar,fVarS,isT,at_0,at_1,at_2,at_3,at_4,m_Bag__lone,b_Bag__lone,en,lone,opOf,encB,run,Bg.step,Bg.nil]
 | many =>
  have:opOf a (.tup [.str "many"])=.oth:=by simp (decide:=true) [opOf]
  simp (decide:=true) -implicitDefEqProofs [tbM_tail,startD,fVar,fVarS,isT,at_0,at_1,at_2,at_3,at_4,m_Bag__lone,b_Bag__lone,e,en,lone,this];rfl
 | look x =>
  have:opOf a (.tup [.str "look",.int (x:Int)])=.oth:=by simp (decide:=true) [opOf]
  simp (decide:=true) -implicitDefEqProofs [tbM_tail,startD,fVar,fVarS,isT,at_0,at_1,at_2,at_3,at_4,m_Bag__lone,b_Bag__lone,e,en,lone,this];rfl
def opsL (l:List (Nat×D)):Tv:=l.map fun p=>opOf p.1 p.2
theorem opsL_app (a b:List (Nat×D)):opsL (a++b)=opsL a++opsL b:=List.map_append ..
theorem opsL_len (a:List (Nat×D)):(opsL a).length=a.length:=List.length_map _
open Tr in
theorem tv_ops:∀ t:T,tv lone join t=opsL t.ds
 | .lf a d=>rfl
 | .nd q k l r=>by
  show join (tv lone join l) (tv lone join r)=opsL (l.ds++r.ds)
  rw [tv_ops l,tv_ops r,opsL_app];rfl
open Tr in
theorem joined_t {l r:T} (h:l.ds.length + r.ds.length<=63):m_Bag__joined [.obj "Bag",en (tv lone join l),en (tv lone join r)]=.ok (en (join (tv lone join l) (tv lone join r))):=by
 rw [tv_ops,tv_ops]
 exact join_eq (by rw [opsL_len,opsL_len];omega)
theorem imm_d {d:D} (h:Okd d):imm d=true:=by
 cases h <;> rfl
theorem self_d {d:D} (h:Okd d):Self 6 d:=by
 cases h <;> refine Self.tup fun y hy=>?_ <;> simp only [List.mem_cons,List.not_mem_nil,or_false] at hy
 ·rcases hy with rfl | rfl
  ·exact (Self.str _).mono (by omega)
  ·exact (Self.int _).mono (by omega)
 ·subst hy;exact (Self.str _).mono (by omega)
 ·subst hy;exact (Self.str _).mono (by omega)
 ·rcases hy with rfl | rfl
  ·exact (Self.str _).mono (by omega)
  ·exact (Self.int _).mono (by omega)
theorem self_en (x:Tv):Self 6 (en x):=by
 have hp:∀ r:List Pt,Self 5 (.tup (r.map pairD)):=fun r=>Self.tup fun x hx=>by
  obtain ⟨p,_,rfl⟩:=List.mem_map.mp hx
  exact Self.tup fun y hy=>by
   simp only [List.mem_cons,List.not_mem_nil,or_false] at hy
   rcases hy with rfl | rfl <;> exact (Self.int _).mono (by omega)
 refine Self.tup fun d hd=>?_
 simp only [List.mem_cons,List.not_mem_nil,or_false] at hd
 rcases hd with rfl | rfl | rfl
 ·exact (Self.int _).mono (by omega)
 ·exact hp _
 ·exact hp _
theorem imm_en (x:Tv):imm (en x)=true:=by
 have h:∀ r:List Pt,imms (r.map pairD)=true:=fun r=>by
  induction r with
  | nil=>rfl
  | cons p r ih=>simp [imms,imm,pairD,ih]
 simp [en,encB,imm,imms,h]
open Tr in
abbrev E:T->D:=enc en lone join
open Tr in
abbrev EO:Option T->D:=encO en lone join
open Tr in
abbrev V:T->Tv:=tv lone join
section
open Tr
theorem insK_len (a:Nat) (d:D) (l:List (Nat×D)):(insK a d l).length=l.length + 1:=(insK_perm l).length_eq
theorem stretch_eq (t:T):m_stretch_of [E t]=.ok (.tup [.int (t.lo:Int),.int (t.sz:Int)]):=by
 obtain ⟨r,e⟩:=enc_form en lone join t
 rw [show E t=_ from e]
 simp (decide:=true) [tbM_tail,startD,fVar,fVarS,isT,at_0,at_1,at_2,at_3,at_4,m_stretch_of,b_stretch_of]
theorem total_of_eq (t:T):m_total_of [E t]=.ok (en (V t)):=by
 obtain ⟨r,e⟩:=enc_form en lone join t
 rw [show E t=_ from e]
 simp (decide:=true) [tbM_tail,startD,fVar,fVarS,isT,at_0,at_1,at_2,at_3,at_4,m_total_of,b_total_of]
theorem leaf_lf (a:Nat) (d:D):m_is_leaf [E (.lf a d)]=.ok (.bl true):=by
 simp (decide:=true) [tbM_tail,startD,fVar,fVarS,isT,at_0,at_1,at_2,at_3,at_4,m_is_leaf,b_is_leaf,E,enc]
theorem leaf_nd (q k:Nat) (l r:T):m_is_leaf [E (.nd q k l r)]=.ok (.bl false):=by
 have h:¬ ((2 ^ (k + 1):Nat):Int)=1:=by
  have:2 ^ (k + 1)=2 ^ k * 2:=Nat.pow_succ ..
  have:=Nat.two_pow_pos k
  omega
 simp only [E,enc]
 generalize ((2 ^ (k + 1):Nat):Int)=z at *
 simp (decide:=true) [tbM_tail,startD,fVar,fVarS,isT,at_0,at_1,at_2,at_3,at_4,m_is_leaf,b_is_leaf,h]
theorem holds_eq (a b x:Int):m_holds [.tup [.int a,.int b],.int x]=.ok (.bl (decide (a<=x) && decide (x<=a + b - 1))):=by
 simp (decide:=true) [tbM_tail,startD,fVar,fVarS,isT,at_0,at_1,at_2,at_3,at_4,m_holds,b_holds,last_time_eq]
theorem knot_eq {l r:T} (hB:l.ds.length + r.ds.length<=63) (hl:Good l) (hr:Good r) (hd:l.lo + l.sz<=r.lo):m_knot [.obj "Bag",E l,E r]=.ok (E (mk l r)):=by
 have pl:=sz_pos l
 have pr:=sz_pos r
 have ul:=hl.up
 have ur:=hr.up
 have hall:all=1073741824:=rfl
 have e:=Bt.bits_blocks (q:=l.q) (i:=l.e) (r:=r.q) (j:=r.e) (x:=l.lo) (a:=l.lo) (y:=r.lo + r.sz - 1) (c:=r.lo) hd (Nat.mul_div_cancel _ pl) (Nat.mul_div_cancel _ pl) (Bt.in_block.mpr ⟨by show r.lo<=_;omega,by show _ < r.lo + r.sz;omega⟩) (Nat.mul_div_cancel _ pr)
 have el:=least_eq (a:=(l.lo:Int)) (b:=(l.sz:Int)) (c:=(r.lo:Int)) (d:=(r.sz:Int)) (f:=l.lo) (l:=r.lo + r.sz - 1) (by rw [if_neg (by omega)]) (by rw [if_pos (by omega)];omega) (by omega) (by omega)
 rw [e] at el
 have em:=enc_mk en lone join (l:=l) (r:=r) (by omega)
 rw [show E (mk l r)=_ from em]
 have s1:=stretch_eq l
 have s2:=stretch_eq r
 have t1:=total_of_eq l
 have t2:=total_of_eq r
 have j:=joined_t hB
 generalize ((l.lo / 2 ^ Bt.bits (l.lo ^^^ r.lo) * 2 ^ Bt.bits (l.lo ^^^ r.lo):Nat):Int)=u1 at *
 generalize ((2 ^ Bt.bits (l.lo ^^^ r.lo):Nat):Int)=u2 at *
 change m_stretch_of [enc en lone join l]=_ at s1
 change m_stretch_of [enc en lone join r]=_ at s2
 change m_total_of [enc en lone join l]=_ at t1
 change m_total_of [enc en lone join r]=_ at t2
 show m_knot [.obj "Bag",enc en lone join l,enc en lone join r]=_
 generalize enc en lone join l=L at *
 generalize enc en lone join r=R at *
 change _=Ou.ok (en (join (tv lone join l) (tv lone join r))) at j
 change m_Bag__joined [.obj "Bag",en (tv lone join l),en (tv lone join r)]=_ at j
 change _=Ou.ok (en (tv lone join l)) at t1
 change _=Ou.ok (en (tv lone join r)) at t2
 simp (decide:=true) [tbM_tail,startD,fVar,fVarS,isT,at_0,at_1,at_2,at_3,at_4,m_knot,b_knot,s1,s2,t1,t2,el,j]
theorem leaf_eq (a:Nat) {d:D} (h:Okd d):m_leaf [.obj "Bag",.int (a:Int),d]=.ok (E (.lf a d)):=by
 have l:=lone_eq a h
 simp (decide:=true) [tbM_tail,startD,fVar,fVarS,isT,at_0,at_1,at_2,at_3,at_4,m_leaf,b_leaf,l,E,enc]
theorem beside_eq {t:T} {a:Nat} {d:D} (hB:t.ds.length + 1<=63) (ht:Good t) (ha:a < all) (hn:a < t.lo\/t.lo + t.sz<=a):m_beside [.obj "Bag",E t,E (.lf a d)]=.ok (E (if a < t.lo then mk (.lf a d) t else mk t (.lf a d))):=by
 obtain ⟨r,e⟩:=enc_form en lone join t
 have gl:Good (.lf a d):=.lf ha
 have la:(T.lf a d).lo=a:=by simp [T.lo,T.q,T.e]
 have sa:(T.lf a d).sz=1:=rfl
 have e2:E (.lf a d)=.tup [.int (a:Int),.int 1,en (lone a d),d]:=rfl
 by_cases h:a < t.lo
 ·have k:=knot_eq (l:=.lf a d) (r:=t) (by simp only [T.ds,List.length_cons,List.length_nil];omega) gl ht (by omega)
  have h':(a:Int) < (t.lo:Int):=by omega
  rw [if_pos h]
  change enc en lone join t=_ at e
  change m_knot [.obj "Bag",E (.lf a d),enc en lone join t]=_ at k
  show m_beside [.obj "Bag",enc en lone join t,E (.lf a d)]=_
  rw [e,e2] at k ⊢
  simp (decide:=true) [tbM_tail,startD,fVar,fVarS,isT,at_0,at_1,at_2,at_3,at_4,m_beside,b_beside,h',k]
 ·have k:=knot_eq (l:=t) (r:=.lf a d) (by simp only [T.ds,List.length_cons,List.length_nil];omega) ht gl (by omega)
  have h':¬ (a:Int) < (t.lo:Int):=by omega
  rw [if_neg h]
  change enc en lone join t=_ at e
  change m_knot [.obj "Bag",enc en lone join t,E (.lf a d)]=_ at k
  show m_beside [.obj "Bag",enc en lone join t,E (.lf a d)]=_
  rw [e,e2] at k ⊢
  simp (decide:=true) [tbM_tail,startD,fVar,fVarS,isT,at_0,at_1,at_2,at_3,at_4,m_beside,b_beside,h',k]
theorem early_eq (q k a:Nat) (l r:T):m_is_early [E (.nd q k l r),.int (a:Int)]=.ok (.bl (decide (((q * 2 ^ (k + 1):Nat):Int)<=(a:Int)) && decide ((a:Int)<=((q * 2 ^ (k + 1):Nat):Int) + ((2 ^ k:Nat):Int) - 1))):=by
 have s:=stretch_eq (.nd q k l r)
 have e1:((T.nd q k l r).lo:Int)=((q * 2 ^ (k + 1):Nat):Int):=rfl
 have e2:((T.nd q k l r).sz:Int)=((2 ^ (k + 1):Nat):Int):=rfl
 have eh:((2 ^ (k + 1):Nat):Int) / 2=((2 ^ k:Nat):Int):=by
  have:2 ^ (k + 1)=2 ^ k * 2:=Nat.pow_succ ..
  omega
 rw [e1,e2] at s
 generalize E (.nd q k l r)=z at *
 generalize ((q * 2 ^ (k + 1):Nat):Int)=lo at *
 generalize ((2 ^ (k + 1):Nat):Int)=sz at *
 generalize ((2 ^ k:Nat):Int)=hz at *
 have h:=holds_eq lo hz a
 simp (decide:=true) [tbM_tail,startD,fVar,fVarS,isT,at_0,at_1,at_2,at_3,at_4,m_is_early,b_is_early,s,m_halves,b_halves,eh,h]
theorem c_hold {K X A d s:D} {b:Bool} (hs:m_stretch_of [X]=.ok s) (hh:m_holds [s,A]=.ok (.bl b)):fNotT (fTru (fCall (m_holds) [(fCall (m_stretch_of) [(fVar 1)]),(fVar 2)])) [.val K,.val X,.val A,.val d]=.ok (!b):=by
 simp (decide:=true) [tbM_tail,startD,fVar,fVarS,isT,at_0,at_1,at_2,at_3,at_4,hs,hh]
theorem put_far {F:List D->Ou D} {K A d s f b:D} {xs:List D} (hs:m_stretch_of [.tup xs]=.ok s) (hh:m_holds [s,A]=.ok (.bl false)) (hl:m_leaf [K,A,d]=.ok f) (hb:m_beside [K,.tup xs,f]=.ok b):runD false 4 (b_put_in F) [K,.tup xs,A,d]=.ok b:=by
 refine run_rt ((if_no (b:=false) rfl rfl).trans (if_ret (b:=true) ?_ rfl ?_))
 ·exact c_hold hs hh
 ·show fCall (m_beside) [(fVar 0),(fVar 1),(fCall (m_leaf) [(fVar 0),(fVar 2),(fVar 3)])] [.val K,.val (.tup xs),.val A,.val d]=.ok b
  simp (decide:=true) [tbM_tail,startD,fVar,fVarS,isT,at_0,at_1,at_2,at_3,at_4,hl,hb]
theorem put_in_way {F:List D->Ou D} {K A d s z1 z2 z3 l r:D} (hs:m_stretch_of [.tup [z1,z2,z3,l,r]]=.ok s) (hh:m_holds [s,A]=.ok (.bl true)) (hl:m_is_leaf [.tup [z1,z2,z3,l,r]]=.ok (.bl false)):runD false 4 (b_put_in F) [K,.tup [z1,z2,z3,l,r],A,d]=runD false 4 (sSeq (sIf (fTru (fCall (m_is_early) [(fVar 1),(fVar 2)])) (sSeq (sRet (fCall (m_knot) [(fVar 0),(fCall (F) [(fVar 0),(f2 gIx (fVar 1) (fC (.int 3))),(fVar 2),(fVar 3)]),(f2 gIx (fVar 1) (fC (.int 4)))])) sNext) sNext) (sSeq (sRet (fCall (m_knot) [(fVar 0),(f2 gIx (fVar 1) (fC (.int 3))),(fCall (F) [(fVar 0),(f2 gIx (fVar 1) (fC (.int 4))),(fVar 2),(fVar 3)])])) sNext)) [K,.tup [z1,z2,z3,l,r],A,d]:=by
 have h1:fTru (fCall (m_is_leaf) [(fVar 1)]) [.val K,.val (.tup [z1,z2,z3,l,r]),.val A,.val d]=.ok false:=by simp (decide:=true) [tbM_tail,startD,fVar,fVarS,isT,at_0,at_1,at_2,at_3,at_4,hl]
 have e:(b_put_in F) (startD 4 [K,.tup [z1,z2,z3,l,r],A,d])=_:=(if_no (b:=false) rfl rfl).trans ((if_no (c_hold hs hh) rfl).trans (if_no h1 rfl))
 unfold runD
 rw [e]
 try rfl
theorem put_early {F:List D->Ou D} {K A d s l' b z1 z2 z3 l r:D} (hs:m_stretch_of [.tup [z1,z2,z3,l,r]]=.ok s) (hh:m_holds [s,A]=.ok (.bl true)) (hl:m_is_leaf [.tup [z1,z2,z3,l,r]]=.ok (.bl false)) (he:m_is_early [.tup [z1,z2,z3,l,r],A]=.ok (.bl true)) (hf:F [K,l,A,d]=.ok l') (hk:m_knot [K,l',r]=.ok b):runD false 4 (b_put_in F) [K,.tup [z1,z2,z3,l,r],A,d]=.ok b:=by
 rw [put_in_way hs hh hl]
 have h1:fTru (fCall (m_is_early) [(fVar 1),(fVar 2)]) [.val K,.val (.tup [z1,z2,z3,l,r]),.val A,.val d]=.ok true:=by simp (decide:=true) [tbM_tail,startD,fVar,fVarS,isT,at_0,at_1,at_2,at_3,at_4,he]
 exact run_rt (if_ret h1 rfl (by simp (decide:=true) [tbM_tail,startD,fVar,fVarS,isT,at_0,at_1,at_2,at_3,at_4,hf,hk]))
theorem put_late {F:List D->Ou D} {K A d s l' b z1 z2 z3 l r:D} (hs:m_stretch_of [.tup [z1,z2,z3,l,r]]=.ok s) (hh:m_holds [s,A]=.ok (.bl true)) (hl:m_is_leaf [.tup [z1,z2,z3,l,r]]=.ok (.bl false)) (he:m_is_early [.tup [z1,z2,z3,l,r],A]=.ok (.bl false)) (hf:F [K,r,A,d]=.ok l') (hk:m_knot [K,l,l']=.ok b):runD false 4 (b_put_in F) [K,.tup [z1,z2,z3,l,r],A,d]=.ok b:=by
 rw [put_in_way hs hh hl]
 have h1:fTru (fCall (m_is_early) [(fVar 1),(fVar 2)]) [.val K,.val (.tup [z1,z2,z3,l,r]),.val A,.val d]=.ok false:=by simp (decide:=true) [tbM_tail,startD,fVar,fVarS,isT,at_0,at_1,at_2,at_3,at_4,he]
 exact run_rt ((if_no h1 rfl).trans (ret_is (by simp (decide:=true) [tbM_tail,startD,fVar,fVarS,isT,at_0,at_1,at_2,at_3,at_4,hf,hk])))
theorem put_eq {a:Nat} {d:D} (ha:a < all) (hd:Okd d):∀ (n:Nat) (t t':T),t.ds.length + 1<=63->Good t->t.e < n->put a d t=some t'->m_put_in n [.obj "Bag",E t,.int (a:Int),d]=.ok (E t')
 | 0,t,_,_,_,h,_=>by omega
 | n + 1,.lf b e,t',hB,G,_,hp=>by
  have hu:m_put_in (n + 1) [.obj "Bag",E (.lf b e),.int (a:Int),d]=runD false 4 (b_put_in (m_put_in n)) [.obj "Bag",E (.lf b e),.int (a:Int),d]:=rfl
  rw [hu]
  generalize m_put_in n=F
  have lb:(T.lf b e).lo=b:=by simp [T.lo,T.q,T.e]
  have sb:(T.lf b e).sz=1:=rfl
  have hab:a≠b:=fun z=>by
   subst z
   simp [put] at hp
  have s:=stretch_eq (.lf b e)
  have lq:=leaf_eq a hd
  have bq:=beside_eq (d:=d) hB G ha (by rw [lb,sb];omega)
  rw [lb] at bq s
  rw [sb] at s
  have hh:=holds_eq (b:Int) 1 a
  have hf:(decide ((b:Int)<=(a:Int)) && decide ((a:Int)<=(b:Int) + 1 - 1))=false:=by
   by_cases z:(b:Int)<=(a:Int)
   ·have:¬ (a:Int)<=(b:Int) + 1 - 1:=by omega
    simp [this];omega
   ·simp [z]
  rw [hf] at hh
  have ht:(if a < b then mk (.lf a d) (.lf b e) else mk (.lf b e) (.lf a d))=t':=by
   simp only [put] at hp
   by_cases z:a < b
   ·rw [if_pos z] at hp ⊢;exact Option.some.inj hp
   ·rw [if_neg z,if_pos (show b < a by omega)] at hp
    rw [if_neg z];exact Option.some.inj hp
  rw [ht] at bq
  have hx:∃ xs,E (.lf b e)=.tup xs:=⟨_,rfl⟩
  obtain ⟨xs,hx⟩:=hx
  rw [hx] at s bq ⊢
  have s':m_stretch_of [.tup xs]=.ok (.tup [.int (b:Int),.int 1]):=s
  exact put_far s' hh lq bq
 | n + 1,.nd q k l r,t',hB,G,hn,hp=>by
  have hBl:l.ds.length + r.ds.length + 1<=63:=by simpa only [T.ds,List.length_append] using hB
  have hu:m_put_in (n + 1) [.obj "Bag",E (.nd q k l r),.int (a:Int),d]=runD false 4 (b_put_in (m_put_in n)) [.obj "Bag",E (.nd q k l r),.int (a:Int),d]:=rfl
  obtain ⟨hl,hr,el,er,hdj⟩:=sub_e G
  have hn':k + 1 < n + 1:=hn
  have lb:(T.nd q k l r).lo=q * 2 ^ (k + 1):=rfl
  have sb:(T.nd q k l r).sz=2 ^ (k + 1):=rfl
  have s:=stretch_eq (.nd q k l r)
  rw [lb,sb] at s
  have hh:=holds_eq ((q * 2 ^ (k + 1):Nat):Int) ((2 ^ (k + 1):Nat):Int) a
  have ex:E (.nd q k l r)=.tup [.int ((q * 2 ^ (k + 1):Nat):Int),.int ((2 ^ (k + 1):Nat):Int),en (join (V l) (V r)),E l,E r]:=rfl
  have pk:=Nat.two_pow_pos k
  have e2:2 ^ (k + 1)=2 ^ k * 2:=Nat.pow_succ ..
  by_cases hin:a < q * 2 ^ (k + 1)\/q * 2 ^ (k + 1) + 2 ^ (k + 1)<=a
  ·have lq:=leaf_eq a hd
   have bq:=beside_eq (d:=d) hB G ha (by rw [lb,sb];exact hin)
   rw [lb] at bq
   have hf:(decide (((q * 2 ^ (k + 1):Nat):Int)<=(a:Int)) && decide ((a:Int)<=((q * 2 ^ (k + 1):Nat):Int) + ((2 ^ (k + 1):Nat):Int) - 1))=false:=by
    rcases hin with z | z
    ·have:¬ ((q * 2 ^ (k + 1):Nat):Int)<=(a:Int):=by omega
     rw [decide_eq_false this];rfl
    ·have:¬ (a:Int)<=((q * 2 ^ (k + 1):Nat):Int) + ((2 ^ (k + 1):Nat):Int) - 1:=by omega
     rw [decide_eq_false this,Bool.and_false]
   rw [hf] at hh
   have ht:(if a < q * 2 ^ (k + 1) then mk (.lf a d) (.nd q k l r) else mk (.nd q k l r) (.lf a d))=t':=by
    simp only [put] at hp
    by_cases z:a < q * 2 ^ (k + 1)
    ·rw [if_pos z] at hp ⊢;exact Option.some.inj hp
    ·rw [if_neg z,if_pos (by omega)] at hp
     rw [if_neg z];exact Option.some.inj hp
   rw [ht] at bq
   rw [hu]
   rw [ex] at s bq ⊢
   exact put_far s hh lq bq
  ·have n1:¬ a < q * 2 ^ (k + 1):=fun z=>hin (.inl z)
   have n2:¬ q * 2 ^ (k + 1) + 2 ^ (k + 1)<=a:=fun z=>hin (.inr z)
   have hf:(decide (((q * 2 ^ (k + 1):Nat):Int)<=(a:Int)) && decide ((a:Int)<=((q * 2 ^ (k + 1):Nat):Int) + ((2 ^ (k + 1):Nat):Int) - 1))=true:=by
    rw [decide_eq_true (show ((q * 2 ^ (k + 1):Nat):Int)<=(a:Int) by omega),decide_eq_true (show (a:Int)<=((q * 2 ^ (k + 1):Nat):Int) + ((2 ^ (k + 1):Nat):Int) - 1 by omega)]
    rfl
   rw [hf] at hh
   have lfn:=leaf_nd q k l r
   have eq:=early_eq q k a l r
   simp only [put,if_neg n1,if_neg n2] at hp
   by_cases c3:a < q * 2 ^ (k + 1) + 2 ^ k
   ·have he:(decide (((q * 2 ^ (k + 1):Nat):Int)<=(a:Int)) && decide ((a:Int)<=((q * 2 ^ (k + 1):Nat):Int) + ((2 ^ k:Nat):Int) - 1))=true:=by
     rw [decide_eq_true (show ((q * 2 ^ (k + 1):Nat):Int)<=(a:Int) by omega),decide_eq_true (show (a:Int)<=((q * 2 ^ (k + 1):Nat):Int) + ((2 ^ k:Nat):Int) - 1 by omega)]
     rfl
    rw [he] at eq
    rw [if_pos c3] at hp
    cases hpl:put a d l with
    | none=>rw [hpl] at hp;cases hp
    | some l' =>
     rw [hpl] at hp
     obtain rfl:mk l' r=t':=Option.some.inj hp
     have ih:=put_eq ha hd n l l' (by omega) hl (by omega) hpl
     have hnl:∀ p∈l.ds,p.1≠a:=put_new l (by rw [hpl];simp) hl
     obtain ⟨l2,P⟩:=put_ok (d:=d) ha hl hnl
     have el2:l2=l':=Option.some.inj (P.eq.symm.trans hpl)
     subst el2
     have ek:q * 2 ^ (k + 1)=2 * q * 2 ^ k:=by rw [e2,Nat.mul_comm (2 ^ k) 2,← Nat.mul_assoc,Nat.mul_comm q 2]
     have wl:Within l2 (2 * q) k:=by
      cases G with
      | nd _ _ h1 h2 h3 h4 h5=>exact P.win (2 * q) k ⟨by omega,by omega⟩ (Bt.in_block.mpr ⟨by omega,by omega⟩)
     have hdis:l2.lo + l2.sz<=r.lo:=by
      cases G with
      | nd _ _ h1 h2 h3 h4 h5=>have:=wl.2;omega
     have kq:=knot_eq (by rw [P.ds,insK_len];omega) P.good hr hdis
     rw [hu]
     rw [ex] at s lfn eq ⊢
     exact put_early s hh lfn eq ih kq
   ·have he:(decide (((q * 2 ^ (k + 1):Nat):Int)<=(a:Int)) && decide ((a:Int)<=((q * 2 ^ (k + 1):Nat):Int) + ((2 ^ k:Nat):Int) - 1))=false:=by
     rw [decide_eq_false (show ¬ (a:Int)<=((q * 2 ^ (k + 1):Nat):Int) + ((2 ^ k:Nat):Int) - 1 by omega),Bool.and_false]
    rw [he] at eq
    rw [if_neg c3] at hp
    cases hpl:put a d r with
    | none=>rw [hpl] at hp;cases hp
    | some r' =>
     rw [hpl] at hp
     obtain rfl:mk l r'=t':=Option.some.inj hp
     have ih:=put_eq ha hd n r r' (by omega) hr (by omega) hpl
     have hnr:∀ p∈r.ds,p.1≠a:=put_new r (by rw [hpl];simp) hr
     obtain ⟨r2,P⟩:=put_ok (d:=d) ha hr hnr
     have el2:r2=r':=Option.some.inj (P.eq.symm.trans hpl)
     subst el2
     have ek:q * 2 ^ (k + 1)=2 * q * 2 ^ k:=by rw [e2,Nat.mul_comm (2 ^ k) 2,← Nat.mul_assoc,Nat.mul_comm q 2]
     have eb:(2 * q + 1) * 2 ^ k=q * 2 ^ (k + 1) + 2 ^ k:=by rw [Nat.add_mul,Nat.one_mul,ek]
     have wr:Within r2 (2 * q + 1) k:=by
      cases G with
      | nd _ _ h1 h2 h3 h4 h5=>exact P.win (2 * q + 1) k ⟨by omega,by omega⟩ (Bt.in_block.mpr ⟨by omega,by omega⟩)
     have hdis:l.lo + l.sz<=r2.lo:=by
      cases G with
      | nd _ _ h1 h2 h3 h4 h5=>have:=wr.1;omega
     have kq:=knot_eq (by rw [P.ds,insK_len];omega) hl P.good hdis
     rw [hu]
     rw [ex] at s lfn eq ⊢
     exact put_late s hh lfn eq ih kq
def GoodO:Option T->Prop
 | some t=>Good t
 | none=>True
theorem put_in_eq {o:Option T} (hB:(dsO o).length + 1<=63) (h:GoodO o) {a:Nat} (ha:a < all) {d:D} (hd:Okd d) (hn:∀ p∈dsO o,p.1≠a):∃ t',m_put_in 64 [.obj "Bag",EO o,.int (a:Int),d]=.ok (E t')/\Good t'/\t'.ds=insK a d (dsO o):=by
 cases o with
 | none =>
  refine ⟨.lf a d,?_,.lf ha,rfl⟩
  have hu:m_put_in 64 [.obj "Bag",.non,.int (a:Int),d]=runD false 4 (b_put_in (m_put_in 63)) [.obj "Bag",.non,.int (a:Int),d]:=rfl
  show m_put_in 64 [.obj "Bag",.non,.int (a:Int),d]=_
  rw [hu]
  exact run_rt (if_ret (b:=true) rfl rfl (leaf_eq a hd))
 | some t =>
  obtain ⟨t',P⟩:=put_ok (d:=d) ha h hn
  have:=depth h
  exact ⟨t',put_eq ha hd 64 t t' hB h (by omega) P.eq,P.good,P.ds⟩
end
section
open Tr
end
section
open Tr
theorem within_eq {a b c e:Int} (hb:1<=b):m_within [.tup [.int a,.int b],.tup [.int c,.int e]]=.ok (.bl (decide (c<=a/\a + b<=c + e))):=by
 have h1:=holds_eq c e a
 have h2:=holds_eq c e (a + b - 1)
 have l:=last_time_eq a b
 by_cases z:c<=a/\a + b<=c + e
 ·have x1:(decide (c<=a) && decide (a<=c + e - 1))=true:=by simp;omega
  have x2:(decide (c<=a + b - 1) && decide (a + b - 1<=c + e - 1))=true:=by simp;omega
  rw [x1] at h1
  rw [x2] at h2
  rw [decide_eq_true z]
  simp (decide:=true) [tbM_tail,startD,fVar,fVarS,isT,at_0,at_1,at_2,at_3,at_4,m_within,b_within,h1,h2,l]
 ·rw [decide_eq_false z]
  by_cases y:c<=a/\a<=c + e - 1
  ·have x1:(decide (c<=a) && decide (a<=c + e - 1))=true:=by simp;omega
   have x2:(decide (c<=a + b - 1) && decide (a + b - 1<=c + e - 1))=false:=by simp;omega
   rw [x1] at h1
   rw [x2] at h2
   simp (decide:=true) [tbM_tail,startD,fVar,fVarS,isT,at_0,at_1,at_2,at_3,at_4,m_within,b_within,h1,h2,l]
  ·have x1:(decide (c<=a) && decide (a<=c + e - 1))=false:=by simp;omega
   rw [x1] at h1
   simp (decide:=true) [tbM_tail,startD,fVar,fVarS,isT,at_0,at_1,at_2,at_3,at_4,m_within,b_within,h1,l]
def blk (b:Nat×Nat):D:=.tup [.int ((b.1 * 2 ^ b.2:Nat):Int),.int ((2 ^ b.2:Nat):Int)]
def down (Q n:Nat):T->Option T
 | .lf _ _=>none
 | .nd q k l r=>if q * 2 ^ (k + 1)<=Q * 2 ^ n/\Q * 2 ^ n + 2 ^ n<=q * 2 ^ (k + 1) + 2 ^ k then some l else if q * 2 ^ (k + 1) + 2 ^ k<=Q * 2 ^ n/\Q * 2 ^ n + 2 ^ n<=q * 2 ^ (k + 1) + 2 ^ (k + 1) then some r else none
theorem insT_step (Q n:Nat) (t:T):insT Q n t=if Within t Q n then some t else (down Q n t).bind (insT Q n):=by
 cases t with
 | lf a d=>simp only [insT,down];split <;> rfl
 | nd q k l r =>
  simp only [insT,down]
  split
  ·rfl
  ·split
   ·rfl
   ·split <;> rfl
theorem down_eq (Q n:Nat) (t:T):m_one_step_down [E t,blk (Q,n)]=.ok (EO (down Q n t)):=by
 cases t with
 | lf a d =>
  have l:=leaf_lf a d
  have hx:∃ xs,E (.lf a d)=.tup xs:=⟨_,rfl⟩
  obtain ⟨xs,hx⟩:=hx
  rw [hx] at l ⊢
  show _=Ou.ok D.non
  generalize blk (Q,n)=z
  simp (decide:=true) [tbM_tail,startD,fVar,fVarS,isT,at_0,at_1,at_2,at_3,at_4,m_one_step_down,b_one_step_down,l]
 | nd q k l r =>
  have ln:=leaf_nd q k l r
  have s:=stretch_eq (.nd q k l r)
  have e1:((T.nd q k l r).lo:Int)=((q * 2 ^ (k + 1):Nat):Int):=rfl
  have e2:((T.nd q k l r).sz:Int)=((2 ^ (k + 1):Nat):Int):=rfl
  have pn:=Nat.two_pow_pos n
  have ep:2 ^ (k + 1)=2 ^ k * 2:=Nat.pow_succ ..
  have eh:((2 ^ (k + 1):Nat):Int) / 2=((2 ^ k:Nat):Int):=by omega
  rw [e1,e2] at s
  have w1:=within_eq (a:=((Q * 2 ^ n:Nat):Int)) (b:=((2 ^ n:Nat):Int)) (c:=((q * 2 ^ (k + 1):Nat):Int)) (e:=((2 ^ k:Nat):Int)) (by omega)
  have w2:=within_eq (a:=((Q * 2 ^ n:Nat):Int)) (b:=((2 ^ n:Nat):Int)) (c:=((q * 2 ^ (k + 1):Nat):Int) + ((2 ^ k:Nat):Int)) (e:=((2 ^ k:Nat):Int)) (by omega)
  have ex:E (.nd q k l r)=.tup [.int ((q * 2 ^ (k + 1):Nat):Int),.int ((2 ^ (k + 1):Nat):Int),en (join (V l) (V r)),E l,E r]:=rfl
  have eb:blk (Q,n)=.tup [.int ((Q * 2 ^ n:Nat):Int),.int ((2 ^ n:Nat):Int)]:=rfl
  have hv:m_halves [.tup [.int ((q * 2 ^ (k + 1):Nat):Int),.int ((2 ^ (k + 1):Nat):Int)]]=.ok (.tup [.tup [.int ((q * 2 ^ (k + 1):Nat):Int),.int ((2 ^ k:Nat):Int)],.tup [.int (((q * 2 ^ (k + 1):Nat):Int) + ((2 ^ k:Nat):Int)),.int ((2 ^ k:Nat):Int)]]):=by
   generalize ((q * 2 ^ (k + 1):Nat):Int)=z1 at *
   generalize ((2 ^ (k + 1):Nat):Int)=z2 at *
   generalize ((2 ^ k:Nat):Int)=z8 at *
   simp (decide:=true) [tbM_tail,startD,fVar,fVarS,isT,at_0,at_1,at_2,at_3,at_4,m_halves,b_halves,eh]
  by_cases c1:q * 2 ^ (k + 1)<=Q * 2 ^ n/\Q * 2 ^ n + 2 ^ n<=q * 2 ^ (k + 1) + 2 ^ k
  ·have d1:((q * 2 ^ (k + 1):Nat):Int)<=((Q * 2 ^ n:Nat):Int)/\((Q * 2 ^ n:Nat):Int) + ((2 ^ n:Nat):Int)<=((q * 2 ^ (k + 1):Nat):Int) + ((2 ^ k:Nat):Int):=by omega
   rw [decide_eq_true d1] at w1
   have hd:down Q n (.nd q k l r)=some l:=by simp only [down];rw [if_pos c1]
   rw [hd]
   show _=Ou.ok (E l)
   rw [eb]
   rw [ex] at ln s ⊢
   generalize ((q * 2 ^ (k + 1):Nat):Int)=z1 at *
   generalize ((2 ^ (k + 1):Nat):Int)=z2 at *
   generalize en (join (V l) (V r))=z3 at *
   generalize E l=z4 at *
   generalize E r=z5 at *
   generalize ((Q * 2 ^ n:Nat):Int)=z6 at *
   generalize ((2 ^ n:Nat):Int)=z7 at *
   generalize ((2 ^ k:Nat):Int)=z8 at *
   simp (decide:=true) [tbM_tail,startD,fVar,fVarS,isT,at_0,at_1,at_2,at_3,at_4,m_one_step_down,b_one_step_down,ln,s,hv,w1]
  ·have d1:¬ (((q * 2 ^ (k + 1):Nat):Int)<=((Q * 2 ^ n:Nat):Int)/\((Q * 2 ^ n:Nat):Int) + ((2 ^ n:Nat):Int)<=((q * 2 ^ (k + 1):Nat):Int) + ((2 ^ k:Nat):Int)):=by omega
   rw [decide_eq_false d1] at w1
   by_cases c2:q * 2 ^ (k + 1) + 2 ^ k<=Q * 2 ^ n/\Q * 2 ^ n + 2 ^ n<=q * 2 ^ (k + 1) + 2 ^ (k + 1)
   ·have d2:((q * 2 ^ (k + 1):Nat):Int) + ((2 ^ k:Nat):Int)<=((Q * 2 ^ n:Nat):Int)/\((Q * 2 ^ n:Nat):Int) + ((2 ^ n:Nat):Int)<=((q * 2 ^ (k + 1):Nat):Int) + ((2 ^ k:Nat):Int) + ((2 ^ k:Nat):Int):=by omega
    rw [decide_eq_true d2] at w2
    have hd:down Q n (.nd q k l r)=some r:=by simp only [down];rw [if_neg c1,if_pos c2]
    rw [hd]
    show _=Ou.ok (E r)
    rw [eb]
    rw [ex] at ln s ⊢
    generalize ((q * 2 ^ (k + 1):Nat):Int)=z1 at *
    generalize ((2 ^ (k + 1):Nat):Int)=z2 at *
    generalize en (join (V l) (V r))=z3 at *
    generalize E l=z4 at *
    generalize E r=z5 at *
    generalize ((Q * 2 ^ n:Nat):Int)=z6 at *
    generalize ((2 ^ n:Nat):Int)=z7 at *
    generalize ((2 ^ k:Nat):Int)=z8 at *
    simp (decide:=true) [tbM_tail,startD,fVar,fVarS,isT,at_0,at_1,at_2,at_3,at_4,m_one_step_down,b_one_step_down,ln,s,hv,w1,w2]
   ·have d2:¬ (((q * 2 ^ (k + 1):Nat):Int) + ((2 ^ k:Nat):Int)<=((Q * 2 ^ n:Nat):Int)/\((Q * 2 ^ n:Nat):Int) + ((2 ^ n:Nat):Int)<=((q * 2 ^ (k + 1):Nat):Int) + ((2 ^ k:Nat):Int) + ((2 ^ k:Nat):Int)):=by omega
    rw [decide_eq_false d2] at w2
    have hd:down Q n (.nd q k l r)=none:=by simp only [down];rw [if_neg c1,if_neg c2]
    rw [hd]
    show _=Ou.ok D.non
    rw [eb]
    rw [ex] at ln s ⊢
    generalize ((q * 2 ^ (k + 1):Nat):Int)=z1 at *
    generalize ((2 ^ (k + 1):Nat):Int)=z2 at *
    generalize en (join (V l) (V r))=z3 at *
    generalize E l=z4 at *
    generalize E r=z5 at *
    generalize ((Q * 2 ^ n:Nat):Int)=z6 at *
    generalize ((2 ^ n:Nat):Int)=z7 at *
    generalize ((2 ^ k:Nat):Int)=z8 at *
    simp (decide:=true) [tbM_tail,startD,fVar,fVarS,isT,at_0,at_1,at_2,at_3,at_4,m_one_step_down,b_one_step_down,ln,s,hv,w1,w2]
theorem within_t (Q n:Nat) (t:T):m_within [.tup [.int (t.lo:Int),.int (t.sz:Int)],blk (Q,n)]=.ok (.bl (decide (Within t Q n))):=by
 have pt:=sz_pos t
 have w:=within_eq (a:=(t.lo:Int)) (b:=(t.sz:Int)) (c:=((Q * 2 ^ n:Nat):Int)) (e:=((2 ^ n:Nat):Int)) (by omega)
 show m_within [.tup [.int (t.lo:Int),.int (t.sz:Int)],.tup [.int ((Q * 2 ^ n:Nat):Int),.int ((2 ^ n:Nat):Int)]]=_
 rw [w]
 have e:(((Q * 2 ^ n:Nat):Int)<=(t.lo:Int)/\(t.lo:Int) + (t.sz:Int)<=((Q * 2 ^ n:Nat):Int) + ((2 ^ n:Nat):Int)) ↔ Within t Q n:=by unfold Tr.Within;omega
 by_cases z:Within t Q n
 ·rw [decide_eq_true z,decide_eq_true (e.mpr z)]
 ·rw [decide_eq_false z,decide_eq_false fun y=>z (e.mp y)]
theorem inside_loop (Q n:Nat) (s0:Sl):∀ (fuel:Nat) (o:Option T),GoodO o->(∀ t,o=some t->t.e + 1 < fuel)->0 < fuel->whileF (fAndT (fAsB (f1 gNotN (fVar 2))) (fNotT (fTru (fCall (m_within) [(fCall (m_stretch_of) [(fVar 2)]),(fVar 1)])))) (sSeq (sSet 2 (fCall (m_one_step_down) [(fVarS 2),(fVarS 1)])) sNext) fuel [s0,.val (blk (Q,n)),.val (EO o)]=.ok (.nx [s0,.val (blk (Q,n)),.val (EO (o.bind (insT Q n)))])
 | 0,_,_,_,h=>by omega
 | fuel + 1,none,_,_,_=>by
  show whileF _ _ (fuel + 1) [s0,.val (blk (Q,n)),.val .non]=.ok (.nx [s0,.val (blk (Q,n)),.val .non])
  simp only [whileF]
  simp (decide:=true) [tbM_tail,startD,fVar,fVarS,isT,at_0,at_1,at_2,at_3,at_4]
 | fuel + 1,some t,G,hf,_=>by
  have hlt:=hf t rfl
  have w:=within_t Q n t
  have s:=stretch_eq t
  have hx:∃ xs,E t=.tup xs:=by
   obtain ⟨r,e⟩:=enc_form en lone join t
   exact ⟨_,e⟩
  obtain ⟨xs,hx⟩:=hx
  have nn:gNotN (.tup xs)=.ok (.bl true):=rfl
  show whileF _ _ (fuel + 1) [s0,.val (blk (Q,n)),.val (E t)]=.ok (.nx [s0,.val (blk (Q,n)),.val (EO (insT Q n t))])
  rw [insT_step]
  by_cases z:Within t Q n
  ·rw [if_pos z]
   rw [decide_eq_true z] at w
   show _=Ou.ok (Fl.nx [s0,.val (blk (Q,n)),.val (E t)])
   rw [hx] at s ⊢
   generalize blk (Q,n)=B at *
   simp only [whileF]
   simp (decide:=true) [tbM_tail,startD,fVar,fVarS,isT,at_0,at_1,at_2,at_3,at_4,nn,s,w]
  ·rw [if_neg z]
   rw [decide_eq_false z] at w
   have d:=down_eq Q n t
   have ih:=inside_loop Q n s0 fuel (down Q n t) (by
    cases t with
    | lf a d=>trivial
    | nd q k l r =>
     obtain ⟨hl,hr,_⟩:=sub_e G
     simp only [down]
     split
     ·exact hl
     ·split
      ·exact hr
      ·trivial) (by
    intro t' ht
    cases t with
    | lf a d=>cases ht
    | nd q k l r =>
     obtain ⟨hl,hr,el,er,_⟩:=sub_e G
     have:(T.nd q k l r).e=k + 1:=rfl
     simp only [down] at ht
     split at ht
     ·cases ht;omega
     ·split at ht
      ·cases ht;omega
      ·cases ht) (by omega)
   rw [← ih]
   rw [hx] at s d ⊢
   generalize blk (Q,n)=B at *
   generalize EO (down Q n t)=DD at *
   simp only [whileF]
   simp (decide:=true) [tbM_tail,startD,fVar,fVarS,isT,at_0,at_1,at_2,at_3,at_4,nn,s,w,d]
theorem inside_eq (Q n:Nat) {o:Option T} (h:GoodO o):m_inside [EO o,blk (Q,n)]=.ok (EO (o.bind (insT Q n))):=by
 have q:=inside_loop Q n (.val (EO o)) 40 o h (fun t ht=>by subst ht;have:=depth h;omega) (by decide)
 generalize EO (o.bind (insT Q n))=R at *
 generalize EO o=O at *
 generalize blk (Q,n)=B at *
 simp (decide:=true) [tbM_tail,startD,fVar,fVarS,isT,at_0,at_1,at_2,at_3,at_4,m_inside,b_inside,q]
end
section
open Tr
def szN:Nat->Nat
 | 0=>0
 | r + 1=>2 ^ r
theorem cover_loop (e:Nat):∀ (r fuel lo:Nat) (acc:List D),lo % 2 ^ r=0->r < fuel->acc.length + r<=100 ->
  ∃ low',whileF (fAsB (f2 gGt (fVar 3) (fC (.int 0)))) (sSeq (sIf (fAsB (f2 gLe (f2 gAdd (fVar 2) (fVar 3)) (fVar 0))) (sSeq (sApp 1 (fTup [(fVarS 2),(fVarS 3)])) (sSeq (sSet 2 (f2 gAdd (fVar 2) (fVar 3))) sNext)) sNext) (sSeq (sSet 3 (f2 gDiv (fVar 3) (fC (.int 2)))) sNext)) fuel
   [.val (.int (e:Int)),.own (.lst acc),.val (.int (lo:Int)),.val (.int (szN r:Int))]=.ok (.nx [.val (.int (e:Int)),.own (.lst (acc++(cov r lo e).map blk)),.val (.int low'),.val (.int 0)])
 | 0,fuel + 1,lo,acc,_,_,_=>⟨lo,by simp (decide:=true) [tbM_tail,startD,fVar,fVarS,isT,at_0,at_1,at_2,at_3,at_4,whileF,szN,cov]⟩
 | r + 1,fuel + 1,lo,acc,hm,h,hl=>by
  have p:=Nat.two_pow_pos r
  have e2:2 ^ (r + 1)=2 ^ r * 2:=Nat.pow_succ ..
  have hm':lo % 2 ^ r=0:=by
   have hd:2 ^ (r + 1) ∣ lo:=Nat.dvd_of_mod_eq_zero hm
   exact Nat.mod_eq_zero_of_dvd (Nat.dvd_trans ⟨2,e2⟩ hd)
  have hp:(0:Int) < (szN (r + 1):Int):=by show (0:Int) < ((2 ^ r:Nat):Int);omega
  have hh:(szN (r + 1):Int) / 2=(szN r:Int):=by
   cases r with
   | zero=>rfl
   | succ r =>
    show ((2 ^ (r + 1):Nat):Int) / 2=((2 ^ r:Nat):Int)
    have:2 ^ (r + 1)=2 ^ r * 2:=Nat.pow_succ ..
    omega
  have hb:lo / 2 ^ r * 2 ^ r=lo:=Nat.div_mul_cancel (Nat.dvd_of_mod_eq_zero hm')
  by_cases hc:lo + 2 ^ r<=e
  ·obtain ⟨low',q⟩:=cover_loop e r fuel (lo + 2 ^ r) (acc++[blk (lo / 2 ^ r,r)]) (by rw [Nat.add_mod_right];exact hm') (by omega) (by simp;omega)
   refine ⟨low',?_⟩
   have ha:acc.length < sizeLine:=small1000 (by omega)
   have hd:cDiv (szN (r + 1):Int) 2=true:=by simp [cDiv]
   have hc':(lo:Int) + (szN (r + 1):Int)<=(e:Int):=by show (lo:Int) + ((2 ^ r:Nat):Int)<=e;omega
   have eb:blk (lo / 2 ^ r,r)=.tup [.int (lo:Int),.int (szN (r + 1):Int)]:=by
    show D.tup [.int ((lo / 2 ^ r * 2 ^ r:Nat):Int),.int ((2 ^ r:Nat):Int)]=_
    rw [hb];rfl
   have el:((lo + 2 ^ r:Nat):Int)=(lo:Int) + (szN (r + 1):Int):=by show _=(lo:Int) + ((2 ^ r:Nat):Int);omega
   have ec:cov (r + 1) lo e=(lo / 2 ^ r,r)::cov r (lo + 2 ^ r) e:=by simp only [cov];rw [if_pos hc]
   rw [ec,List.map_cons]
   rw [List.append_assoc,List.singleton_append] at q
   rw [el] at q
   rw [eb] at q ⊢
   generalize (szN (r + 1):Int)=z at *
   simp only [whileF]
   simp (decide:=true) [tbM_tail,startD,fVar,fVarS,isT,at_0,at_1,at_2,at_3,at_4,hp,hc',sApp,ha,hd,hh,q]
  ·obtain ⟨low',q⟩:=cover_loop e r fuel lo acc hm' (by omega) (by omega)
   refine ⟨low',?_⟩
   have hd:cDiv (szN (r + 1):Int) 2=true:=by simp [cDiv]
   have hc':¬ (lo:Int) + (szN (r + 1):Int)<=(e:Int):=by show ¬ (lo:Int) + ((2 ^ r:Nat):Int)<=e;omega
   have ec:cov (r + 1) lo e=cov r lo e:=by simp only [cov];rw [if_neg hc]
   rw [ec]
   generalize (szN (r + 1):Int)=z at *
   simp only [whileF]
   simp (decide:=true) [tbM_tail,startD,fVar,fVarS,isT,at_0,at_1,at_2,at_3,at_4,hp,hc',hd,hh,q]
theorem cover_eq (e:Nat):m_cover [.int (e:Int)]=.ok (.lst ((cov 31 0 e).map blk)):=by
 obtain ⟨low',q⟩:=cover_loop e 31 40 0 [] (by simp) (by decide) (by simp)
 have e1:(szN 31:Int)=1073741824:=by decide
 rw [e1,List.nil_append] at q
 have e0:((0:Nat):Int)=0:=rfl
 rw [e0] at q
 simp (decide:=true) [tbM_tail,startD,fVar,fVarS,isT,at_0,at_1,at_2,at_3,at_4,m_cover,b_cover,q,sRetO]
theorem cov_len:∀ r lo e,(cov r lo e).length<=r
 | 0,_,_=>by simp [cov]
 | r + 1,lo,e=>by
  simp only [cov]
  split
  ·have:=cov_len r (lo + 2 ^ r) e;simp only [List.length_cons];omega
  ·have:=cov_len r lo e;omega
def ahd (o:Option T) (e:Nat):List T:=(cov 31 0 e).filterMap fun b=>o.bind (insT b.1 b.2)
theorem ahead_eq {o:Option T} (h:GoodO o) (e:Nat):m_ahead [EO o,.int (e:Int)]=.ok (.lst ((ahd o e).map E)):=by
 have c:=cover_eq e
 have cl:=cov_len 31 0 e
 have hsz:((cov 31 0 e).map blk).length<=sizeLine:=by rw [List.length_map];exact Nat.le_of_lt (small1000 (by omega))
 have c1:compL (gNm 0) fYes (fCall (m_inside) [(fVarS 1),(fVarS 0)]) ((cov 31 0 e).map blk) [.un,.val (EO o)]=.ok ((cov 31 0 e).map fun b=>EO (o.bind (insT b.1 b.2))):=by
  generalize cov 31 0 e=cs
  have:∀ (cs:List (Nat×Nat)) (s0:Sl),compL (gNm 0) fYes (fCall (m_inside) [(fVarS 1),(fVarS 0)]) (cs.map blk) [s0,.val (EO o)]=.ok (cs.map fun b=>EO (o.bind (insT b.1 b.2))):=by
   intro cs
   induction cs with
   | nil=>intro s0;rfl
   | cons b r ih =>
    intro s0
    have q:=inside_eq b.1 b.2 h
    have i:=ih (.val (blk b))
    change m_inside [EO o,blk b]=_ at q
    rw [List.map_cons,List.map_cons]
    generalize EO (o.bind (insT b.1 b.2))=R at *
    generalize EO o=O at *
    generalize blk b=B at *
    simp only [compL,e_nm,bind_ok,List.set]
    simp (decide:=true) [tbM_tail,startD,fVar,fVarS,isT,at_0,at_1,at_2,at_3,at_4,fYes,q,i]
  exact this cs .un
 have c2:∀ (cs:List (Nat×Nat)) (s0:Sl),compL (gNm 0) (fAsB (f1 gNotN (fVar 0))) (fVarS 0) (cs.map fun b=>EO (o.bind (insT b.1 b.2))) [s0]=.ok ((cs.filterMap fun b=>o.bind (insT b.1 b.2)).map E):=by
  intro cs
  induction cs with
  | nil=>intro s0;rfl
  | cons b r ih =>
   intro s0
   rw [List.map_cons,List.filterMap_cons]
   have i:=fun z=>ih (.val z)
   cases hz:o.bind (insT b.1 b.2) with
   | none =>
    show compL _ _ _ (D.non::_) _=_
    simp only [compL,e_nm,bind_ok,List.set]
    simp (decide:=true) [tbM_tail,startD,fVar,fVarS,isT,at_0,at_1,at_2,at_3,at_4,i]
   | some t =>
    have hx:∃ xs,E t=.tup xs:=by
     obtain ⟨r,e⟩:=enc_form en lone join t
     exact ⟨_,e⟩
    obtain ⟨xs,hx⟩:=hx
    have nn:gNotN (.tup xs)=.ok (.bl true):=rfl
    show compL _ _ _ (E t::_) _=Ou.ok (E t::_)
    rw [hx]
    simp only [compL,e_nm,bind_ok,List.set]
    simp (decide:=true) [tbM_tail,startD,fVar,fVarS,isT,at_0,at_1,at_2,at_3,at_4,nn,i]
 have c3:=c2 (cov 31 0 e) .un
 have hsz2:((cov 31 0 e).map fun b=>EO (o.bind (insT b.1 b.2))).length<=sizeLine:=by rw [List.length_map];exact Nat.le_of_lt (small1000 (by omega))
 show _=Ou.ok (D.lst (((cov 31 0 e).filterMap fun b=>o.bind (insT b.1 b.2)).map E))
 generalize ((cov 31 0 e).filterMap fun b=>o.bind (insT b.1 b.2)).map E=R at *
 generalize ((cov 31 0 e).map fun b=>EO (o.bind (insT b.1 b.2)))=L2 at *
 generalize (cov 31 0 e).map blk=L1 at *
 generalize EO o=O at *
 simp (decide:=true) [tbM_tail,startD,fVar,fVarS,isT,at_0,at_1,at_2,at_3,at_4,m_ahead,b_ahead,fComp,fItems,c,hsz,hsz2,dsIn,slIn,c1,c3]
theorem ahd_ds {o:Option T} (h:GoodO o) {e:Nat} (he:e<=all):(ahd o e).flatMap T.ds=(dsO o).filter (fun p=>decide (p.1 < e))/\∀ s∈ahd o e,Good s:=by
 cases o with
 | none =>
  have:ahd none e=[]:=by simp [ahd]
  rw [this]
  exact ⟨rfl,fun s hs=>nomatch hs⟩
 | some t =>
  have h31:(2:Nat) ^ 31=2147483648:=by decide
  have hall:all=1073741824:=rfl
  have d:=cov_ds h 31 0 e (by simp) (by omega) (by rw [h31];omega)
  refine ⟨?_,fun s hs=>?_⟩
  ·show ((cov 31 0 e).filterMap fun b=>insT b.1 b.2 t).flatMap T.ds=t.ds.filter _
   rw [d]
   congr 1
   funext p
   simp
  ·exact cov_good h (cs:=cov 31 0 e) s hs
end
section
open Tr
def prD (p:Nat×D):D:=.tup [.int (p.1:Int),p.2]
theorem row_loop (s1:Sl):∀ (L:List T) (xs:Tv) (s3:Sl),xs.length + (L.flatMap T.ds).length<=63->∃ s3',forL (gNm 3) (sSeq (sSet 2 (fMeth [("Kind",m_Kind__joined),("Bag",m_Bag__joined)] (fVarS 0) [(fVarS 2),(fCall (m_total_of) [(fVarS 3)])])) sNext) (L.map E) [.val (.obj "Bag"),s1,.val (en xs),s3]=.ok (.nx [.val (.obj "Bag"),s1,.val (en (xs++opsL (L.flatMap T.ds))),s3'])
 | [],xs,s3,_=>⟨s3,by simp [forL,opsL]⟩
 | t::L,xs,s3,h=>by
  have t1:=total_of_eq t
  have ev:V t=opsL t.ds:=tv_ops t
  rw [ev] at t1
  rw [List.flatMap_cons,List.length_append] at h
  have hx:(xs++opsL t.ds).length + (L.flatMap T.ds).length<=63:=by rw [List.length_append,opsL_len];omega
  obtain ⟨s3',q⟩:=row_loop s1 L (xs++opsL t.ds) (.val (E t)) hx
  have j:m_Bag__joined [.obj "Bag",en xs,en (opsL t.ds)]=.ok (en (xs++opsL t.ds)):=join_eq (by rw [opsL_len];omega)
  have e:xs++opsL ((t::L).flatMap T.ds)=xs++opsL t.ds++opsL (L.flatMap T.ds):=by rw [List.flatMap_cons,opsL_app,List.append_assoc]
  rw [e]
  refine ⟨s3',?_⟩
  rw [← q,List.map_cons]
  simp only [forL,e_nm,bind_ok,List.set]
  generalize E t=z at *
  generalize en (xs++opsL t.ds)=z3 at *
  generalize en xs=z1 at *
  generalize en (opsL t.ds)=z2 at *
  simp (decide:=true) -implicitDefEqProofs [tbM_tail,startD,fVar,fVarS,isT,at_0,at_1,at_2,at_3,at_4,t1,j]
theorem row_total_eq {L:List T} (h:(L.flatMap T.ds).length<=63):m_row_total [.obj "Bag",.lst (L.map E)]=.ok (en (opsL (L.flatMap T.ds))):=by
 obtain ⟨s3',q⟩:=row_loop (.val (.lst (L.map E))) L [] .un (by rw [List.length_nil];omega)
 rw [List.nil_append] at q
 have n:m_Bag__nothing [.obj "Bag"]=.ok (en []):=nothing_eq
 generalize en []=z0 at *
 generalize en (opsL (L.flatMap T.ds))=z at *
 generalize L.map E=M at *
 simp (decide:=true) -implicitDefEqProofs [tbM_tail,startD,fVar,fVarS,isT,at_0,at_1,at_2,at_3,at_4,m_row_total,b_row_total,n,sFor,q]
def bagL (l:List (Nat×D)):List Pt:=(run (opsL l)).left
def numO:Option Pt->D
 | some p=>.int p.1
 | none=>.non
inductive Qs:D->Option Nat->Prop
 | take:Qs (.tup [.str "take"]) (some 0)
 | many:Qs (.tup [.str "many"]) none
 | look (n:Nat):Qs (.tup [.str "look",.int (n:Int)]) (some n)
def dueO (r:List Pt):Option Nat->D
 | some n=>numO r[n]?
 | none=>.int (r.length:Int)
theorem ahead_q {q:D} {n:Nat} (h:Qs q (some n)):m_numbers_ahead [q]=.ok (.int (n:Int)):=by
 cases h with
 | take=>simp (decide:=true) -implicitDefEqProofs [tbM_tail,startD,fVar,fVarS,isT,at_0,at_1,at_2,at_3,at_4,m_numbers_ahead,b_numbers_ahead]
 | look n=>simp (decide:=true) -implicitDefEqProofs [tbM_tail,startD,fVar,fVarS,isT,at_0,at_1,at_2,at_3,at_4,m_numbers_ahead,b_numbers_ahead]
theorem not_many {q:D} {n:Nat} (h:Qs q (some n)):∃ w r,q=.tup (.str w::r)/\w≠"many":=by
 cases h with
 | take=>exact ⟨_,_,rfl,by decide⟩
 | look n=>exact ⟨_,_,rfl,by decide⟩
theorem en_form (x:Tv):∃ a b,en x=.tup [.int a,b,.tup ((run x).left.map pairD)]:=⟨_,_,rfl⟩
theorem answer_eq {L:List T} (h:(L.flatMap T.ds).length<=63) {q:D} {o:Option Nat} (hq:Qs q o):m_Bag__answer [.obj "Bag",.lst (L.map E),q]=.ok (dueO (bagL (L.flatMap T.ds)) o):=by
 have r:=row_total_eq h
 obtain ⟨a,b,ef⟩:=en_form (opsL (L.flatMap T.ds))
 rw [ef] at r
 have hlen:(((run (opsL (L.flatMap T.ds))).left.map pairD).length:Int)=((bagL (L.flatMap T.ds)).length:Int):=by rw [List.length_map];rfl
 cases o with
 | none =>
  cases hq
  show _=Ou.ok (D.int ((bagL (L.flatMap T.ds)).length:Int))
  rw [← hlen]
  generalize (run (opsL (L.flatMap T.ds))).left.map pairD=R at *
  generalize L.map E=M at *
  simp (decide:=true) -implicitDefEqProofs [tbM_tail,startD,fVar,fVarS,isT,at_0,at_1,at_2,at_3,at_4,m_Bag__answer,b_Bag__answer,r]
 | some n =>
  have hp:∃ z,m_Bag__put_asked [.obj "Bag",.lst (L.map E),q]=.ok z/\gIx z (.int 0)=.ok (numO (bagL (L.flatMap T.ds))[n]?):=by
   have ha:=ahead_q hq
   have hR:((run (opsL (L.flatMap T.ds))).left.map pairD)=(bagL (L.flatMap T.ds)).map pairD:=rfl
   rw [hR] at hlen r
   by_cases c:n < (bagL (L.flatMap T.ds)).length
   ·have c':(n:Int) < (((bagL (L.flatMap T.ds)).map pairD).length:Int):=by rw [List.length_map];omega
    have hat:atI ((bagL (L.flatMap T.ds)).map pairD) (n:Int)=some (pairD (bagL (L.flatMap T.ds))[n]):=by
     rw [at_nat (by rw [List.length_map];exact c)];simp
    refine ⟨pairD (bagL (L.flatMap T.ds))[n],?_,by rw [List.getElem?_eq_getElem c];rfl⟩
    generalize pairD (bagL (L.flatMap T.ds))[n]=z at *
    generalize (bagL (L.flatMap T.ds)).map pairD=R at *
    generalize L.map E=M at *
    have c2:n < R.length:=by omega
    simp (decide:=true) -implicitDefEqProofs [tbM_tail,startD,fVar,fVarS,isT,at_0,at_1,at_2,at_3,at_4,m_Bag__put_asked,b_Bag__put_asked,r,ha,c2,hat]
   ·have c':¬ (n:Int) < (((bagL (L.flatMap T.ds)).map pairD).length:Int):=by rw [List.length_map];omega
    refine ⟨.tup [.non,.non],?_,by rw [List.getElem?_eq_none (by omega)];rfl⟩
    generalize (bagL (L.flatMap T.ds)).map pairD=R at *
    generalize L.map E=M at *
    have c2:¬ n < R.length:=by omega
    simp (decide:=true) -implicitDefEqProofs [tbM_tail,startD,fVar,fVarS,isT,at_0,at_1,at_2,at_3,at_4,m_Bag__put_asked,b_Bag__put_asked,r,ha,c2]
  obtain ⟨z,h1,h2⟩:=hp
  obtain ⟨w,rr,rfl,hw⟩:=not_many hq
  show _=Ou.ok (numO (bagL (L.flatMap T.ds))[n]?)
  generalize numO (bagL (L.flatMap T.ds))[n]? = zz at *
  generalize L.map E=M at *
  simp (decide:=true) -implicitDefEqProofs [tbM_tail,startD,fVar,fVarS,isT,at_0,at_1,at_2,at_3,at_4,m_Bag__answer,b_Bag__answer,hw,h1,h2]
end
section
open Tr
def Al (al:List (Nat×D)):Prop:=∀ p∈al,p.1 < all/\Okd p.2
theorem gd {al:List (Nat×D)} {o:Option T} (b:Book al o):GoodO o:=by
 cases o with
 | none=>trivial
 | some t=>exact b.good
theorem ds_ok {al:List (Nat×D)} {o:Option T} (b:Book al o) (h:Al al):∀ p∈dsO o,p.1 < all/\Okd p.2:=fun p hp=>h p (b.perm.mem_iff.mp hp)
theorem imm_E:∀ t:T,(∀ p∈t.ds,Okd p.2)->imm (E t)=true
 | .lf a d,h=>by
  have:=imm_d (h (a,d) (by simp [T.ds]))
  simp [E,enc,imm,imms,this,imm_en]
 | .nd q k l r,h=>by
  have h1:=imm_E l fun p hp=>h p (by simp [T.ds,hp])
  have h2:=imm_E r fun p hp=>h p (by simp [T.ds,hp])
  simp only [E,enc] at h1 h2 ⊢
  simp [imm,imms,h1,h2,imm_en]
theorem put_turn {al:List (Nat×D)} {o:Option T} (hB:al.length + 1<=63) (b:Book al o) (h:Al al) {a:Nat} (ha:a < all) (hn:∀ p∈al,p.1≠a) {d:D} (hd:Okd d):∃ t,m_put_in 64 [.obj "Bag",EO o,.int (a:Int),d]=.ok (E t)/\imm (E t)=true/\Book (al++[(a,d)]) (some t)/\Al (al++[(a,d)]):=by
 obtain ⟨t,e,hg,hds⟩:=put_in_eq (by rw [b.perm.length_eq];exact hB) (gd b) ha hd (b.none_at hn)
 have B:=b.put hg hds
 have A:Al (al++[(a,d)]):=fun p hp=>by
  rcases List.mem_append.mp hp with hp | hp
  ·exact h p hp
  ·simp at hp;subst hp;exact ⟨ha,hd⟩
 exact ⟨t,e,imm_E t fun p hp=>(ds_ok B A p hp).2,B,A⟩
end
section
open Tr
theorem book_one {al al':List (Nat×D)} {o o':Option T} (b:Book al o) (b':Book al' o') (hp:al.Perm al'):o=o':=by
 have e:dsO o=dsO o':=(b.perm.trans (hp.trans b'.perm.symm)).eq_of_pairwise (le:=fun x y=>x.1 < y.1) (fun x y _ _ h1 h2=>by omega) b.sorted b'.sorted
 cases o with
 | none =>
  cases o' with
  | none=>rfl
  | some t'=>exact absurd e.symm (ds_ne t')
 | some t =>
  cases o' with
  | none=>exact absurd e (ds_ne t)
  | some t'=>rw [one_tree b.good b'.good e]
theorem at_row {l:List (Nat×D)} {i:Nat} {p:Nat×D} (h:l[i]? = some p):atI (l.map prD) (i:Int)=some (.tup [.int (p.1:Int),p.2]):=by
 obtain ⟨hi,rfl⟩:=List.getElem?_eq_some_iff.mp h
 unfold atI ixN
 simp [List.length_map,hi,prD]
theorem cell_any (ns:List Int) {k:Int} (h:0<=k):∃ c,m__law_cell_at [.frl (ns.map .int),.int k]=.ok (.int c):=by
 obtain ⟨k,rfl⟩:∃ n:Nat,k=(n:Int):=⟨k.toNat,by omega⟩
 by_cases h:k < ns.length
 ·have h1:(k:Int) < (ns.length:Int):=by omega
  have h2:=at_map h
  exact ⟨ns[k],by simp (decide:=true) -implicitDefEqProofs [tbM_tail,startD,fVar,fVarS,isT,at_0,at_1,at_2,at_3,at_4,m__law_cell_at,b__law_cell_at,h1,h2]⟩
 ·have h1:¬ (k:Int) < (ns.length:Int):=by omega
  exact ⟨0,by simp (decide:=true) -implicitDefEqProofs [tbM_tail,startD,fVar,fVarS,isT,at_0,at_1,at_2,at_3,at_4,m__law_cell_at,b__law_cell_at,h1]⟩
theorem key_int (ns:List Int) {k:Nat} (hk:k < 64):isI (fb__law_order [.val (.int (k:Int)),.val (.frl (ns.map D.int))])=true:=by
 obtain ⟨c,hc⟩:=cell_any ns (k:=(k:Int)) (by omega)
 have c1:cMul c 48271=true:=by simp [cMul]
 generalize hx:(k:Int)=x at *
 have c2:cMul (x * x) 7919=true:=cMul_r (by decide) (by decide)
 have c3:cMul x x=true:=cMul_l (Int.lt_trans (by decide:-(2 ^ 64:Int) < -1) (by omega)) (Int.lt_trans (by omega:x < 64) (by decide))
 generalize ns.map D.int=N at *
 have e:fb__law_order [.val (.int x),.val (.frl N)]=.ok (.int ((c * 48271 + x * x * 7919) % 65537)):=by
  simp (decide:=true) -implicitDefEqProofs [tbM_tail,startD,fVar,fVarS,isT,at_0,at_1,at_2,at_3,at_4,fb__law_order,hc,c1,c2,c3]
 rw [e];rfl
theorem self_comp:∀ (xs:List D) (s0:Sl),compL (gNm 0) fYes (fVarS 0) xs [s0]=.ok xs
 | [],_=>rfl
 | x::xs,s0=>by
  have ih:=self_comp xs (.val x)
  simp (decide:=true) -implicitDefEqProofs [tbM_tail,startD,fVar,fVarS,isT,at_0,at_1,at_2,at_3,at_4,compL,fYes,ih]
def nums (n:Nat):List Int:=(List.range n).map fun (k:Nat)=>(k:Int)
theorem rng_nums (n:Nat):rng 0 n=(nums n).map D.int:=by simp [rng,nums]
theorem order_eq (ns:List Int) {n:Nat} (hn:n < 64):mo__law_order [.frl (ns.map D.int),.int (n:Int)]=.ok (nums n):=by
 have hro:rOk (n:Int)=true:=by simp [rOk];omega
 have hsz:n<=sizeLine:=Nat.le_of_lt (small1000 (by omega))
 have hN:((n:Int)).toNat=n:=by omega
 have e:=self_comp (rng 0 n) .un
 have hall:(nums n).all (fun i=>isI (fb__law_order [.val (.int i),.val (.frl (ns.map D.int))]))=true:=List.all_eq_true.mpr fun i hi=>by
  unfold nums at hi
  obtain ⟨k,hk,rfl⟩:=List.mem_map.mp hi
  exact key_int ns (Nat.lt_trans (List.mem_range.mp hk) hn)
 have hlen:(nums n).length < 64:=by simpa [nums] using hn
 have hfl:fl__law_order (startD 2 [.frl (ns.map D.int),.int (n:Int)])=.ok (.lst ((nums n).map D.int)):=by
  rw [← rng_nums]
  generalize ns.map D.int=N
  simp (decide:=true) -implicitDefEqProofs [tbM_tail,startD,fVar,fVarS,isT,at_0,at_1,at_2,at_3,at_4,fl__law_order,startD,fComp,fRange,hN,hro,rng_len,hsz,dsIn,slIn,e]
 exact e_ord hfl rfl hlen hall
def at_ (l:List (Nat×D)) (i:Nat):Nat×D:=l.getD i (0,.non)
theorem at_get {l:List (Nat×D)} {i:Nat} (h:i < l.length):l[i]? = some (at_ l i):=by
 simp [at_,h]
theorem grow_loop {l:List (Nat×D)} (hA:Al l) (S:Sl):∀ (out:List Nat) (pre:List (Nat×D)) (o:Option T) (s4:Sl),Book pre o->Al pre->(∀ i∈out,i < l.length)->pre.length + out.length<=63->((pre++out.map (at_ l)).map (·.1)).Nodup ->
  ∃ o' s4',forL (gNm 4) (sSeq (sSet 3 (fCall (m_put_in 64) [(fVarS 0),(fVarS 3),(f2 gIx (f2 gIx (fVarS 1) (fVar 4)) (fC (.int 0))),(f2 gIx (f2 gIx (fVarS 1) (fVar 4)) (fC (.int 1)))])) sNext) ((out.map fun (k:Nat)=>(k:Int)).map D.int)
   [.val (.obj "Bag"),.val (.lst (l.map prD)),S,.val (EO o),s4]=.ok (.nx [.val (.obj "Bag"),.val (.lst (l.map prD)),S,.val (EO o'),s4'])/\Book (pre++out.map (at_ l)) o':=by
 intro out
 induction out with
 | nil=>intro pre o s4 b _ _ _ _;exact ⟨o,s4,rfl,by simpa using b⟩
 | cons i out ih =>
  intro pre o s4 b A hi hlen hn
  have hB:pre.length + 1<=63:=by rw [List.length_cons] at hlen;omega
  have hil:=hi i (by simp)
  have hg:=at_get hil
  have hd:=hA _ (List.mem_of_getElem? hg)
  have hat:=at_row hg
  have hpre:∀ q∈pre,q.1≠(at_ l i).1:=fun q hq z=>by
   rw [List.map_cons,List.map_append,List.map_cons,List.nodup_append] at hn
   exact hn.2.2 q.1 (List.mem_map_of_mem hq) _ (by simp) z
  obtain ⟨t,e,_,B,A'⟩:=put_turn hB b A hd.1 hpre hd.2
  have eq:pre++at_ l i::out.map (at_ l)=(pre++[at_ l i])++out.map (at_ l):=by simp
  rw [List.map_cons,eq] at hn
  obtain ⟨o',s4',q,Bo⟩:=ih (pre++[at_ l i]) (some t) (.val (.int (i:Int))) B A' (fun j hj=>hi j (by simp [hj])) (by rw [List.length_append,List.length_singleton];rw [List.length_cons] at hlen;omega) hn
  refine ⟨o',s4',?_,by rw [List.map_cons,eq];exact Bo⟩
  rw [← q]
  have e':m_put_in 64 [.obj "Bag",EO o,.int ((at_ l i).1:Int),(at_ l i).2]=.ok (EO (some t)):=e
  rw [List.map_cons,List.map_cons]
  simp only [forL]
  generalize l.map prD=M at *
  generalize EO (some t)=w' at *
  generalize EO o=w at *
  generalize m_put_in 64=P at *
  generalize ((at_ l i).1:Int)=a at *
  generalize (at_ l i).2=d at *
  generalize (i:Int)=j at *
  simp (decide:=true) -implicitDefEqProofs [tbM_tail,startD,fVar,fVarS,isT,at_0,at_1,at_2,at_3,at_4,hat,e']
theorem map_at (l:List (Nat×D)):(List.range l.length).map (at_ l)=l:=by
 apply List.ext_getElem?
 intro i
 rw [List.getElem?_map]
 by_cases h:i < l.length
 ·rw [List.getElem?_range h,at_get h];rfl
 ·rw [List.getElem?_eq_none (by simpa using h),List.getElem?_eq_none (by simpa using h)];rfl
theorem perm_nums {out:List Int} {n:Nat} (h:out.Perm (nums n)):∃ ks:List Nat,ks.Perm (List.range n)/\out=ks.map fun (k:Nat)=>(k:Int):=by
 refine ⟨out.map Int.toNat,?_,?_⟩
 ·have:=h.map Int.toNat
  unfold nums at this
  rw [List.map_map] at this
  simpa [Function.comp_def] using this
 ·rw [List.map_map]
  refine (List.map_congr_left fun z hz=>?_).symm.trans (List.map_id _) |>.symm
  obtain ⟨k,_,rfl⟩:=List.mem_map.mp (h.mem_iff.mp hz)
  simp
theorem otree_eq (ns:List Int) {l:List (Nat×D)} (A:Al l) (hn:(l.map (·.1)).Nodup) (hl:l.length < 64):∃ o,m__law_tree [.obj "Bag",.lst (l.map prD),.frl (ns.map D.int)]=.ok (EO o)/\Book l o:=by
 have go:∀ ks:List Nat,ks.Perm (List.range l.length)->∃ o' s4',forL (gNm 4) (sSeq (sSet 3 (fCall (m_put_in 64) [(fVarS 0),(fVarS 3),(f2 gIx (f2 gIx (fVarS 1) (fVar 4)) (fC (.int 0))),(f2 gIx (f2 gIx (fVarS 1) (fVar 4)) (fC (.int 1)))])) sNext) ((ks.map fun (k:Nat)=>(k:Int)).map D.int)
   [.val (.obj "Bag"),.val (.lst (l.map prD)),.val (.frl (ns.map D.int)),.val .non,.un]=.ok (.nx [.val (.obj "Bag"),.val (.lst (l.map prD)),.val (.frl (ns.map D.int)),.val (EO o'),s4'])/\Book (ks.map (at_ l)) o':=fun ks hk=>by
  have hp:(ks.map (at_ l)).Perm l:=(hk.map _).trans (by rw [map_at])
  obtain ⟨o',s4',q,B⟩:=grow_loop A (.val (.frl (ns.map D.int))) ks [] none .un ⟨trivial,.refl _⟩ (fun p hp=>by cases hp) (fun i hi=>List.mem_range.mp (hk.mem_iff.mp hi)) (by rw [hk.length_eq,List.length_range,List.length_nil];omega) (by rw [List.nil_append];exact (hp.map _).nodup_iff.mpr hn)
  exact ⟨o',s4',q,by simpa using B⟩
 obtain ⟨o,s4,_,B⟩:=go _ (.refl _)
 rw [map_at] at B
 refine ⟨o,?_,B⟩
 have hfor:sForP [(fVar 2),(fCall gLen [(fVar 1)])] mo__law_order (gNm 4) (sSeq (sSet 3 (fCall (m_put_in 64) [(fVarS 0),(fVarS 3),(f2 gIx (f2 gIx (fVarS 1) (fVar 4)) (fC (.int 0))),(f2 gIx (f2 gIx (fVarS 1) (fVar 4)) (fC (.int 1)))])) sNext) 4
   [.val (.obj "Bag"),.val (.lst (l.map prD)),.val (.frl (ns.map D.int)),.val .non,.un]=.ok (.nx [.val (.obj "Bag"),.val (.lst (l.map prD)),.val (.frl (ns.map D.int)),.val (EO o),.un]):=by
  refine e_forP (ds:=[.frl (ns.map D.int),.int (l.length:Int)]) rfl ?_ (order_eq ns hl) fun out hout=>?_
  ·have hlen:(l.map prD).length=l.length:=List.length_map ..
   generalize l.map prD=M at *
   generalize ns.map D.int=N at *
   simp (decide:=true) -implicitDefEqProofs [tbM_tail,startD,fVar,fVarS,isT,at_0,at_1,at_2,at_3,at_4,hlen]
  ·obtain ⟨ks,hk,rfl⟩:=perm_nums hout
   obtain ⟨o',s4',q,B'⟩:=go ks hk
   have:=book_one B' B ((hk.map _).trans (by rw [map_at]))
   subst this
   exact ⟨_,q,rfl⟩
 generalize l.map prD=M at *
 generalize ns.map D.int=N at *
 generalize EO o=w at *
 simp (decide:=true) -implicitDefEqProofs [tbM_tail,startD,fVar,fVarS,isT,at_0,at_1,at_2,at_3,at_4,m__law_tree,b__law_tree,hfor]
end
theorem okd_of {d:D} {z:Int} (h:Dk d z):Okd d:=by
 cases h with
 | put x=>exact .put x
 | take=>exact .take
 | many=>exact .many
 | look x hx =>
  have e:((x.toNat:Nat):Int)=x:=by omega
  have q:=Okd.look x.toNat
  rw [e] at q
  exact q
section
open Tr
theorem row_nat (ns:List Int) (h:ns.length<=63):∃ l:List (Nat×D),m__law_row [.frl (ns.map D.int)]=.ok (.lst (l.map prD))/\l.length<=62/\l.Pairwise (fun x y=>x.1 < y.1)/\∀ p∈l,p.1 < all/\Okd p.2:=by
 obtain ⟨ps,zs,hrow,hpl,hz,hts⟩:=row_eq ns h
 have hb:∀ p∈ps,0<=p.1/\p.1 < 1073741824:=fun p hp=>hts.bnd p.1 (List.mem_map_of_mem (f:=(·.1)) hp)
 refine ⟨ps.map fun p=>(p.1.toNat,p.2),?_,by rw [List.length_map];exact hpl,?_,?_⟩
 ·rw [hrow,List.map_map]
  congr 2
  refine List.map_congr_left fun p hp=>?_
  have h1:=hb p hp
  have h2:((p.1.toNat:Nat):Int)=p.1:=by omega
  show pr p=D.tup [.int ((p.1.toNat:Nat):Int),p.2]
  rw [h2];rfl
 ·have h1:=hts.inc
  rw [List.pairwise_map] at h1 ⊢
  refine h1.imp_of_mem fun {p q} hp hq hlt=>?_
  have:=hb p hp
  have:=hb q hq
  omega
 ·intro q hq
  obtain ⟨p,hp,rfl⟩:=List.mem_map.mp hq
  have h1:=hb p hp
  have hall:all=1073741824:=rfl
  refine ⟨by show p.1.toNat < all;omega,?_⟩
  obtain ⟨i,hi,e⟩:=List.getElem_of_mem hp
  obtain ⟨z,_,hk⟩:=hz.get (k:=i) (d:=p.2) (by rw [List.getElem?_map,List.getElem?_eq_getElem hi,e];rfl)
  exact okd_of hk
end
section
open Tr
def isPut:D->Bool
 | .tup (.str w::_)=>decide (w = "put")
 | _=>false
def pu (l:List (Nat×D)):List (Nat×D):=l.filter fun p=>isPut p.2
theorem pu_app (a b:List (Nat×D)):pu (a++b)=pu a++pu b:=List.filter_append ..
def fre (al l:List (Nat×D)):List (Nat×D):=(pu l).filter fun p=>decide (∀ q∈al,q.1≠p.1)
def gon (al:List (Nat×D)):Option (Nat×D)->List (Nat×D)
 | some p=>al++[(p.1,.bl true)]
 | none=>al
theorem fre_gon {al l:List (Nat×D)} {p:Nat×D}:fre (gon al (some p)) l=(fre al l).filter fun q=>decide (q.1≠p.1):=by
 unfold fre gon
 rw [List.filter_filter]
 refine List.filter_congr fun q _=>?_
 rw [← Bool.decide_and]
 refine decide_eq_decide.mpr ⟨fun h=>⟨fun e=>h (p.1,.bl true) (by simp) e.symm,fun r hr=>h r (by simp [hr])⟩,fun ⟨h1,h2⟩ r hr=>?_⟩
 rcases List.mem_append.mp hr with hr | hr
 ·exact h2 r hr
 ·simp at hr;subst hr;exact fun e=>h1 e.symm
theorem fre_snoc {al l:List (Nat×D)} {p:Nat×D} (h:∀ q∈al,q.1≠p.1):fre al (l++[p])=if isPut p.2 then fre al l++[p] else fre al l:=by
 unfold fre
 rw [pu_app,List.filter_append]
 cases e:isPut p.2 with
 | true =>
  have:pu [p]=[p]:=by simp [pu,e]
  rw [this,if_pos rfl]
  congr 1
  simpa using h
 | false =>
  have:pu [p]=[]:=by simp [pu,e]
  rw [this,if_neg (by simp)]
  simp
end
section
theorem take_lt {r:List (Nat×D)} (h:r.Pairwise fun x y=>x.1 < y.1) {i:Nat} (hi:i < r.length):r.filter (fun p=>decide (p.1 < r[i].1))=r.take i:=by
 have e1:(r.take i).filter (fun p=>decide (p.1 < r[i].1))=r.take i:=List.filter_eq_self.mpr fun p hp=>by
  obtain ⟨j,hj,rfl⟩:=List.getElem_of_mem hp
  rw [List.length_take] at hj
  rw [List.getElem_take]
  simp only [decide_eq_true_eq]
  exact List.pairwise_iff_getElem.mp h j i (by omega) hi (by omega)
 have e2:(r.drop i).filter (fun p=>decide (p.1 < r[i].1))=[]:=List.filter_eq_nil_iff.mpr fun p hp=>by
  obtain ⟨j,hj,rfl⟩:=List.getElem_of_mem hp
  rw [List.length_drop] at hj
  rw [List.getElem_drop]
  simp only [decide_eq_true_eq,Nat.not_lt]
  rcases Nat.eq_zero_or_pos j with rfl | hj0
  ·exact Nat.le_refl _
  ·exact Nat.le_of_lt (List.pairwise_iff_getElem.mp h i (i + j) hi (by omega) (by omega))
 generalize r[i].1=z at *
 have e:r.filter (fun p=>decide (p.1 < z))=(r.take i++r.drop i).filter (fun p=>decide (p.1 < z)):=by rw [List.take_append_drop]
 rw [e,List.filter_append,e1,e2,List.append_nil]
end
section
open Tr
theorem put_form {d:D} (h:Okd d) (hz:isPut d=true):∃ x,d=.tup [.str "put",.int x]:=by
 cases h with
 | put x=>exact ⟨x,rfl⟩
 | take=>exact absurd hz (by decide)
 | many=>exact absurd hz (by decide)
 | look x=>exact absurd (show false=true from hz) (by decide)
theorem put_not {d:D} (h:Okd d) (hz:isPut d=false):∃ w r,d=.tup (.str w::r)/\w≠"put":=by
 cases h with
 | put x=>exact absurd hz (show ¬ true=false by decide)
 | take=>exact ⟨_,_,rfl,by decide⟩
 | many=>exact ⟨_,_,rfl,by decide⟩
 | look x=>exact ⟨_,_,rfl,by decide⟩
def toPt:Nat×D->Pt
 | (a,.tup [_,.int x])=>(x,(a:Int))
 | (a,_)=>(0,(a:Int))
theorem toPt_2 (p:Nat×D):(toPt p).2=(p.1:Int):=by
 obtain ⟨a,d⟩:=p
 unfold toPt
 split <;> simp_all
def isTake:D->Bool
 | .tup [.str w]=>decide (w = "take")
 | _=>false
theorem take_form {d:D} (h:Okd d) (hz:isTake d=true):d=.tup [.str "take"]:=by
 cases h with
 | put x=>exact absurd (show false=true from hz) (by decide)
 | take=>rfl
 | many=>exact absurd hz (by decide)
 | look x=>exact absurd (show false=true from hz) (by decide)
def frP (al l:List (Nat×D)):List Pt:=(fre al l).map toPt
theorem bag_snoc (l:List (Nat×D)) (p:Nat×D):bagL (l++[p])=((run (opsL l)).step (opOf p.1 p.2)).left:=by
 unfold bagL
 rw [opsL_app]
 exact congrArg Bg.left (run_snoc (opsL l) (opOf p.1 p.2))
theorem bag_put {l:List (Nat×D)} {a:Nat} {x:Int}:bagL (l++[(a,.tup [.str "put",.int x])])=psort (bagL l++[(x,(a:Int))]):=by
 rw [bag_snoc]
 have eo:opOf a (.tup [.str "put",.int x])=.put (x,(a:Int)):=by simp [opOf]
 show (Bg.step (run (opsL l)) (opOf a (.tup [.str "put",.int x]))).left=_
 rw [eo];rfl
theorem bag_take {l:List (Nat×D)} {a:Nat}:bagL (l++[(a,.tup [.str "take"])])=(bagL l).tail:=by
 rw [bag_snoc]
 have eo:opOf a (.tup [.str "take"])=.take:=by simp [opOf]
 show (Bg.step (run (opsL l)) (opOf a (.tup [.str "take"]))).left=_
 rw [eo]
 unfold bagL
 generalize run (opsL l)=b
 obtain ⟨lk,g,f⟩:=b
 cases f <;> rfl
theorem bag_oth {l:List (Nat×D)} {a:Nat} {d:D} (h:Okd d) (h1:isPut d=false) (h2:isTake d=false):bagL (l++[(a,d)])=bagL l:=by
 rw [bag_snoc]
 have eo:opOf a d=.oth:=by
  cases h with
  | put x=>exact absurd h1 (show ¬ true=false by decide)
  | take=>exact absurd h2 (show ¬ true=false by decide)
  | many=>simp (decide:=true) [opOf]
  | look x=>simp (decide:=true) [opOf]
 show (Bg.step (run (opsL l)) (opOf a d)).left=_
 rw [eo];rfl
theorem bag_srt (l:List (Nat×D)):Srt (bagL l):=(run_ok (opsL l)).left
theorem inv_step {al l:List (Nat×D)} {p:Nat×D} (hr:(l++[p]).Pairwise fun x y=>x.1 < y.1) (hok:∀ q∈l++[p],Okd q.2) (hal:∀ q∈al,∃ r∈l,r.1=q.1) (hf:psort (frP al l)=bagL l) {o:Option (Nat×D)}
  (ho:if isTake p.2 then (∀ q,(bagL l)[0]? = some q->∃ r∈fre al l,o=some r/\toPt r=q)/\((bagL l)[0]? = none->o=none) else o=none) :
  (∀ q∈gon al o,∃ r∈l++[p],r.1=q.1)/\psort (frP (gon al o) (l++[p]))=bagL (l++[p]):=by
 have hlt:∀ q∈l,q.1 < p.1:=fun q hq=>(List.pairwise_append.mp hr).2.2 q hq p (by simp)
 have hne:∀ q∈al,q.1≠p.1:=fun q hq=>by
  obtain ⟨r,h1,h2⟩:=hal q hq
  have:=hlt r h1
  omega
 have hal':∀ q∈al,∃ r∈l++[p],r.1=q.1:=fun q hq=>by
  obtain ⟨r,h1,h2⟩:=hal q hq
  exact ⟨r,by simp [h1],h2⟩
 have hokp:=hok p (by simp)
 obtain ⟨a,d⟩:=p
 simp only at hokp ho
 cases ht:isTake d with
 | true =>
  rw [ht,if_pos rfl] at ho
  obtain rfl:=take_form hokp ht
  rw [bag_take]
  have hsn:fre al (l++[(a,.tup [.str "take"])])=fre al l:=by
   rw [fre_snoc hne,if_neg (show ¬ isPut (.tup [.str "take"])=true by decide)]
  cases e:bagL l with
  | nil =>
   have:=ho.2 (by rw [e];rfl)
   subst this
   refine ⟨hal',?_⟩
   show psort ((fre al (l++[(a,.tup [.str "take"])])).map toPt)=_
   rw [hsn]
   exact hf.trans e
  | cons q s =>
   obtain ⟨r,hrm,rfl,hrq⟩:=ho.1 q (by rw [e];rfl)
   have hrl:r∈l:=(List.mem_filter.mp (List.mem_filter.mp hrm).1).1
   refine ⟨fun u hu=>?_,?_⟩
   ·rcases List.mem_append.mp hu with hu | hu
    ·exact hal' u hu
    ·simp at hu;subst hu;exact ⟨r,by simp [hrl],rfl⟩
   ·show psort ((fre (gon al (some r)) (l++[(a,.tup [.str "take"])])).map toPt)=s
    rw [fre_gon,hsn]
    have hp:(fre al l).Perm (r::(fre al l).filter fun q=>decide (q.1≠r.1)):=by
     have hpw:(fre al l).Pairwise fun x y=>x.1 < y.1:=((List.pairwise_append.mp hr).1.filter _).filter _
     generalize fre al l=F at hrm hpw
     obtain ⟨A,B,rfl⟩:=List.append_of_mem hrm
     have h3:=List.pairwise_append.mp hpw
     have h4:=List.pairwise_cons.mp h3.2.1
     rw [List.filter_append,List.filter_cons_of_neg (by simp)]
     have eA:A.filter (fun q=>decide (q.1≠r.1))=A:=List.filter_eq_self.mpr fun x hx=>by
      have:=h3.2.2 x hx r List.mem_cons_self
      simp only [decide_eq_true_eq];omega
     have eB:B.filter (fun q=>decide (q.1≠r.1))=B:=List.filter_eq_self.mpr fun x hx=>by
      have:=h4.1 x hx
      simp only [decide_eq_true_eq];omega
     rw [eA,eB]
     exact List.perm_middle
    have hs:(frP al l).Perm (q::s):=by
     rw [← e,← hf]
     exact (ps_perm _).symm
    have hp':=hp.map toPt
    rw [List.map_cons,hrq] at hp'
    have hrest:=(hs.symm.trans hp').cons_inv
    have hss:Srt (q::s):=by rw [← e];exact bag_srt l
    exact ps_uniq hrest (List.pairwise_cons.mp hss).2
 | false =>
  rw [ht,if_neg (by simp)] at ho
  subst ho
  refine ⟨hal',?_⟩
  show psort ((fre al (l++[(a,d)])).map toPt)=_
  rw [fre_snoc hne]
  cases hp:isPut d with
  | true =>
   obtain ⟨x,rfl⟩:=put_form hokp hp
   rw [bag_put,← hf,if_pos (by simp [hp]),List.map_append]
   exact ps_cong ((ps_perm _).symm.append_right _)
  | false =>
   rw [bag_oth hokp hp ht,if_neg (by simp [hp])]
   exact hf
end
section
open Tr
def timP:Option Pt->D
 | some p=>.int p.2
 | none=>.non
theorem put_asked_eq {L:List T} (h:(L.flatMap T.ds).length<=63) {q:D} {n:Nat} (hq:Qs q (some n)):∃ z,m_Bag__put_asked [.obj "Bag",.lst (L.map E),q]=.ok z/\gIx z (.int 0)=.ok (numO (bagL (L.flatMap T.ds))[n]?)/\gIx z (.int 1)=.ok (timP (bagL (L.flatMap T.ds))[n]?):=by
 have r:=row_total_eq h
 obtain ⟨a,b,ef⟩:=en_form (opsL (L.flatMap T.ds))
 rw [ef] at r
 have ha:=ahead_q hq
 have hR:((run (opsL (L.flatMap T.ds))).left.map pairD)=(bagL (L.flatMap T.ds)).map pairD:=rfl
 rw [hR] at r
 by_cases c:n < (bagL (L.flatMap T.ds)).length
 ·have c':n < ((bagL (L.flatMap T.ds)).map pairD).length:=by rw [List.length_map];exact c
  have hat:atI ((bagL (L.flatMap T.ds)).map pairD) (n:Int)=some (pairD (bagL (L.flatMap T.ds))[n]):=by
   rw [at_nat (by rw [List.length_map];exact c)];simp
  refine ⟨pairD (bagL (L.flatMap T.ds))[n],?_,by rw [List.getElem?_eq_getElem c];rfl,by rw [List.getElem?_eq_getElem c];rfl⟩
  generalize pairD (bagL (L.flatMap T.ds))[n]=z at *
  generalize (bagL (L.flatMap T.ds)).map pairD=R at *
  generalize L.map E=M at *
  simp (decide:=true) -implicitDefEqProofs [tbM_tail,startD,fVar,fVarS,isT,at_0,at_1,at_2,at_3,at_4,m_Bag__put_asked,b_Bag__put_asked,r,ha,c',hat]
 ·have c':¬ n < ((bagL (L.flatMap T.ds)).map pairD).length:=by rw [List.length_map];exact c
  refine ⟨.tup [.non,.non],?_,by rw [List.getElem?_eq_none (by omega)];rfl,by rw [List.getElem?_eq_none (by omega)];rfl⟩
  generalize (bagL (L.flatMap T.ds)).map pairD=R at *
  generalize L.map E=M at *
  simp (decide:=true) -implicitDefEqProofs [tbM_tail,startD,fVar,fVarS,isT,at_0,at_1,at_2,at_3,at_4,m_Bag__put_asked,b_Bag__put_asked,r,ha,c']
theorem source_eq {L:List T} (h:(L.flatMap T.ds).length<=63) {q:D} {n:Nat} (hq:Qs q (some n)):m_Bag__source [.obj "Bag",.lst (L.map E),q]=.ok (timP (bagL (L.flatMap T.ds))[n]?):=by
 obtain ⟨z,h1,h2,h3⟩:=put_asked_eq h hq
 obtain ⟨w,rr,rfl,hw⟩:=not_many hq
 generalize timP (bagL (L.flatMap T.ds))[n]? = zz at *
 generalize L.map E=M at *
 simp (decide:=true) -implicitDefEqProofs [tbM_tail,startD,fVar,fVarS,isT,at_0,at_1,at_2,at_3,at_4,m_Bag__source,b_Bag__source,hw,h1,h3]
theorem source_many {L:List T}:m_Bag__source [.obj "Bag",.lst (L.map E),.tup [.str "many"]]=.ok .non:=by
 generalize L.map E=M at *
 simp (decide:=true) -implicitDefEqProofs [tbM_tail,startD,fVar,fVarS,isT,at_0,at_1,at_2,at_3,at_4,m_Bag__source,b_Bag__source]
theorem whole_i (i:Int):m__law_whole [.int i]=.ok (.bl true):=by simp (decide:=true) -implicitDefEqProofs [tbM_tail,startD,fVar,fVarS,isT,at_0,at_1,at_2,at_3,at_4,m__law_whole,b__law_whole]
theorem on_q {q:D} {n:Nat} (h:Qs q (some n)):m__law_on [q]=.ok (.int (n:Int)):=by
 cases h with
 | take=>simp (decide:=true) -implicitDefEqProofs [tbM_tail,startD,fVar,fVarS,isT,at_0,at_1,at_2,at_3,at_4,m__law_on,b__law_on]
 | look n=>simp (decide:=true) -implicitDefEqProofs [tbM_tail,startD,fVar,fVarS,isT,at_0,at_1,at_2,at_3,at_4,m__law_on,b__law_on]
theorem eq_pair (p q:Pt):eqD 60 (pairD p) (pairD q)=some (decide (p=q)):=by
 have e:gEq (.tup [.int p.1,.int p.2]) (.tup [.int q.1,.int q.2])=.ok (.bl (decide (p.1=q.1) && decide (p.2=q.2))):=eq_t2
 have hd:(decide (p.1=q.1) && decide (p.2=q.2))=decide (p=q):=by
  rw [← Bool.decide_and]
  exact decide_eq_decide.mpr ⟨fun h=>Prod.ext h.1 h.2,fun h=>by rw [h];exact ⟨rfl,rfl⟩⟩
 rw [hd] at e
 unfold gEq at e
 show eqD 60 (.tup [.int p.1,.int p.2]) (.tup [.int q.1,.int q.2])=_
 cases h:eqD 60 (.tup [.int p.1,.int p.2]) (.tup [.int q.1,.int q.2]) with
 | none=>rw [h] at e;cases e
 | some b =>
  rw [h] at e
  simp only [Ou.ok.injEq,D.bl.injEq] at e
  rw [e]
theorem eqs_pair (q:Pt):∀ F:List Pt,eqsD (pairD q) (F.map pairD)=some (F.map fun p=>decide (p=q))
 | []=>rfl
 | p::F=>by
  simp only [List.map_cons,eqsD,eq_pair,eqs_pair q F];rfl
theorem notin_pair {q:Pt} {F:List Pt} (h:q∈F):gInD true (.tup [.int q.1,.int q.2]) (.lst (F.map pairD))=.ok (.bl false):=by
 have e:=eqs_pair q F
 have ha:(F.map fun p=>decide (p=q)).any id=true:=by
  rw [List.any_eq_true]
  exact ⟨true,List.mem_map.mpr ⟨q,h,by simp⟩,rfl⟩
 have e':eqsD (.tup [.int q.1,.int q.2]) (its (.lst (F.map pairD)))=some (F.map fun p=>decide (p=q)):=e
 unfold gInD
 rw [if_pos (show rk (D.lst (F.map pairD))=1\/rk (D.lst (F.map pairD))=2 from Or.inr rfl),e']
 show Ou.ok (D.bl (!(F.map fun p=>decide (p=q)).any id))=_
 rw [ha];rfl
theorem less_comp (s:Pt):∀ (F:List Pt) (s0:Sl),compL (gNm 0) (fAsB (f2 gLtP (fVar 0) (fTup [(fVar 1),(fVar 2)]))) (fVarS 0) (F.map pairD) [s0,.val (.int s.1),.val (.int s.2)]=.ok ((F.filter fun p=>Tim.plt p s).map pairD)
 | [],_=>rfl
 | p::F,s0=>by
  have i:=less_comp s F (.val (pairD p))
  have hl:gLtP (pairD p) (.tup [.int s.1,.int s.2])=.ok (.bl (Tim.plt p s)):=rfl
  simp only [List.map_cons,compL,e_nm,bind_ok,List.set]
  cases c:Tim.plt p s with
  | true =>
   rw [List.filter_cons_of_pos (by simpa using c),List.map_cons]
   rw [c] at hl
   generalize (F.filter fun p=>Tim.plt p s).map pairD=M2 at *
   generalize F.map pairD=M at *
   generalize pairD p=z at *
   simp (decide:=true) -implicitDefEqProofs [tbM_tail,startD,fVar,fVarS,isT,at_0,at_1,at_2,at_3,at_4,hl,i]
  | false =>
   rw [List.filter_cons_of_neg (by simp [c])]
   rw [c] at hl
   generalize (F.filter fun p=>Tim.plt p s).map pairD=M2 at *
   generalize F.map pairD=M at *
   generalize pairD p=z at *
   simp (decide:=true) -implicitDefEqProofs [tbM_tail,startD,fVar,fVarS,isT,at_0,at_1,at_2,at_3,at_4,hl,i]
theorem less_count {F:List Pt} (hn:F.Nodup) {n:Nat} {s:Pt} (h:(psort F)[n]? = some s):(F.filter fun p=>Tim.plt p s).length=n:=by
 have hp:=ps_perm F
 have hs:=ps_srt F
 have hn':(psort F).Nodup:=hp.nodup_iff.mpr hn
 have e1:(F.filter fun p=>Tim.plt p s).length=((psort F).filter fun p=>Tim.plt p s).length:=((hp.filter _).length_eq).symm
 rw [e1]
 generalize psort F=S at *
 obtain ⟨hlt,he⟩:=List.getElem?_eq_some_iff.mp h
 have e:S.filter (fun p=>Tim.plt p s)=(S.take n++S.drop n).filter (fun p=>Tim.plt p s):=by rw [List.take_append_drop]
 rw [e,List.filter_append]
 have h1:(S.take n).filter (fun p=>Tim.plt p s)=S.take n:=List.filter_eq_self.mpr fun p hp=>by
  obtain ⟨j,hj,rfl⟩:=List.getElem_of_mem hp
  rw [List.length_take] at hj
  rw [List.getElem_take]
  cases c:Tim.plt S[j] s with
  | true=>rfl
  | false =>
   have h2:Tim.plt s S[j]=false:=by
    rw [← he]
    exact List.pairwise_iff_getElem.mp hs j n (by omega) hlt (by omega)
   have:=Tim.plt_tot c h2
   exact absurd (this.trans he.symm) (List.pairwise_iff_getElem.mp hn' j n (by omega) hlt (by omega))
 have h2:(S.drop n).filter (fun p=>Tim.plt p s)=[]:=List.filter_eq_nil_iff.mpr fun p hp=>by
  obtain ⟨j,hj,rfl⟩:=List.getElem_of_mem hp
  rw [List.length_drop] at hj
  rw [List.getElem_drop]
  rcases Nat.eq_zero_or_pos j with rfl | hj0
  ·simp only [Nat.add_zero,he]
   rw [Tim.plt_ord.irr];simp
  ·have:=List.pairwise_iff_getElem.mp hs n (n + j) hlt (by omega) (by omega)
   rw [he] at this
   rw [this];simp
 rw [h1,h2,List.append_nil,List.length_take]
 omega
theorem meets_eq {F:List Pt} (hn:F.Nodup) (hl:F.length<=1000) {q:D} {n:Nat} (hq:Qs q (some n)):m__law_meets [.lst (F.map pairD),q,timP (psort F)[n]?,numO (psort F)[n]?]=.ok (.bl true):=by
 have ho:=on_q hq
 obtain ⟨w,r,rfl,hw⟩:=not_many hq
 have hlen:(F.map pairD).length=F.length:=List.length_map _
 by_cases c:n < F.length
 ·have hlt:n < (psort F).length:=by rw [ps_len];exact c
  have ef:(psort F)[n]? = some (psort F)[n]:=List.getElem?_eq_getElem hlt
  have hm:(psort F)[n]∈F:=(ps_perm F).mem_iff.mp (List.getElem_mem hlt)
  have hc:=less_count hn ef
  rw [ef]
  generalize (psort F)[n]=s at *
  have w1:=whole_i s.1
  have w2:=whole_i s.2
  have ni:=notin_pair hm
  have lc:=less_comp s F .un
  have c':¬ (F.length:Int)<=(n:Int):=by omega
  have hsz:F.length<=sizeLine:=by exact Nat.le_of_lt (small1000 (by omega))
  have hlc:((F.filter fun p=>Tim.plt p s).map pairD).length=n:=by rw [List.length_map];exact hc
  show m__law_meets [.lst (F.map pairD),_,.int s.2,.int s.1]=_
  generalize (F.filter fun p=>Tim.plt p s).map pairD=M2 at *
  generalize F.map pairD=M at *
  have c3:¬ M.length<=n:=by omega
  simp (decide:=true) -implicitDefEqProofs [tbM_tail,startD,fVar,fVarS,isT,at_0,at_1,at_2,at_3,at_4,m__law_meets,b__law_meets,hw,ho,hlen,c',c3,w1,w2,ni,fComp,fItems,hsz,dsIn,slIn,lc,hlc]
 ·have ef:(psort F)[n]? = none:=List.getElem?_eq_none (by rw [ps_len];omega)
  rw [ef]
  have c':(F.length:Int)<=(n:Int):=by omega
  show m__law_meets [.lst (F.map pairD),_,.non,.non]=_
  generalize F.map pairD=M at *
  have c3:M.length<=n:=by omega
  simp (decide:=true) -implicitDefEqProofs [tbM_tail,startD,fVar,fVarS,isT,at_0,at_1,at_2,at_3,at_4,m__law_meets,b__law_meets,hw,ho,hlen,c',c3]
theorem meets_many {F:List Pt}:m__law_meets [.lst (F.map pairD),.tup [.str "many"],.non,.int (F.length:Int)]=.ok (.bl true):=by
 have hlen:(F.map pairD).length=F.length:=List.length_map _
 have w1:=whole_i (F.length:Int)
 generalize F.map pairD=M at *
 simp (decide:=true) -implicitDefEqProofs [tbM_tail,startD,fVar,fVarS,isT,at_0,at_1,at_2,at_3,at_4,m__law_meets,b__law_meets,hlen,w1]
theorem free_comp {al:List (Nat×D)} (hn:(al.map (·.1)).Nodup) (ε:DS):∀ (l:List (Nat×D)),(∀ p∈l,Okd p.2)->compN (fAndT (fAsB (f2 gEq (f2 gIx (f2 gIx (fVar 0) (fC (.int 1))) (fC (.int 0))) (fC (.str "put")))) (fAsB (f2 (gDIn true) (f2 gIx (fVar 0) (fC (.int 0))) (fVar 1)))) (fTup [(f2 gIx (f2 gIx (fVarS 0) (fC (.int 1))) (fC (.int 1))),(f2 gIx (fVarS 0) (fC (.int 0)))]) [.val (dict al)] ε (l.map prD)=.ok ((frP al l).map pairD)
 | [],_=>rfl
 | p::l,h=>by
  have ih:=free_comp hn ε l fun p hp=>h p (List.mem_cons_of_mem _ hp)
  have hz:=h p List.mem_cons_self
  obtain ⟨a,d⟩:=p
  simp only at hz
  simp only [List.map_cons,compN,ih]
  cases hp:isPut d with
  | false =>
   obtain ⟨w,r,rfl,hw⟩:=put_not hz hp
   have e:frP al ((a,D.tup (.str w::r))::l)=frP al l:=by
    unfold frP fre
    have:pu ((a,D.tup (.str w::r))::l)=pu l:=List.filter_cons_of_neg (by simp [hp])
    rw [this]
   rw [e]
   generalize dict al=G
   simp (decide:=true) -implicitDefEqProofs [tbM_tail,startD,fVar,fVarS,isT,at_0,at_1,at_2,at_3,at_4,prD,hw]
  | true =>
   obtain ⟨x,rfl⟩:=put_form hz hp
   have e:pu ((a,D.tup [.str "put",.int x])::l)=(a,D.tup [.str "put",.int x])::pu l:=List.filter_cons_of_pos hp
   by_cases hc:∀ q∈al,q.1≠a
   ·have di:=dict_in true al a hc
    have ef:frP al ((a,D.tup [.str "put",.int x])::l)=(x,(a:Int))::frP al l:=by
     unfold frP fre;rw [e,List.filter_cons_of_pos (by simpa using hc)];rfl
    rw [ef]
    generalize dict al=G at *
    simp (decide:=true) -implicitDefEqProofs [tbM_tail,startD,fVar,fVarS,isT,at_0,at_1,at_2,at_3,at_4,prD,di,pairD]
   ·have:∃ q∈al,q.1=a:=by
     apply Classical.byContradiction
     intro z
     exact hc fun q hq e=>z ⟨q,hq,e⟩
    obtain ⟨q,hq,rfl⟩:=this
    have di:=dict_in' true hn hq
    have ef:frP al ((q.1,D.tup [.str "put",.int x])::l)=frP al l:=by
     unfold frP fre;rw [e,List.filter_cons_of_neg (by simp only [decide_eq_true_eq];exact hc)]
    rw [ef]
    generalize dict al=G at *
    simp (decide:=true) -implicitDefEqProofs [tbM_tail,startD,fVar,fVarS,isT,at_0,at_1,at_2,at_3,at_4,prD,di]
section
variable {R M:List D} {G Tt:D} {i a:Nat} {d:D} {s0 s6 s7 s8 s9 s10 s11 s12 s13:Sl}
theorem st_0 (hR:atI R (i:Int)=some (.tup [.int (a:Int),d])):(sAsg (f2 gIx (fVarS 2) (fVar 5)) (gNm2 6 7)) [s0,.val (.obj "Bag"),.val (.lst R),.val Tt,.own G,.val (.int (i:Int)),s6,s7,s8,s9,s10,s11,s12,s13]=.ok (.nx [s0,.val (.obj "Bag"),.val (.lst R),.val Tt,.own G,.val (.int (i:Int)),.val (.int (a:Int)),.val d,s8,s9,s10,s11,s12,s13]):=by
 simp (decide:=true) -implicitDefEqProofs [tbM_tail,startD,fVar,fVarS,isT,at_0,at_1,at_2,at_3,at_4,sAsg,hR,gNm2]
theorem st_1:(sSet 8 (fVarS 7)) [s0,.val (.obj "Bag"),.val (.lst R),.val Tt,.own G,.val (.int (i:Int)),.val (.int (a:Int)),.val d,s8,s9,s10,s11,s12,s13]=.ok (.nx [s0,.val (.obj "Bag"),.val (.lst R),.val Tt,.own G,.val (.int (i:Int)),.val (.int (a:Int)),.val d,.val d,s9,s10,s11,s12,s13]):=by
 simp (decide:=true) -implicitDefEqProofs [tbM_tail,startD,fVar,fVarS,isT,at_0,at_1,at_2,at_3,at_4]
theorem st_2 (hd:Okd d):∃ q o,Qs q o/\(isTake d=true->q=d/\o=some 0)/\(sIf (fAsB (f2 gEq (f2 gIx (fVar 7) (fC (.int 0))) (fC (.str "put")))) (sSeq (sSet 8 (fTup [(fC (.str "look")),(f2 gMod (fVar 5) (fC (.int 5)))])) sNext) sNext) [s0,.val (.obj "Bag"),.val (.lst R),.val Tt,.own G,.val (.int (i:Int)),.val (.int (a:Int)),.val d,.val d,s9,s10,s11,s12,s13]=.ok (.nx [s0,.val (.obj "Bag"),.val (.lst R),.val Tt,.own G,.val (.int (i:Int)),.val (.int (a:Int)),.val d,.val q,s9,s10,s11,s12,s13]):=by
 cases hd with
 | put x =>
  refine ⟨_,_,.look (i % 5),fun z=>absurd (show false=true from z) (by decide),?_⟩
  have e:((i % 5:Nat):Int)=(i:Int) % 5:=by omega
  rw [e]
  simp (decide:=true) -implicitDefEqProofs [tbM_tail,startD,fVar,fVarS,isT,at_0,at_1,at_2,at_3,at_4]
 | take=>exact ⟨_,_,.take,fun _=>⟨rfl,rfl⟩,by simp (decide:=true) -implicitDefEqProofs [tbM_tail,startD,fVar,fVarS,isT,at_0,at_1,at_2,at_3,at_4]⟩
 | many=>exact ⟨_,_,.many,fun z=>absurd z (by decide),by simp (decide:=true) -implicitDefEqProofs [tbM_tail,startD,fVar,fVarS,isT,at_0,at_1,at_2,at_3,at_4]⟩
 | look x=>exact ⟨_,_,.look x,fun z=>absurd (show false=true from z) (by decide),by simp (decide:=true) -implicitDefEqProofs [tbM_tail,startD,fVar,fVarS,isT,at_0,at_1,at_2,at_3,at_4]⟩
theorem st_3 {q:D} (h:m_ahead [Tt,.int (a:Int)]=.ok (.lst M)):(sSet 9 (fCall (m_ahead) [(fVarS 3),(fVarS 6)])) [s0,.val (.obj "Bag"),.val (.lst R),.val Tt,.own G,.val (.int (i:Int)),.val (.int (a:Int)),.val d,.val q,s9,s10,s11,s12,s13]=.ok (.nx [s0,.val (.obj "Bag"),.val (.lst R),.val Tt,.own G,.val (.int (i:Int)),.val (.int (a:Int)),.val d,.val q,.val (.lst M),s10,s11,s12,s13]):=by
 simp (decide:=true) -implicitDefEqProofs [tbM_tail,startD,fVar,fVarS,isT,at_0,at_1,at_2,at_3,at_4,h]
theorem st_4 {q:D}:(sSet 10 (f1 gListOf (fVarS 9))) [s0,.val (.obj "Bag"),.val (.lst R),.val Tt,.own G,.val (.int (i:Int)),.val (.int (a:Int)),.val d,.val q,.val (.lst M),s10,s11,s12,s13]=.ok (.nx [s0,.val (.obj "Bag"),.val (.lst R),.val Tt,.own G,.val (.int (i:Int)),.val (.int (a:Int)),.val d,.val q,.val (.lst M),.val (.lst M),s11,s12,s13]):=by
 simp (decide:=true) -implicitDefEqProofs [tbM_tail,startD,fVar,fVarS,isT,at_0,at_1,at_2,at_3,at_4]
theorem st_5 {q x:D} (h:m_Bag__source [.obj "Bag",.lst M,q]=.ok x):(sSet 11 (fMeth [("Kind",m_Kind__source),("Bag",m_Bag__source)] (fVarS 1) [(fVarS 9),(fVarS 8)])) [s0,.val (.obj "Bag"),.val (.lst R),.val Tt,.own G,.val (.int (i:Int)),.val (.int (a:Int)),.val d,.val q,.val (.lst M),.val (.lst M),s11,s12,s13]=.ok (.nx [s0,.val (.obj "Bag"),.val (.lst R),.val Tt,.own G,.val (.int (i:Int)),.val (.int (a:Int)),.val d,.val q,.val (.lst M),.val (.lst M),.val x,s12,s13]):=by
 simp (decide:=true) -implicitDefEqProofs [tbM_tail,startD,fVar,fVarS,isT,at_0,at_1,at_2,at_3,at_4,h]
theorem st_6 {q x y:D} (h:m_Bag__answer [.obj "Bag",.lst M,q]=.ok y):(sSet 12 (fMeth [("Kind",m_Kind__answer),("Bag",m_Bag__answer)] (fVarS 1) [(fVarS 9),(fVarS 8)])) [s0,.val (.obj "Bag"),.val (.lst R),.val Tt,.own G,.val (.int (i:Int)),.val (.int (a:Int)),.val d,.val q,.val (.lst M),.val (.lst M),.val x,s12,s13]=.ok (.nx [s0,.val (.obj "Bag"),.val (.lst R),.val Tt,.own G,.val (.int (i:Int)),.val (.int (a:Int)),.val d,.val q,.val (.lst M),.val (.lst M),.val x,.val y,s13]):=by
 simp (decide:=true) -implicitDefEqProofs [tbM_tail,startD,fVar,fVarS,isT,at_0,at_1,at_2,at_3,at_4,h]
theorem st_7 {q x y:D} {l al:List (Nat×D)} (hc:cutD R none (some (i:Int))=l.map prD) (hl:l.length<=62) (hok:∀ p∈l,Okd p.2) (hn:(al.map (·.1)).Nodup):(sSet 13 (fCompN (fItems (fSl (fVarS 2) none (some (fVar 5)))) (fAndT (fAsB (f2 gEq (f2 gIx (f2 gIx (fVar 0) (fC (.int 1))) (fC (.int 0))) (fC (.str "put")))) (fAsB (f2 (gDIn true) (f2 gIx (fVar 0) (fC (.int 0))) (fVar 1)))) (fTup [(f2 gIx (f2 gIx (fVarS 0) (fC (.int 1))) (fC (.int 1))),(f2 gIx (fVarS 0) (fC (.int 0)))]) [4])) [s0,.val (.obj "Bag"),.val (.lst R),.val Tt,.own (dict al),.val (.int (i:Int)),.val (.int (a:Int)),.val d,.val q,.val (.lst M),.val (.lst M),.val x,.val y,s13]=.ok (.nx [s0,.val (.obj "Bag"),.val (.lst R),.val Tt,.own (dict al),.val (.int (i:Int)),.val (.int (a:Int)),.val d,.val q,.val (.lst M),.val (.lst M),.val x,.val y,.val (.lst ((frP al l).map pairD))]):=by
 have hf:=free_comp hn [.un] l hok
 have hsz:(l.map prD).length<=sizeLine:=by rw [List.length_map];exact Nat.le_of_lt (small1000 (by omega))
 generalize dict al=G at *
 generalize (frP al l).map pairD=F at *
 generalize l.map prD=P at *
 simp (decide:=true) -implicitDefEqProofs [tbM_tail,startD,fVar,fVarS,isT,at_0,at_1,at_2,at_3,at_4,fCompN,fItems,fSl,fPart,hc,hsz,slW,slIn,hf]
theorem st_8 {q x y f:D} (h:m__law_meets [f,q,x,y]=.ok (.bl true)) (h2:gNe (.lst M) (.lst M)=.ok (.bl false)):(sIf (fOrT (fNotT (fTru (fCall (m__law_meets) [(fVar 13),(fVar 8),(fVar 11),(fVar 12)]))) (fAsB (f2 gNe (fVar 9) (fVar 10)))) (sSeq (sRet (fC (.bl false))) sNext) sNext) [s0,.val (.obj "Bag"),.val (.lst R),.val Tt,.own G,.val (.int (i:Int)),.val (.int (a:Int)),.val d,.val q,.val (.lst M),.val (.lst M),.val x,.val y,.val f]=.ok (.nx [s0,.val (.obj "Bag"),.val (.lst R),.val Tt,.own G,.val (.int (i:Int)),.val (.int (a:Int)),.val d,.val q,.val (.lst M),.val (.lst M),.val x,.val y,.val f]):=by
 simp (decide:=true) -implicitDefEqProofs [tbM_tail,startD,fVar,fVarS,isT,at_0,at_1,at_2,at_3,at_4,h,h2]
def timO:Option (Nat×D)->D
 | some p=>.int (p.1:Int)
 | none=>.non
theorem st_9 {q x y f:D} {al:List (Nat×D)} {o:Option (Nat×D)} (hd:Okd d) (hl:al.length<=62) (hx:isTake d=true->x=timO o) (hx':isTake d=false->o=none) (hn:∀ p,o=some p->∀ r∈al,r.1≠p.1) :
  (sIf (fAndT (fAsB (f2 gEq (f2 gIx (fVar 7) (fC (.int 0))) (fC (.str "take")))) (fAsB (f1 gNotN (fVar 11)))) (sSeq (sDPut 4 (fVar 11) (fC (.bl true))) sNext) sNext) [s0,.val (.obj "Bag"),.val (.lst R),.val Tt,.own (dict al),.val (.int (i:Int)),.val (.int (a:Int)),.val d,.val q,.val (.lst M),.val (.lst M),.val x,.val y,.val f]=.ok (.nx [s0,.val (.obj "Bag"),.val (.lst R),.val Tt,.own (dict (gon al o)),.val (.int (i:Int)),.val (.int (a:Int)),.val d,.val q,.val (.lst M),.val (.lst M),.val x,.val y,.val f]):=by
 cases hz:isTake d with
 | true =>
  have hdt:=take_form hd hz
  rw [hx hz]
  subst hdt
  cases o with
  | none =>
   show _=Ou.ok (Fl.nx [s0,.val (.obj "Bag"),.val (.lst R),.val Tt,.own (dict al),_,_,_,_,_,_,_,_,_])
   generalize dict al=G
   simp (decide:=true) -implicitDefEqProofs [tbM_tail,startD,fVar,fVarS,isT,at_0,at_1,at_2,at_3,at_4,timO]
  | some p =>
   have hput:=dict_put (d:=.bl true) (hn p rfl)
   show _=Ou.ok (Fl.nx [s0,.val (.obj "Bag"),.val (.lst R),.val Tt,.own (dict (al++[(p.1,.bl true)])),_,_,_,_,_,_,_,_,_])
   rw [← hput]
   have hks:(bkeys al).length < sizeLine:=by
    have:(bkeys al).length=al.length:=by simp [bkeys]
    rw [this];exact small1000 (by omega)
   have hdic:dict al=.dic (bkeys al) (al.map (·.2)):=rfl
   rw [hdic]
   generalize bkeys al=K at *
   generalize al.map (·.2)=W at *
   simp only [timO]
   generalize (p.1:Int)=t at *
   simp (decide:=true) -implicitDefEqProofs [tbM_tail,startD,fVar,fVarS,isT,at_0,at_1,at_2,at_3,at_4,gNotN,DL.sDPut,keyD,hks]
 | false =>
  rw [hx' hz]
  show _=Ou.ok (Fl.nx [s0,.val (.obj "Bag"),.val (.lst R),.val Tt,.own (dict al),_,_,_,_,_,_,_,_,_])
  generalize dict al=G
  cases hd with
  | put x=>simp (decide:=true) -implicitDefEqProofs [tbM_tail,startD,fVar,fVarS,isT,at_0,at_1,at_2,at_3,at_4]
  | take=>exact absurd hz (show ¬ true=false by decide)
  | many=>simp (decide:=true) -implicitDefEqProofs [tbM_tail,startD,fVar,fVarS,isT,at_0,at_1,at_2,at_3,at_4]
  | look x=>simp (decide:=true) -implicitDefEqProofs [tbM_tail,startD,fVar,fVarS,isT,at_0,at_1,at_2,at_3,at_4]
end
theorem law_true (ns:List Int) (h:ns.length<=63):m_law [.frl (ns.map D.int)]=.ok (.bl true):=by
 obtain ⟨l0,hrow,hl0,hs0,ho0⟩:=row_nat ns h
 obtain ⟨m,hm⟩:∃ m,cutD (l0.map prD) none (some 24)=(l0.take m).map prD:=by
  refine ⟨HT.sIx (l0.map prD).length (l0.map prD).length (some 24),?_⟩
  unfold cutD
  rw [HT.sIx_none,List.drop_zero,Nat.sub_zero,← List.map_take]
 have hrl:(l0.take m).length<=62:=by rw [List.length_take];omega
 have hrs:(l0.take m).Pairwise fun x y=>x.1 < y.1:=hs0.sublist (List.take_sublist ..)
 have hro:∀ p∈l0.take m,p.1 < all/\Okd p.2:=fun p hp=>ho0 p (List.mem_of_mem_take hp)
 generalize l0.take m=r at *
 have hnd:(r.map (·.1)).Nodup:=by
  rw [List.Nodup,List.pairwise_map]
  exact hrs.imp fun h=>Nat.ne_of_lt h
 obtain ⟨o,htree,B⟩:=otree_eq ns hro hnd (by omega)
 have hds:dsO o=r:=B.perm.eq_of_pairwise (le:=fun x y=>x.1 < y.1) (fun x y _ _ h1 h2=>by omega) B.sorted hrs
 have hgo:=gd B
 simp -implicitDefEqProofs only [m_law,b_law,e_run,startD,e_seq,List.map_cons,List.map_nil,List.length_cons,List.length_nil,List.replicate,List.cons_append,List.nil_append,Nat.reduceAdd,Nat.reduceSub]
 have g1:(sSet 1 (fMake0 "Bag")) [.val (.frl (ns.map D.int)),.un,.un,.un,.un,.un,.un,.un,.un,.un,.un,.un,.un,.un]=.ok (.nx [.val (.frl (ns.map D.int)),.val (.obj "Bag"),.un,.un,.un,.un,.un,.un,.un,.un,.un,.un,.un,.un]):=rfl
 have g2:(sSet 2 (fSl (fCall (m__law_row) [(fVarS 0)]) none (some (fC (.int 24))))) [.val (.frl (ns.map D.int)),.val (.obj "Bag"),.un,.un,.un,.un,.un,.un,.un,.un,.un,.un,.un,.un]=.ok (.nx [.val (.frl (ns.map D.int)),.val (.obj "Bag"),.val (.lst (r.map prD)),.un,.un,.un,.un,.un,.un,.un,.un,.un,.un,.un]):=by
  generalize r.map prD=R at *
  generalize l0.map prD=R0 at *
  simp (decide:=true) -implicitDefEqProofs [tbM_tail,startD,fVar,fVarS,isT,at_0,at_1,at_2,at_3,at_4,hrow,fSl,fPart,hm]
 have g3:(sSetL 3 (fCall (m__law_tree) [(fVar 1),(fVar 2),(fVar 0)])) [.val (.frl (ns.map D.int)),.val (.obj "Bag"),.val (.lst (r.map prD)),.un,.un,.un,.un,.un,.un,.un,.un,.un,.un,.un]=.ok (.nx [.val (.frl (ns.map D.int)),.val (.obj "Bag"),.val (.lst (r.map prD)),.val (EO o),.un,.un,.un,.un,.un,.un,.un,.un,.un,.un]):=by
  generalize r.map prD=R at *
  generalize EO o=w at *
  simp (decide:=true) -implicitDefEqProofs [tbM_tail,startD,fVar,fVarS,isT,at_0,at_1,at_2,at_3,at_4,sSetL,noOwn,htree]
 have g4:(sOwn 4 fDic0) [.val (.frl (ns.map D.int)),.val (.obj "Bag"),.val (.lst (r.map prD)),.val (EO o),.un,.un,.un,.un,.un,.un,.un,.un,.un,.un]=.ok (.nx [.val (.frl (ns.map D.int)),.val (.obj "Bag"),.val (.lst (r.map prD)),.val (EO o),.own (dict []),.un,.un,.un,.un,.un,.un,.un,.un,.un]):=rfl
 simp -implicitDefEqProofs only [bind_ok,bind_bind,g1,g2,g3,g4]
 refine Rng.useN (j:=(r.length:Int)) (by generalize dict []=G;generalize EO o=w;simp (decide:=true) -implicitDefEqProofs [tbM_tail,startD,fVar,fVarS,isT,at_0,at_1,at_2,at_3,at_4]) (by simp [rOk];omega) (fun i δ=>∃ (al:List (Nat×D)) (s5 s6 s7 s8 s9 s10 s11 s12 s13:Sl),δ=[.val (.frl (ns.map D.int)),.val (.obj "Bag"),.val (.lst (r.map prD)),.val (EO o),.own (dict al),s5,s6,s7,s8,s9,s10,s11,s12,s13] /\
  (al.map (·.1)).Nodup/\al.length<=i/\(∀ q∈al,∃ p∈r.take i,p.1=q.1)/\psort (frP al (r.take i))=bagL (r.take i)) ⟨[],.un,.un,.un,.un,.un,.un,.un,.un,.un,rfl,by simp,by simp,fun q hq=>by simp at hq,rfl⟩ ?_ ?_
 ·rintro i hi δ ⟨al,s5,s6,s7,s8,s9,s10,s11,s12,s13,rfl,hn,hal,hin,hf⟩
  have il:i < r.length:=by omega
  have et:r.take (i + 1)=r.take i++[r[i]]:=by rw [List.take_add_one,List.getElem?_eq_getElem il];rfl
  have hR:atI (r.map prD) (i:Int)=some (prD r[i]):=by
   rw [at_nat (by rw [List.length_map];exact il)];simp
  have hmem:=List.getElem_mem il
  obtain ⟨ha,hd⟩:=hro _ hmem
  have ec:cutD (r.map prD) none (some (i:Int))=(r.take i).map prD:=by
   have:=cut_take (r.map prD) i (by rw [List.length_map];omega)
   rw [List.map_take]
   exact this
  have hlok:∀ p∈r.take (i + 1),Okd p.2:=fun p hp=>(hro p (List.mem_of_mem_take hp)).2
  have hlr:(r.take (i + 1)).Pairwise fun x y=>x.1 < y.1:=hrs.sublist (List.take_sublist ..)
  have hllen:(r.take i).length<=62:=by rw [List.length_take];omega
  have hah:=ahead_eq hgo r[i].1
  obtain ⟨hA1,hA2⟩:=ahd_ds hgo (e:=r[i].1) (Nat.le_of_lt ha)
  have hAf:(dsO o).filter (fun p=>decide (p.1 < r[i].1))=r.take i:=by
   rw [hds]
   exact take_lt hrs il
  rw [hAf] at hA1
  generalize ahd o r[i].1=L at *
  rw [et] at hlr hlok ⊢
  have hlok':∀ p∈r.take i,Okd p.2:=fun p hp=>hlok p (List.mem_append_left _ hp)
  generalize hp:r[i]=p at *
  obtain ⟨a,d⟩:=p
  simp only at ha hd hah
  generalize hl:r.take i=l at *
  have hL63:(L.flatMap T.ds).length<=63:=by rw [hA1];omega
  have hlrl:=(List.pairwise_append.mp hlr).1
  have hfp:(fre al l).Pairwise fun x y=>x.1 < y.1:=(hlrl.filter _).filter _
  have hfn:(frP al l).Nodup:=by
   unfold frP
   rw [List.Nodup,List.pairwise_map]
   refine hfp.imp fun {x y} hlt e=>?_
   have h1:=toPt_2 x
   have h2:=toPt_2 y
   rw [e,h2] at h1
   omega
  have hfl:(frP al l).length<=1000:=by
   unfold frP
   rw [List.length_map]
   have h1:(fre al l).length<=(pu l).length:=List.length_filter_le ..
   have h2:(pu l).length<=l.length:=List.length_filter_le ..
   omega
  obtain ⟨q,oq,hq,hqt,k2⟩:=st_2 (R:=r.map prD) (G:=dict al) (Tt:=EO o) (i:=i) (a:=a) (s0:=.val (.frl (ns.map D.int))) (s9:=s9) (s10:=s10) (s11:=s11) (s12:=s12) (s13:=s13) hd
  obtain ⟨x,y,hx,hy,hM,hxt⟩:∃ x y,m_Bag__source [.obj "Bag",.lst (L.map E),q]=.ok x/\m_Bag__answer [.obj "Bag",.lst (L.map E),q]=.ok y/\m__law_meets [.lst ((frP al l).map pairD),q,x,y]=.ok (.bl true)/\(isTake d=true->x=timP (bagL l)[0]?):=by
   have han:=answer_eq hL63 hq
   rw [hA1] at han
   cases oq with
   | none =>
    cases hq
    refine ⟨_,_,source_many,han,?_,fun z=>by have:=(hqt z).2;cases this⟩
    have:(bagL l).length=(frP al l).length:=by rw [← hf,ps_len]
    show m__law_meets [.lst ((frP al l).map pairD),_,_,.int ((bagL l).length:Int)]=_
    rw [this]
    exact meets_many
   | some n =>
    have hso:=source_eq hL63 hq
    rw [hA1] at hso
    refine ⟨_,_,hso,han,?_,fun z=>?_⟩
    ·show m__law_meets [_,_,timP (bagL l)[n]?,numO (bagL l)[n]?]=_
     rw [← hf]
     exact meets_eq hfn hfl hq
    ·have:=(hqt z).2
     cases this
     rfl
  have hself:gNe (.lst (L.map E)) (.lst (L.map E))=.ok (.bl false):=(Self.lst (n:=50) fun z hz=>by
   obtain ⟨t,ht,rfl⟩:=List.mem_map.mp hz
   have hs:=self_enc en lone join (m:=6) self_en t (hA2 t ht) fun p hp=>self_d (hlok' p (by rw [← hA1];exact List.mem_flatMap.mpr ⟨t,ht,hp⟩))
   have:=depth (hA2 t ht)
   exact hs.mono (by omega)).ne (by decide)
  obtain ⟨oo,ho1,ho2,ho3,ho4⟩:∃ oo:Option (Nat×D),(if isTake d then (∀ q,(bagL l)[0]? = some q->∃ r∈fre al l,oo=some r/\toPt r=q)/\((bagL l)[0]? = none->oo=none) else oo=none)/\(isTake d=true->timP (bagL l)[0]? = timO oo)/\(isTake d=false->oo=none)/\∀ p,oo=some p->p∈fre al l:=by
   cases hz:isTake d with
   | false=>exact ⟨none,by simp,fun z=>by simp at z,fun _=>rfl,fun p e=>by cases e⟩
   | true =>
    cases e:(bagL l)[0]? with
    | none=>exact ⟨none,by simp,fun _=>rfl,fun _=>rfl,fun p e=>by cases e⟩
    | some q =>
     have hqm:q∈frP al l:=(ps_perm _).mem_iff.mp (by rw [hf];exact List.mem_of_getElem? e)
     obtain ⟨r',hr',hrq⟩:=List.mem_map.mp hqm
     refine ⟨some r',?_,fun _=>?_,fun z=>by simp at z,fun p e=>by cases e;exact hr'⟩
     ·rw [if_pos rfl]
      exact ⟨fun q' e'=>by cases e';exact ⟨r',hr',rfl,hrq⟩,fun z=>by cases z⟩
     ·show D.int q.2=D.int (r'.1:Int)
      rw [← hrq,toPt_2]
  have hstep:=inv_step hlr hlok hin hf (o:=oo) ho1
  have hnew:∀ p,oo=some p->∀ r∈al,r.1≠p.1:=fun p hp r hr e=>by
   have h2:=(List.mem_filter.mp (ho4 p hp)).2
   simp only [decide_eq_true_eq] at h2
   exact h2 r hr e
  have k0:=st_0 (R:=r.map prD) (G:=dict al) (Tt:=EO o) (i:=i) (a:=a) (d:=d) (s0:=.val (.frl (ns.map D.int))) (s6:=s6) (s7:=s7) (s8:=s8) (s9:=s9) (s10:=s10) (s11:=s11) (s12:=s12) (s13:=s13) hR
  have k1:=st_1 (R:=r.map prD) (G:=dict al) (Tt:=EO o) (i:=i) (a:=a) (d:=d) (s0:=.val (.frl (ns.map D.int))) (s8:=s8) (s9:=s9) (s10:=s10) (s11:=s11) (s12:=s12) (s13:=s13)
  have k3:=st_3 (R:=r.map prD) (M:=L.map E) (G:=dict al) (Tt:=EO o) (i:=i) (a:=a) (d:=d) (q:=q) (s0:=.val (.frl (ns.map D.int))) (s9:=s9) (s10:=s10) (s11:=s11) (s12:=s12) (s13:=s13) hah
  have k4:=st_4 (R:=r.map prD) (M:=L.map E) (G:=dict al) (Tt:=EO o) (i:=i) (a:=a) (d:=d) (q:=q) (s0:=.val (.frl (ns.map D.int))) (s10:=s10) (s11:=s11) (s12:=s12) (s13:=s13)
  have k5:=st_5 (R:=r.map prD) (M:=L.map E) (G:=dict al) (Tt:=EO o) (i:=i) (a:=a) (d:=d) (q:=q) (s0:=.val (.frl (ns.map D.int))) (s11:=s11) (s12:=s12) (s13:=s13) hx
  have k6:=st_6 (R:=r.map prD) (M:=L.map E) (G:=dict al) (Tt:=EO o) (i:=i) (a:=a) (d:=d) (q:=q) (x:=x) (s0:=.val (.frl (ns.map D.int))) (s12:=s12) (s13:=s13) hy
  have k7:=st_7 (R:=r.map prD) (M:=L.map E) (Tt:=EO o) (i:=i) (a:=a) (d:=d) (q:=q) (x:=x) (y:=y) (s0:=.val (.frl (ns.map D.int))) (s13:=s13) ec hllen hlok' hn
  have k8:=st_8 (R:=r.map prD) (M:=L.map E) (G:=dict al) (Tt:=EO o) (i:=i) (a:=a) (d:=d) (s0:=.val (.frl (ns.map D.int))) hM hself
  have k9:=st_9 (R:=r.map prD) (M:=L.map E) (Tt:=EO o) (i:=i) (a:=a) (s0:=.val (.frl (ns.map D.int))) (q:=q) (x:=x) (y:=y) (f:=.lst ((frP al l).map pairD)) (al:=al) hd (by omega) (fun z=>(hxt z).trans (ho2 z)) ho3 hnew
  refine Goes.eq (δ2:=[.val (.frl (ns.map D.int)),.val (.obj "Bag"),.val (.lst (r.map prD)),.val (EO o),.own (dict (gon al oo)),.val (.int (i:Int)),.val (.int (a:Int)),.val d,.val q,.val (.lst (L.map E)),.val (.lst (L.map E)),.val x,.val y,.val (.lst ((frP al l).map pairD))]) ?_ ⟨_,_,_,_,_,_,_,_,_,_,rfl,?_,?_,hstep.1,hstep.2⟩
  ·simp -implicitDefEqProofs only [e_nm,bind_ok,List.set,k0,k1,k2,k3,k4,k5,k6,k7,k8,k9,e_seq,e_next]
  ·cases oo with
   | none=>exact hn
   | some p =>
    show ((al++[(p.1,D.bl true)]).map (·.1)).Nodup
    rw [List.map_append,List.nodup_append]
    refine ⟨hn,by simp,fun u hu v hv=>?_⟩
    simp at hv
    subst hv
    obtain ⟨r',hr',rfl⟩:=List.mem_map.mp hu
    exact hnew p rfl r' hr'
  ·cases oo with
   | none=>exact Nat.le_succ_of_le hal
   | some p=>show (al++[(p.1,D.bl true)]).length<=i + 1;simp;exact hal
 ·rintro δ ⟨al,s5,s6,s7,s8,s9,s10,s11,s12,s13,rfl,_⟩
  generalize dict al=G
  generalize EO o=w
  simp (decide:=true) -implicitDefEqProofs [tbM_tail,startD,fVar,fVarS,isT,at_0,at_1,at_2,at_3,at_4,thaw]
end
end Pr
open PySem PySem.W PyProof.Rows
set_option maxRecDepth 100000 in
set_option maxHeartbeats 0 in
theorem PySem.Challenge.cw_pastdesk_k44_sources_in_a_bag_holds : PySem.Challenge.rw_pastdesk_k44_sources_in_a_bag.Holds := by
 w_on;o_law;k_head;(case hw=>w_witness2)
 k_fill
 refine' Pr.walk (l := PySem.Challenge.rw_pastdesk_k44_sources_in_a_bag) rfl rfl (fun w h Y => PySem.W.km_in_of Y) Pr.law_true (fun w h Y => PySem.W.km_tabs_of Y _ (List.mem_cons_self ..)) ?hCd ?hTK ?F
 case F =>
  intro w mg fa h KX G hmg
  refine' Pr.all_mk KX G hmg ?htab ?aC_Bag ?aC_Kind ?a0 ?l0 ?c0 ?k0 ?a1 ?l1 ?c1 ?k1 ?a2 ?l2 ?c2 ?k2 ?a3 ?l3 ?c3 ?k3 ?a4 ?l4 ?c4 ?k4 ?a5 ?l5 ?c5 ?k5 ?a6 ?l6 ?c6 ?k6 ?a7 ?l7 ?c7 ?k7 ?a8 ?l8 ?c8 ?k8 ?a9 ?l9 ?c9 ?k9 ?a10 ?l10 ?c10 ?k10 ?i10 ?a11 ?l11 ?c11 ?k11 ?i11 ?a12 ?l12 ?c12 ?k12 ?i12 ?a13 ?l13 ?c13 ?k13 ?i13 ?a14 ?l14 ?c14 ?k14 ?a15 ?l15 ?c15 ?k15 ?i15 ?a16 ?l16 ?c16 ?k16 ?i16 ?a17 ?l17 ?c17 ?k17 ?a18 ?l18 ?c18 ?k18 ?a19 ?l19 ?c19 ?k19 ?a20 ?l20 ?c20 ?k20 ?a21 ?l21 ?c21 ?k21 ?a22 ?l22 ?c22 ?k22 ?a23 ?l23 ?c23 ?k23 ?a24 ?l24 ?c24 ?k24 ?a25 ?l25 ?c25 ?k25 ?a26 ?l26 ?c26 ?k26 ?a27 ?l27 ?c27 ?k27 ?a28 ?l28 ?c28 ?k28 ?a29 ?l29 ?c29 ?k29 ?a30 ?l30 ?c30 ?k30 ?a31 ?l31 ?c31 ?k31 ?a32 ?l32 ?c32 ?k32 ?a33 ?l33 ?c33 ?k33 ?a34 ?l34 ?c34 ?k34 ?a35 ?l35 ?c35 ?k35 ?a36 ?l36 ?c36 ?k36 ?i36 ?a37 ?l37 ?c37 ?k37 ?i37 ?a38 ?l38 ?c38 ?k38 ?i38 ?a39 ?l39 ?c39 ?k39 ?i39 ?a40 ?l40 ?c40 ?k40 ?i40 ?a41 ?l41 ?c41 ?k41 ?pg_Bag ?hd_Bag ?po_Bag ?sa_Bag ?mk_Bag ?in_Bag ?kc_Bag ?pg_Kind ?hd_Kind ?po_Kind ?sa_Kind ?z_bool ?z_int ?z_isinstance ?z_len ?z_list ?z_max ?z_min ?z_range ?z_sorted ?z_tuple ?g_ALL_TIMES ?r_ALL_TIMES
  (case htab=>rfl)
  (case aC_Bag=>k_is)
  (case aC_Kind=>k_is)
  (case a0=>k_is)
  (case l0=>k_is)
  (case c0=>k_is)
  (case k0=>k_is)
  (case a1=>k_is)
  (case l1=>k_is)
  (case c1=>k_is)
  (case k1=>k_is)
  (case a2=>k_is)
  (case l2=>k_is)
  (case c2=>k_is)
  (case k2=>k_is)
  (case a3=>k_is)
  (case l3=>k_is)
  (case c3=>k_is)
  (case k3=>k_is)
  (case a4=>k_is)
  (case l4=>k_is)
  (case c4=>k_is)
  (case k4=>k_is)
  (case a5=>k_is)
  (case l5=>k_is)
  (case c5=>k_is)
  (case k5=>k_is)
  (case a6=>k_is)
  (case l6=>k_is)
  (case c6=>k_is)
  (case k6=>k_is)
  (case a7=>k_is)
  (case l7=>k_is)
  (case c7=>k_is)
  (case k7=>k_is)
  (case a8=>k_is)
  (case l8=>k_is)
  (case c8=>k_is)
  (case k8=>k_is)
  (case a9=>k_is)
  (case l9=>k_is)
  (case c9=>k_is)
  (case k9=>k_is)
  (case a10=>k_is)
  (case l10=>k_is)
  (case c10=>k_is)
  (case k10=>k_is)
  (case i10=>k_is)
  (case a11=>k_is)
  (case l11=>k_is)
  (case c11=>k_is)
  (case k11=>k_is)
  (case i11=>k_is)
  (case a12=>k_is)
  (case l12=>k_is)
  (case c12=>k_is)
  (case k12=>k_is)
  (case i12=>k_is)
  (case a13=>k_is)
  (case l13=>k_is)
  (case c13=>k_is)
  (case k13=>k_is)
  (case i13=>k_is)
  (case a14=>k_is)
  (case l14=>k_is)
  (case c14=>k_is)
  (case k14=>k_is)
  (case a15=>k_is)
  (case l15=>k_is)
  (case c15=>k_is)
  (case k15=>k_is)
  (case i15=>k_is)
  (case a16=>k_is)
  (case l16=>k_is)
  (case c16=>k_is)
  (case k16=>k_is)
  (case i16=>k_is)
  (case a17=>k_is)
  (case l17=>k_is)
  (case c17=>k_is)
  (case k17=>k_is)
  (case a18=>k_is)
  (case l18=>k_is)
  (case c18=>k_is)
  (case k18=>k_is)
  (case a19=>k_is)
  (case l19=>k_is)
  (case c19=>k_is)
  (case k19=>k_is)
  (case a20=>k_is)
  (case l20=>k_is)
  (case c20=>k_is)
  (case k20=>k_is)
  (case a21=>k_is)
  (case l21=>k_is)
  (case c21=>k_is)
  (case k21=>k_is)
  (case a22=>k_is)
  (case l22=>k_is)
  (case c22=>k_is)
  (case k22=>k_is)
  (case a23=>k_is)
  (case l23=>k_is)
  (case c23=>k_is)
  (case k23=>k_is)
  (case a24=>k_is)
  (case l24=>k_is)
  (case c24=>k_is)
  (case k24=>k_is)
  (case a25=>k_is)
  (case l25=>k_is)
  (case c25=>k_is)
  (case k25=>k_is)
  (case a26=>k_is)
  (case l26=>k_is)
  (case c26=>k_is)
  (case k26=>k_is)
  (case a27=>k_is)
  (case l27=>k_is)
  (case c27=>k_is)
  (case k27=>k_is)
  (case a28=>k_is)
  (case l28=>k_is)
  (case c28=>k_is)
  (case k28=>k_is)
  (case a29=>k_is)
  (case l29=>k_is)
  (case c29=>k_is)
  (case k29=>k_is)
  (case a30=>k_is)
  (case l30=>k_is)
  (case c30=>k_is)
  (case k30=>k_is)
  (case a31=>k_is)
  (case l31=>k_is)
  (case c31=>k_is)
  (case k31=>k_is)
  (case a32=>k_is)
  (case l32=>k_is)
  (case c32=>k_is)
  (case k32=>k_is)
  (case a33=>k_is)
  (case l33=>k_is)
  (case c33=>k_is)
  (case k33=>k_is)
  (case a34=>k_is)
  (case l34=>k_is)
  (case c34=>k_is)
  (case k34=>k_is)
  (case a35=>k_is)
  (case l35=>k_is)
  (case c35=>k_is)
  (case k35=>k_is)
  (case a36=>k_is)
  (case l36=>k_is)
  (case c36=>k_is)
  (case k36=>k_is)
  (case i36=>k_is)
  (case a37=>k_is)
  (case l37=>k_is)
  (case c37=>k_is)
  (case k37=>k_is)
  (case i37=>k_is)
  (case a38=>k_is)
  (case l38=>k_is)
  (case c38=>k_is)
  (case k38=>k_is)
  (case i38=>k_is)
  (case a39=>k_is)
  (case l39=>k_is)
  (case c39=>k_is)
  (case k39=>k_is)
  (case i39=>k_is)
  (case a40=>k_is)
  (case l40=>k_is)
  (case c40=>k_is)
  (case k40=>k_is)
  (case i40=>k_is)
  (case a41=>k_is)
  (case l41=>k_is)
  (case c41=>k_is)
  (case k41=>k_is)
  (case pg_Bag=>k_is)
  (case hd_Bag=>k_is)
  (case po_Bag=>k_is)
  (case sa_Bag=>k_is)
  (case mk_Bag=>k_is)
  (case in_Bag=>k_is)
  (case kc_Bag=>k_is)
  (case pg_Kind=>k_is)
  (case hd_Kind=>k_is)
  (case po_Kind=>k_is)
  (case sa_Kind=>k_is)
  (case z_bool=>k_is)
  (case z_int=>k_is)
  (case z_isinstance=>k_is)
  (case z_len=>k_is)
  (case z_list=>k_is)
  (case z_max=>k_is)
  (case z_min=>k_is)
  (case z_range=>k_is)
  (case z_sorted=>k_is)
  (case z_tuple=>k_is)
  (case g_ALL_TIMES=>k_is)
  (case r_ALL_TIMES=>exact ⟨_,rfl⟩)
 (case hCd=>intro w;first | rfl | kernel_rfl)
 (case hTK=>intro w;first | rfl | kernel_rfl)
