import PyProof.Rows.All
import Wide.All
import OpenK.AllK
import Wide.FinOn
import Lean
import PyProof.EqAt
import PyProof.EqKinds
import PyProof.TupleCall
import PySem.Challenge.RW_pastdesk_k20_rows_of_changes
set_option Elab.async false
set_option linter.all false
/- The head would lay equations by these names, for constants of its own; nothing needs them, and they take much room: with the names taken the head goes on without. -/
def PySem.W.Fast.tw18142326772442639173:Unit:=()
def PySem.W.Fast.tw12015897442730769547:Unit:=()
def PySem.W.Fast.tw4613908373336623059:Unit:=()
def PySem.W.Fast.tw11738029582451152850:Unit:=()
def PySem.W.Fast.tw16167843168355513993:Unit:=()
def PySem.W.Fast.tw6406559794972659014:Unit:=()
def PySem.W.Fast.tw4872634934570404904:Unit:=()
def PySem.W.Fast.tw605819012494472179:Unit:=()
def PySem.W.Fast.tw9565323472076134154:Unit:=()
def PySem.W.Fast.tw15012623898588280967:Unit:=()
def PySem.W.Fast.tw4882190759031171286:Unit:=()
def PySem.W.Fast.tw15855283480298891093:Unit:=()
def PySem.W.Fast.tw17135800475470765519:Unit:=()
def PySem.W.Fast.tw12761184343887476201:Unit:=()
def PySem.W.Fast.tw5932389330122848214:Unit:=()
def PySem.W.Fast.tw8574987659767058980:Unit:=()
def PySem.W.Fast.tw12737497299197115650:Unit:=()
def PySem.W.Fast.tw14910324668433055047:Unit:=()
def PySem.W.Fast.tw10121245116231398723:Unit:=()
def PySem.W.Fast.tw17999447123841379973:Unit:=()
def PySem.W.Fast.tw5661113978015414144:Unit:=()
def PySem.W.Fast.tw18158516761757652344:Unit:=()
def PySem.W.Fast.tw3134131725075501123:Unit:=()
def PySem.W.Fast.tw14670940103002475618:Unit:=()
def PySem.W.Fast.tw10996611808871054991:Unit:=()
def PySem.W.Fast.tw9859353187115748066:Unit:=()
def PySem.W.Fast.tw3475052439119283614:Unit:=()
def PySem.W.Fast.tw15266833608813319725:Unit:=()
set_option maxRecDepth 100000
namespace L2
open PySem PySem.Spec PyProof.Rows
abbrev Key:=Sum Int Str
def keyIs:Key->Value->Bool
 | .inl k,v=>Value.isInt k v
 | .inr x,v=>Value.isStrOf x v
def keyH (w:World):Key->Int
 | .inl k=>hashInt k
 | .inr x=>hashStr w x
theorem keyIs_shape:∀ {k:Key} {v:Value},keyIs k v=true->(∃ i t,k=Sum.inl i/\v=Value.int i t)\/(∃ x t,k=Sum.inr x/\v=Value.str x t)
 | .inl i,v,h=>by
  obtain ⟨t,e⟩:=Value.isInt_shape (k:=i) (v:=v) h
  exact .inl ⟨i,t,rfl,e⟩
 | .inr x,v,h=>by
  obtain ⟨t,e⟩:=Value.isStrOf_shape (x:=x) (v:=v) h
  exact .inr ⟨x,t,rfl,e⟩
theorem keyIs_int (i:Int) (t:Tok):keyIs (.inl i) (.int i t)=true:=by simp [keyIs,Value.isInt]
theorem keyIs_str (x:Str) (t:Tok):keyIs (.inr x) (.str x t)=true:=by simp [keyIs,Value.isStrOf]
theorem key_ll (a b:Int):decide ((Sum.inl a:Key)=Sum.inl b)=(a == b):=by
 by_cases e:a=b
 ·subst e;simp
 ·have h:¬ (Sum.inl a:Key)=Sum.inl b:=fun q=>e (Sum.inl.inj q)
  rw [decide_eq_false h]
  exact (beq_eq_false_iff_ne.mpr e).symm
theorem key_rr (a b:Str):decide ((Sum.inr a:Key)=Sum.inr b)=decide (a=b):=by
 by_cases e:a=b
 ·subst e;simp
 ·have h:¬ (Sum.inr a:Key)=Sum.inr b:=fun q=>e (Sum.inr.inj q)
  rw [decide_eq_false h,decide_eq_false e]
theorem key_lr (a:Int) (b:Str):decide ((Sum.inl a:Key)=Sum.inr b)=false:=decide_eq_false (fun q=>nomatch q)
theorem key_rl (a:Str) (b:Int):decide ((Sum.inr a:Key)=Sum.inl b)=false:=decide_eq_false (fun q=>nomatch q)
def mixKind (prog:Program) (w:World):PySem.KeyKind prog w Key where
 is:=keyIs
 hash:=keyH w
 inj:=fun v a b ha hb=>by
  rcases keyIs_shape ha with ⟨i,t,rfl,rfl⟩ | ⟨x,t,rfl,rfl⟩
  ·rcases keyIs_shape hb with ⟨j,u,rfl,e⟩ | ⟨y,u,rfl,e⟩
   ·injection e with e1 _;rw [e1]
   ·exact nomatch e
  ·rcases keyIs_shape hb with ⟨j,u,rfl,e⟩ | ⟨y,u,rfl,e⟩
   ·exact nomatch e
   ·injection e with e1 _;rw [e1]
 byValue:=fun k v h=>by
  rcases keyIs_shape h with ⟨i,t,rfl,rfl⟩ | ⟨x,t,rfl,rfl⟩ <;> rfl
 pyHash:=fun hv h=>by
  rcases keyIs_shape hv with ⟨i,t,rfl,rfl⟩ | ⟨x,t,rfl,rfl⟩
  ·exact wpAny_pyHash_int h
  ·exact wpAny_pyHash_str h
 eqBool:=fun hu hv h=>by
  rcases keyIs_shape hu with ⟨i,t,rfl,rfl⟩ | ⟨x,t,rfl,rfl⟩
  ·rcases keyIs_shape hv with ⟨j,u,rfl,rfl⟩ | ⟨y,u,rfl,rfl⟩
   ·rw [key_ll] at h;exact wpAny_eqBool_int h
   ·rw [key_lr] at h;exact SeqAt.EqAt.int_str i t y u _ _ _ _ h
  ·rcases keyIs_shape hv with ⟨j,u,rfl,rfl⟩ | ⟨y,u,rfl,rfl⟩
   ·rw [key_rl] at h;exact SeqAt.EqAt.str_int x t j u _ _ _ _ h
   ·rw [key_rr] at h;exact wpAny_eqBool_str h
 «strs»:=fun k x t v h=>by
  rcases keyIs_shape h with ⟨i,u,rfl,e⟩ | ⟨y,u,rfl,e⟩
  ·exact nomatch e
  ·injection e with e1 _
   subst e1
   cases v <;> rfl
theorem mixKind_int (prog:Program) (w:World) (i:Int) (t:Tok):(mixKind prog w).is (.inl i) (.int i t)=true:=keyIs_int i t
theorem mixKind_str (prog:Program) (w:World) (x:Str) (t:Tok):(mixKind prog w).is (.inr x) (.str x t)=true:=keyIs_str x t
end L2
namespace L2
open PySem PySem.Spec PyProof.Rows
inductive V where
 | non | bl (b:Bool) | int (i:Int) | str (x:Str) | byt (b:Array UInt8) | flt (b:UInt64) | ref (a:Addr) | ty (n:String)
 deriving DecidableEq
def RelV:V->Value->Prop
 | .non,u=>u=Value.none
 | .bl b,u=>u=Value.bool b
 | .int i,u=>∃ t,u=Value.int i t
 | .str x,u=>∃ t,u=Value.str x t
 | .byt b,u=>∃ t,u=Value.bytes b t
 | .flt b,u=>∃ t,u=Value.float b t
 | .ref a,u=>u=Value.ref a
 | .ty n,u=>u=Value.type n
abbrev Vals:List V->List Value->Prop:=Paired RelV
theorem Vals.length {xs:List V} {us:List Value} (r:Vals xs us):xs.length=us.length:=Paired.length r
theorem Vals.get:∀ {xs:List V} {us:List Value} {i:Nat} {x:V},Vals xs us->xs[i]? = some x->∃ u,us[i]? = some u/\RelV x u
 | _,_,_,_,.nil,e=>by simp at e
 | _,_,0,_,.cons r _,e=>by simp at e;subst e;exact ⟨_,rfl,r⟩
 | _,_,i + 1,x,.cons _ t,e=>by
  obtain ⟨u,h1,h2⟩:=Vals.get (i:=i) (x:=x) t (by simpa using e)
  exact ⟨u,by simpa using h1,h2⟩
theorem Vals.set {x:V} {u:Value} (r:RelV x u):∀ {xs:List V} {us:List Value} (i:Nat),Vals xs us->Vals (xs.set i x) (us.set i u)
 | _,_,_,.nil=>.nil
 | _,_,0,.cons _ t=>.cons r t
 | _,_,i + 1,.cons q t=>.cons q (Vals.set r i t)
theorem Vals.append:∀ {xs ys:List V} {us ws:List Value},Vals xs us->Vals ys ws->Vals (xs++ys) (us++ws)
 | _,_,_,_,.nil,s=>s
 | _,_,_,_,.cons r t,s=>.cons r (Vals.append t s)
theorem Vals.take:∀ {xs:List V} {us:List Value} (n:Nat),Vals xs us->Vals (xs.take n) (us.take n)
 | _,_,0,_=>.nil
 | _,_,_ + 1,.nil=>.nil
 | _,_,n + 1,.cons r t=>.cons r (Vals.take n t)
theorem Vals.drop:∀ {xs:List V} {us:List Value} (n:Nat),Vals xs us->Vals (xs.drop n) (us.drop n)
 | _,_,0,r=>r
 | _,_,_ + 1,.nil=>.nil
 | _,_,n + 1,.cons _ t=>Vals.drop n t
def RelO:Option V->Option Value->Prop
 | some v,some u=>RelV v u
 | none,none=>True
 | _,_=>False
def KV {κ:Type}:List (κ×V)->List (κ×Value)->Prop:=Paired fun (p:κ×V) (q:κ×Value)=>p.1=q.1/\RelV p.2 q.2
def kV:Key->V
 | .inl i=>.int i
 | .inr x=>.str x
inductive HO where
 | lst (xs:List V)
 | tup (xs:List V)
 | dK (kvs:List (Key×V)) | dT (kvs:List (List Key×V))
 | set (S:Int->Bool) (n:Nat)
 | ins (C dx:Addr) (fs:List (Str×V))
 | own (x:Addr)
 | xd (fs:List (Str×V))
 | met (f x:Addr)
 | rng (lo hi:Int)
 | frz (o:Obj) (u:HO)
 | tbl (ps:Array Value)
 | ext (φ:Heap->Prop)
abbrev Hp:=Addr->Option HO
def upd (H:Hp) (a:Addr) (o:HO):Hp:=fun b=>if b=a then some o else H b
theorem upd_same {H:Hp} {a:Addr} {o:HO}:upd H a o a=some o:=by unfold upd;rw [if_pos rfl]
theorem upd_ne {H:Hp} {a b:Addr} {o:HO} (h:b≠a):upd H a o b=H b:=by unfold upd;rw [if_neg h]
theorem ne_of {H:Hp} {a b:Addr} {o u:HO} (h:H a=some o) (h':H b=some u) (d:o≠u):a≠b:=by
 intro e;subst e;rw [h] at h';exact d (Option.some.inj h')
theorem ne_of_none {H:Hp} {a b:Addr} {o:HO} (h:H a=some o) (h':H b=none):a≠b:=by
 intro e;subst e;rw [h] at h';cases h'
section
variable (P:Program) (w:World)
def ObjOk (H:Hp) (h:Heap) (a:Addr):HO->Prop
 | .lst xs=>xs.length<=sizeLine/\∃ (its:List Value) (n:Nat),Vals xs its/\h.get? a=some { cls:=.type "list",data:=.seq its.toArray n }
 | .tup xs=>xs.length<=sizeLine/\∃ its:List Value,Vals xs its/\IsTup h a its.toArray
 | .dK kvs=>kvs.length<=sizeLine/\(a == sysModules)=false/\∃ vs,KV kvs vs/\h.DictOf (mixKind P w) a vs
 | .dT kvs=>kvs.length<=sizeLine/\(a == sysModules)=false/\∃ xs:List (List Key×Addr×Value),
   Paired (fun (p:List Key×V) (q:List Key×Addr×Value)=>p.1=q.1/\H q.2.1=some (.tup (p.1.map kV))/\RelV p.2 q.2.2) kvs xs /\
   ∃ o es ep,h.get? a=some o/\o.ExactDict/\o.data=.dict es ep/\es.toList=xs.map (entryOfKey (tupleKind (mixKind P w)))/\(xs.map (·.1)).Nodup
 | .set S n=>h.SetOf (intKind P w) a S n
 | .ins C dx fs=>H dx=some (.own a)/\fs.length<=1000/\dx≠a/\h.get? a=some (PySem.W.instObj C dx) /\
   ∃ mA,h.Ns1 dx mA/\(∀ f,RelO (fs.lookup f) (mA f))/\PySem.Within mA (fs.map (·.1))
 | .own _=>∃ o,h.get? a=some o
 | .xd fs=>∃ mA,h.Ns1 a mA/\∀ f,RelO (fs.lookup f) (mA f)
 | .rng lo hi=>∃ t u v,h.get? a=some { cls:=.type "range",data:=.fields #[.int lo t,.int hi u,.int 1 v] }
 | .frz o u=>h.get? a=some o/\ObjOk H h a u
 | .tbl ps=>h.get? a=some { cls:=.none,data:=.fields ps }
 | .met f x=>h.get? a=some (PySem.W.methodObj (.ref f) (.ref x))
 | .ext φ=>φ h/\(∃ o,h.get? a=some o)/\∀ h1 h2:Heap,φ h1->(∀ o,h1.get? a=some o->h2.get? a=some o)->φ h2
def HOk (H:Hp) (h:Heap):Prop:=∀ a o,H a=some o->ObjOk P w H h a o
end
section
variable {P:Program} {w:World} {H H':Hp} {h h':Heap} {a:Addr} {o:HO}
theorem ObjOk.lt (x:ObjOk P w H h a o):a < h.objs.size:=by
 cases o with
 | lst xs=>obtain ⟨_,_,_,_,e⟩:=x;exact Heap.lt_size e
 | tup xs=>obtain ⟨_,_,_,p⟩:=x;exact p.lt
 | dK kvs=>obtain ⟨_,_,_,_,o,_,_,e,_⟩:=x;exact Heap.lt_size e
 | dT kvs=>obtain ⟨_,_,_,_,o,_,_,e,_⟩:=x;exact Heap.lt_size e
 | set S n=>obtain ⟨o,_,_,_,e,_⟩:=x;exact Heap.lt_size e
 | ins C dx fs=>obtain ⟨_,_,_,e,_⟩:=x;exact Heap.lt_size e
 | own y=>obtain ⟨_,e⟩:=x;exact Heap.lt_size e
 | xd fs=>obtain ⟨_,⟨_,_,_,e,_⟩,_⟩:=x;exact Heap.lt_size e
 | rng lo hi=>obtain ⟨_,_,_,e⟩:=x;exact Heap.lt_size e
 | frz ob u=>obtain ⟨e,_⟩:=x;exact Heap.lt_size e
 | tbl ps=>exact Heap.lt_size (show h.get? a=some _ from x)
 | met f y=>exact Heap.lt_size (show h.get? a=some _ from x)
 | ext φ=>obtain ⟨_,⟨_,e⟩,_⟩:=x;exact Heap.lt_size e
theorem Paired.mapP {α β:Type} {F G:α->β->Prop}:∀ {l₁:List α} {l₂:List β},Paired F l₁ l₂->(∀ a b,F a b->G a b)->Paired G l₁ l₂
 | _,_,.nil,_=>.nil
 | _,_,.cons r t,f=>.cons (f _ _ r) (Paired.mapP t f)
theorem ObjOk.stay (x:ObjOk P w H h a o) (k:∀ b u,(b=a\/H b=some (.own a))->h.get? b=some u->h'.get? b=some u)
  (ho:∀ b,H b=some (.own a)->H' b=some (.own a)) (ht:∀ b xs,H b=some (.tup xs)->H' b=some (.tup xs)):ObjOk P w H' h' a o:=by
 induction o with
 | lst xs=>obtain ⟨z,its,n,r,e⟩:=x;exact ⟨z,its,n,r,k _ _ (.inl rfl) e⟩
 | tup xs=>obtain ⟨z,its,r,ob,e,c⟩:=x;exact ⟨z,its,r,ob,k _ _ (.inl rfl) e,c⟩
 | dK kvs=>obtain ⟨z,y,vs,r,ob,es,ep,e,c⟩:=x;exact ⟨z,y,vs,r,ob,es,ep,k _ _ (.inl rfl) e,c⟩
 | dT kvs =>
  obtain ⟨z,y,xs,r,ob,es,ep,e,c⟩:=x
  exact ⟨z,y,xs,Paired.mapP r fun p q z=>⟨z.1,ht _ _ z.2.1,z.2.2⟩,ob,es,ep,k _ _ (.inl rfl) e,c⟩
 | set S n=>obtain ⟨ob,es,ep,t,e,c⟩:=x;exact ⟨ob,es,ep,t,k _ _ (.inl rfl) e,c⟩
 | ins C dx fs =>
  obtain ⟨d,z,ne,e,mA,⟨od,es,ep,e2,c⟩,r⟩:=x
  exact ⟨ho _ d,z,ne,k _ _ (.inl rfl) e,mA,⟨od,es,ep,k _ _ (.inr d) e2,c⟩,r⟩
 | own y=>obtain ⟨ob,e⟩:=x;exact ⟨ob,k _ _ (.inl rfl) e⟩
 | xd fs=>obtain ⟨mA,⟨od,es,ep,e,c⟩,r⟩:=x;exact ⟨mA,⟨od,es,ep,k _ _ (.inl rfl) e,c⟩,r⟩
 | rng lo hi=>obtain ⟨t,u,v,e⟩:=x;exact ⟨t,u,v,k _ _ (.inl rfl) e⟩
 | frz ob u ih=>obtain ⟨e,q⟩:=x;exact ⟨k _ _ (.inl rfl) e,ih q⟩
 | tbl ps =>
  have e:h.get? a=some { cls:=.none,data:=.fields ps }:=x
  show h'.get? a=some { cls:=.none,data:=.fields ps }
  exact k a _ (.inl rfl) e
 | met f y =>
  have e:h.get? a=some (PySem.W.methodObj (.ref f) (.ref y)):=x
  show h'.get? a=some (PySem.W.methodObj (.ref f) (.ref y))
  exact k a _ (.inl rfl) e
 | ext φ=>obtain ⟨p,⟨o,e⟩,st⟩:=x;exact ⟨st _ _ p fun o q=>k _ _ (.inl rfl) q,⟨o,k _ _ (.inl rfl) e⟩,st⟩
theorem HOk.lt (x:HOk P w H h) (e:H a=some o):a < h.objs.size:=(x a o e).lt
theorem HOk.fresh (x:HOk P w H h) (e:h.objs.size<=a):H a=none:=by
 cases q:H a with
 | none=>rfl
 | some u=>exact absurd (Nat.lt_of_lt_of_le (x.lt q) e) (Nat.lt_irrefl _)
theorem HOk.kept (x:HOk P w H h) (k:∀ b u,h.get? b=some u->h'.get? b=some u):HOk P w H h':=fun a o e =>
 (x a o e).stay (fun b u _ q=>k b u q) (fun _ q=>q) fun _ _ q=>q
theorem HOk.laid (x:HOk P w H h) (k:∀ b u,h.get? b=some u->h'.get? b=some u) (hp:h.objs.size<=a) (new:ObjOk P w (upd H a o) h' a o):HOk P w (upd H a o) h':=fun b u e=>by
 have hn:=x.fresh hp
 by_cases hb:b=a
 ·subst hb;rw [upd_same] at e;cases e;exact new
 ·rw [upd_ne hb] at e
  exact (x b u e).stay (fun c v _ q=>k c v q) (fun c q=>by rw [upd_ne (ne_of_none q hn)];exact q) fun c xs q=>by rw [upd_ne (ne_of_none q hn)];exact q
end
def Rd (H:Hp) (a:Addr) (u:HO):Prop:=H a=some u\/∃ o,H a=some (.frz o u)
theorem Rd.ok {P:Program} {w:World} {H:Hp} {h:Heap} {a:Addr} {u:HO} (r:Rd H a u) (x:HOk P w H h):ObjOk P w H h a u:=by
 rcases r with r | ⟨o,r⟩
 ·exact x a u r
 ·obtain ⟨_,q⟩:=x a _ r
  exact q
def Mut:Option HO->Prop
 | some (.lst _)=>True
 | some (.dK _)=>True
 | some (.dT _)=>True
 | some (.set _ _)=>True
 | some (.ins _ _ _)=>True
 | some (.ext _)=>True
 | _=>False
section
variable {P:Program} {w:World} {H:Hp} {h h':Heap} {x e:Addr} {o':HO}
theorem HOk.write (ok:HOk P w H h) (mu:Mut (H x)) (he:e=x\/H e=some (.own x)) (k:∀ b u,b≠e->h.get? b=some u->h'.get? b=some u) (heo:∃ u,h'.get? e=some u)
  (new:ObjOk P w (upd H x o') h' x o'):HOk P w (upd H x o') h':=fun b u q=>by
 have nown:∀ c y,H c=some (.own y)->c≠x:=fun c y r z=>by subst z;rw [r] at mu;exact mu
 have ntup:∀ c xs,H c=some (.tup xs)->c≠x:=fun c xs r z=>by subst z;rw [r] at mu;exact mu
 by_cases hb:b=x
 ·subst hb;rw [upd_same] at q;cases q;exact new
 ·rw [upd_ne hb] at q
  by_cases hbe:b=e
  ·have q':H b=some (.own x):=by
    rcases he with z | z
    ·exact absurd (hbe.trans z) hb
    ·rw [hbe];exact z
   rw [q] at q';cases q'
   obtain ⟨v,hv⟩:=heo
   exact ⟨v,by rw [hbe];exact hv⟩
  ·refine (ok b u q).stay (fun c v hc r=>k c v ?_ r) (fun c r=>by rw [upd_ne (nown c b r)];exact r) fun c xs r=>by rw [upd_ne (ntup c xs r)];exact r
   rcases hc with rfl | hc
   ·exact hbe
   ·rintro rfl
    rcases he with z | z
    ·exact nown c b hc z
    ·rw [hc] at z;cases z;exact hb rfl
end
structure Un (fs ex:List Addr) (H H':Hp) (h h':Heap):Prop where
 keep:∀ b o,h.get? b=some o->H b=none->b ∉ fs->b ∉ ex->h'.get? b=some o
 slot:∀ b o,h.get? b=some o->H b=none->b∈fs->b ∉ ex->∃ sl,h'.get? b=some { o with slots:=sl }
 free:∀ b o,h.get? b=some o->H b=none->b ∉ ex->H' b=none
 there:∀ b o,h.get? b=some o->b ∉ ex->∃ o',h'.get? b=some o'
 tups:∀ b xs,H b=some (.tup xs)->H' b=some (.tup xs)
 frzs:∀ b o u,H b=some (.frz o u)->H' b=some (.frz o u)
 tbls:∀ b ps,H b=some (.tbl ps)->∃ more,H' b=some (.tbl (ps++more))
section
variable {fs fs' ex ex':List Addr} {H H1 H2:Hp} {h h1 h2 h':Heap} {a x e:Addr} {o:HO}
theorem Un.any (u:Un fs ex H H1 h h1) {b:Addr} {ob:Obj} (q:h.get? b=some ob) (n:H b=none) (hx:b ∉ ex):∃ sl,h1.get? b=some { ob with slots:=sl }:=by
 by_cases hb:b∈fs
 ·exact u.slot b ob q n hb hx
 ·exact ⟨ob.slots,u.keep b ob q n hb hx⟩
theorem Un.trans (a:Un fs ex H H1 h h1) (b:Un fs ex H1 H2 h1 h2):Un fs ex H H2 h h2 where
 keep:=fun c ob q n hc hx=>b.keep c ob (a.keep c ob q n hc hx) (a.free c ob q n hx) hc hx
 slot:=fun c ob q n hc hx=>by
  obtain ⟨sl,e1⟩:=a.slot c ob q n hc hx
  obtain ⟨sl',e2⟩:=b.slot c _ e1 (a.free c ob q n hx) hc hx
  exact ⟨sl',e2⟩
 free:=fun c ob q n hx=>by
  obtain ⟨o',e1⟩:=a.there c ob q hx
  exact b.free c o' e1 (a.free c ob q n hx) hx
 there:=fun c ob q hx=>by
  obtain ⟨o',e1⟩:=a.there c ob q hx
  exact b.there c o' e1 hx
 tups:=fun c xs q=>b.tups c xs (a.tups c xs q)
 frzs:=fun c ob xs q=>b.frzs c ob xs (a.frzs c ob xs q)
 tbls:=fun c ps q=>by
  obtain ⟨m1,e1⟩:=a.tbls c ps q
  obtain ⟨m2,e2⟩:=b.tbls c _ e1
  exact ⟨m1++m2,by rw [e2,Array.append_assoc]⟩
theorem Un.kept (k:∀ b u,h.get? b=some u->h'.get? b=some u):Un fs ex H H h h' :=
 ⟨fun b ob q _ _ _=>k b ob q,fun b ob q _ _ _=>⟨ob.slots,k b ob q⟩,fun _ _ _ n _=>n,fun b ob q _=>⟨ob,k b ob q⟩,fun _ _ q=>q,fun _ _ _ q=>q,fun _ ps q=>⟨#[],by rw [q];simp⟩⟩
theorem Un.refl:Un fs ex H H h h:=Un.kept fun _ _ q=>q
theorem Un.laid (k:∀ b u,h.get? b=some u->h'.get? b=some u) (hp:h.objs.size<=a) (hn:H a=none):Un fs ex H (upd H a o) h h' where
 keep:=fun b u q _ _ _=>k b u q
 slot:=fun b u q _ _ _=>⟨u.slots,k b u q⟩
 free:=fun b u q n _=>by rw [upd_ne (Nat.ne_of_lt (Nat.lt_of_lt_of_le (Heap.lt_size q) hp))];exact n
 there:=fun b u q _=>⟨u,k b u q⟩
 tups:=fun b xs q=>by rw [upd_ne (ne_of_none q hn)];exact q
 frzs:=fun b u xs q=>by rw [upd_ne (ne_of_none q hn)];exact q
 tbls:=fun b ps q=>⟨#[],by rw [upd_ne (ne_of_none q hn),q];simp⟩
theorem Un.write (mu:Mut (H x)) (he:e=x\/H e=some (.own x)) (k:∀ b u,b≠e->h.get? b=some u->h'.get? b=some u) (heo:∃ u,h'.get? e=some u):Un fs ex H (upd H x o) h h':=by
 have hx:∀ b,H b=none->b≠x:=fun b n z=>by subst z;rw [n] at mu;exact mu
 have hb:∀ b,H b=none->b≠e:=fun b n z=>by
  subst z
  rcases he with r | r
  ·exact hx b n r
  ·rw [n] at r;cases r
 have hm:∀ b u,H b=some u->¬ Mut (some u)->b≠x:=fun b u q nm z=>by subst z;rw [q] at mu;exact nm mu
 refine ⟨fun b u q n _ _=>k b u (hb b n) q,fun b u q n _ _=>⟨u.slots,k b u (hb b n) q⟩,fun b u q n _=>by rw [upd_ne (hx b n)];exact n,fun b u q _=>?_,
  fun b xs q=>by rw [upd_ne (hm b _ q fun z=>z)];exact q,fun b u xs q=>by rw [upd_ne (hm b _ q fun z=>z)];exact q,fun b ps q=>⟨#[],by rw [upd_ne (hm b _ q fun z=>z),q];simp⟩⟩
 by_cases hbe:b=e
 ·subst hbe;exact heo
 ·exact ⟨u,k b u hbe q⟩
theorem Un.mono (u:Un fs ex H H1 h h1) (hs:∀ b∈fs,b∈fs') (hx:∀ b∈ex,b∈ex'):Un fs' ex' H H1 h h1 :=
 ⟨fun b ob q n hb he=>u.keep b ob q n (fun z=>hb (hs b z)) fun z=>he (hx b z),fun _ _ q n _ he=>u.any q n fun z=>he (hx _ z),fun b ob q n he=>u.free b ob q n fun z=>he (hx b z),fun b ob q he=>u.there b ob q fun z=>he (hx b z),u.tups,u.frzs,u.tbls⟩
end
def trk (h:Heap) (H:Hp):List Addr:=(List.range h.objs.size).filter fun a=>(H a).isSome
def hidT (h:Heap) (H:Hp):Heap:=PySem.W.hideAll h (trk h H)
theorem hidT_size (h:Heap) (H:Hp):(hidT h H).objs.size=h.objs.size:=PySem.W.hideAll_size _ _
theorem hidT_get {h:Heap} {H:Hp} {b:Addr} {o:Obj} (e:h.get? b=some o) (n:H b=none):(hidT h H).get? b=some o :=
 PySem.W.hideAll_get _ e fun hm=>by
  have q:(H b).isSome=true:=(List.mem_filter.mp hm).2
  rw [n] at q;simp at q
theorem of_hidT {h:Heap} {H:Hp} {b:Addr} {o:Obj} (e:(hidT h H).get? b=some o):h.get? b=some o/\H b=none:=by
 have e':h.get? b=some o:=PySem.W.of_hideAll (trk h H) e
 refine ⟨e',?_⟩
 cases q:H b with
 | none=>rfl
 | some x =>
  have hm:b∈trk h H:=List.mem_filter.mpr ⟨List.mem_range.mpr (Heap.lt_size e'),by simp [q]⟩
  have z:(hidT h H).get? b=none:=PySem.W.hideAll_none (trk h H) hm
  rw [z] at e;cases e
def allNews (g h:Heap) (L:Addr):List (Addr×Obj):=(List.range h.objs.size).filterMap fun a=>if a=L\/(g.get? a).isSome=true then none else (h.get? a).map fun o=>(a,o)
def rest (g h:Heap) (L d:Addr):List (Addr×Obj):=(allNews g h L).filter fun p=>decide (p.1≠d)
end L2
namespace L2
open PySem PySem.Spec PyProof.Rows
structure Mod (K:PySem.W.Frag) (mg:Str->Option Value) (base:Heap):Prop where
 kin:K.In base
 glob:base.Ns mainGlobals mg
 blt:∃ mb,base.Ns builtinsNs mb/\∀ x:Str,x≠"__name__"->mb x=bootBuiltins x
 nolimit:base.NoLimit
structure Cx where
 prog:Program
 w:World
 K:PySem.W.Frag
 mg:Str->Option Value
 base:Heap
 A:Around
 N:List Str
 s₀:Shared
 H₀:Hp
 env:Env
 outer:List Env
 stack:List Env
 ex:List Addr
 fn:Str->Bool
 calm:Bool
 pn:List (Addr×Obj)
 xe:Value->Shared->Prop
def frs (l:List Env):List Addr:=l.filterMap (·.frame)
abbrev Cx.fs (X:Cx):List Addr:=frs X.outer
def Vis (sc:Scope) (x:Str):Prop:=sc.names.lookup x=some .local\/sc.names.lookup x=some .cell\/sc.names.lookup x=some .free
def Loc (sc:Scope) (x:Str):Prop:=sc.names.lookup x=some .local\/sc.names.lookup x=some .cell
def Look (env:Env) (h:Heap) (m:Str->Option Value) (x:Str) (u:Value):Prop :=
 (env.kindOf x=some .local/\m x=some u)\/((env.kindOf x=some .cell\/env.kindOf x=some .free)/\∃ c,env.cells.lookup x=some c/\h.IsCell c (some u))
structure Cx.Ok (X:Cx):Prop where
 mod:Mod X.K X.mg X.base
 kind:X.env.scope.kind=.function
 glob:X.env.globals=mainGlobals
 blt:X.env.builtins=builtinsNs
 above:X.s₀.heap.objs.size<=X.env.locals
 inj:∀ x y c,X.env.cells.lookup x=some c->X.env.cells.lookup y=some c->x=y
 has:∀ x,(X.env.kindOf x=some .cell\/X.env.kindOf x=some .free)->∃ c,X.env.cells.lookup x=some c
 cab:∀ x c,X.fn x=true->X.env.cells.lookup x=some c->X.s₀.heap.objs.size<=c
 hd:X.calm=true->X.A.handled=none
 frames:X.A.frames=some X.stack
 stk:X.stack=X.outer\/(X.stack=X.env::X.outer/\X.env.frame=some X.env.locals)
 exf:∀ b∈X.ex,b≠X.env.locals/\∀ x c,X.env.cells.lookup x=some c->c≠b
 bs:∀ b o,X.base.get? b=some o->X.s₀.heap.get? b=some o/\X.H₀ b=none
 bsz:X.base.objs.size<=X.s₀.heap.objs.size
 noex:∀ b o,X.base.get? b=some o->b ∉ X.ex
 exfs:∀ b∈X.ex,b ∉ X.fs
 funs:X.s₀.heap.FunFrames X.base X.outer
 frf:∀ b∈X.fs,X.H₀ b=none
structure Inv (X:Cx) (pins:List (Addr×Obj)) (σ:List (Option V)) (H:Hp) (s:Shared):Prop where
 ok:X.Ok
 os:s.os=X.s₀.os
 bare:AllBare s.gens
 base:Un X.fs X.ex X.H₀ H X.s₀.heap s.heap
 loc:∃ m,s.heap.Ns X.env.locals m/\∀ (i:Nat) (x:Str) (v:V),X.N[i]? = some x->σ[i]? = some (some v)->Vis X.env.scope x->∃ u,RelV v u/\Look X.env s.heap m x u
 cell:∀ x c,X.env.cells.lookup x=some c->∃ v,s.heap.IsCell c v
 free:H X.env.locals=none
 freeC:∀ x c,X.env.cells.lookup x=some c->H c=none
 pin:∀ p∈X.pn++pins,s.heap.get? p.1=some p.2/\H p.1=none/\p.1≠X.env.locals/\p.1 ∉ X.fs/\∀ v,p.2.data≠.cell v
 hok:HOk X.prog X.w H s.heap
 len:σ.length=X.N.length
section
variable {X:Cx} {pins:List (Addr×Obj)} {σ:List (Option V)} {H H':Hp} {s:Shared} {h':Heap}
theorem Cx.Ok.nofr (ok:X.Ok) {b:Addr} {o:Obj} (e:X.base.get? b=some o):b ∉ X.fs:=fun hb=>by
 have:=(ok.funs.mem hb).1
 rw [e] at this;cases this
theorem Inv.bs (I:Inv X pins σ H s):∀ b o,X.base.get? b=some o->s.heap.get? b=some o/\H b=none:=fun b o e =>
 ⟨I.base.keep b o (I.ok.bs b o e).1 (I.ok.bs b o e).2 (I.ok.nofr e) (I.ok.noex b o e),I.base.free b o (I.ok.bs b o e).1 (I.ok.bs b o e).2 (I.ok.noex b o e)⟩
theorem Inv.bk (I:Inv X pins σ H s):∀ b o,X.base.get? b=some o->s.heap.get? b=some o:=fun b o e=>(I.bs b o e).1
theorem Inv.mod (I:Inv X pins σ H s):Mod X.K X.mg X.base:=I.ok.mod
theorem Inv.kIn (I:Inv X pins σ H s):X.K.In s.heap:=I.ok.mod.kin.keeps I.bk
theorem Inv.lt (I:Inv X pins σ H s):X.env.locals < s.heap.objs.size:=let ⟨_,hn,_⟩:=I.loc;hn.lt
theorem Inv.sz (I:Inv X pins σ H s):X.s₀.heap.objs.size<=s.heap.objs.size:=Nat.le_trans I.ok.above (Nat.le_of_lt I.lt)
theorem Inv.nofs (I:Inv X pins σ H s) {a:Addr} (h:s.heap.objs.size<=a):a ∉ X.fs:=fun hb=>by
 obtain ⟨_,o,ho,_⟩:=I.ok.funs.mem hb
 exact absurd (Nat.lt_of_lt_of_le (Heap.lt_size ho) (Nat.le_trans I.sz h)) (Nat.lt_irrefl _)
theorem Inv.cne (I:Inv X pins σ H s):∀ x c,X.env.cells.lookup x=some c->c≠X.env.locals:=fun x c e z=>by
 obtain ⟨v,o,ho,hd⟩:=I.cell x c e
 obtain ⟨m,⟨o',es,ep,ho',hd',_⟩,_⟩:=I.loc
 rw [z,ho'] at ho;cases ho;rw [hd'] at hd;cases hd
theorem Inv.funs (I:Inv X pins σ H s):s.heap.FunFrames X.base X.outer:=by
 have all:∀ (l:List Env),(∀ b∈frs l,b∈X.fs)->X.s₀.heap.FunFrames X.base l->s.heap.FunFrames X.base l:=by
  intro l
  induction l with
  | nil=>intro _ _;trivial
  | cons env r ih =>
   intro hs hl
   obtain ⟨hk,⟨L,o,hf,hn,ho,hd⟩,hr⟩:=hl
   have hL:L∈X.fs:=hs L (by unfold frs;rw [List.filterMap_cons,hf];exact List.mem_cons_self)
   obtain ⟨sl,e⟩:=I.base.slot L o ho (I.ok.frf L hL) hL fun z=>I.ok.exfs L z hL
   exact ⟨hk,⟨L,_,hf,hn,e,hd⟩,ih (fun b hb=>hs b (by unfold frs;rw [List.filterMap_cons,hf];exact List.mem_cons_of_mem _ hb)) hr⟩
 exact all X.outer (fun _ hb=>hb) I.ok.funs
theorem Inv.stack (I:Inv X pins σ H s):s.heap.FunFrames X.base X.stack:=by
 rcases I.ok.stk with e | ⟨e,hf⟩
 ·rw [e];exact I.funs
 ·rw [e]
  obtain ⟨m,hn,_⟩:=I.loc
  refine .cons (by rw [I.ok.kind];decide) hf hn ?_ I.funs
  exact Heap.get?_none_of_le (Nat.le_trans I.ok.bsz I.ok.above)
theorem Inv.stkSub (I:Inv X pins σ H s):∀ b∈frs X.stack,b∈X.env.locals::X.fs:=fun b hb=>by
 rcases I.ok.stk with e | ⟨e,hf⟩
 ·rw [e] at hb;exact List.mem_cons_of_mem _ hb
 ·rw [e] at hb
  unfold frs at hb
  rw [List.filterMap_cons,hf] at hb
  exact hb
theorem Inv.stkFree (I:Inv X pins σ H s):∀ b∈frs X.stack,H b=none:=fun b hb=>by
 rcases List.mem_cons.mp (I.stkSub b hb) with e | hb
 ·rw [e];exact I.free
 ·obtain ⟨_,o,ho,_⟩:=I.ok.funs.mem hb
  exact I.base.free b o ho (I.ok.frf b hb) fun z=>I.ok.exfs b z hb
theorem Inv.step {g':Array GenState} {t':Nat} {d':Drawn} {ch:List Addr} (I:Inv X pins σ H s)
  (hch:∀ b∈ch,(b∈X.ex\/X.s₀.heap.objs.size<=b)/\b≠X.env.locals/\(∀ x c,X.env.cells.lookup x=some c->c≠b)/\∀ p∈X.pn++pins,p.1≠b)
  (keep:∀ b o,b≠X.env.locals->b ∉ X.fs->b ∉ ch->s.heap.get? b=some o->H b=none->h'.get? b=some o)
  (slot:∀ b o,b≠X.env.locals->b∈X.fs->b ∉ ch->s.heap.get? b=some o->H b=none->∃ sl,h'.get? b=some { o with slots:=sl }) (free:∀ b o,b ∉ ch->s.heap.get? b=some o->H b=none->H' b=none)
  (there:∀ b o,b ∉ ch->s.heap.get? b=some o->∃ o',h'.get? b=some o')
  (tups:∀ b xs,H b=some (.tup xs)->H' b=some (.tup xs)) (frzs:∀ b o u,H b=some (.frz o u)->H' b=some (.frz o u)) (tbls:∀ b ps,H b=some (.tbl ps)->∃ more,H' b=some (.tbl (ps++more)))
  (ns:∀ m,s.heap.Ns X.env.locals m->h'.Ns X.env.locals m) (hok:HOk X.prog X.w H' h') (hg:AllBare g') :
  Inv X pins σ H' { s with heap:=h',gens:=g',drawn:=d',toks:=t' }:=by
 have neL:∀ b o,X.s₀.heap.get? b=some o->b≠X.env.locals:=fun b o e=>Nat.ne_of_lt (Nat.lt_of_lt_of_le (Heap.lt_size e) I.ok.above)
 have neC:∀ b o,X.s₀.heap.get? b=some o->b ∉ X.ex->b ∉ ch:=fun b o e hx hb=>by
  rcases (hch b hb).1 with z | z
  ·exact hx z
  ·exact absurd (Nat.lt_of_lt_of_le (Heap.lt_size e) z) (Nat.lt_irrefl _)
 have cellK:∀ x c,X.env.cells.lookup x=some c->∀ v,s.heap.IsCell c v->h'.IsCell c v:=fun x c e v ⟨o,ho,hd⟩=>by
  have nch:c ∉ ch:=fun z=>(hch c z).2.2.1 x c e rfl
  by_cases hc:c∈X.fs
  ·obtain ⟨sl,q⟩:=slot c o (I.cne x c e) hc nch ho (I.freeC x c e)
   exact ⟨_,q,hd⟩
  ·exact ⟨o,keep c o (I.cne x c e) hc nch ho (I.freeC x c e),hd⟩
 refine ⟨I.ok,I.os,hg,⟨fun b o e n hb hx=>?_,fun b o e n hb hx=>?_,fun b o e n hx=>?_,fun b o e hx=>?_,fun b xs e=>tups b xs (I.base.tups b xs e),fun b o xs e=>frzs b o xs (I.base.frzs b o xs e),fun b ps e=>?_⟩,?_,fun x c e=>?_,?_,fun x c e=>?_,fun p hp=>?_,hok,I.len⟩
 ·exact keep b o (neL b o e) hb (neC b o e hx) (I.base.keep b o e n hb hx) (I.base.free b o e n hx)
 ·obtain ⟨sl,e1⟩:=I.base.slot b o e n hb hx
  obtain ⟨sl',e2⟩:=slot b _ (neL b o e) hb (neC b o e hx) e1 (I.base.free b o e n hx)
  exact ⟨sl',e2⟩
 ·obtain ⟨o',e1⟩:=I.base.there b o e hx
  exact free b o' (neC b o e hx) e1 (I.base.free b o e n hx)
 ·obtain ⟨o',e1⟩:=I.base.there b o e hx
  exact there b o' (neC b o e hx) e1
 ·obtain ⟨m1,e1⟩:=I.base.tbls b ps e
  obtain ⟨m2,e2⟩:=tbls b _ e1
  exact ⟨m1++m2,by rw [e2,Array.append_assoc]⟩
 ·obtain ⟨m,hn,hl⟩:=I.loc
  refine ⟨m,ns m hn,fun i x v e1 e2 e3=>?_⟩
  obtain ⟨u,r,l⟩:=hl i x v e1 e2 e3
  refine ⟨u,r,?_⟩
  rcases l with l | ⟨k,c,e,z⟩
  ·exact .inl l
  ·exact .inr ⟨k,c,e,cellK x c e _ z⟩
 ·obtain ⟨v,z⟩:=I.cell x c e
  exact ⟨v,cellK x c e v z⟩
 ·obtain ⟨m,⟨o,_,_,ho,_⟩,_⟩:=I.loc
  exact free _ o (fun z=>(hch _ z).2.1 rfl) ho I.free
 ·obtain ⟨v,o,ho,hd⟩:=I.cell x c e
  exact free c o (fun z=>(hch c z).2.2.1 x c e rfl) ho (I.freeC x c e)
 ·obtain ⟨e,n,ne,nf,d⟩:=I.pin p hp
  have nch:p.1 ∉ ch:=fun z=>(hch p.1 z).2.2.2 p hp rfl
  exact ⟨keep p.1 p.2 ne nf nch e n,free p.1 p.2 nch e n,ne,nf,d⟩
theorem Inv.un {t':Nat} (I:Inv X pins σ H s) (u:Un X.fs [] H H' s.heap h') (hok:HOk X.prog X.w H' h'):Inv X pins σ H' { s with heap:=h',toks:=t' }:=by
 obtain ⟨m,⟨o,es,ep,ho,r⟩,_⟩:=id I.loc
 obtain ⟨sl,hL⟩:=u.any ho I.free (by simp)
 exact I.step (g':=s.gens) (d':=s.drawn) (ch:=[]) (fun _ z=>nomatch z) (fun b o _ hb _ e n=>u.keep b o e n hb (by simp)) (fun b o _ hb _ e n=>u.slot b o e n hb (by simp)) (fun b o _ e n=>u.free b o e n (by simp)) (fun b o _ e=>u.there b o e (by simp)) u.tups u.frzs u.tbls (fun m' hm=>by
  obtain ⟨o',es',ep',ho',r'⟩:=hm
  rw [ho] at ho';cases ho'
  exact ⟨_,es',ep',hL,r'⟩) hok I.bare
theorem Inv.call {g':Array GenState} {t':Nat} {d':Drawn} {ch:List Addr} (I:Inv X pins σ H s) (u:Un (frs X.stack) ch H H' s.heap h') (hok:HOk X.prog X.w H' h') (hg:AllBare g')
  (hch:∀ b∈ch,(b∈X.ex\/X.s₀.heap.objs.size<=b)/\b≠X.env.locals/\(∀ x c,X.env.cells.lookup x=some c->c≠b)/\∀ p∈X.pn++pins,p.1≠b) :
  Inv X pins σ H' { s with heap:=h',gens:=g',drawn:=d',toks:=t' }:=by
 obtain ⟨m,⟨o,es,ep,ho,r⟩,_⟩:=id I.loc
 obtain ⟨sl,hL⟩:=u.any ho I.free fun z=>(hch _ z).2.1 rfl
 exact I.step (ch:=ch) hch (fun b o hL hb hc e n=>u.keep b o e n (fun z=>(List.mem_cons.mp (I.stkSub b z)).elim hL hb) hc) (fun b o _ _ hc e n=>u.any e n hc) (fun b o hc e n=>u.free b o e n hc) (fun b o hc e=>u.there b o e hc) u.tups u.frzs u.tbls (fun m' hm=>by
  obtain ⟨o',es',ep',ho',r'⟩:=hm
  rw [ho] at ho';cases ho'
  exact ⟨_,es',ep',hL,r'⟩) hok hg
theorem Inv.turned {t':Nat} {it:Addr} (I:Inv X pins σ H s) (k:∀ b o,b≠it->s.heap.get? b=some o->h'.get? b=some o) (hn:H it=none) (hL:it≠X.env.locals)
  (h1:it∈X.ex\/X.s₀.heap.objs.size<=it) (h2:∀ x c,X.env.cells.lookup x=some c->c≠it) (h3:∀ p∈X.pn++pins,p.1≠it):Inv X pins σ H { s with heap:=h',toks:=t' }:=by
 have nit:∀ b u,H b=some u->b≠it:=fun b u e z=>by rw [z,hn] at e;cases e
 refine I.step (g':=s.gens) (d':=s.drawn) (ch:=[it]) (fun b hb=>?_) (fun b o _ _ hc e _=>k b o (fun z=>hc (by simp [z])) e) (fun b o _ _ hc e _=>⟨o.slots,k b o (fun z=>hc (by simp [z])) e⟩) (fun _ _ _ _ n=>n)
  (fun b o hc e=>⟨o,k b o (fun z=>hc (by simp [z])) e⟩) (fun _ _ e=>e) (fun _ _ _ e=>e) (fun b ps e=>⟨#[],by rw [e];simp⟩) (fun m hm=>?_) (fun b u e=>?_) I.bare
 ·have e:b=it:=by simpa using hb
  subst e
  exact ⟨h1,hL,h2,h3⟩
 ·obtain ⟨o,es,ep,ho,r⟩:=hm
  exact ⟨o,es,ep,k _ o (Ne.symm hL) ho,r⟩
 ·refine (I.hok b u e).stay (fun c v hc q=>k c v ?_ q) (fun _ q=>q) fun _ _ q=>q
  rcases hc with z | z
  ·rw [z];exact nit b u e
  ·exact nit c _ z
theorem Inv.tok (I:Inv X pins σ H s) (t:Nat):Inv X pins σ H { s with toks:=t }:=I.un (h':=s.heap) (t':=t) Un.refl I.hok
theorem Inv.kept {t':Nat} (I:Inv X pins σ H s) (k:∀ b u,s.heap.get? b=some u->h'.get? b=some u):Inv X pins σ H { s with heap:=h',toks:=t' }:=I.un (Un.kept k) (I.hok.kept k)
theorem Inv.laid {a:Addr} {o:HO} {t':Nat} (I:Inv X pins σ H s) (k:∀ b u,s.heap.get? b=some u->h'.get? b=some u) (hp:s.heap.objs.size<=a) (new:ObjOk X.prog X.w (upd H a o) h' a o) :
  Inv X pins σ (upd H a o) { s with heap:=h',toks:=t' }:=I.un (Un.laid k hp (I.hok.fresh hp)) (I.hok.laid k hp new)
theorem Inv.write {x e:Addr} {o:HO} {t':Nat} (I:Inv X pins σ H s) (mu:Mut (H x)) (he:e=x\/H e=some (.own x)) (k:∀ b u,b≠e->s.heap.get? b=some u->h'.get? b=some u) (heo:∃ u,h'.get? e=some u)
  (new:ObjOk X.prog X.w (upd H x o) h' x o):Inv X pins σ (upd H x o) { s with heap:=h',toks:=t' }:=I.un (Un.write mu he k heo) (I.hok.write mu he k heo new)
theorem Inv.pins_of {pins':List (Addr×Obj)} (I:Inv X pins σ H s) (h:∀ p∈pins',s.heap.get? p.1=some p.2/\H p.1=none/\p.1≠X.env.locals/\p.1 ∉ X.fs/\∀ v,p.2.data≠.cell v):Inv X pins' σ H s :=
 ⟨I.ok,I.os,I.bare,I.base,I.loc,I.cell,I.free,I.freeC,fun p hp=>(List.mem_append.mp hp).elim (fun z=>I.pin p (List.mem_append_left _ z)) (h p),I.hok,I.len⟩
theorem nodup_ix {N:List Str} (hN:N.Nodup) {i j:Nat} {x:Str} (a:N[i]? = some x) (b:N[j]? = some x):i=j:=by
 obtain ⟨h1,e1⟩:=List.getElem?_eq_some_iff.mp a
 obtain ⟨h2,e2⟩:=List.getElem?_eq_some_iff.mp b
 exact (List.getElem_inj hN).mp (e1.trans e2.symm)
theorem store_ok2 {M:Model} {A:Around} {E:Value->Shared->Prop} {i:Nat} {x:Str} {v:V} {u:Value} {Q:Unit->Shared->Prop} (I:Inv X pins σ H s) (hN:X.N.Nodup) (hi:X.N[i]? = some x) (hx:Loc X.env.scope x) (r:RelV v u)
  (h:∀ s',Inv X pins (σ.set i (some v)) H s'->(∃ a,Heap.SameBut a s.heap s'.heap/\(a=X.env.locals\/X.env.cells.lookup x=some a))->Q () s') (hf:X.fn x=true\/X.env.scope.names.lookup x=some .local:=by first | exact .inl rfl | exact .inr rfl | assumption):wpAny M A (storeName X.env x u) Q E s:=by
 obtain ⟨m,hn,hl⟩:=id I.loc
 have hcls:(X.env.scope.kind == .class || (X.env.scope.kind == .module && X.env.locals != X.env.globals))=false:=by rw [I.ok.kind];rfl
 have hiσ:i < σ.length:=by rw [I.len];exact (List.getElem?_eq_some_iff.mp hi).1
 have cne:=I.cne
 have tracked:∀ {a:Addr} {h':Heap},(∃ o,s.heap.get? a=some o/\H a=none)->Heap.SameBut a s.heap h'->HOk X.prog X.w H h':=fun {a h'} ha hs b ob e=>by
  obtain ⟨_,_,hfree⟩:=ha
  refine (I.hok b ob e).stay (fun c w' hc q=>(hs.2 c ?_).trans q) (fun _ q=>q) fun _ _ q=>q
  rintro rfl
  rcases hc with rfl | hc
  ·rw [hfree] at e;cases e
  ·rw [hfree] at hc;cases hc
 rcases hx with hk | hk
 ·refine wpAny_storeName_local hk hn (fun h' hn' hs=>?_) hcls
  obtain ⟨oL,_,_,hoL,_⟩:=id hn
  refine h _ ⟨I.ok,I.os,I.bare,⟨fun b o e n hb hx=>?_,fun b o e n hb hx=>?_,I.base.free,fun b o e hx=>?_,I.base.tups,I.base.frzs,I.base.tbls⟩,⟨_,hn',fun j y v' e1 e2 e3=>?_⟩,fun y c e=>?_,I.free,I.freeC,fun p hp=>?_,tracked ⟨oL,hoL,I.free⟩ hs,by simpa using I.len⟩ ⟨_,hs,.inl rfl⟩
  ·exact (hs.2 b (Nat.ne_of_lt (Nat.lt_of_lt_of_le (Heap.lt_size e) I.ok.above))).trans (I.base.keep b o e n hb hx)
  ·obtain ⟨sl,e1⟩:=I.base.slot b o e n hb hx
   exact ⟨sl,(hs.2 b (Nat.ne_of_lt (Nat.lt_of_lt_of_le (Heap.lt_size e) I.ok.above))).trans e1⟩
  ·obtain ⟨o',e1⟩:=I.base.there b o e hx
   exact ⟨o',(hs.2 b (Nat.ne_of_lt (Nat.lt_of_lt_of_le (Heap.lt_size e) I.ok.above))).trans e1⟩
  ·by_cases hj:j=i
   ·subst hj
    rw [hi] at e1;cases e1
    rw [List.getElem?_set_self hiσ] at e2
    cases e2
    exact ⟨u,r,.inl ⟨hk,by simp⟩⟩
   ·rw [List.getElem?_set_ne (Ne.symm hj)] at e2
    obtain ⟨u',r',q⟩:=hl j y v' e1 e2 e3
    refine ⟨u',r',?_⟩
    rcases q with ⟨k,e⟩ | ⟨k,c,e,z⟩
    ·refine .inl ⟨k,?_⟩
     have:y≠x:=fun e=>hj (nodup_ix hN e1 (e ▸ hi))
     simp [this,e]
    ·exact .inr ⟨k,c,e,z.sameBut hs (cne y c e)⟩
  ·obtain ⟨w',z⟩:=I.cell y c e
   exact ⟨w',z.sameBut hs (cne y c e)⟩
  ·obtain ⟨e,n,ne,nf,d⟩:=I.pin p hp
   exact ⟨(hs.2 p.1 ne).trans e,n,ne,nf,d⟩
 ·have hfn:X.fn x=true:=by
   rcases hf with z | z
   ·exact z
   ·rw [z] at hk;cases hk
  obtain ⟨c,hc⟩:=I.ok.has x (.inl hk)
  obtain ⟨w',z⟩:=I.cell x c hc
  refine wpAny_storeName_cell I.ok.kind hk hc z (fun h' hc' hs=>?_)
  obtain ⟨oc,hoc,hocd⟩:=id z
  refine h { s with heap:=h' } ⟨I.ok,I.os,I.bare,⟨fun b o e n hb hx=>?_,fun b o e n hb hx=>?_,I.base.free,fun b o e hx=>?_,I.base.tups,I.base.frzs,I.base.tbls⟩,⟨m,hn.sameBut hs (Ne.symm (cne x c hc)),fun j y v' e1 e2 e3=>?_⟩,fun y c' e=>?_,I.free,I.freeC,fun p hp=>?_,tracked ⟨oc,hoc,I.freeC x c hc⟩ hs,by simpa using I.len⟩ ⟨c,hs,.inr hc⟩
  ·exact (hs.2 b (Nat.ne_of_lt (Nat.lt_of_lt_of_le (Heap.lt_size e) (I.ok.cab x c hfn hc)))).trans (I.base.keep b o e n hb hx)
  ·obtain ⟨sl,e1⟩:=I.base.slot b o e n hb hx
   exact ⟨sl,(hs.2 b (Nat.ne_of_lt (Nat.lt_of_lt_of_le (Heap.lt_size e) (I.ok.cab x c hfn hc)))).trans e1⟩
  ·obtain ⟨o',e1⟩:=I.base.there b o e hx
   exact ⟨o',(hs.2 b (Nat.ne_of_lt (Nat.lt_of_lt_of_le (Heap.lt_size e) (I.ok.cab x c hfn hc)))).trans e1⟩
  ·by_cases hj:j=i
   ·subst hj
    rw [hi] at e1;cases e1
    rw [List.getElem?_set_self hiσ] at e2
    cases e2
    exact ⟨u,r,.inr ⟨.inl hk,c,hc,hc'⟩⟩
   ·rw [List.getElem?_set_ne (Ne.symm hj)] at e2
    obtain ⟨u',r',q⟩:=hl j y v' e1 e2 e3
    refine ⟨u',r',?_⟩
    rcases q with q | ⟨k,c',e,z'⟩
    ·exact .inl q
    ·refine .inr ⟨k,c',e,z'.sameBut hs ?_⟩
     rintro rfl
     exact hj (nodup_ix hN e1 (I.ok.inj _ _ _ e hc ▸ hi))
  ·by_cases hcc:c'=c
   ·subst hcc;exact ⟨_,hc'⟩
   ·obtain ⟨w2,z2⟩:=I.cell y c' e
    exact ⟨w2,z2.sameBut hs hcc⟩
  ·obtain ⟨e,n,ne,nf,d⟩:=I.pin p hp
   refine ⟨(hs.2 p.1 ?_).trans e,n,ne,nf,d⟩
   intro q
   rw [q,hoc] at e
   have q':oc=p.2:=Option.some.inj e
   exact d w' (by rw [← q'];exact hocd)
theorem store_ok {M:Model} {A:Around} {E:Value->Shared->Prop} {i:Nat} {x:Str} {v:V} {u:Value} {Q:Unit->Shared->Prop} (I:Inv X pins σ H s) (hN:X.N.Nodup) (hi:X.N[i]? = some x) (hx:Loc X.env.scope x) (r:RelV v u)
  (h:∀ s',Inv X pins (σ.set i (some v)) H s'->Q () s') (hf:X.fn x=true\/X.env.scope.names.lookup x=some .local:=by first | exact .inl rfl | exact .inr rfl | assumption):wpAny M A (storeName X.env x u) Q E s :=
 store_ok2 I hN hi hx r (fun s' I' _=>h s' I') hf
theorem Inv.call' {s':Shared} {ch:List Addr} (I:Inv X pins σ H s) (ho:s'.os=s.os) (u:Un (frs X.stack) ch H H' s.heap s'.heap) (hok:HOk X.prog X.w H' s'.heap) (hg:AllBare s'.gens)
  (hch:∀ b∈ch,(b∈X.ex\/X.s₀.heap.objs.size<=b)/\b≠X.env.locals/\(∀ x c,X.env.cells.lookup x=some c->c≠b)/\∀ p∈X.pn++pins,p.1≠b):Inv X pins σ H' s':=by
 obtain ⟨h',g',d',t',o'⟩:=s'
 have e:o'=s.os:=ho
 subst e
 exact I.call (g':=g') (t':=t') (d':=d') u hok hg hch
end
abbrev XK:=Value->Option Addr->Hp->Prop
abbrev St:=List (Option V)
abbrev VK:=V->Hp->Prop
abbrev TE:=St->Hp->VK->Prop
abbrev TT:=St->Hp->(Bool->Hp->Prop)->Prop
abbrev TA:=St->Hp->(List V->Hp->Prop)->Prop
structure Ends where
 nx:St->Hp->Prop
 rt:VK
 bk:St->Hp->Prop:=fun _ _=>False
 ct:St->Hp->Prop:=fun _ _=>False
abbrev TS:=Ends->St->Hp->Prop
def EP (X:Cx) (pins:List (Addr×Obj)) (σ:St) (Q:VK) (u:Value) (s':Shared):Prop:=∃ v H',Inv X pins σ H' s'/\RelV v u/\Q v H'
def TP (X:Cx) (pins:List (Addr×Obj)) (σ:St) (Q:Bool->Hp->Prop) (b:Bool) (s':Shared):Prop:=∃ H',Inv X pins σ H' s'/\Q b H'
def AP (X:Cx) (pins:List (Addr×Obj)) (σ:St) (Q:List V->Hp->Prop) (us:List Value) (s':Shared):Prop:=∃ vs H',Inv X pins σ H' s'/\Vals vs us/\Q vs H'
def SP (X:Cx) (pins:List (Addr×Obj)) (D:Ends) (f:Flow) (s':Shared):Prop :=
 match f with
 | .next=>∃ σ' H',Inv X pins σ' H' s'/\D.nx σ' H'
 | .brk=>∃ σ' H',Inv X pins σ' H' s'/\D.bk σ' H'
 | .cont=>∃ σ' H',Inv X pins σ' H' s'/\D.ct σ' H'
 | .ret u=>∃ v σ' H',Inv X pins σ' H' s'/\RelV v u/\D.rt v H'
def PE (X:Cx) (e:Expr) (t:TE):Prop :=
 ∀ (pins:List (Addr×Obj)) (s:Shared) (σ:St) (H:Hp) (Q:VK),Inv X pins σ H s->t σ H Q->wpAny (model X.prog X.w) X.A (eval e X.env) (EP X pins σ Q) X.xe s
def PT (X:Cx) (e:Expr) (t:TT):Prop :=
 ∀ (pins:List (Addr×Obj)) (s:Shared) (σ:St) (H:Hp) (Q:Bool->Hp->Prop),Inv X pins σ H s->t σ H Q->wpAny (model X.prog X.w) X.A (isTrue e X.env (eval e X.env)) (TP X pins σ Q) X.xe s
def PW (X:Cx) (e:Expr) (t:TT):Prop :=
 ∀ (whole:Sem Value) (pins:List (Addr×Obj)) (s:Shared) (σ:St) (H:Hp) (Q:Bool->Hp->Prop),Inv X pins σ H s->t σ H Q->wpAny (model X.prog X.w) X.A (isTrue e X.env whole) (TP X pins σ Q) X.xe s
theorem PW.pt {X:Cx} {e:Expr} {t:TT} (h:PW X e t):PT X e t:=h _
def PA (X:Cx) (es:List Expr) (t:TA):Prop :=
 ∀ (pos:Pos) (pins:List (Addr×Obj)) (s:Shared) (σ:St) (H:Hp) (Q:List V->Hp->Prop),Inv X pins σ H s->t σ H Q->wpAny (model X.prog X.w) X.A (spliced (backTo pos (starEach es X.env))) (AP X pins σ Q) X.xe s
def PS (X:Cx) (st:Stmt) (t:TS):Prop :=
 ∀ (pins:List (Addr×Obj)) (s:Shared) (σ:St) (H:Hp) (D:Ends),Inv X pins σ H s->t D σ H->wpAny (model X.prog X.w) X.A (exec st X.env) (SP X pins D) X.xe s
def PSs (X:Cx) (st:List Stmt) (t:TS):Prop :=
 ∀ (pins:List (Addr×Obj)) (s:Shared) (σ:St) (H:Hp) (D:Ends),Inv X pins σ H s->t D σ H->wpAny (model X.prog X.w) X.A (execs st X.env) (SP X pins D) X.xe s
theorem thn {α:Type} {t:Sem α} {Q Q':α->Shared->Prop} {M:Model} {A:Around} {E:Value->Shared->Prop} {s:Shared} (h:wpAny M A t Q E s) (hQ:∀ a s,Q a s->Q' a s):wpAny M A t Q' E s:=wpAny_mono h hQ fun _ _ x=>x
end L2
namespace L2
open PySem PySem.Spec PyProof.Rows
section
variable {X:Cx}
def tVar (i:Nat):TE:=fun σ H Q=>∃ v,σ[i]? = some (some v)/\Q v H
def tC (v:V):TE:=fun _ H Q=>Q v H
theorem pe_var {i:Nat} {x:Str} {pos:Pos} (hN:X.N[i]? = some x) (hv:Vis X.env.scope x) (hd:(x == ("__debug__":Str))=false:=by decide) (hcd:(x == ("__classdict__":Str))=false:=by decide):PE X (.Name x pos) (tVar i):=by
 intro pins s σ H Q I h
 obtain ⟨v,e,h⟩:=h
 obtain ⟨m,hn,hl⟩:=I.loc
 obtain ⟨u,r,l⟩:=hl i x v hN e hv
 have fin:EP X pins σ Q u s:=⟨v,H,I,r,h⟩
 rcases l with ⟨hk,hm⟩ | ⟨hk,c,hc,hcell⟩
 ·exact wpAny_Name (wpAny_loadName_local I.ok.kind hk hn hm fin) hd
 ·rcases hk with hk | hk
  ·exact wpAny_Name (wpAny_loadName_cell I.ok.kind hk hc hcell fin) hd
  ·exact wpAny_Name (wpAny_loadName_free I.ok.kind hk hc hcell fin hcd) hd
theorem pe_int {i j pos}:PE X (.Constant (.int i) j pos) (tC (.int i)):=fun _ _ _ H _ I h=>wpAny_Constant_int ⟨.int i,H,I.tok _,⟨_,rfl⟩,h⟩
theorem pe_bl {b j pos}:PE X (.Constant (.bool b) j pos) (tC (.bl b)):=fun _ _ _ H _ I h=>Constant_bool ⟨.bl b,H,I,rfl,h⟩
theorem pe_non {j pos}:PE X (.Constant .none j pos) (tC .non):=fun _ _ _ H _ I h=>Constant_none ⟨.non,H,I,rfl,h⟩
theorem pe_str {x j pos}:PE X (.Constant (.str x) j pos) (tC (.str x)):=fun _ _ _ H _ I h=>Calls.Constant_str ⟨.str x,H,I.tok _,⟨_,rfl⟩,h⟩
def Gl (X:Cx) (x:Str):Prop:=X.env.kindOf x=some .globalImplicit
theorem ld_glob {E:Value->Shared->Prop} {pins:List (Addr×Obj)} {s:Shared} {σ:St} {H:Hp} {x:Str} {u:Value} {pos:Pos} {Q:Value->Shared->Prop} (I:Inv X pins σ H s) (hg:Gl X x) (hm:X.mg x=some u) (h:Q u s)
  (hd:(x == ("__debug__":Str))=false:=by decide):wpAny (model X.prog X.w) X.A (eval (.Name x pos) X.env) Q E s :=
 Calls.Name_function_global I.ok.kind hg (Calls.loadGlobal_global (by rw [I.ok.glob];exact I.mod.glob.keeps I.bk) hm h) hd
theorem ld_blt {E:Value->Shared->Prop} {pins:List (Addr×Obj)} {s:Shared} {σ:St} {H:Hp} {x:Str} {u:Value} {pos:Pos} {Q:Value->Shared->Prop} (I:Inv X pins σ H s) (hg:Gl X x) (hm:X.mg x=none) (hv:bootBuiltins x=some u) (h:Q u s)
  (hn:x≠"__name__":=by decide) (hd:(x == ("__debug__":Str))=false:=by decide):wpAny (model X.prog X.w) X.A (eval (.Name x pos) X.env) Q E s:=by
 obtain ⟨mb,h1,h2⟩:=I.mod.blt
 exact Calls.Name_function_global I.ok.kind hg (Calls.loadGlobal_builtin (by rw [I.ok.glob];exact I.mod.glob.keeps I.bk) hm (by rw [I.ok.blt];exact h1.keeps I.bk) ((h2 x hn).trans hv) h) hd
theorem pe_bltn {x:Str} {v:V} {u:Value} {pos:Pos} (hg:Gl X x) (hm:X.mg x=none) (hv:bootBuiltins x=some u) (r:RelV v u) (hn:x≠"__name__":=by decide) (hd:(x == ("__debug__":Str))=false:=by decide):PE X (.Name x pos) (tC v) :=
 fun _ _ _ H _ I h=>ld_blt I hg hm hv ⟨v,H,I,r,h⟩ hn hd
variable {a b:Expr} {ta tb:TE} {pos:Pos}
def PC (X:Cx) (op:CmpOp) (a b:Expr) (t:TE):Prop :=
 ∀ (pins:List (Addr×Obj)) (s:Shared) (σ:St) (H:Hp) (Q:VK),Inv X pins σ H s->t σ H Q ->
  wpAny (model X.prog X.w) X.A (eval a X.env) (fun v s₁=>wpAny (model X.prog X.w) X.A (eval b X.env) (fun u s₂=>wpAny (model X.prog X.w) X.A (compareOp op v u) (EP X pins σ Q) X.xe s₂) X.xe s₁) X.xe s
theorem nobehind (b:Expr) {op:CmpOp} (h:op≠.In) (h2:op≠.NotIn):behindInMarks op b=false:=by
 have e1:(op == CmpOp.In)=false:=by cases op <;> first | rfl | exact absurd rfl h
 have e2:(op == CmpOp.NotIn)=false:=by cases op <;> first | rfl | exact absurd rfl h2
 cases b <;> simp [behindInMarks,e1,e2]
def tIsN (ta:TE):TE:=fun σ H Q=>ta σ H fun x H1=>Q (.bl (decide (x=.non))) H1
def tNotN (ta:TE):TE:=fun σ H Q=>ta σ H fun x H1=>Q (.bl (!decide (x=.non))) H1
theorem RelV.none_iff {x:V} {v:Value} (r:RelV x v):(v == Value.none)=decide (x=.non):=by
 cases x with
 | non=>cases r;rfl
 | bl _=>cases r;rfl
 | int _=>obtain ⟨t,rfl⟩:=r;rfl
 | str _=>obtain ⟨t,rfl⟩:=r;rfl
 | byt _=>obtain ⟨t,rfl⟩:=r;rfl
 | flt _=>obtain ⟨t,rfl⟩:=r;rfl
 | ref _=>cases r;rfl
 | ty _=>cases r;rfl
theorem pc_isN {j pos'} (ha:PE X a ta):PC X .Is a (.Constant .none j pos') (tIsN ta):=by
 intro pins s σ H Q I h
 refine thn (ha pins s σ H _ I h) fun v s1 ⟨x,H1,I1,r1,q1⟩=>?_
 exact Constant_none (is_none_gen ⟨.bl _,H1,I1,by rw [r1.none_iff];rfl,q1⟩)
theorem pc_notN {j pos'} (ha:PE X a ta):PC X .IsNot a (.Constant .none j pos') (tNotN ta):=by
 intro pins s σ H Q I h
 refine thn (ha pins s σ H _ I h) fun v s1 ⟨x,H1,I1,r1,q1⟩=>?_
 exact Constant_none (isnot_none_gen ⟨.bl _,H1,I1,by rw [r1.none_iff];rfl,q1⟩)
def tB (t:TE):TT:=fun σ H Q=>t σ H fun x H1=>∃ c,x=.bl c/\Q c H1
theorem pe_cmp {op:CmpOp} {t:TE} (h:PC X op a b t) (h1:behindInMarks op b=false:=by first | exact nobehind _ (by decide) (by decide) | rfl):PE X (.Compare a [op] [b] pos) t:=fun pins s σ H Q I hw=>wpAny_Compare1 (h pins s σ H Q I hw) h1
theorem pt_cmp {op:CmpOp} {t:TE} (h:PC X op a b t) (h1:behindInMarks op b=false:=by first | exact nobehind _ (by decide) (by decide) | rfl):PT X (.Compare a [op] [b] pos) (tB t):=by
 intro pins s σ H Q I hw
 refine wpAny_isTrue_Compare1 (thn (h pins s σ H _ I hw) fun v s1 h1=>thn h1 fun u s2 h2=>thn h2 fun c s3 ⟨x,H1,I1,r1,q1⟩=>?_) h1
 obtain ⟨d,rfl,q⟩:=q1
 cases r1
 exact wpAny_truthy_bool ⟨H1,I1,q⟩
variable {tA tB':TT} {rest:List Expr}
def tAnd (t u:TT):TT:=fun σ H Q=>t σ H fun c H1=>if c=true then u σ H1 Q else Q false H1
def tOr (t u:TT):TT:=fun σ H Q=>t σ H fun c H1=>if c=true then Q true H1 else u σ H1 Q
def tNot (t:TT):TT:=fun σ H Q=>t σ H fun c H1=>Q (!c) H1
theorem pw_and1 (ha:PT X a tA):PW X (.BoolOp .And [a] pos) tA:=by
 intro wh pins s σ H Q I h
 refine isTrue_and (thn (ha pins s σ H Q I h) fun c s1 e=>?_)
 cases c with
 | true=>exact isTrue_and_nil e
 | false=>exact e
theorem pw_or1 (ha:PT X a tA):PW X (.BoolOp .Or [a] pos) tA:=by
 intro wh pins s σ H Q I h
 refine isTrue_or (thn (ha pins s σ H Q I h) fun c s1 e=>?_)
 cases c with
 | false=>exact isTrue_or_nil e
 | true=>exact e
theorem pw_and (ha:PT X a tA) (hb:PW X (.BoolOp .And (b::rest) pos) tB'):PW X (.BoolOp .And (a::b::rest) pos) (tAnd tA tB'):=by
 intro wh pins s σ H Q I h
 refine isTrue_and (thn (ha pins s σ H _ I h) fun c s1 ⟨H1,I1,q1⟩=>?_)
 cases c with
 | true=>exact hb wh pins s1 σ H1 Q I1 q1
 | false=>exact ⟨H1,I1,q1⟩
theorem pw_or (ha:PT X a tA) (hb:PW X (.BoolOp .Or (b::rest) pos) tB'):PW X (.BoolOp .Or (a::b::rest) pos) (tOr tA tB'):=by
 intro wh pins s σ H Q I h
 refine isTrue_or (thn (ha pins s σ H _ I h) fun c s1 ⟨H1,I1,q1⟩=>?_)
 cases c with
 | true=>exact ⟨H1,I1,q1⟩
 | false=>exact hb wh pins s1 σ H1 Q I1 q1
theorem pt_not (ha:PT X a tA):PT X (.UnaryOp .Not a pos) (tNot tA):=by
 intro pins s σ H Q I h
 exact isTrue_not (ha pins s σ H (fun c H1=>Q (!c) H1) I h)
def tAndV (ta tb:TE):TE:=fun σ H Q=>ta σ H fun x H1=>∃ c,x=.bl c/\if c=true then tb σ H1 Q else Q (.bl false) H1
def tOrV (ta tb:TE):TE:=fun σ H Q=>ta σ H fun x H1=>∃ c,x=.bl c/\if c=true then Q (.bl true) H1 else tb σ H1 Q
theorem pe_one {op} {t:TE} (h:PE X a t):PE X (.BoolOp op [a] pos) t:=fun pins s σ H Q I hw=>BoolOp_one (h pins s σ H Q I hw)
theorem pe_and (ha:PE X a ta) (hb:PE X (.BoolOp .And (b::rest) pos) tb):PE X (.BoolOp .And (a::b::rest) pos) (tAndV ta tb):=by
 intro pins s σ H Q I h
 refine BoolOp_and (thn (ha pins s σ H _ I h) fun v s1 ⟨x,H1,I1,r1,q1⟩=>?_)
 obtain ⟨c,rfl,q1⟩:=q1
 cases r1
 refine wpAny_truthy_bool ?_
 cases c with
 | true=>exact hb pins s1 σ H1 Q I1 q1
 | false=>exact ⟨.bl false,H1,I1,rfl,q1⟩
theorem pe_or (ha:PE X a ta) (hb:PE X (.BoolOp .Or (b::rest) pos) tb):PE X (.BoolOp .Or (a::b::rest) pos) (tOrV ta tb):=by
 intro pins s σ H Q I h
 refine BoolOp_or (thn (ha pins s σ H _ I h) fun v s1 ⟨x,H1,I1,r1,q1⟩=>?_)
 obtain ⟨c,rfl,q1⟩:=q1
 cases r1
 refine wpAny_truthy_bool ?_
 cases c with
 | false=>exact hb pins s1 σ H1 Q I1 q1
 | true=>exact ⟨.bl true,H1,I1,rfl,q1⟩
end
end L2
namespace L2
open PySem PySem.Spec PyProof.Rows
def SqL (K:PySem.W.Frag) (H:Hp) (a:Addr) (xs:List V):Prop :=
 Rd H a (.lst xs) \/
  ∃ (o:Obj) (its:Array Value) (n:Nat),K.lookup a=some o/\o.cls=.type "list"/\o.dict=none/\o.data=.seq its n/\its.size<=sizeLine/\Vals xs its.toList
def SqT (K:PySem.W.Frag) (H:Hp) (a:Addr) (xs:List V):Prop :=
 Rd H a (.tup xs) \/
  ∃ (o:Obj) (its:Array Value) (n:Nat),K.lookup a=some o/\o.cls=.type "tuple"/\o.data=.seq its n/\its.size<=sizeLine/\Vals xs its.toList
def absV:Value->Option V
 | .none=>some .non
 | .bool b=>some (.bl b)
 | .int i _=>some (.int i)
 | .str x _=>some (.str x)
 | .bytes b _=>some (.byt b)
 | .float b _=>some (.flt b)
 | .ref a=>some (.ref a)
 | .type n=>some (.ty n)
 | _=>none
theorem RelV.abs {x:V} {u:Value} (r:RelV x u):absV u=some x:=by
 cases x with
 | non=>cases r;rfl
 | bl _=>cases r;rfl
 | int _=>obtain ⟨t,rfl⟩:=r;rfl
 | str _=>obtain ⟨t,rfl⟩:=r;rfl
 | byt _=>obtain ⟨t,rfl⟩:=r;rfl
 | flt _=>obtain ⟨t,rfl⟩:=r;rfl
 | ref _=>cases r;rfl
 | ty _=>cases r;rfl
theorem RelV.inj {x y:V} {u:Value} (r:RelV x u) (q:RelV y u):x=y:=Option.some.inj (r.abs.symm.trans q.abs)
theorem Vals.inj:∀ {xs ys:List V} {us:List Value},Vals xs us->Vals ys us->xs=ys
 | _,_,_,.nil,.nil=>rfl
 | _,_,_,.cons r t,.cons r' t'=>by rw [r.inj r',Vals.inj t t']
section
variable {X:Cx} {pins:List (Addr×Obj)} {σ:St} {H:Hp} {s:Shared} {a:Addr} {xs ys:List V}
theorem SqL.of {K:PySem.W.Frag} (h:H a=some (.lst xs)):SqL K H a xs:=.inl (.inl h)
theorem Inv.list (I:Inv X pins σ H s) (h:SqL X.K H a xs):∃ its:List Value,Vals xs its/\PlainL s.heap a its.toArray/\xs.length<=sizeLine:=by
 rcases h with h | ⟨o,its,n,hk,hc,hd,hs,hz,r⟩
 ·obtain ⟨z,its,n,r,e⟩:=h.ok I.hok
  exact ⟨its,r,⟨_,n,e,rfl,rfl,rfl⟩,z⟩
 ·refine ⟨its.toList,r,⟨o,n,I.kIn a o hk,hc,hd,by simpa using hs⟩,?_⟩
  have e:=r.length
  simp only [Array.length_toList] at e
  omega
theorem Inv.tuple (I:Inv X pins σ H s) (h:SqT X.K H a xs):∃ its:List Value,Vals xs its/\IsTup s.heap a its.toArray/\xs.length<=sizeLine:=by
 rcases h with h | ⟨o,its,n,hk,hc,hs,hz,r⟩
 ·obtain ⟨z,its,r,p⟩:=h.ok I.hok
  exact ⟨its,r,p,z⟩
 ·refine ⟨its.toList,r,⟨o,I.kIn a o hk,hc,n,by simpa using hs⟩,?_⟩
  have e:=r.length
  simp only [Array.length_toList] at e
  omega
theorem Inv.list_inj (I:Inv X pins σ H s) (h:SqL X.K H a xs) (h':SqL X.K H a ys):xs=ys:=by
 obtain ⟨its,r,⟨o,n,e,_,_,d⟩,_⟩:=I.list h
 obtain ⟨its',r',⟨o',n',e',_,_,d'⟩,_⟩:=I.list h'
 rw [e] at e';cases e'
 rw [d] at d'
 injection d' with d1 _
 have:its=its':=by simpa using congrArg Array.toList d1
 subst this
 exact r.inj r'
theorem Inv.tuple_inj (I:Inv X pins σ H s) (h:SqT X.K H a xs) (h':SqT X.K H a ys):xs=ys:=by
 obtain ⟨its,r,⟨o,e,_,n,d⟩,_⟩:=I.tuple h
 obtain ⟨its',r',⟨o',e',_,n',d'⟩,_⟩:=I.tuple h'
 rw [e] at e';cases e'
 rw [d] at d'
 injection d' with d1 _
 have:its=its':=by simpa using congrArg Array.toList d1
 subst this
 exact r.inj r'
end
abbrev Cx.wish (X:Cx) (E:Value->Shared->Prop):Cx:={ X with xe:=E }
abbrev Cx.nox (X:Cx):Cx:=X.wish fun _ _=>False
theorem Cx.Ok.wish {X:Cx} (ok:X.Ok) (E:Value->Shared->Prop):(X.wish E).Ok :=
 ⟨ok.mod,ok.kind,ok.glob,ok.blt,ok.above,ok.inj,ok.has,ok.cab,ok.hd,ok.frames,ok.stk,ok.exf,ok.bs,ok.bsz,ok.noex,ok.exfs,ok.funs,ok.frf⟩
theorem Cx.Ok.unwish {X:Cx} {E:Value->Shared->Prop} (ok:(X.wish E).Ok):X.Ok :=
 ⟨ok.mod,ok.kind,ok.glob,ok.blt,ok.above,ok.inj,ok.has,ok.cab,ok.hd,ok.frames,ok.stk,ok.exf,ok.bs,ok.bsz,ok.noex,ok.exfs,ok.funs,ok.frf⟩
section
variable {X:Cx} {pins:List (Addr×Obj)} {σ:St} {H:Hp} {s:Shared} {E:Value->Shared->Prop}
theorem Inv.wish (I:Inv X pins σ H s) (E:Value->Shared->Prop):Inv (X.wish E) pins σ H s:=⟨I.ok.wish E,I.os,I.bare,I.base,I.loc,I.cell,I.free,I.freeC,I.pin,I.hok,I.len⟩
theorem Inv.unwish (I:Inv (X.wish E) pins σ H s):Inv X pins σ H s:=⟨I.ok.unwish,I.os,I.bare,I.base,I.loc,I.cell,I.free,I.freeC,I.pin,I.hok,I.len⟩
theorem SP.unwish {D:Ends} {f:Flow} {s':Shared} (h:SP (X.wish E) pins D f s'):SP X pins D f s':=by
 cases f with
 | next=>obtain ⟨σ',H',I,q⟩:=h;exact ⟨σ',H',I.unwish,q⟩
 | brk=>obtain ⟨σ',H',I,q⟩:=h;exact ⟨σ',H',I.unwish,q⟩
 | cont=>obtain ⟨σ',H',I,q⟩:=h;exact ⟨σ',H',I.unwish,q⟩
 | ret u=>obtain ⟨v,σ',H',I,r,q⟩:=h;exact ⟨v,σ',H',I.unwish,r,q⟩
theorem PSs.nox {st:List Stmt} {t:TS} (h:PSs X.nox st t):PSs X st t:=fun pins s σ H D I hw =>
 wpAny_mono (h pins s σ H D (I.wish _) hw) (fun _ _ q=>q.unwish) fun _ _ z=>False.elim z
end
section
variable {X:Cx} {st:Stmt} {rest:List Stmt} {t u:TS} {e:Expr} {te:TE} {pos:Pos}
def tNext:TS:=fun D σ H=>D.nx σ H
def tSeq (t u:TS):TS:=fun D σ H=>t { D with nx:=u D } σ H
theorem pss_nil:PSs X [] tNext:=fun _ _ σ H _ I h=>wpAny_execs_nil ⟨σ,H,I,h⟩
theorem pss_cons (h1:PS X st t) (h2:PSs X rest u):PSs X (st::rest) (tSeq t u):=by
 intro pins s σ H D I h
 refine wpAny_execs_cons (thn (h1 pins s σ H { D with nx:=u D } I h) fun f s1 q=>?_)
 cases f with
 | next =>
  obtain ⟨σ',H',I',q⟩:=q
  exact h2 pins s1 σ' H' D I' q
 | ret v=>exact q
 | brk=>exact q
 | cont=>exact q
theorem Inv.quiet {pins:List (Addr×Obj)} {σ:St} {H:Hp} {s:Shared} (I:Inv X pins σ H s):interactive X.env=false:=by simp [interactive,I.ok.kind]
def tDrop (te:TE):TS:=fun D σ H=>te σ H fun _ H1=>D.nx σ H1
theorem ps_expr (he:PE X e te) (hs:swapsWith e none pos.line X.env=pure false:=by rfl):PS X (.Expr e pos) (tDrop te):=by
 intro pins s σ H D I h
 exact wpAny_Expr_any (thn (he pins s σ H _ I h) fun v s1 ⟨x,H1,I1,r1,q1⟩=>⟨σ,H1,I1,q1⟩) I.quiet hs
def tRet (te:TE):TS:=fun D σ H=>te σ H D.rt
theorem ps_ret (he:PE X e te):PS X (.Return (some e) pos) (tRet te):=by
 intro pins s σ H D I h
 exact wpAny_Return_some (thn (he pins s σ H _ I h) fun v s1 ⟨x,H1,I1,r1,q1⟩=>⟨x,σ,H1,I1,r1,q1⟩)
def tIfS (c:TT) (t u:TS):TS:=fun D σ H=>c σ H fun b H1=>if b=true then t D σ H1 else u D σ H1
theorem ps_if {c:Expr} {a b:List Stmt} {tc:TT} (hc:PT X c tc) (ha:PSs X a t) (hb:PSs X b u):PS X (.If c a b pos) (tIfS tc t u):=by
 intro pins s σ H D I h
 refine wpAny_If (thn (hc pins s σ H _ I h) fun d s1 ⟨H1,I1,q1⟩=>?_)
 cases d with
 | true=>exact ha pins s1 σ H1 D I1 q1
 | false=>exact hb pins s1 σ H1 D I1 q1
end
abbrev TG:=V->St->Hp->(St->Hp->Prop)->Prop
abbrev TGs:=List V->St->Hp->(St->Hp->Prop)->Prop
def PG (X:Cx) (target:Expr) (t:TG):Prop :=
 ∀ (pins:List (Addr×Obj)) (s:Shared) (σ:St) (H:Hp) (v:V) (u:Value) (Q:St->Hp->Prop),Inv X pins σ H s->RelV v u->t v σ H Q ->
  wpAny (model X.prog X.w) X.A (assign target X.env u) (fun _ s'=>∃ σ' H',Inv X pins σ' H' s'/\Q σ' H') X.xe s
def PGs (X:Cx) (ts:List Expr) (t:TGs):Prop :=
 ∀ (pins:List (Addr×Obj)) (s:Shared) (σ:St) (H:Hp) (vs:List V) (us:List Value) (Q:St->Hp->Prop),Inv X pins σ H s->Vals vs us->t vs σ H Q ->
  wpAny (model X.prog X.w) X.A (assignInOrder ((assignEach ts X.env).map (·.2)) us) (fun _ s'=>∃ σ' H',Inv X pins σ' H' s'/\Q σ' H') X.xe s
abbrev TSet:=V->V->V->Hp->(Hp->Prop)->Prop
section
variable {X:Cx} {pos:Pos}
def gName (i:Nat):TG:=fun v σ H Q=>Q (σ.set i (some v)) H
theorem pg_name {i:Nat} {x:Str} (hN:X.N.Nodup) (hi:X.N[i]? = some x) (hx:Loc X.env.scope x) (hf:X.fn x=true\/X.env.scope.names.lookup x=some .local:=by first | exact .inl rfl | exact .inr rfl | assumption):PG X (.Name x pos) (gName i):=by
 intro pins s σ H v u Q I r h
 exact wpAny_assign_Name (store_ok I hN hi hx r (fun s' I'=>⟨_,H,I',h⟩) hf)
def gNil:TGs:=fun vs σ H Q=>vs=[]/\Q σ H
def gCons (t:TG) (u:TGs):TGs:=fun vs σ H Q=>∃ v r,vs=v::r/\t v σ H fun σ' H'=>u r σ' H' Q
theorem pgs_nil:PGs X [] gNil:=by
 intro pins s σ H vs us Q I r h
 obtain ⟨e,h⟩:=h
 subst e
 cases r
 exact assignInOrder_nil ⟨σ,H,I,h⟩
theorem pgs_cons {e:Expr} {es:List Expr} {t:TG} {u:TGs} (h1:PG X e t) (h2:PGs X es u)
  (hs:(assignEach (e::es) X.env).map (·.2)=assign e X.env::(assignEach es X.env).map (·.2):=by rfl):PGs X (e::es) (gCons t u):=by
 intro pins s σ H vs us Q I r h
 obtain ⟨v,vr,e1,h⟩:=h
 subst e1
 cases r with
 | cons r rr =>
  rw [hs]
  refine assignInOrder_cons (thn (h1 pins s σ H _ _ _ I r h) fun _ s1 ⟨σ1,H1,I1,q1⟩=>?_)
  exact h2 pins s1 σ1 H1 _ _ Q I1 rr q1
def gTup (K:PySem.W.Frag) (n:Nat) (t:TGs):TG:=fun v σ H Q=>∃ a xs,v=.ref a/\SqT K H a xs/\xs.length=n/\t xs σ H Q
theorem pg_tup {es:List Expr} {k:Nat} {t:TGs} {n:Nat} (hc:X.calm=true) (h:PGs X es t)
  (hn:(assignEach es X.env).length=n:=by rfl) (hst:(assignEach es X.env).findIdx? (·.1)=none:=by rfl):PG X (.Tuple es k pos) (gTup X.K n t):=by
 intro pins s σ H v u Q I r hw
 obtain ⟨a,xs,e1,hq,hl,hw⟩:=hw
 subst e1
 cases r
 obtain ⟨its,rv,ht,hz⟩:=I.tuple hq
 refine assign_Tuple_tuple (I.ok.hd hc) ht (by simp [hn,← hl,rv.length]) hst fun h' hx=>?_
 have I1:Inv X pins σ H { s with heap:=h' }:=I.kept (t':=s.toks) fun b o e=>hx b o (Nat.ne_of_lt (Heap.lt_size e)) e
 exact h pins _ σ H xs _ Q I1 (by simpa using rv) hw
def gSub (to ti:TE) (t:TSet):TG:=fun v σ H Q=>to σ H fun o H1=>ti σ H1 fun i H2=>t o i v H2 fun H3=>Q σ H3
def tAsg (te:TE) (g:TG):TS:=fun D σ H=>te σ H fun x H1=>g x σ H1 D.nx
theorem ps_asg {tg e:Expr} {te:TE} {g:TG} (he:PE X e te) (hg:PG X tg g) (hs:swapsWithSole [tg] e pos.line X.env=pure false:=by rfl) (hw:swappedStores [tg] e X.env=pure none:=by rfl)
  (h1:(assignEach [tg] X.env).map (·.2)=[assign tg X.env]:=by rfl):PS X (.Assign [tg] e pos) (tAsg te g):=by
 intro pins s σ H D I h
 refine wpAny_Assign_stores (thn (he pins s σ H _ I h) fun v s1 ⟨x,H1,I1,r1,q1⟩=>?_) hs hw
 rw [h1]
 exact thn (hg pins s1 σ H1 x v _ I1 r1 q1) fun _ s2 q=>q
theorem ps_set {i:Nat} {x:Str} {e:Expr} {te:TE} {pos':Pos} (hN:X.N.Nodup) (hi:X.N[i]? = some x) (hx:Loc X.env.scope x) (he:PE X e te) (hs:swapsWith e (some (.Name x pos')) pos.line X.env=pure false:=by rfl) (hf:X.fn x=true\/X.env.scope.names.lookup x=some .local:=by first | exact .inl rfl | exact .inr rfl | assumption) :
  PS X (.Assign [.Name x pos'] e pos) (tAsg te (gName i)):=by
 intro pins s σ H D I h
 refine wpAny_Assign_Name (thn (he pins s σ H _ I h) fun v s1 ⟨y,H1,I1,r1,q1⟩=>?_) hs
 exact store_ok I1 hN hi hx r1 (fun s2 I2=>⟨_,H1,I2,q1⟩) hf
end
section
variable {X:Cx} {pos:Pos}
def tWhile (c:TT) (tb:TS):TS:=fun D σ H=>∃ W:Nat->St->Hp->Prop,(∃ m,W m σ H)/\∀ m σ H,W m σ H ->
 c σ H fun b H1=>if b=true then ∃ N:St->Hp->Prop,(∀ σ' H',N σ' H'->∃ m',m' < m/\W m' σ' H')/\tb { D with nx:=N,ct:=N,bk:=D.nx } σ H1 else D.nx σ H1
theorem ps_while {c:Expr} {body:List Stmt} {tc:TT} {tb:TS} (hp:PassesOwn (model X.prog X.w) X.A X.env X.xe) (hc:PT X c tc) (hb:PSs X body tb):PS X (.While c body [] pos) (tWhile tc tb):=by
 intro pins s σ H D I h
 obtain ⟨W,⟨m0,w0⟩,turn⟩:=h
 refine wpAny_While (codeAny_whileLoop (fun n s'=>∃ σ' H',Inv X pins σ' H' s'/\W n σ' H') ?_ m0 ⟨σ,H,I,w0⟩)
 rintro n s1 ⟨σ1,H1,I1,w1⟩
 refine wpAny_passesOwn hp (thn (hc pins s1 σ1 H1 _ I1 (turn n σ1 H1 w1)) fun b s2 ⟨H2,I2,q2⟩=>?_)
 cases b with
 | true =>
  obtain ⟨N,hN,q2⟩:=q2
  rw [if_pos rfl]
  refine wpAny_passesOwn hp (thn (hb pins s2 σ1 H2 _ I2 q2) fun f s3 q3=>?_)
  cases f with
  | next =>
   obtain ⟨σ3,H3,I3,n3⟩:=q3
   obtain ⟨m',hm,w3⟩:=hN σ3 H3 n3
   exact ⟨m',hm,σ3,H3,I3,w3⟩
  | cont =>
   obtain ⟨σ3,H3,I3,n3⟩:=q3
   obtain ⟨m',hm,w3⟩:=hN σ3 H3 n3
   exact ⟨m',hm,σ3,H3,I3,w3⟩
  | brk=>exact q3
  | ret v=>exact q3
 | false =>
  rw [if_neg Bool.false_ne_true]
  exact wpAny_execs_nil ⟨σ1,H2,I2,q2⟩
end
structure It where
 go:Nat->Hp->Prop
 yld:Nat->Hp->V->Hp->Prop
 stop:Nat->Hp->Prop
def FpOk (X:Cx) (pins:List (Addr×Obj)) (H:Hp) (b:Addr):Prop :=
 H b=none/\b≠X.env.locals/\b ∉ X.fs/\(b∈X.ex\/X.s₀.heap.objs.size<=b)/\(∀ x c,X.env.cells.lookup x=some c->c≠b)/\∀ p∈X.pn++pins,p.1≠b
theorem Inv.fpOk {X:Cx} {pins:List (Addr×Obj)} {σ:St} {H H':Hp} {s:Shared} {b:Addr} (I:Inv X pins σ H s) (hb:s.heap.objs.size<=b) (hn:H' b=none):FpOk X pins H' b:=by
 refine ⟨hn,Nat.ne_of_gt (Nat.lt_of_lt_of_le I.lt hb),I.nofs hb,.inr (Nat.le_trans I.sz hb),fun x c e z=>?_,fun p hp z=>?_⟩
 ·obtain ⟨v,q⟩:=I.cell x c e
  exact absurd (Nat.lt_of_lt_of_le q.lt (by rw [z];exact hb)) (Nat.lt_irrefl _)
 ·exact absurd (Nat.lt_of_lt_of_le (Heap.lt_size (I.pin p hp).1) (by rw [z];exact hb)) (Nat.lt_irrefl _)
structure Turn (P:Program) (w:World) (K:PySem.W.Frag) (tg:Expr) (J:It) (fp:List Addr) (it:Addr) (tn:Nat->Heap->Prop):Prop where
 mem:it∈fp
 obj:∀ i h,tn i h->∀ b∈fp,∃ o,h.get? b=some o/\∀ v,o.data≠.cell v
 keep:∀ i h h',tn i h->(∀ b∈fp,∀ o,h.get? b=some o->h'.get? b=some o)->tn i h'
 item:∀ (X:Cx),X.prog=P->X.w=w->X.K=K->X.calm=true->∀ (i:Nat) (pins:List (Addr×Obj)) (s:Shared) (σ:St) (H:Hp) (E:Value->Shared->Prop),Inv X pins σ H s->(∀ b∈fp,FpOk X pins H b)->tn i s.heap->J.go i H ->
  wpAny (model P w) X.A (pyNext (.ref it)) (fun r s1=>∃ u,r=some u /\
   wpAny (model P w) X.A (letOwnedTupleGo tg (.ref it) u) (fun _ s2=>∃ x H',Inv X pins σ H' s2/\RelV x u/\J.yld i H x H'/\tn (i + 1) s2.heap/\∀ b∈fp,H' b=none) E s1) E s
 done:∀ (X:Cx),X.prog=P->X.w=w->X.K=K->X.calm=true->∀ (i:Nat) (pins:List (Addr×Obj)) (s:Shared) (σ:St) (H:Hp) (E:Value->Shared->Prop),Inv X pins σ H s->(∀ b∈fp,FpOk X pins H b)->tn i s.heap->J.stop i H ->
  wpAny (model P w) X.A (pyNext (.ref it)) (fun r s1=>r=none/\Inv X pins σ H s1) E s
 self:∀ (A:Around) (i:Nat) (s:Shared) (Q:Value->Shared->Prop) (E:Value->Shared->Prop),tn i s.heap->Q (.ref it) s->wpAny (model P w) A (pyIter (.ref it)) Q E s
abbrev TI:=St->Hp->(It->Hp->Prop)->Prop
def PIE (X:Cx) (pins:List (Addr×Obj)) (σ:St) (tg:Expr) (R:It->Hp->Prop) (itv:Value) (s2:Shared):Prop :=
 ∃ (it:Addr) (fp:List Addr) (tn:Nat->Heap->Prop) (J:It) (H':Hp),itv=.ref it/\Inv X pins σ H' s2/\Turn X.prog X.w X.K tg J fp it tn/\tn 0 s2.heap/\(∀ b∈fp,FpOk X pins H' b)/\R J H'
def PI (X:Cx) (tg iter:Expr) (wi:TI):Prop :=
 ∀ (pins:List (Addr×Obj)) (s:Shared) (σ:St) (H:Hp) (R:It->Hp->Prop),Inv X pins σ H s->wi σ H R ->
  wpAny (model X.prog X.w) X.A (eval iter X.env) (fun v s1=>wpAny (model X.prog X.w) X.A (pyIter v) (PIE X pins σ tg R) X.xe s1) X.xe s
theorem go_of {M : Model} {A : Around} {E : Value → Shared → Prop} {s : Shared} {tg : Expr} {it : Addr} {u : Value} {o : Obj} {n : String} {vs : Array Value} {Q : Unit → Shared → Prop} (ho : s.heap.get? it = some o) (hc : o.cls = .type n) (hd : o.data = .fields vs)
    (hn : ["enumerate", "zip", "dict_itemiterator", "dict_reverseitemiterator", "odict_iterator", "itertools.zip_longest", "itertools.pairwise"].contains n = false) (hQ : Q () s) : wpAny M A (letOwnedTupleGo tg (.ref it) u) Q E s := by
  unfold letOwnedTupleGo
  cases tg <;> first
    | exact wpAny_pure hQ
    | (cases u <;> first
        | exact wpAny_pure hQ
        | (refine wpAny_bind (wpAny_load ho ?_)
           rw [hc, hd]
           show wpAny M A (if (["enumerate", "zip", "dict_itemiterator", "dict_reverseitemiterator", "odict_iterator", "itertools.zip_longest", "itertools.pairwise"].contains n && vs[0]? == some (rawInt _)) = true then _ else _) Q E s
           rw [if_neg (by intro h; rw [hn, Bool.false_and] at h; cases h)]
           exact wpAny_pure hQ))
def Itl (K:PySem.W.Frag) (a:Addr):It :=
 ⟨fun i H=>∃ xs x,SqL K H a xs/\xs[i]? = some x,fun i H x H'=>H'=H/\∀ xs,SqL K H a xs->xs[i]? = some x,fun i H=>∃ xs,SqL K H a xs/\xs.length<=i⟩
def Itr (lo:Int) (n:Nat):It:=⟨fun i _=>i < n,fun i H x H'=>H'=H/\x=.int (lo + i),fun i _=>n<=i⟩
theorem turn_list {P:Program} {w:World} {K:PySem.W.Frag} {tg:Expr} (a it:Addr):Turn P w K tg (Itl K a) [it] it (fun i h=>h.IsListIter it a i) where
 mem:=by simp
 obj:=fun i h st b hb=>by
  have e:b=it:=by simpa using hb
  subst e
  obtain ⟨o,e,c,d⟩:=st
  exact ⟨o,e,fun v z=>by rw [d] at z;cases z⟩
 keep:=fun i h h' st k=>st.at fun o e=>k it (by simp) o e
 item:=by
  intro X hP hw hK hc i pins s σ H E I hf st hg
  subst hP hw hK
  obtain ⟨xs,x,hq,hx⟩:=hg
  obtain ⟨its,rv,p,hz⟩:=I.list hq
  obtain ⟨u,hu,ru⟩:=rv.get hx
  obtain ⟨f0,f1,f2,f3,f4,f5⟩:=hf it (by simp)
  refine wpAny_pyNext_list_item st p.isList (x:=u) (by simpa using hu) fun h' st' sb=>?_
  have I1:Inv X pins σ H { s with heap:=h' }:=I.turned (t':=s.toks) (fun b o hb e=>(sb.2 b hb).trans e) f0 f1 f3 f4 f5
  obtain ⟨o,e,c,d⟩:=id st'
  exact ⟨u,rfl,go_of (s:={ s with heap:=h' }) e c d (by decide) ⟨x,H,I1,ru,⟨rfl,fun ys hy=>by rw [I.list_inj hy hq];exact hx⟩,st',fun b hb=>(hf b hb).1⟩⟩
 done:=by
  intro X hP hw hK hc i pins s σ H E I hf st hg
  subst hP hw hK
  obtain ⟨xs,hq,hx⟩:=hg
  obtain ⟨its,rv,p,hz⟩:=I.list hq
  obtain ⟨f0,f1,f2,f3,f4,f5⟩:=hf it (by simp)
  have hl:=rv.length
  exact wpAny_pyNext_list_end (I.ok.hd hc) st p.isList (by simp;omega) fun h' eb=>⟨rfl,I.turned (t':=s.toks) (fun b o hb e=>eb b o hb e) f0 f1 f3 f4 f5⟩
 self:=fun _ _ _ _ _ st h=>wpAny_pyIter_listiter st h
theorem turn_range {P:Program} {w:World} {K:PySem.W.Frag} {tg:Expr} (it:Addr) (lo:Int) (n:Nat):Turn P w K tg (Itr lo n) [it] it (fun i h=>IsRangeIter h it (lo + (i:Nat) * 1) ((n:Int) - (i:Nat)) 1) where
 mem:=by simp
 obj:=fun i h st b hb=>by
  have e:b=it:=by simpa using hb
  subst e
  exact ⟨_,st,fun v z=>by
   have z':Data.fields _=Data.cell v:=z
   cases z'⟩
 keep:=fun i h h' st k=>k it (by simp) _ st
 item:=by
  intro X hP hw hK hc i pins s σ H E I hf st hg
  subst hP hw hK
  obtain ⟨f0,f1,f2,f3,f4,f5⟩:=hf it (by simp)
  have W:=Walks.range (prog:=X.prog) (w:=X.w) (I.ok.hd hc) it lo 1 n
  refine W.item i s _ _ hg st fun v h' tk hv st' kk=>?_
  obtain ⟨t,rfl⟩:=hv
  have I1:Inv X pins σ H { s with heap:=h',toks:=tk }:=I.turned (fun b o hb e=>kk b o (by simpa using hb) e) f0 f1 f3 f4 f5
  refine ⟨_,rfl,go_of (s:={ s with heap:=h',toks:=tk }) (n:="range_iterator") st' rfl rfl (by decide) ⟨.int (lo + i),H,I1,⟨t,?_⟩,⟨rfl,rfl⟩,st',fun b hb=>(hf b hb).1⟩⟩
  rw [Int.mul_one]
 done:=by
  intro X hP hw hK hc i pins s σ H E I hf st hg
  subst hP hw hK
  obtain ⟨f0,f1,f2,f3,f4,f5⟩:=hf it (by simp)
  exact wpAny_pyNext_range_end (I.ok.hd hc) st (by have:n<=i:=hg;omega) fun h' eb=>⟨rfl,I.turned (t':=s.toks) (fun b o hb e=>eb b o hb e) f0 f1 f3 f4 f5⟩
 self:=fun _ _ _ _ _ st h=>wpAny_pyIter_rangeiter st h
end L2
namespace L2
open PySem PySem.Spec PyProof.Rows
section
variable {X:Cx} {tg:Expr}
def iList (K:PySem.W.Frag) (tl:TE):TI:=fun σ H R=>tl σ H fun x H1=>∃ a,x=.ref a/\(∃ xs,SqL K H1 a xs)/\R (Itl K a) H1
theorem pi_list {l:Expr} {tl:TE} (hl:PE X l tl):PI X tg l (iList X.K tl):=by
 intro pins s σ H R I h
 refine thn (hl pins s σ H _ I h) fun v s1 ⟨x,H1,I1,r1,q1⟩=>?_
 obtain ⟨a,e,⟨xs,hq⟩,q⟩:=q1
 subst e
 cases r1
 obtain ⟨its,rv,p,hz⟩:=I1.list hq
 refine wpAny_pyIter_list p.isList ?_
 refine ⟨s1.heap.objs.size,[s1.heap.objs.size],_,_,H1,rfl,I1.kept (t':=s1.toks) fun b o e=>Heap.get?_push_of_some _ e,turn_list a _,⟨_,Heap.get?_push_size _ rfl,rfl,rfl⟩,fun b hb=>?_,q⟩
 have e:b=s1.heap.objs.size:=by simpa using hb
 subst e
 exact I1.fpOk (Nat.le_refl _) (I1.hok.fresh (Nat.le_refl _))
theorem range_it {pins:List (Addr×Obj)} {σ:St} {H:Hp} {s:Shared} {R:It->Hp->Prop} {E:Value->Shared->Prop} {lo hi:Int} {t u v:Tok} {tk:Nat} (I:Inv X pins σ H s) (h1:-(2 ^ 62)<=lo) (h2:lo < 2 ^ 62) (h3:-(2 ^ 62)<=hi) (h4:hi < 2 ^ 62)
  (q:R (Itr lo (hi - lo).toNat) H):wpAny (model X.prog X.w) X.A (pyIter (.ref s.heap.objs.size)) (PIE X pins σ tg R) E { s with heap:=s.heap.push { cls:=.type "range",data:=.fields #[.int lo t,.int hi u,.int 1 v] },toks:=tk }:=by
 refine wpAny_pyIter_range (IsRange.new ..) (small_one h1 h2 h3 h4) ?_
 have I1:Inv X pins σ H { s with heap:=s.heap.push { cls:=.type "range",data:=.fields #[.int lo t,.int hi u,.int 1 v] },toks:=tk }:=I.kept fun b o e=>Heap.get?_push_of_some _ e
 refine ⟨(s.heap.push { cls:=.type "range",data:=.fields #[.int lo t,.int hi u,.int 1 v] }).objs.size,[(s.heap.push { cls:=.type "range",data:=.fields #[.int lo t,.int hi u,.int 1 v] }).objs.size],_,_,H,rfl,
  I1.kept (t':=tk) fun b o e=>Heap.get?_push_of_some _ e,turn_range _ lo (hi - lo).toNat,?_,fun b hb=>?_,q⟩
 ·have e1:lo + ((0:Nat):Int) * 1=lo:=by simp
  have e2:(((hi - lo).toNat:Nat):Int) - ((0:Nat):Int)=Builtin.Range.rangeSize lo hi 1:=by rw [rangeSize_one];split <;> omega
  show IsRangeIter _ _ (lo + ((0:Nat):Int) * 1) ((((hi - lo).toNat:Nat):Int) - ((0:Nat):Int)) 1
  rw [e1,e2]
  exact Heap.get?_push_size _ rfl
 ·have e:b=(s.heap.push { cls:=.type "range",data:=.fields #[.int lo t,.int hi u,.int 1 v] }).objs.size:=by simpa using hb
  subst e
  exact I1.fpOk (Nat.le_refl _) (I1.hok.fresh (Nat.le_refl _))
def iRng1 (ta:TA):TI:=fun σ H R=>ta σ H fun vs H1=>∃ j:Int,vs=[.int j]/\-(2 ^ 62)<=j/\j < 2 ^ 62/\R (Itr 0 j.toNat) H1
theorem pi_range1 {a:Expr} {ta:TA} {p pos:Pos} (hg:Gl X "range") (hm:X.mg "range" = none) (ha:PA X [a] ta) (hs:starEach [a] X.env=[(false,eval a X.env)]:=by rfl):PI X tg (.Call (.Name "range" p) [a] [] pos) (iRng1 ta):=by
 intro pins s σ H R I h
 refine Call_ (ld_blt I hg hm boot_range (PyProof.Rows.callWith_type1 (thn (ha pos pins s σ H _ I h) fun us s1 ⟨vs,H1,I1,r1,q1⟩=>?_) hs rfl))
 obtain ⟨j,e,q1,q2,q⟩:=q1
 subst e
 cases r1 with
 | cons r rr =>
  cases rr
  obtain ⟨t,rfl⟩:=r
  exact call_range_1 (range_it I1 (by omega) (by omega) q1 q2 (by simpa using q))
def tFor (wi:TI) (g:TG) (tb:TS):TS:=fun D σ H=>wi σ H fun J H1=>∃ W:Nat->Nat->St->Hp->Prop,(∃ m,W 0 m σ H1)/\∀ i m σ H,W i m σ H ->
 (J.stop i H/\D.nx σ H)\/(J.go i H/\∃ N:St->Hp->Prop,(∀ σ' H',N σ' H'->∃ m',m' < m/\W (i + 1) m' σ' H')/\∀ x H',J.yld i H x H'->g x σ H' fun σ2 H2=>tb { D with nx:=N,ct:=N,bk:=D.nx } σ2 H2)
def pinsAt (fp:List Addr) (h:Heap):List (Addr×Obj):=fp.filterMap fun b=>(h.get? b).map fun o=>(b,o)
theorem mem_pinsAt {fp:List Addr} {h:Heap} {b:Addr} {o:Obj} (hb:b∈fp) (e:h.get? b=some o):(b,o)∈pinsAt fp h:=List.mem_filterMap.mpr ⟨b,hb,by rw [e];rfl⟩
theorem of_pinsAt {fp:List Addr} {h:Heap} {p:Addr×Obj} (hp:p∈pinsAt fp h):p.1∈fp/\h.get? p.1=some p.2:=by
 obtain ⟨b,hb,e⟩:=List.mem_filterMap.mp hp
 cases q:h.get? b with
 | none=>rw [q] at e;cases e
 | some o =>
  rw [q] at e
  have e':(b,o)=p:=Option.some.inj e
  subst e'
  exact ⟨hb,q⟩
theorem Inv.pinned {pins:List (Addr×Obj)} {σ:St} {H:Hp} {s:Shared} {fp:List Addr} (I:Inv X pins σ H s) (hf:∀ b∈fp,FpOk X pins H b) (ho:∀ b∈fp,∃ o,s.heap.get? b=some o/\∀ v,o.data≠.cell v):Inv X (pins++pinsAt fp s.heap) σ H s :=
 I.pins_of fun p hp=>(List.mem_append.mp hp).elim (fun z=>I.pin p (List.mem_append_right _ z)) fun z=>by
  obtain ⟨hb,e⟩:=of_pinsAt z
  obtain ⟨f0,f1,f2,_⟩:=hf p.1 hb
  obtain ⟨o,e',d⟩:=ho p.1 hb
  rw [e] at e';cases e'
  exact ⟨e,f0,f1,f2,d⟩
theorem Inv.unpinned {pins pl:List (Addr×Obj)} {σ:St} {H:Hp} {s:Shared} (I:Inv X (pins++pl) σ H s):Inv X pins σ H s:=I.pins_of fun p hp=>I.pin p (List.mem_append_right _ (List.mem_append_left _ hp))
theorem ps_for {iter:Expr} {body:List Stmt} {wi:TI} {g:TG} {tb:TS} {pos:Pos} (hp:PassesOwn (model X.prog X.w) X.A X.env X.xe) (hc:X.calm=true) (hi:PI X tg iter wi) (hg:PG X tg g) (hb:PSs X body tb)
  (hs:∀ x,foldedSetIterable iter X.env x=pure x:=by intro _;rfl):PS X (.For tg iter body [] pos) (tFor wi g tb):=by
 intro pins s σ H D I h
 refine wpAny_For (thn (hi pins s σ H _ I h) fun v s1 h1=>thn h1 fun itv s2 h2=>?_) hs
 obtain ⟨it,fp,tn,J,H2,e,I2,T,st2,f2,W,⟨m0,w0⟩,turn⟩:=h2
 subst e
 have stat:∀ {H':Hp},(∀ b∈fp,H' b=none)->∀ b∈fp,FpOk X pins H' b:=fun hn b hb=>⟨hn b hb,(f2 b hb).2⟩
 refine codeAny_forLoop_any (fun n s'=>∃ i σ' H',Inv X pins σ' H' s'/\tn i s'.heap/\(∀ b∈fp,H' b=none)/\W i n σ' H') ?_ m0 ⟨0,σ,H2,I2,st2,fun b hb=>(f2 b hb).1,w0⟩
 rintro n s3 ⟨i,σ3,H3,I3,st3,fr3,w3⟩
 rcases turn i n σ3 H3 w3 with ⟨stop,qn⟩ | ⟨go,N,hN,step⟩
 ·refine wpAny_passesOwn hp (thn (T.done X rfl rfl rfl hc i pins s3 σ3 H3 X.xe I3 (stat fr3) st3 stop) fun r s4 ⟨hr,I4⟩=>?_)
  subst hr
  exact wpAny_execs_nil ⟨σ3,H3,I4,qn⟩
 ·refine wpAny_passesOwn hp (thn (T.item X rfl rfl rfl hc i pins s3 σ3 H3 X.xe I3 (stat fr3) st3 go) fun r s4 ⟨u,hr,h4⟩=>?_)
  subst hr
  refine wpAny_passesOwn hp (thn h4 fun _ s5 ⟨x,H5,I5,r5,y5,st5,fr5⟩=>?_)
  have I5':=I5.pinned (stat fr5) (T.obj _ _ st5)
  refine wpAny_passesOwn hp (thn (hg _ s5 σ3 H5 x u _ I5' r5 (step x H5 y5)) fun _ s6 ⟨σ6,H6,I6,q6⟩=>?_)
  refine wpAny_passesOwn hp (thn (hb _ s6 σ6 H6 _ I6 q6) fun f s7 q7=>?_)
  have again:∀ {σ7:St} {H7:Hp},Inv X (pins++pinsAt fp s5.heap) σ7 H7 s7->N σ7 H7->∃ m,m < n/\∃ i σ' H',Inv X pins σ' H' s7/\tn i s7.heap/\(∀ b∈fp,H' b=none)/\W i m σ' H':=fun {σ7 H7} I7 n7=>by
   obtain ⟨m',hm,w7⟩:=hN σ7 H7 n7
   refine ⟨m',hm,i + 1,σ7,H7,I7.unpinned,T.keep _ _ _ st5 fun b hb o e=>(I7.pin (b,o) (List.mem_append_right _ (List.mem_append_right _ (mem_pinsAt hb e)))).1,fun b hb=>?_,w7⟩
   obtain ⟨o,e,d⟩:=T.obj _ _ st5 b hb
   exact (I7.pin (b,o) (List.mem_append_right _ (List.mem_append_right _ (mem_pinsAt hb e)))).2.1
  cases f with
  | next=>obtain ⟨σ7,H7,I7,n7⟩:=q7;exact again I7 n7
  | cont=>obtain ⟨σ7,H7,I7,n7⟩:=q7;exact again I7 n7
  | brk=>obtain ⟨σ7,H7,I7,q7⟩:=q7;exact ⟨σ7,H7,I7.unpinned,q7⟩
  | ret v=>obtain ⟨x7,σ7,H7,I7,r7,q7⟩:=q7;exact ⟨x7,σ7,H7,I7.unpinned,r7,q7⟩
end
end L2
namespace L2
open PySem PySem.Spec PyProof.Rows
abbrev R2:=V->V->Hp->VK->Prop
def OpR (X:Cx) (f:Value->Value->Sem Value) (r:R2):Prop :=
 ∀ (pins:List (Addr×Obj)) (s:Shared) (σ:St) (H:Hp) (x y:V) (v u:Value) (Q:VK),Inv X pins σ H s->RelV x v->RelV y u->r x y H Q ->
  wpAny (model X.prog X.w) X.A (f v u) (EP X pins σ Q) X.xe s
def UnR (X:Cx) (f:Value->Sem Value) (r:V->Hp->VK->Prop):Prop :=
 ∀ (pins:List (Addr×Obj)) (s:Shared) (σ:St) (H:Hp) (x:V) (v:Value) (Q:VK),Inv X pins σ H s->RelV x v->r x H Q ->
  wpAny (model X.prog X.w) X.A (f v) (EP X pins σ Q) X.xe s
def CallR (X:Cx) (f:Value) (r:List V->Hp->VK->Prop):Prop :=
 ∀ (pins:List (Addr×Obj)) (s:Shared) (σ:St) (H:Hp) (xs:List V) (us:List Value) (Q:VK),Inv X pins σ H s->Vals xs us->r xs H Q ->
  wpAny (model X.prog X.w) X.A (call f us) (EP X pins σ Q) X.xe s
def TruR (X:Cx) (r:V->Hp->(Bool->Hp->Prop)->Prop):Prop :=
 ∀ (pins:List (Addr×Obj)) (s:Shared) (σ:St) (H:Hp) (x:V) (v:Value) (Q:Bool->Hp->Prop),Inv X pins σ H s->RelV x v->r x H Q ->
  wpAny (model X.prog X.w) X.A (truthy v) (TP X pins σ Q) X.xe s
def tOp (r:R2) (ta tb:TE):TE:=fun σ H Q=>ta σ H fun x H1=>tb σ H1 fun y H2=>r x y H2 Q
def tUn (r:V->Hp->VK->Prop) (ta:TE):TE:=fun σ H Q=>ta σ H fun x H1=>r x H1 Q
def rI (C:Int->Int->Prop) (g:Int->Int->V):R2:=fun x y H Q=>∃ i j,x=.int i/\y=.int j/\C i j/\Q (g i j) H
def rI0 (g:Int->Int->V):R2:=fun x y H Q=>∃ i j,x=.int i/\y=.int j/\Q (g i j) H
def rU (g:Int->V):V->Hp->VK->Prop:=fun x H Q=>∃ i,x=.int i/\Q (g i) H
section
variable {X:Cx} {a b c:Expr} {ta tb tc:TE} {pos:Pos}
theorem binT (ha:PE X a ta) (hb:PE X b tb) {pins:List (Addr×Obj)} {s:Shared} {σ:St} {H:Hp} {R:V->V->Hp->Prop} (I:Inv X pins σ H s)
  (h:ta σ H fun x H1=>tb σ H1 fun y H2=>R x y H2) {Q:Value->Shared->Prop} {f:Value->Value->Sem Value}
  (hf:∀ v u s2 x y H2,Inv X pins σ H2 s2->RelV x v->RelV y u->R x y H2->wpAny (model X.prog X.w) X.A (f v u) Q X.xe s2) :
  wpAny (model X.prog X.w) X.A (eval a X.env) (fun v s₁=>wpAny (model X.prog X.w) X.A (eval b X.env) (fun u s₂=>wpAny (model X.prog X.w) X.A (f v u) Q X.xe s₂) X.xe s₁) X.xe s:=by
 refine thn (ha pins s σ H _ I h) fun v s1 ⟨x,H1,I1,r1,q1⟩=>?_
 refine thn (hb pins s1 σ H1 _ I1 q1) fun u s2 ⟨y,H2,I2,r2,q2⟩=>?_
 exact hf v u s2 x y H2 I2 r1 r2 q2
theorem pe_op {op:Operator} {r:R2} (ho:OpR X (binaryOp op) r) (ha:PE X a ta) (hb:PE X b tb):PE X (.BinOp a op b pos) (tOp r ta tb):=by
 intro pins s σ H Q I h
 exact wpAny_BinOp (binT ha hb I h fun v u s2 x y H2 I2 rx ry q=>ho pins s2 σ H2 x y v u Q I2 rx ry q)
theorem pe_un {op:UnaryOp} {r:V->Hp->VK->Prop} (ho:UnR X (unaryOp op) r) (ha:PE X a ta):PE X (.UnaryOp op a pos) (tUn r ta):=by
 intro pins s σ H Q I h
 exact UnaryOp_ (thn (ha pins s σ H _ I h) fun v s1 ⟨x,H1,I1,r1,q1⟩=>ho pins s1 σ H1 x v Q I1 r1 q1)
theorem opI {f:Value->Value->Sem Value} {C:Int->Int->Prop} {g:Int->Int->Int}
  (rule:∀ (i j:Int) (t u:Tok) (s:Shared) (Q:Value->Shared->Prop) (E:Value->Shared->Prop),C i j->Q (.int (g i j) s.toks) { s with toks:=s.toks + 1 }->wpAny (model X.prog X.w) X.A (f (.int i t) (.int j u)) Q E s) :
  OpR X f (rI C fun i j=>.int (g i j)):=by
 intro pins s σ H x y v u Q I rx ry h
 obtain ⟨i,j,rfl,rfl,hc,q⟩:=h
 obtain ⟨t,rfl⟩:=rx
 obtain ⟨t',rfl⟩:=ry
 exact rule i j t t' s _ _ hc ⟨.int (g i j),H,I.tok _,⟨_,rfl⟩,q⟩
theorem opI0 {f:Value->Value->Sem Value} {g:Int->Int->Int}
  (rule:∀ (i j:Int) (t u:Tok) (s:Shared) (Q:Value->Shared->Prop) (E:Value->Shared->Prop),Q (.int (g i j) s.toks) { s with toks:=s.toks + 1 }->wpAny (model X.prog X.w) X.A (f (.int i t) (.int j u)) Q E s) :
  OpR X f (rI0 fun i j=>.int (g i j)):=by
 intro pins s σ H x y v u Q I rx ry h
 obtain ⟨i,j,rfl,rfl,q⟩:=h
 obtain ⟨t,rfl⟩:=rx
 obtain ⟨t',rfl⟩:=ry
 exact rule i j t t' s _ _ ⟨.int (g i j),H,I.tok _,⟨_,rfl⟩,q⟩
theorem opB0 {f:Value->Value->Sem Value} {g:Int->Int->Bool}
  (rule:∀ (i j:Int) (t u:Tok) (s:Shared) (Q:Value->Shared->Prop) (E:Value->Shared->Prop),Q (.bool (g i j)) s->wpAny (model X.prog X.w) X.A (f (.int i t) (.int j u)) Q E s) :
  OpR X f (rI0 fun i j=>.bl (g i j)):=by
 intro pins s σ H x y v u Q I rx ry h
 obtain ⟨i,j,rfl,rfl,q⟩:=h
 obtain ⟨t,rfl⟩:=rx
 obtain ⟨t',rfl⟩:=ry
 exact rule i j t t' s _ _ ⟨.bl (g i j),H,I,rfl,q⟩
def CPow (i j:Int):Prop:=0<=j/\j<=1000000/\i.natAbs < 2 ^ 64
def CMul (i j:Int):Prop:=(-(2 ^ 64) < i/\i < 2 ^ 64)\/(-(2 ^ 64) < j/\j < 2 ^ 64)
theorem CMul.ok {i j:Int} (h:CMul i j):IntMulOk i j:=by
 rcases h with ⟨h1,h2⟩ | ⟨h1,h2⟩
 ·exact .of_left (intBits_le_64 h1 h2)
 ·exact .of_right (intBits_le_64 h1 h2)
theorem op_add:OpR X (binaryOp .Add) (rI0 fun i j=>.int (i + j)):=opI0 fun _ _ _ _ _ _ _ q=>add_int q
theorem op_sub:OpR X (binaryOp .Sub) (rI0 fun i j=>.int (i - j)):=opI0 fun _ _ _ _ _ _ _ q=>sub_int q
theorem op_mul:OpR X (binaryOp .Mult) (rI CMul fun i j=>.int (i * j)):=opI fun _ _ _ _ _ _ _ hc q=>mul_int q hc.ok
theorem op_mod:OpR X (binaryOp .Mod) (rI (fun _ j=>0 < j) fun i j=>.int (i % j)):=opI fun i j _ _ _ _ _ hc q=>by
 have h1:(0:Int) < j:=hc
 exact mod_int' (by omega) (by rw [Int.fmod_eq_emod_of_nonneg i (by omega)];exact q)
theorem op_pow:OpR X (binaryOp .Pow) (rI CPow fun i j=>.int (i ^ j.toNat)):=opI fun _ _ _ _ _ _ _ hc q=>pow_int_small hc.1 hc.2.1 hc.2.2 q
theorem op_shl:OpR X (binaryOp .LShift) (rI CPow fun i j=>.int (i * 2 ^ j.toNat)):=opI fun _ _ _ _ _ _ _ hc q=>lshift_int_small hc.1 hc.2.1 hc.2.2 q
theorem op_xor:OpR X (binaryOp .BitXor) (rI0 fun i j=>.int (Builtin.bitXor i j)):=opI0 fun _ _ _ _ _ _ _ q=>xor_int q
theorem unI {f:Value->Sem Value} {g:Int->Int}
  (rule:∀ (i:Int) (t:Tok) (s:Shared) (Q:Value->Shared->Prop) (E:Value->Shared->Prop),Q (.int (g i) s.toks) { s with toks:=s.toks + 1 }->wpAny (model X.prog X.w) X.A (f (.int i t)) Q E s) :
  UnR X f (rU fun i=>.int (g i)):=by
 intro pins s σ H x v Q I rx h
 obtain ⟨i,rfl,q⟩:=h
 obtain ⟨t,rfl⟩:=rx
 exact rule i t s _ _ ⟨.int (g i),H,I.tok _,⟨_,rfl⟩,q⟩
theorem un_neg:UnR X (unaryOp .USub) (rU fun i=>.int (-i)):=unI fun _ _ _ _ _ q=>neg_int q
end
section
variable {X:Cx} {a b c:Expr} {ta tb tc:TE} {pos:Pos}
theorem op_lt:OpR X (compareOp .Lt) (rI0 fun i j=>.bl (decide (i < j))):=opB0 fun _ _ _ _ _ _ _ q=>lt_int q
theorem op_le:OpR X (compareOp .LtE) (rI0 fun i j=>.bl (decide (i<=j))):=opB0 fun _ _ _ _ _ _ _ q=>le_int q
theorem op_gt:OpR X (compareOp .Gt) (rI0 fun i j=>.bl (decide (j < i))):=opB0 fun _ _ _ _ _ _ _ q=>gt_int q
theorem op_ge:OpR X (compareOp .GtE) (rI0 fun i j=>.bl (decide (j<=i))):=opB0 fun _ _ _ _ _ _ _ q=>ge_int q
theorem OpR.or {f:Value->Value->Sem Value} {r r':R2} (h:OpR X f r) (h':OpR X f r'):OpR X f (fun x y H Q=>r x y H Q\/r' x y H Q):=by
 intro pins s σ H x y v u Q I rx ry q
 rcases q with q | q
 ·exact h pins s σ H x y v u Q I rx ry q
 ·exact h' pins s σ H x y v u Q I rx ry q
theorem nomark (b:Expr) {op:CmpOp} (h:op≠.In:=by decide) (h2:op≠.NotIn:=by decide):behindInMarks op b=false:=by
 have e1:(op == CmpOp.In)=false:=by cases op <;> first | rfl | exact absurd rfl h
 have e2:(op == CmpOp.NotIn)=false:=by cases op <;> first | rfl | exact absurd rfl h2
 cases b <;> simp [behindInMarks,e1,e2]
theorem pe_cmpR {op:CmpOp} {r:R2} (ho:OpR X (compareOp op) r) (ha:PE X a ta) (hb:PE X b tb) (hm:behindInMarks op b=false):PE X (.Compare a [op] [b] pos) (tOp r ta tb):=by
 intro pins s σ H Q I h
 exact wpAny_Compare1 (binT ha hb I h fun v u s2 x y H2 I2 rx ry q=>ho pins s2 σ H2 x y v u Q I2 rx ry q) hm
def tTest (t:TE):TT:=fun σ H Q=>t σ H fun x H'=>∃ k,x=.bl k/\Q k H'
theorem pt_cmpR {op:CmpOp} {r:R2} (ho:OpR X (compareOp op) r) (ha:PE X a ta) (hb:PE X b tb) (hm:behindInMarks op b=false):PT X (.Compare a [op] [b] pos) (tTest (tOp r ta tb)):=by
 intro pins s σ H Q I h
 refine wpAny_isTrue_Compare1 (thn (ha pins s σ H _ I h) fun v s1 ⟨x,H1,I1,r1,q1⟩=>thn (hb pins s1 σ H1 _ I1 q1) fun u s2 ⟨y,H2,I2,r2,q2⟩ =>
  thn (ho pins s2 σ H2 x y v u _ I2 r1 r2 q2) fun c s3 ⟨z,H3,I3,r3,k,e,q3⟩=>?_) hm
 subst e
 cases r3
 exact wpAny_truthy_bool ⟨H3,I3,q3⟩
def tChain (r r':R2) (ta tb tc:TE):TE:=fun σ H Q=>ta σ H fun x H1=>tb σ H1 fun y H2=>r x y H2 fun z H3=>∃ k,z=.bl k /\
 (if k=true then tc σ H3 fun w' H4=>r' y w' H4 Q else Q (.bl false) H3)
theorem pe_chain {op op':CmpOp} {r r':R2} (ho:OpR X (compareOp op) r) (ho':OpR X (compareOp op') r') (ha:PE X a ta) (hb:PE X b tb) (hc:PE X c tc)
  (hm:lastMarks [op,op'] [b,c]=false:=by with_unfolding_all rfl):PE X (.Compare a [op,op'] [b,c] pos) (tChain r r' ta tb tc):=by
 intro pins s σ H Q I h
 refine Compare_chain (thn (ha pins s σ H _ I h) fun v s1 ⟨x,H1,I1,r1,q1⟩=>chain_link (thn (hb pins s1 σ H1 _ I1 q1) fun u s2 ⟨y,H2,I2,r2,q2⟩ =>
  thn (ho pins s2 σ H2 x y v u _ I2 r1 r2 q2) fun d s3 ⟨z,H3,I3,r3,k,e,q3⟩=>?_)) hm
 subst e
 cases r3
 refine wpAny_truthy_bool ?_
 cases k with
 | false=>exact ite_ff ⟨.bl false,H3,I3,rfl,q3⟩
 | true=>exact ite_tt (chain_last (thn (hc pins s3 σ H3 _ I3 q3) fun w' s4 ⟨z',H4,I4,r4,q4⟩=>ho' pins s4 σ H4 y z' u w' Q I4 r2 r4 q4))
def TruV (K:PySem.W.Frag) (x:V) (H:Hp) (k:Bool):Prop :=
 match x with
 | .non=>k=false
 | .bl b=>k=b
 | .int i=>k=(i != 0)
 | .str y=>y.length<=sizeLine/\k=((y.length:Int) != 0)
 | .byt y=>y.size<=sizeLine/\k=((y.size:Int) != 0)
 | .ref p=>(∃ xs,SqL K H p xs/\k=!xs.isEmpty)\/(∃ xs,SqT K H p xs/\k=!xs.isEmpty)\/∃ kvs,H p=some (.dK kvs)/\k=!kvs.isEmpty
 | _=>False
theorem isEmpty_kv {κ:Type} {kvs:List (κ×V)} {vs:List (κ×Value)} (r:KV kvs vs):(!vs.isEmpty)=!kvs.isEmpty:=by
 cases r <;> rfl
theorem isEmpty_of {xs:List V} {its:List Value} (r:Vals xs its):(!its.toArray.isEmpty)=!xs.isEmpty:=by
 cases r <;> simp
theorem line63:(sizeLine:Nat) < 2 ^ 63:=by rw [sizeLine_eq];decide
theorem tru_ok:TruR X (fun x H Q=>∃ k,TruV X.K x H k/\Q k H):=by
 intro pins s σ H x v Q I rx h
 obtain ⟨k,e,q⟩:=h
 have hl:=line63
 have hs:sizeLine=16777216:=sizeLine_eq
 cases x with
 | non =>
  cases rx
  have e':k=false:=e
  subst e'
  exact truthy_none ⟨H,I,q⟩
 | bl b =>
  cases rx
  have e':k=b:=e
  subst e'
  exact wpAny_truthy_bool ⟨H,I,q⟩
 | int i =>
  obtain ⟨t,rfl⟩:=rx
  have e':k=(i != 0):=e
  subst e'
  exact PySem.P.truthy_int ⟨H,I,q⟩
 | str y =>
  obtain ⟨t,rfl⟩:=rx
  obtain ⟨hy,e'⟩:y.length<=sizeLine/\k=((y.length:Int) != 0):=e
  subst e'
  exact PySem.P.truthy_str (by omega) ⟨H,I.tok _,q⟩
 | byt y =>
  obtain ⟨t,rfl⟩:=rx
  obtain ⟨hy,e'⟩:y.size<=sizeLine/\k=((y.size:Int) != 0):=e
  subst e'
  exact PySem.W.truthy_bytes (by omega) ⟨H,I.tok _,q⟩
 | ref p =>
  cases rx
  have e':(∃ xs,SqL X.K H p xs/\k=!xs.isEmpty)\/(∃ xs,SqT X.K H p xs/\k=!xs.isEmpty)\/∃ kvs,H p=some (.dK kvs)/\k=!kvs.isEmpty:=e
  rcases e' with ⟨xs,hx,e'⟩ | ⟨xs,hx,e'⟩ | ⟨kvs,hx,e'⟩
  ·subst e'
   obtain ⟨its,r,pl,hz⟩:=I.list hx
   have hlen:=r.length
   exact wpAny_truthy_list pl.isList (by simp only [List.size_toArray];omega) ⟨H,I.tok _,by rw [isEmpty_of r];exact q⟩
  ·subst e'
   obtain ⟨its,r,pl,hz⟩:=I.tuple hx
   have hlen:=r.length
   exact truthy_tuple pl (by simp only [List.size_toArray];omega) ⟨H,I.tok _,by rw [isEmpty_of r];exact q⟩
  ·subst e'
   obtain ⟨hz,hS,vs,r,m⟩:kvs.length<=sizeLine/\(p == sysModules)=false/\∃ vs,KV kvs vs/\s.heap.DictOf (mixKind X.prog X.w) p vs:=I.hok p _ hx
   have hlen:kvs.length=vs.length:=Paired.length r
   exact wpAny_truthy_dict hS m (by omega) ⟨H,I.tok _,by rw [isEmpty_kv r];exact q⟩
 | _=>exact (show False from e).elim
theorem pt_truth (ha:PE X a ta) (he:∀ whole,isTrue a X.env whole=(do let v ← whole;standAt a.pos;holding [v] (truthy v))) :
  PT X a (fun σ H Q=>ta σ H fun x H'=>∃ k,TruV X.K x H' k/\Q k H'):=by
 intro pins s σ H Q I h
 exact isTrue_plain (thn (ha pins s σ H _ I h) fun v s1 ⟨x,H1,I1,r1,q1⟩=>tru_ok pins s1 σ H1 x v Q I1 r1 q1) (he _)
theorem op_add_str:OpR X (binaryOp .Add) (fun x y H Q=>∃ i j,x=.str i/\y=.str j/\i.length + j.length<=sizeLine/\Q (.str (i++j)) H):=by
 intro pins s σ H x y v u Q I rx ry h
 obtain ⟨i,j,rfl,rfl,hz,q⟩:=h
 obtain ⟨t,rfl⟩:=rx
 obtain ⟨t',rfl⟩:=ry
 exact add_str (fun t' tk=>⟨.str (i++j),H,I.tok _,⟨_,rfl⟩,q⟩) hz
theorem vals1 {x:V} {us:List Value} (r:Vals [x] us):∃ u,us=[u]/\RelV x u:=by
 cases r with
 | cons r1 r2=>cases r2;exact ⟨_,rfl,r1⟩
theorem vals2 {x y:V} {us:List Value} (r:Vals [x,y] us):∃ u w',us=[u,w']/\RelV x u/\RelV y w':=by
 cases r with
 | cons r1 r2 =>
  cases r2 with
  | cons r3 r4=>cases r4;exact ⟨_,_,rfl,r1,r3⟩
theorem call_max2 (hc:X.calm=true):CallR X (.builtin "max") (fun xs H Q=>∃ i j,xs=[.int i,.int j]/\Q (.int (if j > i then j else i)) H):=by
 intro pins s σ H xs us Q I r h
 obtain ⟨i,j,rfl,q⟩:=h
 obtain ⟨u,w',rfl,⟨t,rfl⟩,⟨t',rfl⟩⟩:=vals2 r
 refine max_two_ints (I.ok.hd hc) fun h' tk k=>⟨_,H,I.kept k,?_,q⟩
 by_cases hj:j > i
 ·rw [if_pos hj,if_pos hj];exact ⟨_,rfl⟩
 ·rw [if_neg hj,if_neg hj];exact ⟨_,rfl⟩
theorem call_min2 (hc:X.calm=true):CallR X (.builtin "min") (fun xs H Q=>∃ i j,xs=[.int i,.int j]/\Q (.int (if j < i then j else i)) H):=by
 intro pins s σ H xs us Q I r h
 obtain ⟨i,j,rfl,q⟩:=h
 obtain ⟨u,w',rfl,⟨t,rfl⟩,⟨t',rfl⟩⟩:=vals2 r
 refine min_two_ints (I.ok.hd hc) fun h' tk k=>⟨_,H,I.kept k,?_,q⟩
 by_cases hj:j < i
 ·rw [if_pos hj,if_pos hj];exact ⟨_,rfl⟩
 ·rw [if_neg hj,if_neg hj];exact ⟨_,rfl⟩
end
end L2
namespace L2
open PySem PySem.Spec PyProof.Rows
structure ObjM (h:Heap) (x dx C:Addr) (mA:Str->Option Value):Prop where
 obj:h.get? x=some (PySem.W.instObj C dx)
 ns:h.Ns1 dx mA
 ne:dx≠x
theorem lookIn_ns {h:Heap} {dx:Addr} {mA:Str->Option Value} (n:h.Ns1 dx mA):∃ od,h.get? dx=some od/\∀ name,PySem.W.lookIn name od=some (mA name):=by
 obtain ⟨o,es,ep,ho,hd,hk,_,hm⟩:=n
 refine ⟨o,ho,fun name=>?_⟩
 have e:=hm name
 unfold nsFind findBy at e
 rw [← Array.find?_toList] at e
 unfold PySem.W.lookIn
 rw [hd]
 dsimp only
 split
 ·rename_i y q
  rw [q] at e
  exact congrArg some e
 ·rename_i q
  rw [q] at e
  have a:es.toList.any (·.refKey)=false:=by
   rw [List.any_eq_false]
   intro y hy
   obtain ⟨z,t,hkey⟩:=hk y (Array.mem_toList_iff.mp hy)
   simp [DictEntry.refKey,hkey]
  have a':¬ es.toList.any (·.refKey)=true:=by rw [a];exact Bool.false_ne_true
  rw [if_neg a']
  exact congrArg some e
theorem ObjM.look {h:Heap} {x dx C:Addr} {mA:Str->Option Value} (I:ObjM h x dx C mA):∃ od,PySem.W.InstAt h x (PySem.W.instObj C dx) C (some od)/\∀ name,PySem.W.lookIn name od=some (mA name) :=
 let ⟨od,ho,hl⟩:=lookIn_ns I.ns
 ⟨od,⟨I.obj,rfl,rfl,ho⟩,hl⟩
section
variable {prog:Program} {w:World} {A:Around} {E:Value->Shared->Prop} {s:Shared} {K:PySem.W.Frag} {x dx C f:Addr} {mA:Str->Option Value} {name:Str} {v:Value}
theorem get_meth {pl:Sem Bool} {Q:Value×List Value->Shared->Prop} (X:K.In s.heap) (I:ObjM s.heap x dx C mA) (hg:PySem.W.plainGet K C name=true)
  (hf:PySem.W.findIn K (.ref C) name=some (some (.ref f))) (ht:PySem.W.isFn K (.ref f)=true) (hv:mA name=none) (h:Q (.ref f,[.ref x]) s) :
  wpAny (model prog w) A (getMethod (.ref x) name pl) Q E s:=by
 obtain ⟨od,J,hl⟩:=I.look
 exact PySem.W.method_fn X J (PySem.W.plainGet_of hg).1 (PySem.W.plainGet_of hg).2 hf (beq_iff_eq.mp ht) (by show (PySem.W.lookIn name od).map (·.isSome)=some false;rw [hl,hv];rfl) h
theorem make_map0 {R:Result->Shared->Prop} (X:K.In s.heap) (hm:PySem.W.makesIn K C=true)
  (hi:PySem.W.findIn K (.ref C) "__init__" = some (some (.builtin "object.__init__")))
  (hb:∀ self,PySem.W.Looks (model prog w) s.heap (bindSpecial (.builtin "object.__init__") self) (.builtin "object.__init__",[self]))
  (h:codeAny (model prog w) (A.under (.builtin "type.__call__" ⟨[.ref C],[]⟩)) (.call (.builtin "object.__init__") ⟨[.ref (s.heap.objs.size + 1)],[]⟩) (PySem.W.InitBack (s.heap.objs.size + 1) R)
   { s with heap:=(s.heap.push PySem.W.emptyDict).push (PySem.W.instObj C s.heap.objs.size) }) :
  codeAny (model prog w) A (.call (.ref C) ⟨[],[]⟩) R s:=by
 obtain ⟨hh,g,d,t,os⟩:=s
 exact PySem.W.make_core (PySem.W.makes_of X hm) (PySem.W.looks_findIn X hi) hb (.inr ⟨rfl,rfl⟩) h
end
theorem RelO.some_of {v:V} {o:Option Value} (r:RelO (some v) o):∃ u,o=some u/\RelV v u:=by
 cases o with
 | none=>exact (show False from r).elim
 | some u=>exact ⟨u,rfl,r⟩
theorem RelO.none_of {o:Option Value} (r:RelO none o):o=none:=by
 cases o with
 | none=>rfl
 | some u=>exact (show False from r).elim
section
variable {P:Program} {w:World} {H H':Hp} {h h':Heap} {a C dx:Addr} {fs fs':List (Str×V)}
theorem ins_get (hok:HOk P w H h) (e:H a=some (.ins C dx fs)):∃ mA,ObjM h a dx C mA/\(∀ f,RelO (fs.lookup f) (mA f))/\PySem.Within mA (fs.map (·.1))/\fs.length<=1000/\H dx=some (.own a):=by
 obtain ⟨d,z,ne,ob,mA,n,r,q⟩:=(show ObjOk P w H h a (.ins C dx fs) from hok a _ e)
 exact ⟨mA,⟨ob,n,ne⟩,r,q,z,d⟩
end
structure Cls (K:PySem.W.Frag) (C:Addr):Prop where
 pg:PySem.W.plainGet K C Str.empty=true
 hd:PySem.W.hasDictIn K C=true
 po:PySem.W.plainOver K C=true
 sa:PySem.W.findIn K (.ref C) "__setattr__" = some (some (.builtin "object.__setattr__"))
theorem Cls.get {K:PySem.W.Frag} {C:Addr} (c:Cls K C) (f:Str):PySem.W.plainGet K C f=true:=c.pg
structure Con (K:PySem.W.Frag) (C:Addr) (f:Str) (v:V) (u:Value):Prop where
 at_:PySem.W.findIn K (.ref C) f=some (some u)
 rel:RelV v u
 get:PySem.W.specialIn K u "__get__" = some none
 cp:PySem.W.copiedNames.contains f=false
structure Meth (K:PySem.W.Frag) (C:Addr) (m:Str) (f:Addr):Prop where
 at_:PySem.W.findIn K (.ref C) m=some (some (.ref f))
 fn:PySem.W.isFn K (.ref f)=true
 kp:PySem.W.keepIn K (.ref f)=true
section
variable {X:Cx} {pins:List (Addr×Obj)} {σ:St} {H:Hp} {s:Shared} {a C dx:Addr} {fs:List (Str×V)} {f:Str} {v:V} {A:Around} {E:Value->Shared->Prop}
theorem getmeth_ok {m:Str} {g:Addr} {pl:Sem Bool} {Q:Value×List Value->Shared->Prop} (I:Inv X pins σ H s) (e:H a=some (.ins C dx fs)) (c:Cls X.K C) (k:Meth X.K C m g) (l:fs.lookup m=none)
  (h:Q (.ref g,[.ref a]) s):wpAny (model X.prog X.w) A (getMethod (.ref a) m pl) Q E s:=by
 obtain ⟨mA,O,r,_,_,_⟩:=ins_get I.hok e
 have hn:mA m=none:=RelO.none_of (by rw [← l];exact r m)
 exact get_meth I.kIn O (c.get m) k.at_ k.fn hn h
theorem Inv.made (I:Inv X pins σ H s):Inv X pins σ (upd (upd H s.heap.objs.size (.own (s.heap.objs.size + 1))) (s.heap.objs.size + 1) (.ins C s.heap.objs.size []))
  { s with heap:=(s.heap.push PySem.W.emptyDict).push (PySem.W.instObj C s.heap.objs.size) }:=by
 have e1:(s.heap.push PySem.W.emptyDict).get? s.heap.objs.size=some PySem.W.emptyDict:=Heap.get?_push_size s.heap rfl
 have e2:((s.heap.push PySem.W.emptyDict).push (PySem.W.instObj C s.heap.objs.size)).get? (s.heap.objs.size + 1)=some (PySem.W.instObj C s.heap.objs.size):=by
  have:=Heap.get?_push_size (s.heap.push PySem.W.emptyDict) (o:=PySem.W.instObj C s.heap.objs.size) rfl
  rwa [Heap.size_push] at this
 have e3:(s.heap.push PySem.W.emptyDict).Ns s.heap.objs.size (fun _=>none):=⟨PySem.W.emptyDict,#[],_,e1,rfl,(fun e he=>absurd he (by simp)),fun _=>rfl⟩
 have I1:=I.laid (a:=s.heap.objs.size) (o:=.own (s.heap.objs.size + 1)) (h':=s.heap.push PySem.W.emptyDict) (t':=s.toks) (fun b u q=>Heap.get?_push_of_some _ q) (Nat.le_refl _) ⟨_,e1⟩
 refine I1.laid (a:=s.heap.objs.size + 1) (o:=.ins C s.heap.objs.size []) (t':=s.toks) (fun b u q=>Heap.get?_push_of_some _ q) (Nat.le_of_eq (Heap.size_push _ _)) ?_
 have ne:s.heap.objs.size≠s.heap.objs.size + 1:=Nat.ne_of_lt (Nat.lt_succ_self _)
 refine ⟨by rw [upd_ne ne,upd_same],Nat.zero_le _,ne,e2,fun _=>none,(Heap.Ns1.of_empty e3).at fun o q=>Heap.get?_push_of_some _ q,fun _=>True.intro,fun y hy=>absurd rfl hy⟩
end
section
variable {X:Cx} {o e value:Expr} {f:Str} {pos pos' tpos:Pos} {ta tv:TE}
end
section
variable {X:Cx} {pins:List (Addr×Obj)} {σ:St} {H:Hp} {s:Shared} {A:Around} {E:Value->Shared->Prop} {Q:Value->Shared->Prop} {c:Value} {b:Bool}
inductive TyOf (K:PySem.W.Frag) (H:Hp):V->Value->Prop where
 | non:TyOf K H .non (.type "NoneType")
 | bl (x:Bool):TyOf K H (.bl x) (.type "bool")
 | int (i:Int):TyOf K H (.int i) (.type "int")
 | str (x:Str):TyOf K H (.str x) (.type "str")
 | flt (x:UInt64):TyOf K H (.flt x) (.type "float")
 | lst {a:Addr} {xs:List V} (e:H a=some (.lst xs)):TyOf K H (.ref a) (.type "list")
 | frz {a:Addr} {o:Obj} {xs:List V} (e:H a=some (.frz o (.lst xs))):TyOf K H (.ref a) (.type "list")
 | tup {a:Addr} {xs:List V} (e:H a=some (.tup xs)):TyOf K H (.ref a) (.type "tuple")
 | dK {a:Addr} {kvs:List (Key×V)} (e:H a=some (.dK kvs)):TyOf K H (.ref a) (.type "dict")
 | dT {a:Addr} {kvs:List (List Key×V)} (e:H a=some (.dT kvs)):TyOf K H (.ref a) (.type "dict")
 | ins {a C dx:Addr} {fs:List (Str×V)} (e:H a=some (.ins C dx fs)) (cl:Cls K C) (ha:PySem.W.findIn K (.ref C) "__class__" = some (some (.builtin "object.__class__")))
   (hn:PySem.W.specialIn K (.builtin "object.__class__") "__get__" = some (some (.builtin "getset_descriptor.__get__"))) (htk:PySem.W.takesIn K (.builtin "object.__class__")=some true)
   (hm:PySem.W.mroIn K C (.type "object")=some true):TyOf K H (.ref a) (.ref C)
end
end L2
namespace L2
open PySem PySem.Spec PyProof.Rows
structure Room (k:Nat) (A:Around):Prop where
 hd:A.handled=none
 dp:A.depth + 3 * k + 5 < recursionLimit
 un:A.units + 16 * k + 200 < cLine
theorem Room.mono {j k:Nat} {A:Around} (r:Room k A) (h:j<=k):Room j A:=⟨r.hd,by have:=r.dp;omega,by have:=r.un;omega⟩
theorem Room.deeper {k:Nat} {A:Around} (r:Room (k + 1) A) (env:Env):Room k (A.deeper env) :=
 ⟨r.hd,by have:=r.dp;show A.depth + 1 + 3 * k + 5 < _;omega,by have:=r.un;show A.units + 3 + 16 * k + 200 < _;omega⟩
theorem Room.depth {k:Nat} {A:Around} (r:Room k A):A.depth < recursionLimit:=by have:=r.dp;omega
theorem Room.units {k:Nat} {A:Around} (r:Room k A):A.units + 64 < cLine:=by have:=r.un;omega
def tNil:TA:=fun _ H Q=>Q [] H
def tCons (ta:TE) (tr:TA):TA:=fun σ H Q=>ta σ H fun x H1=>tr σ H1 fun xs H2=>Q (x::xs) H2
section
variable {X:Cx} {e:Expr} {es:List Expr} {te:TE} {t:TA} {pos:Pos}
theorem pa_nil:PA X [] tNil:=fun _ _ _ _ H Q I h=>Calls.spliced_nil ⟨[],H,I,.nil,h⟩
theorem pa_cons (ha:PE X e te) (hr:PA X es t) (hs:starEach (e::es) X.env=(false,eval e X.env)::starEach es X.env:=by rfl):PA X (e::es) (tCons te t):=by
 intro pos pins s σ H Q I h
 rw [hs]
 show wpAny _ _ (spliced ((false,eval e X.env)::backTo pos (starEach es X.env))) _ _ s
 refine Calls.spliced_cons (thn (ha pins s σ H _ I h) fun u s1 ⟨x,H1,I1,r1,q1⟩=>?_)
 exact thn (hr pos pins s1 σ H1 _ I1 q1) fun us s2 ⟨xs,H2,I2,r2,q2⟩=>⟨x::xs,H2,I2,.cons r1 r2,q2⟩
def tTup (t:TA):TE:=fun σ H Q=>t σ H fun xs H1=>xs.length<=sizeLine/\∀ p,H1 p=none->Q (.ref p) (upd H1 p (.tup xs))
def tLst (t:TA):TE:=fun σ H Q=>t σ H fun xs H1=>xs.length<=sizeLine/\∀ p,H1 p=none->Q (.ref p) (upd H1 p (.lst xs))
theorem pe_tup {x1} (h:PA X es t):PE X (.Tuple es x1 pos) (tTup t):=by
 intro pins s σ H Q I hq
 refine wpAny_Tuple_spliced (thn (h pos pins s σ H _ I hq) fun us s1 ⟨xs,H1,I1,r,z,q⟩=>⟨by rw [← r.length];exact z,?_⟩)
 have hf:H1 s1.heap.objs.size=none:=I1.hok.fresh (Nat.le_refl _)
 refine ⟨.ref s1.heap.objs.size,upd H1 s1.heap.objs.size (.tup xs),I1.laid (t':=s1.toks) (fun b u e=>Heap.get?_push_of_some _ e) (Nat.le_refl _) ?_,rfl,q _ hf⟩
 exact ⟨z,us,r,⟨_,Heap.get?_push_size _ rfl,rfl,_,rfl⟩⟩
theorem pe_lst (h:PA X es t):PE X (.List es pos) (tLst t):=by
 intro pins s σ H Q I hq
 refine wpAny_List_spliced (thn (h pos pins s σ H _ I hq) fun us s1 ⟨xs,H1,I1,r,z,q⟩=>⟨by rw [← r.length];exact z,?_⟩)
 have hf:H1 s1.heap.objs.size=none:=I1.hok.fresh (Nat.le_refl _)
 refine ⟨.ref s1.heap.objs.size,upd H1 s1.heap.objs.size (.lst xs),I1.laid (t':=s1.toks) (fun b u e=>Heap.get?_push_of_some _ e) (Nat.le_refl _) ?_,rfl,q _ hf⟩
 exact ⟨z,us,0,r,Heap.get?_push_size _ rfl⟩
end
abbrev Sp:=List V->Hp->VK->XK->Prop
abbrev CXT:=List Env->Hp->Shared->XK->Value->Shared->Prop
structure Env0 (P:Program) (w:World) (K:PySem.W.Frag) (mg:Str->Option Value) (base:Heap) (A:Around) (outer:List Env) (s:Shared) (H:Hp):Prop where
 frames:A.frames=some outer
 mod:Mod K mg base
 bs:∀ b o,base.get? b=some o->s.heap.get? b=some o/\H b=none
 bsz:base.objs.size<=s.heap.objs.size
 funs:s.heap.FunFrames base outer
 frf:∀ b∈frs outer,H b=none
 hok:HOk P w H s.heap
 bare:AllBare s.gens
def CE (outer:List Env) (P:Program) (w:World) (H:Hp) (s:Shared) (Q:VK) (u:Value) (s':Shared):Prop :=
 ∃ v H',s'.os=s.os/\AllBare s'.gens/\Un (frs outer) [] H H' s.heap s'.heap/\HOk P w H' s'.heap/\RelV v u/\Q v H'
def CR (CX:CXT) (outer:List Env) (P:Program) (w:World) (H:Hp) (s:Shared) (Q:VK) (E:XK) (r:Result) (s':Shared):Prop :=
 match r with
 | .ok (.ret u)=>CE outer P w H s Q u s'
 | .ok _=>False
 | .error e=>CX outer H s E e s'
structure FnOk (P:Program) (w:World) (K:PySem.W.Frag) (mg:Str->Option Value) (base:Heap) (CX:CXT) (k:Nat) (f:Addr) (fd:FuncData) (ps:List Str) (sp:Sp):Prop where
 len:∀ vs H Q E,sp vs H Q E->vs.length=ps.length
 run:∀ (A:Around) (outer:List Env) (s:Shared) (H:Hp) (args:Args) (us:List Value) (vs:List V) (Q:VK) (E:XK),Room k A->Env0 P w K mg base A outer s H->BindsTo s fd args (ps.zip us)->Vals vs us->sp vs H Q E ->
  codeAny (model P w) A (.call (.ref f) args) (CR CX outer P w H s Q E) s
theorem FnOk.mono {P:Program} {w:World} {K:PySem.W.Frag} {mg:Str->Option Value} {base:Heap} {CX:CXT} {j k:Nat} {f:Addr} {fd:FuncData} {ps:List Str} {sp:Sp} (F:FnOk P w K mg base CX j f fd ps sp) (h:j<=k) :
  FnOk P w K mg base CX k f fd ps sp:=⟨F.len,fun A outer s H args us vs Q E hr=>F.run A outer s H args us vs Q E (hr.mono h)⟩
section
variable {X:Cx} {pins:List (Addr×Obj)} {σ:St} {H:Hp} {s s':Shared}
theorem Inv.env0 (I:Inv X pins σ H s):Env0 X.prog X.w X.K X.mg X.base X.A X.stack s H :=
 ⟨I.ok.frames,I.ok.mod,I.bs,Nat.le_trans I.ok.bsz I.sz,I.stack,I.stkFree,I.hok,I.bare⟩
theorem Inv.after {Q:VK} {u:Value} (I:Inv X pins σ H s) (h:CE X.stack X.prog X.w H s Q u s'):EP X pins σ Q u s':=by
 obtain ⟨v,H',os,bare,un,hok,r,q⟩:=h
 obtain ⟨hh,g,d,t,os'⟩:=s'
 obtain rfl:os'=s.os:=os
 exact ⟨v,H',I.call (h':=hh) (g':=g) (d':=d) (t':=t) (ch:=[]) un hok bare (fun b z=>absurd z (by simp)),r,q⟩
end
def tCall (sp:Sp) (dvs:List V) (E:XK) (t:TA):TE:=fun σ H Q=>t σ H fun vs H1=>sp (vs++dvs) H1 Q E
def tMeth (C:Addr) (m:Str) (sp:Sp) (dvs:List V) (E:XK) (ta:TE) (t:TA):TE:=fun σ H Q=>ta σ H fun x H1=>∃ a dx fs,x=.ref a/\H1 a=some (.ins C dx fs)/\fs.lookup m=none /\
 t σ H1 fun vs H2=>sp (x::(vs++dvs)) H2 Q E
def Binds (K:PySem.W.Frag) (fd:FuncData) (ps:List Str) (ds:List Value):Prop :=
 ∀ (s:Shared) (us:List Value),K.In s.heap->(us++ds).length=ps.length->BindsTo s fd ⟨us,[]⟩ (ps.zip (us++ds))
theorem Binds.all {K:PySem.W.Frag} {fd:FuncData} {ps:List Str} (h:∀ us:List Value,us.length=ps.length->bindArgs fd ⟨us,[]⟩=pure (ps.zip us)):Binds K fd ps []:=fun s us _ hl=>by
 rw [List.append_nil] at hl ⊢
 exact .of_eq (h us hl)
def Passes (CX:CXT) (X:Cx) (E:XK):Prop:=∀ (pins:List (Addr×Obj)) (σ:St) (H:Hp) (s:Shared) (e:Value) (s':Shared),Inv X pins σ H s->CX X.stack H s E e s'->X.xe e s'
section
variable {X:Cx} {CX:CXT} {k:Nat} {f C:Addr} {fd:FuncData} {ps:List Str} {sp:Sp} {dvs:List V} {ds:List Value} {E:XK} {x m:Str} {p pos apos:Pos} {e o:Expr} {es:List Expr} {ta:TE} {t:TA}
theorem run_fn {pins:List (Addr×Obj)} {σ:St} {H:Hp} {s:Shared} {Q:VK} {us:List Value} {vs:List V} (F:FnOk X.prog X.w X.K X.mg X.base CX k f fd ps sp) (hr:Room k X.A) (hb:Binds X.K fd ps ds) (hd:Vals dvs ds) (hx:Passes CX X E)
  (I:Inv X pins σ H s) (r:Vals vs us) (h:sp (vs++dvs) H Q E):wpAny (model X.prog X.w) X.A (call (.ref f) us) (EP X pins σ Q) X.xe s:=by
 have r2:Vals (vs++dvs) (us++ds):=r.append hd
 have hl:(us++ds).length=ps.length:=by rw [← r2.length];exact F.len _ _ _ _ h
 refine wpAny_call (codeAny_mono (F.run X.A X.stack s H ⟨us,[]⟩ (us++ds) (vs++dvs) Q E hr I.env0 (hb s us I.kIn hl) r2 h) fun r s' hq=>?_)
 cases r with
 | error e=>exact hx pins σ H s e s' I hq
 | ok fl =>
  cases fl with
  | ret u=>exact I.after hq
  | next=>exact False.elim hq
  | brk=>exact False.elim hq
  | cont=>exact False.elim hq
theorem pe_call (F:FnOk X.prog X.w X.K X.mg X.base CX k f fd ps sp) (hr:Room k X.A) (hg:Gl X x) (hm:X.mg x=some (.ref f)) (hk:PySem.W.keepIn X.K (.ref f)=true) (hb:Binds X.K fd ps ds) (hd:Vals dvs ds) (hx:Passes CX X E)
  (ha:PA X (e::es) t) (hdb:(x == ("__debug__":Str))=false:=by decide) (he:starEach (e::es) X.env=(false,eval e X.env)::starEach es X.env:=by rfl) (hpl:(backTo pos (starEach es X.env)).any (·.1)=false:=by rfl) :
  PE X (.Call (.Name x p) (e::es) [] pos) (tCall sp dvs E t):=by
 intro pins s σ H Q I h
 refine wpAny_Call_Name_kw (ld_glob I hg hm ?_ hdb)
 refine PySem.W.callWith_K (h₀:=X.base) I.ok.mod.kin hk (thn (ha pos pins s σ H _ I h) fun us s1 ⟨vs,H1,I1,r,q⟩=>⟨I1.kIn,?_⟩) he hpl
 exact run_fn F hr hb hd hx I1 r q
theorem pe_meth {pl:Sem Bool} (he:PE X o ta) (c:Cls X.K C) (hm:Meth X.K C m f) (F:FnOk X.prog X.w X.K X.mg X.base CX k f fd ps sp) (hr:Room k X.A) (hb:Binds X.K fd ps ds) (hd:Vals dvs ds) (hx:Passes CX X E) (ha:PA X (e::es) t)
  (hst:starEach (e::es) X.env=(false,eval e X.env)::starEach es X.env:=by rfl) (hpl:(backTo pos (starEach es X.env)).any (·.1)=false:=by rfl)
  (ht:eval (.Call (.Attribute o m apos) (e::es) [] pos) X.env=(do
   let ov ← eval o X.env
   standAt apos.atName
   let (f,first) ← holding [ov] (getMethod ov m pl)
   callWith pos f first (backTo pos (starEach (e::es) X.env)) (backToKw pos (keywordEach [] X.env))):=by rfl) :
  PE X (.Call (.Attribute o m apos) (e::es) [] pos) (tMeth C m sp dvs E ta t):=by
 intro pins s σ H Q I h
 refine PySem.W.methodCall_KW (pl:=pl) (thn (he pins s σ H _ I h) fun u s1 ⟨x,H1,I1,rx,a,dx,fs,ex,ea,l,q⟩=>?_) ht
 subst ex
 obtain rfl:u=Value.ref a:=rx
 refine getmeth_ok I1 ea c hm l ?_
 refine PySem.W.callWith_K (first:=[.ref a]) (h₀:=X.base) I.ok.mod.kin hm.kp (thn (ha pos pins s1 σ H1 _ I1 q) fun us s2 ⟨vs,H2,I2,r,q2⟩=>⟨I2.kIn,?_⟩) hst hpl
 exact run_fn (us:=.ref a::us) (vs:=.ref a::vs) F hr hb hd hx I2 (.cons rfl r) q2
structure Mk (K:PySem.W.Frag) (C f:Addr):Prop where
 makes:PySem.W.makesIn K C=true
 init:PySem.W.findIn K (.ref C) "__init__" = some (some (.ref f))
 fn:PySem.W.isFn K (.ref f)=true
 kp:PySem.W.keepIn K (.ref C)=true
end
section
variable {X:Cx} {CX:CXT} {k:Nat} {f C:Addr} {fd:FuncData} {ps ks:List Str} {sp:Sp} {E:XK} {x m:Str} {p pos apos kpos:Pos} {e o:Expr} {es:List Expr} {kws:List Keyword} {te ta:TE} {t tk:TA} {nm:Option Str}
structure KBinds (K:PySem.W.Frag) (fd:FuncData) (ps ks:List Str) (g:List Value->List Value->List Value) (gV:List V->List V->List V):Prop where
 to:∀ (s:Shared) (us ws:List Value),K.In s.heap->(g us ws).length=ps.length->BindsTo s fd ⟨us,ks.zip ws⟩ (ps.zip (g us ws))
 rel:∀ {vs:List V} {us:List Value} {zs:List V} {ws:List Value},Vals vs us->Vals zs ws->Vals (gV vs zs) (g us ws)
variable {g:List Value->List Value->List Value} {gV:List V->List V->List V}
end
structure FnScope (N P:List Str) (sc:Scope):Prop where
 kind:sc.kind=.function
 co:sc.isCoroutine=false
 gen:sc.isGenerator=false
 nd:N.Nodup
 pre:N.take P.length=P
 par:∀ x∈P,sc.names.lookup x=some .local\/sc.names.lookup x=some .cell
 nofree:∀ y∈sc.names,y.2≠.free
theorem bindL_out {kindOf:Str->Option NameKind} {x:Str}:∀ {binds:List (Str×Value)} {m:Str->Option Value},(∀ v,(x,v) ∉ binds)->bindL kindOf binds m x=m x
 | [],_,_=>rfl
 | (n,v)::r,m,h=>by
  unfold bindL
  rw [bindL_out fun w hw=>h w (List.mem_cons_of_mem _ hw)]
  split
  ·have:x≠n:=by rintro rfl;exact h v List.mem_cons_self
   simp [this]
  ·rfl
theorem bindC_out {kindOf:Str->Option NameKind} {x:Str}:∀ {binds:List (Str×Value)} {m:Str->Option Value},(∀ v,(x,v) ∉ binds)->bindC kindOf binds m x=m x
 | [],_,_=>rfl
 | (n,v)::r,m,h=>by
  unfold bindC
  rw [bindC_out fun w hw=>h w (List.mem_cons_of_mem _ hw)]
  split
  ·rfl
  ·have:x≠n:=by rintro rfl;exact h v List.mem_cons_self
   simp [this]
theorem bindL_get {kindOf:Str->Option NameKind} {x:Str} {v:Value}:∀ {P:List Str} {vs:List Value} {i:Nat} {m:Str->Option Value},P.Nodup->P[i]? = some x->vs[i]? = some v->kindOf x=some .local ->
  bindL kindOf (P.zip vs) m x=some v
 | [],_,_,_,_,h,_,_=>by simp at h
 | _::_,[],_,_,_,_,h,_=>by simp at h
 | p::P,w::vs,0,m,nd,h1,h2,hk=>by
  simp at h1 h2;subst h1;subst h2
  show bindL kindOf ((p,w)::P.zip vs) m p=_
  unfold bindL
  rw [bindL_out fun v hv=>(List.nodup_cons.mp nd).1 (List.of_mem_zip hv).1,if_pos hk]
  simp
 | p::P,w::vs,i + 1,m,nd,h1,h2,hk=>by
  show bindL kindOf ((p,w)::P.zip vs) m x=_
  unfold bindL
  exact bindL_get (i:=i) (List.nodup_cons.mp nd).2 (by simpa using h1) (by simpa using h2) hk
theorem bindC_get {kindOf:Str->Option NameKind} {x:Str} {v:Value}:∀ {P:List Str} {vs:List Value} {i:Nat} {m:Str->Option Value},P.Nodup->P[i]? = some x->vs[i]? = some v->kindOf x≠some .local ->
  bindC kindOf (P.zip vs) m x=some v
 | [],_,_,_,_,h,_,_=>by simp at h
 | _::_,[],_,_,_,_,h,_=>by simp at h
 | p::P,w::vs,0,m,nd,h1,h2,hk=>by
  simp at h1 h2;subst h1;subst h2
  show bindC kindOf ((p,w)::P.zip vs) m p=_
  unfold bindC
  rw [bindC_out fun v hv=>(List.nodup_cons.mp nd).1 (List.of_mem_zip hv).1,if_neg hk]
  simp
 | p::P,w::vs,i + 1,m,nd,h1,h2,hk=>by
  show bindC kindOf ((p,w)::P.zip vs) m x=_
  unfold bindC
  exact bindC_get (i:=i) (List.nodup_cons.mp nd).2 (by simpa using h1) (by simpa using h2) hk
def start (N:List Str) (vs:List V):St:=vs.map some++List.replicate (N.length - vs.length) none
def cxOf (CX:CXT) (P:Program) (w:World) (K:PySem.W.Frag) (mg:Str->Option Value) (base:Heap) (N:List Str) (qual:Str) (scope:Scope) (f:Addr) (cd:Value) (A:Around) (outer:List Env) (s:Shared) (H:Hp) (E:XK):Cx where
 prog:=P
 w:=w
 K:=K
 mg:=mg
 base:=base
 A:=A.deeper (envOfC qual scope s.heap.objs.size f cd)
 N:=N
 s₀:=s
 H₀:=H
 env:=envOfC qual scope s.heap.objs.size f cd
 outer:=outer
 stack:=envOfC qual scope s.heap.objs.size f cd::outer
 ex:=[]
 calm:=true
 fn:=fun _=>true
 pn:=[]
 xe:=fun e s'=>wpAny (model P w) (A.deeper (envOfC qual scope s.heap.objs.size f cd)) (leaving (envOfC qual scope s.heap.objs.size f cd) e) (fun _ s''=>CX outer H s E e s'') (fun e' s''=>CX outer H s E e' s'') s'
theorem cell_has {sc:Scope} {n:Nat} {x:Str} (h:sc.names.lookup x=some .cell):∃ c,(cellsFrom n sc.names []).lookup x=some c:=by
 have q:=PySem.W.cellsFrom_some sc.names n [] (.inl h)
 exact Option.isSome_iff_exists.mp q
theorem inv_start {CX:CXT} {P:Program} {w:World} {K:PySem.W.Frag} {mg:Str->Option Value} {base:Heap} {N ps:List Str} {qual:Str} {scope:Scope} {f:Addr} {cd:Value} {A:Around} {outer:List Env} {s s1:Shared} {H:Hp} {E:XK} {us:List Value} {vs:List V}
  (S:FnScope N ps scope) (hd:A.handled=none) (e0:Env0 P w K mg base A outer s H) (hl:vs.length=ps.length) (r:Vals vs us)
  (x:InCallC s s.heap.objs.size (bindL (envOfC qual scope s.heap.objs.size f cd).kindOf (ps.zip us) fun _=>none) (cellsFrom (s.heap.objs.size + 1) scope.names []) (bindC (envOfC qual scope s.heap.objs.size f cd).kindOf (ps.zip us) fun _=>none) s1) :
  Inv (cxOf CX P w K mg base N qual scope f cd A outer s H E) [] (start N vs) H s1:=by
 have hpl:ps.length<=N.length:=by have:=congrArg List.length S.pre;rw [List.length_take] at this;omega
 obtain ⟨h1,tk,rfl,hk⟩:=x.done
 have noA:∀ b:Addr,b ∉ (cxOf CX P w K mg base N qual scope f cd A outer s H E).ex:=fun b z=>absurd (show b∈([]:List Addr) from z) (by simp)
 refine ⟨⟨e0.mod,S.kind,rfl,rfl,Nat.le_refl _,fun y z c h1 h2=>?_,fun y hy=>?_,fun y c _ h=>?_,fun _=>hd,Around.frames_deeper e0.frames,.inr ⟨rfl,rfl⟩,fun b z=>absurd z (noA b),e0.bs,e0.bsz,fun b _ _=>noA b,fun b z=>absurd z (noA b),e0.funs,e0.frf⟩,
  rfl,e0.bare,Un.kept hk,⟨_,x.toInCall.ns,fun i y v h1 h2 h3=>?_⟩,fun y c h=>⟨_,x.cell y c h⟩,e0.hok.fresh (Nat.le_refl _),fun y c h=>?_,fun p hp=>absurd (show p∈([]:List (Addr×Obj)) from hp) (by simp),e0.hok.kept hk,?_⟩
 ·exact name_of_addr x.apart (PySem.mem_of_lookup h1) (PySem.mem_of_lookup h2)
 ·have hy:scope.names.lookup y=some .cell\/scope.names.lookup y=some .free:=hy
  rcases hy with hy | hy
  ·exact cell_has hy
  ·exact absurd rfl (S.nofree _ (PySem.mem_of_lookup hy))
 ·exact Nat.le_of_lt (x.above y c (PySem.mem_of_lookup h))
 ·have hi:i < vs.length:=by
   unfold start at h2
   by_cases hi:i < vs.length
   ·exact hi
   ·rw [List.getElem?_append_right (by simpa using hi)] at h2
    rw [List.getElem?_replicate] at h2
    split at h2 <;> cases h2
  have ha:vs[i]? = some v:=by
   unfold start at h2
   rw [List.getElem?_append_left (by simpa using hi),List.getElem?_map] at h2
   cases e:vs[i]? with
   | none=>rw [e] at h2;cases h2
   | some a=>rw [e] at h2;cases h2;rfl
  obtain ⟨u,hu,rv⟩:=r.get ha
  have hp:ps[i]? = some y:=by
   rw [← S.pre,List.getElem?_take_of_lt (by omega)];exact h1
  have ndP:ps.Nodup:=by rw [← S.pre];exact S.nd.sublist (List.take_sublist _ _)
  refine ⟨u,rv,?_⟩
  rcases S.par y (List.mem_of_getElem? hp) with k | k
  ·exact .inl ⟨k,bindL_get ndP hp hu k⟩
  ·obtain ⟨c,e⟩:=cell_has (n:=s.heap.objs.size + 1) k
   refine .inr ⟨.inl k,c,e,?_⟩
   have q:=x.cell y c e
   rw [bindC_get ndP hp hu (by show scope.names.lookup y≠_;rw [k];decide)] at q
   exact q
 ·exact e0.hok.fresh (Nat.le_of_lt (x.above y c (PySem.mem_of_lookup h)))
 ·unfold start
  show _=N.length
  rw [List.length_append,List.length_map,List.length_replicate]
  omega
theorem fn_of {CX:CXT} {P:Program} {w:World} {K:PySem.W.Frag} {mg:Str->Option Value} {base:Heap} {k:Nat} {f:Addr} {name qual:Str} {params:Arguments} {body:List Stmt} {scope:Scope} {dV kV doc pm cdv ct oc:Value} {an od:Option Addr}
  {osl:Array (Option Value)} {N ps:List Str} {sp:Sp} (lk:K.lookup f=some ⟨oc,od,.func (PySem.W.fnOf name qual params body scope dV kV doc pm an cdv ct),osl⟩) (hcd:PySem.W.codeIn K cdv qual=true) (S:FnScope N ps scope)
  (len:∀ vs H Q E,sp vs H Q E->vs.length=ps.length)
  (hbody:∀ (A:Around) (outer:List Env) (s:Shared) (H:Hp) (vs:List V) (Q:VK) (E:XK),Room k (A.deeper (envOfC qual scope s.heap.objs.size f cdv))->sp vs H Q E ->
   ∃ t,PSs (cxOf CX P w K mg base N qual scope f cdv A outer s H E) body t/\t { nx:=fun _ H'=>Q .non H',rt:=Q } (start N vs) H) :
  FnOk P w K mg base CX (k + 1) f (PySem.W.fnOf name qual params body scope dV kV doc pm an cdv ct) ps sp:=by
 refine ⟨len,fun A outer s H args us vs Q E hr e0 hb r hsp=>?_⟩
 have hl:=len _ _ _ _ hsp
 have KX:K.In s.heap:=e0.mod.kin.keeps fun b o e=>(e0.bs b o e).1
 have lim:s.heap.NoLimit:=e0.mod.nolimit.keeps fun b o e=>(e0.bs b o e).1
 have hkind:∀ y∈ps.zip us,scope.names.lookup y.1=some .local\/(scope.names.lookup y.1=some .cell/\((cellsFrom (s.heap.objs.size + 1) scope.names []).lookup y.1).isSome=true):=fun ⟨n,v⟩ hy=>by
  rcases S.par n (List.of_mem_zip hy).1 with q | q
  ·exact .inl q
  ·exact .inr ⟨q,PySem.W.cellsFrom_some _ _ _ (.inl q)⟩
 refine codeAny_call_function hr.depth (KX _ _ lk) rfl S.co S.gen rfl (PySem.W.codeRec_of KX hcd) (hb _ _ _ _ ?_)
 refine wpAny_newFunctionEnv_cells S.kind hkind fun env he s1 x=>?_
 subst he
 refine ⟨lim.keeps x.toInCall.keep,codeAny_func ?_⟩
 obtain ⟨t,ht,hq⟩:=hbody A outer s H vs Q E (hr.deeper _) hsp
 have I:Inv (cxOf CX P w K mg base N qual scope f cdv A outer s H E) [] (start N vs) H s1:=inv_start S hr.hd e0 hl r x
 refine wpAny_mono (ht [] s1 (start N vs) H _ I hq) (fun fl s' hs=>?_) fun e s' hs=>hs
 have fin:∀ {σ':St} {H':Hp} {v:V} {u:Value},Inv (cxOf CX P w K mg base N qual scope f cdv A outer s H E) [] σ' H' s'->RelV v u->Q v H'->CE outer P w H s Q u s' :=
  fun {σ' H' v u} J rv q=>⟨v,H',J.os,J.bare,J.base,J.hok,rv,q⟩
 cases fl with
 | ret u =>
  obtain ⟨v,σ',H',J,rv,q⟩:=hs
  exact fin J rv q
 | next =>
  obtain ⟨σ',H',J,q⟩:=hs
  exact fin (v:=V.non) (u:=Value.none) J rfl q
 | brk =>
  obtain ⟨_,_,_,q⟩:=hs
  exact False.elim q
 | cont =>
  obtain ⟨_,_,_,q⟩:=hs
  exact False.elim q
end L2
namespace L2
open PySem PySem.Spec PyProof.Rows
section
variable {X:Cx} {x:Str} {p pos:Pos} {e:Expr} {es:List Expr} {t:TA} {id T:String} {r:List V->Hp->VK->Prop}
def tCB (r:List V->Hp->VK->Prop) (t:TA):TE:=fun σ H Q=>t σ H fun vs H1=>r vs H1 Q
theorem pe_callB (hc:CallR X (.builtin id) r) (hg:Gl X x) (hm:X.mg x=none) (hv:bootBuiltins x=some (.builtin id)) (ha:PA X (e::es) t) (hn:x≠"__name__":=by decide) (hdb:(x == ("__debug__":Str))=false:=by decide)
  (he:starEach (e::es) X.env=(false,eval e X.env)::starEach es X.env:=by rfl) (hpl:(backTo pos (starEach es X.env)).any (·.1)=false:=by rfl):PE X (.Call (.Name x p) (e::es) [] pos) (tCB r t):=by
 intro pins s σ H Q I h
 refine wpAny_Call_Name_kw (ld_blt I hg hm hv ?_ hn hdb)
 exact PyProof.Rows.callWith_builtin1 (thn (ha pos pins s σ H _ I h) fun us s1 ⟨vs,H1,I1,r1,q1⟩=>hc pins s1 σ H1 vs us Q I1 r1 q1) he hpl
theorem pe_callTy (hc:CallR X (.type T) r) (hg:Gl X x) (hm:X.mg x=none) (hv:bootBuiltins x=some (.type T)) (ha:PA X (e::es) t) (hn:x≠"__name__":=by decide) (hdb:(x == ("__debug__":Str))=false:=by decide)
  (he:starEach (e::es) X.env=(false,eval e X.env)::starEach es X.env:=by rfl) (hpl:(backTo pos (starEach es X.env)).any (·.1)=false:=by rfl):PE X (.Call (.Name x p) (e::es) [] pos) (tCB r t):=by
 intro pins s σ H Q I h
 refine wpAny_Call_Name_kw (ld_blt I hg hm hv ?_ hn hdb)
 exact PyProof.Rows.callWith_type1 (thn (ha pos pins s σ H _ I h) fun us s1 ⟨vs,H1,I1,r1,q1⟩=>hc pins s1 σ H1 vs us Q I1 r1 q1) he hpl
end
end L2
namespace HT
open PySem PyProof.Rows
section
open PySem.SeqAt
open PySem.AutoSeq1 (wpAny_loadPart')
open PySem.MeetsSeq PySem.MeetsSeq2 PySem.MeetsSeq3
end
section
variable {prog:Program} {w:World} {A:Around} {E:Value->Shared->Prop} {s:Shared}
def sIx (n d:Nat):Option Int->Nat
 | none=>d
 | some v=>if v < 0 then (v + (n:Int)).toNat else min v.toNat n
theorem sIx_nat (n d k:Nat):sIx n d (some (k:Int))=min k n:=by
 show (if (k:Int) < 0 then ((k:Int) + (n:Int)).toNat else min (k:Int).toNat n)=min k n
 rw [if_neg (by omega),Int.toNat_natCast]
end
end HT
namespace L2
open PySem PySem.Spec PyProof.Rows
abbrev TO:=St->Hp->(Option Int->Hp->Prop)->Prop
def PO (X:Cx) (e:Option Expr) (t:TO):Prop :=
 ∀ (pins:List (Addr×Obj)) (s:Shared) (σ:St) (H:Hp) (Q:Option Int->Hp->Prop),Inv X pins σ H s->t σ H Q ->
  wpAny (model X.prog X.w) X.A (evalPart e X.env) (fun u s'=>∃ o H',Inv X pins σ H' s'/\IsPart u o/\Q o H') X.xe s
def tPart (t:TE):TO:=fun σ H Q=>t σ H fun x H1=>∃ i,x=.int i/\Q (some i) H1
section
variable {X:Cx} {e:Expr} {te:TE} {lo hi:Option Expr} {tl th:TO} {pos p2:Pos}
theorem po_some (h:PE X e te):PO X (some e) (tPart te):=by
 intro pins s σ H Q I hw
 rw [evalPart_some]
 refine thn (h pins s σ H _ I hw) fun u s1 ⟨x,H1,I1,r1,q1⟩=>?_
 obtain ⟨i,rfl,q⟩:=q1
 obtain ⟨t,rfl⟩:=r1
 exact ⟨some i,H1,I1,.int i t,q⟩
def SlR (X:Cx) (r:V->Option Int->Option Int->Hp->VK->Prop):Prop :=
 ∀ (pins:List (Addr×Obj)) (s:Shared) (σ:St) (H:Hp) (x:V) (v vl vu:Value) (lo hi:Option Int) (sl:Addr) (Q:VK),Inv X pins σ H s->RelV x v->s.heap.IsSliceOf sl vl vu .none->IsPart vl lo->IsPart vu hi->r x lo hi H Q ->
  ∃ T id,typeLookup (.type T) "__getitem__" = pure (some (.builtin id))/\s.TypeIs v T/\wpAny (model X.prog X.w) X.A (getItem v (.ref sl)) (EP X pins σ Q) X.xe s
def tSl (r:V->Option Int->Option Int->Hp->VK->Prop) (te:TE) (tl th:TO):TE:=fun σ H Q=>te σ H fun x H1=>tl σ H1 fun l H2=>th σ H2 fun u H3=>r x l u H3 Q
theorem pe_slice {r:V->Option Int->Option Int->Hp->VK->Prop} (hr:SlR X r) (he:PE X e te) (hl:PO X lo tl) (hu:PO X hi th):PE X (.Subscript e (.Slice lo hi none p2) pos) (tSl r te tl th):=by
 intro pins s σ H Q I h
 refine Subscript_ (thn (he pins s σ H _ I h) fun v s1 ⟨x,H1,I1,r1,q1⟩=>?_)
 refine wpAny_Slice (thn (hl pins s1 σ H1 _ I1 q1) fun vl s2 ⟨l,H2,I2,pl,q2⟩=>thn (hu pins s2 σ H2 _ I2 q2) fun vu s3 ⟨u,H3,I3,pu,q3⟩=>?_)
 rw [evalPart_none]
 refine wpAny_pure ?_
 have I4:Inv X pins σ H3 { s3 with heap:=s3.heap.push { cls:=.type "slice",data:=.fields #[vl,vu,.none] } }:=I3.kept (t':=s3.toks) fun b ob q=>Heap.get?_push_of_some _ q
 obtain ⟨T,id,hT,ht,hg⟩:=hr pins { s3 with heap:=s3.heap.push { cls:=.type "slice",data:=.fields #[vl,vu,.none] } } σ H3 x v vl vu l u s3.heap.objs.size Q I4 r1 (Heap.IsSliceOf.new ..) pl pu q3
 show wpAny (model X.prog X.w) X.A (subscriptTail e (.Slice lo hi none p2) v (.ref s3.heap.objs.size)) (EP X pins σ Q) X.xe { s3 with heap:=s3.heap.push { cls:=.type "slice",data:=.fields #[vl,vu,.none] } }
 exact tail_any (ops:=[.ref s3.heap.objs.size,v]) ht hT hg (by with_unfolding_all rfl)
def cutV (xs:List V) (lo hi:Option Int):List V:=(xs.drop (HT.sIx xs.length 0 lo)).take (HT.sIx xs.length xs.length hi - HT.sIx xs.length 0 lo)
theorem cutV_length (xs:List V) (lo hi:Option Int):(cutV xs lo hi).length<=xs.length:=by
 unfold cutV
 rw [List.length_take,List.length_drop]
 omega
end
end L2
namespace L2
open PySem PySem.Spec PyProof.Rows
def ixN (n:Nat) (i:Int):Option Nat:=if 0<=i then (if i < n then some i.toNat else none) else if -(n:Int)<=i then some (i + n).toNat else none
def atI {α:Type} (xs:List α) (i:Int):Option α:=(ixN xs.length i).bind fun j=>xs[j]?
theorem ixN_seq {n:Nat} {i:Int} {j:Nat} (h:ixN n i=some j):seqIndex? i n=some j/\j < n/\-(n:Int)<=i/\i < n:=by
 unfold ixN at h
 by_cases h0:0<=i
 ·rw [if_pos h0] at h
  by_cases h1:i < n
  ·rw [if_pos h1] at h
   have e:i.toNat=j:=Option.some.inj h
   exact ⟨by rw [seqIndex_of h0 h1,e],by omega,by omega,h1⟩
  ·rw [if_neg h1] at h;cases h
 ·rw [if_neg h0] at h
  by_cases h1:-(n:Int)<=i
  ·rw [if_pos h1] at h
   have e:(i + n).toNat=j:=Option.some.inj h
   exact ⟨by rw [seqIndex_neg (by omega) h1,e],by omega,h1,by omega⟩
  ·rw [if_neg h1] at h;cases h
theorem atI_get {α:Type} {xs:List α} {i:Int} {v:α} (h:atI xs i=some v):∃ j,seqIndex? i xs.length=some j/\xs[j]? = some v/\j < xs.length/\-(xs.length:Int)<=i/\i < xs.length:=by
 unfold atI at h
 cases e:ixN xs.length i with
 | none=>rw [e] at h;cases h
 | some j =>
  rw [e] at h
  obtain ⟨h1,h2,h3,h4⟩:=ixN_seq e
  exact ⟨j,h1,h,h2,h3,h4⟩
def PlainIx (b:Expr):Prop:=∀ o i,subscripted b false o i=operate [o,i] (getItem o i)
def IxR (X:Cx) (r:R2):Prop :=
 ∀ (value slice:Expr) (pins:List (Addr×Obj)) (s:Shared) (σ:St) (H:Hp) (x y:V) (v u:Value) (Q:VK),Inv X pins σ H s->RelV x v->RelV y u->r x y H Q ->
  subscripted slice false v u=operate [v,u] (getItem v u)->wpAny (model X.prog X.w) X.A (subscriptTail value slice v u) (EP X pins σ Q) X.xe s
def MtR (X:Cx) (id:String) (r:V->List V->Hp->VK->Prop):Prop :=
 ∀ (pins:List (Addr×Obj)) (s:Shared) (σ:St) (H:Hp) (x:V) (xs:List V) (v:Value) (us:List Value) (Q:VK),Inv X pins σ H s->RelV x v->Vals xs us->r x xs H Q ->
  wpAny (model X.prog X.w) X.A (call (.builtin id) (v::us)) (EP X pins σ Q) X.xe s
section
variable {X:Cx} {a b:Expr} {ta tb:TE} {pos:Pos}
theorem IxR.or {r r':R2} (h:IxR X r) (h':IxR X r'):IxR X (fun x y H Q=>r x y H Q\/r' x y H Q):=by
 intro value slice pins s σ H x y v u Q I rx ry q hs
 rcases q with q | q
 ·exact h value slice pins s σ H x y v u Q I rx ry q hs
 ·exact h' value slice pins s σ H x y v u Q I rx ry q hs
theorem pe_ix {r:R2} (hr:IxR X r) (ha:PE X a ta) (hb:PE X b tb) (hs:PlainIx b):PE X (.Subscript a b pos) (tOp r ta tb):=by
 intro pins s σ H Q I h
 exact Subscript_ (binT ha hb I h fun v u s2 x y H2 I2 rx ry q=>hr a b pins s2 σ H2 x y v u Q I2 rx ry q (hs _ _))
def rIxL (K:PySem.W.Frag):R2:=fun x y H Q=>∃ p xs i v,x=.ref p/\y=.int i/\SqL K H p xs/\atI xs i=some v/\Q v H
def rIxT (K:PySem.W.Frag):R2:=fun x y H Q=>∃ p xs i v,x=.ref p/\y=.int i/\SqT K H p xs/\atI xs i=some v/\Q v H
def rIxS:R2:=fun x y H Q=>∃ z i c,x=.str z/\y=.int i/\z.length<=sizeLine/\atI z.cps.toList i=some c/\Q (.str ⟨#[c]⟩) H
theorem ix_list:IxR X (rIxL X.K):=by
 intro value slice pins s σ H x y v u Q I rx ry h hs
 obtain ⟨p,xs,i,z,rfl,rfl,hq,he,q⟩:=h
 cases rx
 obtain ⟨t,rfl⟩:=ry
 obtain ⟨its,r,pl,hz⟩:=I.list hq
 obtain ⟨j,h1,h2,h3,h4,h5⟩:=atI_get he
 obtain ⟨w,ew,rw'⟩:=r.get h2
 have hl:=r.length
 have hn:=line63
 have fin:EP X pins σ Q w s:=⟨z,H,I,rw',q⟩
 by_cases h0:0<=i
 ·have hj:i.toNat=j:=by
   rw [seqIndex_of h0 h5] at h1
   exact Option.some.inj h1
  exact item_listR pl.isList h0 (by omega) (by rw [hj];simpa using ew) fin hs
 ·have hj:(i + (its.toArray.size:Int)).toNat=j:=by
   rw [seqIndex_neg (by omega) h4] at h1
   rw [List.size_toArray,← hl]
   exact Option.some.inj h1
  exact subscriptTail_builtinR (x:=w) pl.isList.typeIs slot_list_getitem.lookup
   (wpAny_getItem_list_neg (Q:=fun r s'=>r=w/\EP X pins σ Q r s') pl.isList (by omega) (by rw [List.size_toArray] <;> omega) (by omega) (by rw [hj];simpa using ew) ⟨rfl,fin⟩) hs
theorem ix_tup:IxR X (rIxT X.K):=by
 intro value slice pins s σ H x y v u Q I rx ry h hs
 obtain ⟨p,xs,i,z,rfl,rfl,hq,he,q⟩:=h
 cases rx
 obtain ⟨t,rfl⟩:=ry
 obtain ⟨its,r,pl,hz⟩:=I.tuple hq
 obtain ⟨j,h1,h2,h3,h4,h5⟩:=atI_get he
 obtain ⟨w,ew,rw'⟩:=r.get h2
 have hl:=r.length
 have hn:=line63
 have fin:EP X pins σ Q w s:=⟨z,H,I,rw',q⟩
 exact subscriptTail_builtinR (x:=w) pl.typeIs slot_tuple_getitem.lookup
  (getItem_tuple (j:=j) (Q:=fun r s'=>r=w/\EP X pins σ Q r s') pl (by omega) (by omega) (by rw [List.size_toArray,← hl];exact h1) (by simpa using ew) ⟨rfl,fin⟩) hs
theorem ix_str:IxR X rIxS:=by
 intro value slice pins s σ H x y v u Q I rx ry h hs
 obtain ⟨z,i,c,rfl,rfl,hz,he,q⟩:=h
 obtain ⟨t,rfl⟩:=rx
 obtain ⟨t',rfl⟩:=ry
 obtain ⟨j,h1,h2,h3,h4,h5⟩:=atI_get he
 have hl:z.cps.toList.length=z.length:=by simp [Str.length]
 rw [hl] at h1 h4 h5
 have hn:=line63
 exact tail_any (typeIs_str s z t) slot_str_getitem.lookup (getItem_str (c:=c) (by
  have e1:decide (i < -(2 ^ 63:Int))=false:=decide_eq_false (by omega)
  have e2:decide (i ≥ 2 ^ 63)=false:=decide_eq_false (by omega)
  rw [e1,e2,Bool.or_false]) (by rw [h1];simpa using h2) ⟨.str ⟨#[c]⟩,H,I.tok _,⟨_,rfl⟩,q⟩) hs
def rIx (K:PySem.W.Frag):R2:=fun x y H Q=>rIxL K x y H Q\/rIxT K x y H Q\/rIxS x y H Q
theorem ix_seq:IxR X (rIx X.K):=ix_list.or (ix_tup.or ix_str)
theorem Inv.lst {pins:List (Addr×Obj)} {σ:St} {H:Hp} {s:Shared} {p:Addr} {xs:List V} (I:Inv X pins σ H s) (h:H p=some (.lst xs)) :
  ∃ (its:List Value) (n:Nat),Vals xs its/\s.heap.get? p=some { cls:=.type "list",data:=.seq its.toArray n }/\xs.length<=sizeLine:=by
 obtain ⟨z,its,n,r,e⟩:=I.hok p _ h
 exact ⟨its,n,r,e,z⟩
theorem slice_bounds (lo hi:Option Int) (n:Nat):(sliceBounds lo hi none n).1=((HT.sIx n 0 lo:Nat):Int)/\(sliceBounds lo hi none n).2.1=((HT.sIx n n hi:Nat):Int)/\(sliceBounds lo hi none n).2.2=1:=by
 refine ⟨?_,?_,rfl⟩
 ·cases lo with
  | none=>simp [sliceBounds,HT.sIx]
  | some i =>
   simp only [sliceBounds,HT.sIx,Option.getD_none,show (1:Int) > 0 by decide,if_true]
   by_cases h:i < 0
   ·simp only [h,if_true] <;> omega
   ·simp only [h,if_false] <;> omega
 ·cases hi with
  | none=>simp [sliceBounds,HT.sIx]
  | some i =>
   simp only [sliceBounds,HT.sIx,Option.getD_none,show (1:Int) > 0 by decide,if_true]
   by_cases h:i < 0
   ·simp only [h,if_true] <;> omega
   ·simp only [h,if_false] <;> omega
theorem slicePick_cut (its:List Value) (lo hi:Option Int):slicePick its.toArray lo hi none=((its.drop (HT.sIx its.length 0 lo)).take (HT.sIx its.length its.length hi - HT.sIx its.length 0 lo)).toArray:=by
 obtain ⟨h1,h2,h3⟩:=slice_bounds lo hi its.toArray.size
 unfold slicePick
 rw [h1,h2,h3]
 simp only [sliceRange_one,pick_run,List.size_toArray] <;> rfl
def rSlL (K:PySem.W.Frag):V->Option Int->Option Int->Hp->VK->Prop:=fun x lo hi H Q=>∃ a xs,x=.ref a/\SqL K H a xs/\∀ p,H p=none->Q (.ref p) (upd H p (.lst (cutV xs lo hi)))
theorem sl_list:SlR X (rSlL X.K):=by
 intro pins s σ H x v vl vu lo hi sl Q I rx hs pl pu h
 obtain ⟨a,xs,rfl,hx,q⟩:=h
 cases rx
 obtain ⟨its,r,ht,hz⟩:=I.list hx
 have hlen:=r.length
 refine ⟨"list",_,slot_list_getitem.lookup,ht.isList.typeIs,?_⟩
 refine wpAny_getItem_list_slice ht.isList hs pl pu .none (by simp) ?_ (by rw [List.size_toArray] <;> omega)
 rw [slicePick_cut,← hlen]
 refine ⟨.ref s.heap.objs.size,_,I.laid (t':=s.toks) (o:=.lst (cutV xs lo hi)) (fun b ob q=>Heap.get?_push_of_some _ q) (Nat.le_refl _) ?_,rfl,q _ (I.hok.fresh (Nat.le_refl _))⟩
 exact ⟨Nat.le_trans (cutV_length xs lo hi) hz,_,0,(r.drop (HT.sIx xs.length 0 lo)).take (HT.sIx xs.length xs.length hi - HT.sIx xs.length 0 lo),Heap.get?_push_size _ rfl⟩
def flatV:V->Bool
 | .non=>true
 | .bl _=>true
 | .int _=>true
 | .str _=>true
 | _=>false
def eqV:V->V->Bool
 | .non,.non=>true
 | .bl a,.bl b=>a == b
 | .bl a,.int b=>(if a then 1 else 0) == b
 | .int a,.bl b=>a == (if b then 1 else 0)
 | .int a,.int b=>a == b
 | .str a,.str b=>a == b
 | _,_=>false
theorem eqAt_V {A:Around} {s:Shared} {y x:V} {u v:Value} (ry:RelV y u) (rx:RelV x v) (fy:flatV y=true) (fx:flatV x=true):SeqAt.EqAt A s u v (eqV y x):=by
 cases y with
 | non =>
  cases ry
  cases x with
  | non=>cases rx;exact SeqAt.EqAt.same _
  | bl b=>cases rx;exact SeqAt.EqAt.none_bool b
  | int b=>obtain ⟨t,rfl⟩:=rx;exact SeqAt.EqAt.none_int b t
  | str b=>obtain ⟨t,rfl⟩:=rx;exact SeqAt.EqAt.none_str b t
  | _=>exact absurd (show false=true from fx) Bool.false_ne_true
 | bl a =>
  cases ry
  cases x with
  | non=>cases rx;exact SeqAt.EqAt.bool_none a
  | bl b=>cases rx;exact SeqAt.EqAt.bool_bool a b
  | int b=>obtain ⟨t,rfl⟩:=rx;exact SeqAt.EqAt.bool_int a b t
  | str b=>obtain ⟨t,rfl⟩:=rx;exact SeqAt.EqAt.bool_str a b t
  | _=>exact absurd (show false=true from fx) Bool.false_ne_true
 | int a =>
  obtain ⟨t',rfl⟩:=ry
  cases x with
  | non=>cases rx;exact SeqAt.EqAt.int_none a t'
  | bl b=>cases rx;exact SeqAt.EqAt.int_bool a t' b
  | int b=>obtain ⟨t,rfl⟩:=rx;exact SeqAt.EqAt.int_int a t' b t
  | str b=>obtain ⟨t,rfl⟩:=rx;exact SeqAt.EqAt.int_str a t' b t
  | _=>exact absurd (show false=true from fx) Bool.false_ne_true
 | str a =>
  obtain ⟨t',rfl⟩:=ry
  cases x with
  | non=>cases rx;exact SeqAt.EqAt.str_none a t'
  | bl b=>cases rx;exact SeqAt.EqAt.str_bool a t' b
  | int b=>obtain ⟨t,rfl⟩:=rx;exact SeqAt.EqAt.str_int a t' b t
  | str b=>obtain ⟨t,rfl⟩:=rx;exact SeqAt.EqAt.str_str a t' b t
  | _=>exact absurd (show false=true from fx) Bool.false_ne_true
 | _=>exact absurd (show false=true from fy) Bool.false_ne_true
theorem call_len_seq:CallR X (.builtin "len") (fun xs H Q=>∃ p ys,xs=[.ref p]/\(SqL X.K H p ys\/SqT X.K H p ys)/\Q (.int ys.length) H):=by
 intro pins s σ H xs us Q I r h
 obtain ⟨p,ys,rfl,hq,q⟩:=h
 obtain ⟨u,rfl,rx⟩:=vals1 r
 cases rx
 have hn:=line63
 rcases hq with hq | hq
 ·obtain ⟨its,r',pl,hz⟩:=I.list hq
  have hlen:=r'.length
  exact Calls.call_len_list pl.isList (by simp only [List.size_toArray] <;> omega) ⟨.int ys.length,H,I.tok _,⟨s.toks + 1,by rw [List.size_toArray,hlen]⟩,q⟩
 ·obtain ⟨its,r',pl,hz⟩:=I.tuple hq
  have hlen:=r'.length
  exact len_tuple pl (by simp only [List.size_toArray] <;> omega) ⟨.int ys.length,H,I.tok _,⟨s.toks + 1,by rw [List.size_toArray,hlen]⟩,q⟩
theorem call_len_str:CallR X (.builtin "len") (fun xs H Q=>∃ z,xs=[.str z]/\z.length<=sizeLine/\Q (.int z.length) H):=by
 intro pins s σ H xs us Q I r h
 obtain ⟨z,rfl,hz,q⟩:=h
 obtain ⟨u,rfl,t,rfl⟩:=vals1 r
 have hn:=line63
 exact len_str (by omega) ⟨.int z.length,H,I.tok _,⟨_,rfl⟩,q⟩
theorem CallR.or {f:Value} {r r':List V->Hp->VK->Prop} (h:CallR X f r) (h':CallR X f r'):CallR X f (fun xs H Q=>r xs H Q\/r' xs H Q):=by
 intro pins s σ H xs us Q I rs q
 rcases q with q | q
 ·exact h pins s σ H xs us Q I rs q
 ·exact h' pins s σ H xs us Q I rs q
def tyV (K:PySem.W.Frag) (T:String) (x:V) (H:Hp):Prop:=match x with
 | .str _=>T = "str"
 | .int _=>T = "int"
 | .ref p=>(T = "list"/\∃ xs,SqL K H p xs)\/(T = "tuple"/\∃ o,K.lookup p=some o/\o.cls=.type "tuple"/\o.dict=none) \/
   (T = "dict"/\((∃ kvs,H p=some (.dK kvs))\/∃ kvs,H p=some (.dT kvs)))\/(T = "set"/\∃ S n,H p=some (.set S n))
 | _=>False
theorem tyV_is {pins:List (Addr×Obj)} {σ:St} {H:Hp} {s:Shared} {T:String} {x:V} {v:Value} (I:Inv X pins σ H s) (r:RelV x v) (ty:tyV X.K T x H) :
  s.TypeIs v T/\∀ a,v=.ref a->∃ ob,s.heap.get? a=some ob/\ob.dict=none:=by
 cases x with
 | str z =>
  obtain ⟨t,rfl⟩:=r
  cases (show T = "str" from ty)
  exact ⟨typeIs_str s z t,fun _ e=>nomatch e⟩
 | int i =>
  obtain ⟨t,rfl⟩:=r
  cases (show T = "int" from ty)
  exact ⟨typeIs_int s i t,fun _ e=>nomatch e⟩
 | ref p =>
  cases r
  rcases ty with ⟨rfl,xs,hq⟩ | ⟨rfl,o,hk,hc,hd⟩ | ⟨rfl,hk⟩ | ⟨rfl,S,n,hk⟩
  ·obtain ⟨its,_,pl,_⟩:=I.list hq
   refine ⟨pl.isList.typeIs,fun a e=>?_⟩
   cases e
   obtain ⟨o,n,e,c,hd,_⟩:=pl
   exact ⟨o,e,hd⟩
  ·refine ⟨⟨o,I.kIn p o hk,hc⟩,fun a e=>?_⟩
   cases e
   exact ⟨o,I.kIn _ o hk,hd⟩
  ·have z:∃ o,s.heap.get? p=some o/\o.ExactDict:=by
    rcases hk with ⟨kvs,hk⟩ | ⟨kvs,hk⟩
    ·obtain ⟨_,_,_,_,o,_,_,e,ex,_⟩:=I.hok p _ hk
     exact ⟨o,e,ex⟩
    ·obtain ⟨_,_,_,_,o,_,_,e,ex,_⟩:=I.hok p _ hk
     exact ⟨o,e,ex⟩
   obtain ⟨o,e,ex⟩:=z
   refine ⟨⟨o,e,ex.1⟩,fun a e2=>?_⟩
   cases e2
   exact ⟨o,e,ex.2.1⟩
  ·obtain ⟨o,_,_,_,e,ex,_⟩:=I.hok p _ hk
   refine ⟨⟨o,e,ex.1⟩,fun a e2=>?_⟩
   cases e2
   exact ⟨o,e,ex.2.1⟩
 | _=>exact False.elim ty
def tBM0 (K:PySem.W.Frag) (T:String) (r:V->List V->Hp->VK->Prop) (to:TE):TE:=fun σ H Q=>to σ H fun x H1=>tyV K T x H1/\r x [] H1 Q
def tBM (K:PySem.W.Frag) (T:String) (r:V->List V->Hp->VK->Prop) (to:TE) (t:TA):TE:=fun σ H Q=>to σ H fun x H1=>tyV K T x H1/\t σ H1 fun xs H2=>r x xs H2 Q
variable {o e:Expr} {es:List Expr} {to:TE} {t:TA} {name:Str} {apos cpos:Pos} {T id:String} {r:V->List V->Hp->VK->Prop}
theorem pe_bm0 (pa:PlainAttrs T) (slot:Slot T name id) (hty:typeOf (.builtin id)=pure (.type "method_descriptor")) (hm:MtR X id r) (ho:PE X o to)
  (hbase:attributeBase o name X.env (eval o X.env)=eval o X.env:=by rfl) (hline:(apos.endLine == cpos.line)=true:=by rfl):PE X (.Call (.Attribute o name apos) [] [] cpos) (tBM0 X.K T r to):=by
 intro pins s σ H Q I h
 refine wpAny_Call_method0_late hbase hline (thn (ho pins s σ H _ I h) fun v s1 ⟨x,H1,I1,r1,ty,q1⟩=>?_)
 obtain ⟨h1,h2⟩:=tyV_is I1 r1 ty
 exact ⟨T,id,pa,slot,hty,h1,h2,Calls.callWith_builtin rfl (PySem.evalArgs_none (hm pins s1 σ H1 x [] v [] Q I1 r1 .nil q1))⟩
theorem pe_bm (pa:PlainAttrs T) (slot:Slot T name id) (hty:typeOf (.builtin id)=pure (.type "method_descriptor")) (hm:MtR X id r) (ho:PE X o to) (ha:PA X (e::es) t)
  (hbase:attributeBase o name X.env (eval o X.env)=eval o X.env:=by rfl)
  (hfew:((backTo cpos (starEach (e::es) X.env)).all (fun x=>!x.1) && (backToKw cpos (keywordEach [] X.env)).all (fun x=>x.1.isSome)
   && decide ((e::es).length + ([]:List Keyword).length + (if ([]:List Keyword).isEmpty then 0 else 1) < 30))=true:=by rfl)
  (hline:(apos.endLine == cpos.line)=true:=by rfl) (hs:starEach (e::es) X.env=(false,eval e X.env)::starEach es X.env:=by rfl) (hplain:(backTo cpos (starEach es X.env)).any (·.1)=false:=by rfl) :
  PE X (.Call (.Attribute o name apos) (e::es) [] cpos) (tBM X.K T r to t):=by
 intro pins s σ H Q I h
 refine wpAny_Call_method_late hbase hfew hline rfl (thn (ho pins s σ H _ I h) fun v s1 ⟨x,H1,I1,r1,ty,q1⟩=>?_)
 obtain ⟨h1,h2⟩:=tyV_is I1 r1 ty
 refine ⟨T,id,pa,slot,hty,h1,h2,?_⟩
 have hA:=ha cpos pins s1 σ H1 _ I1 q1
 rw [hs] at hA ⊢
 refine Calls.callWith_builtin (by show (false || (backTo cpos (starEach es X.env)).any (·.1))=false;rw [hplain] <;> rfl) (Calls.evalArgs_plain ?_)
 exact thn hA fun us s2 ⟨vs,H2,I2,r2,q2⟩=>hm pins s2 σ H2 x vs v us Q I2 r1 r2 q2
end
end L2
namespace L2
open PySem PySem.Spec PyProof.Rows
def MtM (X:Cx) (id:String) (r:V->List V->Hp->VK->Prop):Prop :=
 ∀ (pins:List (Addr×Obj)) (s:Shared) (σ:St) (H:Hp) (x:V) (xs:List V) (v:Value) (us:List Value) (Q:VK),Inv X pins σ H s->RelV x v->Vals xs us->r x xs H Q ->
  wpAny (model X.prog X.w) X.A (call (.builtin id) (v::us)) (EP X pins σ Q) X.xe s
theorem Vals.one:∀ {x:V} {us:List Value},Vals [x] us->∃ u,us=[u]/\RelV x u
 | _,_,.cons r .nil=>⟨_,rfl,r⟩
section
variable {X:Cx} {pins:List (Addr×Obj)} {σ:St} {H:Hp} {s:Shared} {l b:Addr} {xs ys zs:List V}
theorem Inv.lset {its its':List Value} {n:Nat} {f:Array Value->Array Value} {t':Nat} (I:Inv X pins σ H s) (hH:H l=some (.lst xs))
  (e:s.heap.get? l=some { cls:=.type "list",data:=.seq its.toArray n }) (hf:f its.toArray=its'.toArray) (hv:Vals ys its') (hz:ys.length<=sizeLine) :
  Inv X pins σ (upd H l (.lst ys)) { s with heap:=s.heap.update l (Obj.mapSeq f),toks:=t' }:=by
 have q:=PySem.IsL.update e f
 rw [hf] at q
 refine I.write (x:=l) (e:=l) (by rw [hH];exact trivial) (.inl rfl) (fun b' u hb hu=>(Heap.get?_update_other s.heap (Obj.mapSeq f) (Ne.symm hb)).trans hu) ⟨_,q⟩ ?_
 exact ⟨hz,its',_,hv,q⟩
theorem Inv.lnew {its:List Value} {t':Nat} (I:Inv X pins σ H s) (hv:Vals ys its) (hz:ys.length<=sizeLine) :
  Inv X pins σ (upd H s.heap.objs.size (.lst ys)) { s with heap:=s.heap.push { cls:=.type "list",data:=.seq its.toArray },toks:=t' } :=
 I.laid (fun _ _ q=>Heap.get?_push_of_some _ q) (Nat.le_refl _) ⟨hz,its,0,hv,Heap.get?_push_size _ rfl⟩
theorem Inv.fresh (I:Inv X pins σ H s):H s.heap.objs.size=none:=I.hok.fresh (Nat.le_refl _)
theorem Inv.lstM (I:Inv X pins σ H s) (hH:H l=some (.lst xs)):xs.length<=sizeLine/\∃ (its:List Value) (n:Nat),Vals xs its/\xs.length=its.length/\s.heap.get? l=some { cls:=.type "list",data:=.seq its.toArray n }:=by
 obtain ⟨z,its,n,r,e⟩:=I.hok l _ hH
 exact ⟨z,its,n,r,r.length,e⟩
theorem notLongL {n:Nat} (h:n<=sizeLine):Builtin.List.listTooLong n=false:=by
 unfold Builtin.List.listTooLong
 exact decide_eq_false (by omega)
end
section
variable {X:Cx}
def rAppend:V->List V->Hp->VK->Prop:=fun x vs H Q=>∃ l xs y,x=.ref l/\vs=[y]/\H l=some (.lst xs)/\xs.length < sizeLine/\Q .non (upd H l (.lst (xs++[y])))
theorem mt_append:MtM X "list.append" rAppend:=by
 intro pins s σ H x vs v us Q I rx rv h
 obtain ⟨l,xs,y,rfl,rfl,hH,hz,q⟩:=h
 cases rx
 obtain ⟨u,rfl,ru⟩:=rv.one
 obtain ⟨z,its,n,r,hl,e⟩:=I.lstM hH
 refine call_meets F.slot_list_append ⟨_,e,rfl⟩ F.entry_list_append (F.args_list_append_2 _ _) (PySem.list_append l its.toArray n u (by rw [List.size_toArray];omega)) ⟨e,?_⟩
 refine ⟨.non,_,I.lset (its':=its++[u]) hH e (by simp) (r.append (.cons ru .nil)) ?_,rfl,q⟩
 rw [List.length_append,List.length_singleton]
 omega
def rExtend:V->List V->Hp->VK->Prop:=fun x vs H Q=>∃ l b xs zs,x=.ref l/\vs=[.ref b]/\H l=some (.lst xs)/\H b=some (.lst zs)/\xs.length + zs.length<=sizeLine/\Q .non (upd H l (.lst (xs++zs)))
theorem mt_extend:MtM X "list.extend" rExtend:=by
 intro pins s σ H x vs v us Q I rx rv h
 obtain ⟨l,b,xs,zs,rfl,rfl,hH,hB,hz,q⟩:=h
 cases rx
 obtain ⟨u,rfl,ru⟩:=rv.one
 cases ru
 obtain ⟨z,its,n,r,hl,e⟩:=I.lstM hH
 obtain ⟨z2,its2,n2,r2,hl2,e2⟩:=I.lstM hB
 have hsz:its.toArray.size + its2.toArray.size<=sizeLine:=by rw [List.size_toArray,List.size_toArray];omega
 have hlong:¬ (!its.toArray.isEmpty && Builtin.List.listTooLong (its.toArray.size + its2.toArray.size))=true:=by
  rw [notLongL hsz,Bool.and_false]
  exact Bool.false_ne_true
 refine call_meets F.slot_list_extend ⟨_,e,rfl⟩ F.entry_list_extend (F.args_list_extend_2 _ _)
  (AutoSeq1.list_extend_list_list_0 l its.toArray n b its2.toArray n2 hlong (by rw [List.size_toArray];omega) (by omega)) ⟨e,e2,?_⟩
 refine ⟨.non,_,I.lset (its':=its++its2) hH e (by simp) (r.append r2) ?_,rfl,q⟩
 rw [List.length_append]
 omega
end
section
variable {prog:Program} {w:World} {A:Around} {E:Value->Shared->Prop} {s:Shared}
end
section
variable {X:Cx}
end
end L2
namespace Att
open PySem PySem.W PySem.Calls PyProof.Rows
theorem ints_of_wellAll {P:Params} {h:Heap}:∀ (ns:List Int) (vs:List Value),WellAll P h vs (ns.map WData.int)->IntsAre vs ns:=by
 intro ns
 induction ns with
 | nil =>
  intro vs w
  rw [List.map_nil] at w
  cases w
  exact .nil
 | cons n ns ih =>
  intro vs w
  rw [List.map_cons] at w
  cases w with
  | cons a b =>
   cases a
   exact .cons _ _ (ih _ b)
theorem script_of {l:OpenLaw} {n:Nat} (hn:l.most=some n) {P:Params} {h:Heap} {args:List WData} {vals:List Value}
  (hpre:l.row.toRowW.claim.pre args=true) (hwl:WellAll P h vals args) :
  ∃ a vs ns,vals=[Value.ref a]/\args=[WData.list (ns.map WData.int)]/\h.get? a=some { cls:=.type "list",data:=.seq vs.toArray }/\IntsAre vs ns/\ns.length<=n:=by
 have hsh:WShape.hasAll [] args [.list .int]=true:=(pre_splitW hpre).1
 have hc:l.pre.holds [] { args:=args }=true:=(pre_splitW hpre).2
 obtain ⟨d,r,rfl,h1,h2⟩:=hasAllW_cons hsh
 obtain rfl:=hasAllW_nil h2
 obtain ⟨xs,rfl,h3⟩:=hasW_list h1
 obtain ⟨ns,rfl⟩:=items_int h3
 have hlen:ns.length<=n:=by
  unfold OpenLaw.pre at hc
  have h4:(WTm.not (.lt (.lit (.int (n:Int))) (.len (.arg 0)))).holds [] { args:=[.list (ns.map .int)] }=true:=by
   have h4:=(holds_andW hc).1
   rw [hn] at h4
   exact h4
  have h5:=condW_of h4 (w_not (w_lt w_lit (w_len_list (w_arg rfl))))
  rw [List.length_map] at h5
  refine Nat.le_of_not_lt fun q=>?_
  have q':(n:Int) < ((ns.length:Nat):Int):=by omega
  first
   | (rw [decide_eq_true q'] at h5;exact absurd h5 (by decide))
   | (simp at h5;omega)
 cases hwl with
 | cons w1 w2 =>
  cases w2
  cases w1 with
  | list ho hall=>exact ⟨_,_,ns,rfl,rfl,ho,ints_of_wellAll ns _ hall,hlen⟩
theorem post_true (l:OpenLaw) (args:List WData):l.row.toRowW.claim.post args (.bool true) args=true :=
 postW_of (r:=l.row.toRowW) (X:=(true == true))
  (show WShape.has [] (.bool true) .bool=true by first | rfl | decide | simp [WShape.has,WShape.arms,WShape.armsAll])
  (show (WTm.eq .res (.lit (.bool true))).value [] { args:=args,res:=some (.bool true),after:=args }=some (.bool (true == true)) from w_eq_bool (w_res rfl) w_lit) rfl
theorem attach_call {l:OpenLaw} {n:Nat} {q:Program} {loose:List Str} {XP:(Str->Option Value)->Heap->Prop} {YP:World->Heap->Prop} {d:DefRec}
  (hn:l.most=some n) (hdf:d.params.defaults=[])
  (call:∀ (w:World) (s₀ s₁:Shared) (mg mb:Str->Option Value) (fa:Addr) (o:Obj) (pm cd doc:Value) (a:Addr) (vs:List Value) (ns:List Int),
   Ground q loose [] XP w s₀ mg mb s₁.heap->YP w s₁.heap ->
   s₁.heap.get? fa=some o->o.data=.func (docDef d.name d.params d.body d.scope pm cd doc)->s₁.heap.CodeRec cd d.name->mg d.name=some (.ref fa) ->
   s₁.heap.get? a=some { cls:=.type "list",data:=.seq vs.toArray }->IntsAre vs ns->ns.length<=n->s₁.gens=#[] ->
   codeAny (model l.prog w) callerA (.call (.ref fa) ⟨[.ref a],[]⟩) (fun r s'=>r=.ok (.ret (.bool true))/\OldK s₁.heap s'.heap/\s'.os=s₁.os/\AllBare s'.gens) s₁) :
  WalkO q loose XP YP l.row.toRowW d [] (fun f vs=>PySem.call f vs):=by
 intro w s₀ s₁ mg mb G Y fa o pm cd doc dV kV ho hd hcd hD hmg hg args vals as hpre hlay hrd hwl hlo
 obtain rfl:dV=.none:=Dflts.none hD hdf
 obtain rfl:kV=.none:=Dflts.noKw hD
 obtain ⟨a,vs,ns,rfl,rfl,hobj,hints,hlen⟩:=script_of hn hpre hwl
 refine enter_call (codeAny_mono (call w s₀ s₁ mg mb fa o pm cd doc a vs ns G Y ho (fd_plain hd) hcd hmg hobj hints hlen hg) fun r s' hq=>?_)
 obtain ⟨rfl,h2,h3,h4⟩:=hq
 exact ⟨.inl ⟨.bool true,.bool true,[],rfl,fun _=>rfl,.bool true,post_true l _,fun _=>⟨List.Pairwise.nil,fun _ hm=>(nomatch hm)⟩⟩,h2,h3,h4⟩
section
variable {prog:Program} {w:World} {A:Around} {E:Value->Shared->Prop} {s:Shared} {K:Frag}
end
end Att
namespace L2
open PySem PySem.Spec PyProof.Rows
theorem vals_ints:∀ {vs:List Value} {ns:List Int},IntsAre vs ns->Vals (ns.map V.int) vs
 | _,_,.nil=>.nil
 | _,_,.cons n t h=>.cons ⟨t,rfl⟩ (vals_ints h)
def Only (H:Hp):Prop:=∀ b,H b=none\/∃ o xs,H b=some (.frz o (.lst xs))
theorem law_call {P:Program} {w:World} {K:PySem.W.Frag} {mg mb:Str->Option Value} {CX:CXT} {k:Nat} {fa a:Addr} {fd:FuncData} {x:Str} {sp:Sp} {s₁:Shared} {vs:List Value} {ns:List Int}
  (KX:K.In s₁.heap) (hns:s₁.heap.Ns mainGlobals mg) (hb:s₁.heap.Ns builtinsNs mb) (hbb:∀ x:Str,x≠"__name__"->mb x=bootBuiltins x) (hlim:s₁.heap.NoLimit) (hg:s₁.gens=#[])
  (ha:s₁.heap.get? a=some { cls:=.type "list",data:=.seq vs.toArray }) (hi:IntsAre vs ns) (hl:ns.length<=sizeLine) (hr:Room k callerA)
  (F:∀ base:Heap,K.In base->base.Ns mainGlobals mg->FnOk P w K mg base CX k fa fd [x] sp) (hbind:∀ (s:Shared) (u:Value),BindsTo s fd ⟨[u],[]⟩ [(x,u)])
  (hsp:∀ H:Hp,Only H->SqL K H a (ns.map V.int)->sp [.ref a] H (fun v _=>v=.bl true) fun _ _ _=>False)
  (hCX:∀ H e s',CX [] H s₁ (fun _ _ _=>False) e s'->False) :
  codeAny (model P w) callerA (.call (.ref fa) ⟨[.ref a],[]⟩) (fun r s'=>r=.ok (.ret (.bool true))/\OldK s₁.heap s'.heap/\s'.os=s₁.os/\AllBare s'.gens) s₁:=by
 have rv:=vals_ints hi
 have lenV:=hi.length
 have core:∀ H:Hp,Only H->SqL K H a (ns.map V.int)->HOk P w H s₁.heap->(∀ b,H b≠none->b=a)->(H a≠none->K.lookup a=none) ->
   codeAny (model P w) callerA (.call (.ref fa) ⟨[.ref a],[]⟩) (fun r s'=>r=.ok (.ret (.bool true))/\OldK s₁.heap s'.heap/\s'.os=s₁.os/\AllBare s'.gens) s₁:=by
  intro H hO hS hok hA hK
  have base_of:∀ {b:Addr} {o:Obj},s₁.heap.get? b=some o->H b=none->(hidT s₁.heap H).get? b=some o:=fun e n=>hidT_get e n
  have noA:∀ {b:Addr} {o:Obj} {es:Array DictEntry} {ep:Nat},s₁.heap.get? b=some o->o.data=.dict es ep->H b=none:=fun {b o es ep} e d=>by
   cases q:H b with
   | none=>rfl
   | some u =>
    have e':b=a:=hA b (by rw [q];simp)
    subst e'
    rw [ha] at e;cases e
    have d':Data.seq vs.toArray _=Data.dict es ep:=d
    cases d'
  have nsK:∀ {b:Addr} {m:Str->Option Value},s₁.heap.Ns b m->(hidT s₁.heap H).Ns b m:=fun {b m} ⟨o,es,ep,e,d,r⟩=>⟨o,es,ep,base_of e (noA e d),d,r⟩
  have hKb:K.In (hidT s₁.heap H):=fun b o e=>base_of (KX b o e) (by
   cases q:H b with
   | none=>rfl
   | some u =>
    have e':b=a:=hA b (by rw [q];simp)
    subst e'
    rw [hK (by rw [q];simp)] at e;cases e)
  have hM:Mod K mg (hidT s₁.heap H):=⟨hKb,nsK hns,⟨mb,nsK hb,hbb⟩,let ⟨mc,h1,h2⟩:=hlim;⟨mc,nsK h1,h2⟩⟩
  have e0:Env0 P w K mg (hidT s₁.heap H) callerA [] s₁ H:=⟨rfl,hM,fun b o e=>of_hidT e,Nat.le_of_eq (hidT_size _ _),trivial,fun b hb=>absurd (show b∈([]:List Addr) from hb) (by simp),hok,.of_eq hg⟩
  refine codeAny_mono ((F _ hKb (nsK hns)).run callerA [] s₁ H ⟨[.ref a],[]⟩ [.ref a] [.ref a] _ _ hr e0 (hbind s₁ (.ref a)) (.cons rfl .nil) (hsp H hO hS)) fun r s' h=>?_
  cases r with
  | error e=>exact (hCX H e s' h).elim
  | ok fl =>
   cases fl with
   | next=>exact False.elim h
   | brk=>exact False.elim h
   | cont=>exact False.elim h
   | ret u =>
    obtain ⟨v,H',os,bare,un,hok',r',q⟩:=h
    have q':v=.bl true:=q
    subst q'
    obtain rfl:u=Value.bool true:=r'
    refine ⟨rfl,OldK.of_keep fun b o e=>?_,os,bare⟩
    cases q:H b with
    | none=>exact un.keep b o e q (by intro z;exact absurd (show b∈([]:List Addr) from z) (by simp)) (by simp)
    | some u =>
     rcases hO b with z | ⟨ob,xs,z⟩
     ·rw [q] at z;cases z
     ·have z2:=un.frzs b ob _ z
      obtain ⟨e1,_⟩:=hok b _ z
      obtain ⟨e2,_⟩:=hok' b _ z2
      rw [e] at e1;cases e1
      exact e2
 cases hk:K.lookup a with
 | some o =>
  have e:=KX a o hk
  rw [ha] at e
  cases e
  refine core (fun _=>none) (fun _=>.inl rfl) (.inr ⟨_,vs.toArray,_,hk,rfl,rfl,rfl,by rw [List.size_toArray,lenV];exact hl,by simpa using rv⟩) (fun b u z=>by have z':(none:Option HO)=some u:=z;cases z') (fun b z=>absurd rfl z) fun z=>absurd rfl z
 | none =>
  refine core (fun b=>if b=a then some (.frz { cls:=.type "list",data:=.seq vs.toArray } (.lst (ns.map V.int))) else none) (fun b=>?_) (.inl (.inr ⟨{ cls:=.type "list",data:=.seq vs.toArray },if_pos rfl⟩)) (fun b u z=>?_) (fun b z=>?_) fun _=>hk
  ·by_cases hb:b=a
   ·exact .inr ⟨_,_,if_pos hb⟩
   ·exact .inl (if_neg hb)
  ·by_cases hb:b=a
   ·have z':=(if_pos hb).symm.trans z
    cases z'
    subst hb
    exact ⟨ha,by rw [List.length_map];exact hl,vs,_,rv,ha⟩
   ·have z':=(if_neg hb).symm.trans z
    cases z'
  ·by_cases hb:b=a
   ·exact hb
   ·exact absurd (if_neg hb) z
end L2
namespace L2
open PySem PySem.Spec PyProof.Rows
abbrev KOf {K:PySem.W.Frag} {h:Heap} (_:K.In h):PySem.W.Frag:=K
theorem walk_of {l:PySem.W.OpenLaw} {n k:Nat} {q:Program} {loose:List Str} {XP:(Str->Option Value)->Heap->Prop} {YP:World->Heap->Prop} {d:DefRec} {K:Params->PySem.W.Frag} {CX:World->CXT} {sp:World->Sp} {x:Str}
  (hn:l.most=some n) (hn2:n<=sizeLine) (hdf:d.params.defaults=[]) (hr:Room k callerA)
  (hY:∀ (w:World) (h:Heap),YP w h->(K w.params).In h)
  (F:∀ (w:World) (mg:Str->Option Value) (fa:Addr) (h:Heap),(K w.params).In h->h.Ns mainGlobals mg->mg d.name=some (.ref fa) ->
   ∃ fd:FuncData,(∀ (s:Shared) (u:Value),BindsTo s fd ⟨[u],[]⟩ [(x,u)]) /\
    ∀ base:Heap,(K w.params).In base->base.Ns mainGlobals mg->FnOk l.prog w (K w.params) mg base (CX w) k fa fd [x] (sp w))
  (hsp:∀ (w:World) (H:Hp) (a:Addr) (ns:List Int),ns.length<=n->Only H->SqL (K w.params) H a (ns.map V.int)->sp w [.ref a] H (fun v _=>v=.bl true) fun _ _ _=>False)
  (hCX:∀ (w:World) (H:Hp) (s:Shared) (e:Value) (s':Shared),CX w [] H s (fun _ _ _=>False) e s'->False) :
  PySem.W.WalkO q loose XP YP l.row.toRowW d [] (fun f vs=>PySem.call f vs):=by
 refine Att.attach_call hn hdf fun w s₀ s₁ mg mb fa o pm cd doc a vs ns G Y ho hd hcd hmg hobj hints hlen hg=>?_
 have KX:=hY w _ Y
 obtain ⟨fd,hb,hF⟩:=F w mg fa _ KX G.T.g hmg
 exact law_call KX G.T.g G.T.b G.T.builtins G.T.nolimit hg hobj hints (Nat.le_trans hlen hn2) hr hF hb (fun H hO hS=>hsp w H a ns hlen hO hS) fun H e s'=>hCX w H s₁ e s'
end L2
namespace L2
open PySem PySem.Spec PyProof.Rows
def inClass (s:Stmt) (j:Nat):Stmt:=match s with
 | .ClassDef _ _ _ body _ _ _ _ _ _ _=>body.getD j (.Pass ⟨0,0,0,0⟩)
 | _=>.Pass ⟨0,0,0,0⟩
def defArgs (s:Stmt):Arguments:=match s with
 | .FunctionDef _ a _ _ _ _ _ _ _ _=>a
 | _=>{ posonlyargs:=[],args:=[],vararg:=none,kwonlyargs:=[],kw_defaults:=[],kwarg:=none,defaults:=[] }
def defBody (s:Stmt):List Stmt:=match s with
 | .FunctionDef _ _ b _ _ _ _ _ _ _=>b
 | _=>[]
def defScope (s:Stmt):Scope:=match s with
 | .FunctionDef _ _ _ _ _ _ sc _ _ _=>sc
 | _=>{ kind:=.function,names:=[],isGenerator:=false,isCoroutine:=false }
abbrev CX0:CXT:=fun _ _ _ _ _ _=>False
abbrev E0:XK:=fun _ _ _=>False
theorem pass0 {X:Cx}:Passes CX0 X E0:=fun _ _ _ _ _ _ _ h=>h.elim
structure Fun (K:PySem.W.Frag) (x qual:Str) (st:Stmt) (f:Addr) (fd:FuncData):Prop where
 ex:∃ (oc:Value) (od:Option Addr) (kV doc pm:Value) (an:Option Addr) (cdv ct:Value) (osl:Array (Option Value)),
  fd=PySem.W.fnOf x qual (defArgs st) (defBody st) (defScope st) .none kV doc pm an cdv ct/\K.lookup f=some ⟨oc,od,.func fd,osl⟩/\PySem.W.codeIn K cdv qual=true
 kp:PySem.W.keepIn K (.ref f)=true
section
variable {P:Program} {w:World} {K:PySem.W.Frag} {mg:Str->Option Value} {base:Heap}
theorem Fun.ok {x qual:Str} {st:Stmt} {f:Addr} {fd:FuncData} {N ps:List Str} {k:Nat} {sp:Sp} (F:Fun K x qual st f fd) (S:FnScope N ps (defScope st)) (len:∀ vs H Q E,sp vs H Q E->vs.length=ps.length)
  (hbody:∀ (cdv:Value) (A:Around) (outer:List Env) (s:Shared) (H:Hp) (vs:List V) (Q:VK) (E:XK),Room k (A.deeper (envOfC qual (defScope st) s.heap.objs.size f cdv))->sp vs H Q E ->
   ∃ t,PSs (cxOf CX0 P w K mg base N qual (defScope st) f cdv A outer s H E).nox (defBody st) t/\t { nx:=fun _ H'=>Q .non H',rt:=Q } (start N vs) H):FnOk P w K mg base CX0 (k + 1) f fd ps sp:=by
 obtain ⟨oc,od,kV,doc,pm,an,cdv,ct,osl,rfl,lk,hcd⟩:=F.ex
 refine fn_of lk hcd S len fun A outer s H vs Q E hr hsp=>?_
 obtain ⟨t,h,q⟩:=hbody cdv A outer s H vs Q E hr hsp
 exact ⟨t,h.nox,q⟩
theorem Fun.binds {x qual:Str} {st:Stmt} {f:Addr} {fd:FuncData} {ps:List Str} (F:Fun K x qual st f fd)
  (h:∀ (kV doc pm:Value) (an:Option Addr) (cdv ct:Value) (us:List Value),us.length=ps.length->bindArgs (PySem.W.fnOf x qual (defArgs st) (defBody st) (defScope st) .none kV doc pm an cdv ct) ⟨us,[]⟩=pure (ps.zip us)):Binds K fd ps []:=by
 obtain ⟨oc,od,kV,doc,pm,an,cdv,ct,osl,rfl,lk,hcd⟩:=F.ex
 exact .all (h kV doc pm an cdv ct)
theorem fun_mk {x qual:Str} {st:Stmt} {f:Addr} {oc:Value} {od an:Option Addr} {osl:Array (Option Value)} {kV doc pm cdv ct:Value} (l:K.lookup f=some ⟨oc,od,.func (PySem.W.fnOf x qual (defArgs st) (defBody st) (defScope st) .none kV doc pm an cdv ct),osl⟩)
  (c:PySem.W.codeIn K cdv qual=true) (k:PySem.W.keepIn K (.ref f)=true):Fun K x qual st f (PySem.W.fnOf x qual (defArgs st) (defBody st) (defScope st) .none kV doc pm an cdv ct):=⟨⟨oc,od,kV,doc,pm,an,cdv,ct,osl,rfl,l,c⟩,k⟩
end
theorem small1000 {n:Nat} (h:n<=1000):n < sizeLine:=Nat.lt_of_le_of_lt h (by decide)
section
variable {X:Cx}
theorem pv (i:Nat) {x:Str} {pos:Pos} (hN:X.N[i]? = some x:=by rfl) (hv:Vis X.env.scope x:=by first | exact Or.inl rfl | exact Or.inr (Or.inl rfl) | exact Or.inr (Or.inr rfl)) (hd:(x == ("__debug__":Str))=false:=by decide)
  (hcd:(x == ("__classdict__":Str))=false:=by decide):PE X (.Name x pos) (tVar i):=pe_var hN hv hd hcd
end
def Same (H H':Hp):Prop:=∀ b o,H b=some o->H' b=some o
theorem Same.refl (H:Hp):Same H H:=fun _ _ h=>h
theorem Same.trans {H H1 H2:Hp} (a:Same H H1) (b:Same H1 H2):Same H H2:=fun c o h=>b c o (a c o h)
theorem Same.free {H H':Hp} (e:Same H H') {l:Addr} (h:H' l=Option.none):H l=Option.none:=by
 cases q:H l with
 | none=>rfl
 | some o =>
  rw [e l o q] at h
  cases h
theorem Same.seq {K:PySem.W.Frag} {H H':Hp} {a:Addr} {xs:List V} (e:Same H H') (h:SqL K H a xs):SqL K H' a xs:=by
 rcases h with (h | ⟨o,h⟩) | h
 ·exact .inl (.inl (e _ _ h))
 ·exact .inl (.inr ⟨o,e _ _ h⟩)
 ·exact .inr h
end L2
namespace L2
open PySem PySem.Spec PyProof.Rows
section
variable {κ:Type} [DecidableEq κ]
def valV (kvs:List (κ×V)) (k:κ):Option V:=(kvs.find? fun kv=>decide (kv.1=k)).map (·.2)
def putK (kvs:List (κ×V)) (k:κ) (v:V):List (κ×V) :=
 if (kvs.any fun kv=>decide (kv.1=k))=true then kvs.map (fun kv=>if kv.1=k then (kv.1,v) else kv) else kvs++[(k,v)]
def dropK (kvs:List (κ×V)) (k:κ):List (κ×V):=kvs.filter fun kv=>decide (kv.1≠k)
theorem valV_pos {p:κ×V} {r:List (κ×V)} {k:κ} (e:p.1=k):valV (p::r) k=some p.2:=by simp [valV,List.find?_cons,e]
theorem valV_neg {p:κ×V} {r:List (κ×V)} {k:κ} (e:¬ p.1=k):valV (p::r) k=valV r k:=by simp [valV,List.find?_cons,e]
theorem valV_any (k:κ):∀ kvs:List (κ×V),(kvs.any fun kv=>decide (kv.1=k))=(valV kvs k).isSome
 | []=>rfl
 | p::r=>by
  rw [List.any_cons]
  by_cases e:p.1=k
  ·simp only [valV_pos e,decide_eq_true e,Bool.true_or,Option.isSome_some]
  ·rw [valV_neg e,decide_eq_false e,Bool.false_or];exact valV_any k r
theorem length_putK (kvs:List (κ×V)) (k:κ) (v:V):(putK kvs k v).length<=kvs.length + 1:=by
 unfold putK
 split
 ·rw [List.length_map];omega
 ·rw [List.length_append,List.length_cons,List.length_nil];omega
theorem RelO.isSome_eq {o:Option V} {u:Option Value} (r:RelO o u):o.isSome=u.isSome:=by
 cases o with
 | none=>cases u with
  | none=>rfl
  | some _=>exact (show False from r).elim
 | some _=>cases u with
  | none=>exact (show False from r).elim
  | some _=>rfl
theorem RelO.getD {o:Option V} {u:Option Value} {d:V} {d':Value} (r:RelO o u) (rd:RelV d d'):RelV (o.getD d) (u.getD d'):=by
 cases o with
 | none=>cases u with
  | none=>exact rd
  | some _=>exact (show False from r).elim
 | some _=>cases u with
  | none=>exact (show False from r).elim
  | some _=>exact r
theorem KV.val {kvs:List (κ×V)} {vs:List (κ×Value)} (r:KV kvs vs) (k:κ):RelO (valV kvs k) (valueAt vs k):=by
 unfold KV at r
 induction r with
 | nil=>exact True.intro
 | @cons p q ps qs h t ih =>
  obtain ⟨h1,h2⟩:=h
  by_cases e:p.1=k
  ·have e':q.1=k:=h1.symm.trans e
   have b:valueAt (q::qs) k=some q.2:=by simp [valueAt,List.find?_cons,e']
   rw [valV_pos e,b];exact h2
  ·have e':¬ q.1=k:=fun z=>e (h1.trans z)
   have b:valueAt (q::qs) k=valueAt qs k:=by simp [valueAt,List.find?_cons,e']
   rw [valV_neg e,b];exact ih
theorem KV.any {kvs:List (κ×V)} {vs:List (κ×Value)} (r:KV kvs vs) (k:κ):(kvs.any fun kv=>decide (kv.1=k))=vs.any fun kv=>decide (kv.1=k):=by
 unfold KV at r
 induction r with
 | nil=>rfl
 | cons h t ih=>rw [List.any_cons,List.any_cons,ih,h.1]
theorem KV.repl {kvs:List (κ×V)} {vs:List (κ×Value)} (r:KV kvs vs) (k:κ) {y:V} {u:Value} (ry:RelV y u) :
  KV (kvs.map fun kv=>if kv.1=k then (kv.1,y) else kv) (vs.map fun kv=>if kv.1=k then (kv.1,u) else kv):=by
 unfold KV at r ⊢
 induction r with
 | nil=>exact .nil
 | @cons p q ps qs h t ih =>
  rw [List.map_cons,List.map_cons]
  refine .cons ?_ ih
  obtain ⟨h1,h2⟩:=h
  by_cases e:p.1=k
  ·rw [if_pos e,if_pos (h1.symm.trans e)];exact ⟨h1,ry⟩
  ·rw [if_neg e,if_neg (fun z=>e (h1.trans z))];exact ⟨h1,h2⟩
theorem KV.put {kvs:List (κ×V)} {vs:List (κ×Value)} (r:KV kvs vs) (k:κ) {y:V} {u:Value} (ry:RelV y u):KV (putK kvs k y) (stored vs k u):=by
 unfold putK stored
 rw [r.any k]
 by_cases e:(vs.any fun kv=>decide (kv.1=k))=true
 ·rw [if_pos e,if_pos e];exact r.repl k ry
 ·rw [if_neg e,if_neg e];exact Paired.snoc r ⟨rfl,ry⟩
theorem KV.drop {kvs:List (κ×V)} {vs:List (κ×Value)} (r:KV kvs vs) (k:κ):KV (dropK kvs k) (without vs k):=by
 unfold KV at r ⊢
 unfold dropK without
 induction r with
 | nil=>exact .nil
 | @cons p q ps qs h t ih =>
  obtain ⟨h1,h2⟩:=h
  rw [List.filter_cons,List.filter_cons]
  by_cases e:p.1=k
  ·have a:¬ decide (p.1≠k)=true:=by simp [e]
   have b:¬ decide (q.1≠k)=true:=by simp [h1.symm.trans e]
   rw [if_neg a,if_neg b];exact ih
  ·have e':¬ q.1=k:=fun z=>e (h1.trans z)
   have a:decide (p.1≠k)=true:=by simp [e]
   have b:decide (q.1≠k)=true:=by simp [e']
   rw [if_pos a,if_pos b];exact .cons ⟨h1,h2⟩ ih
theorem KV.length {kvs:List (κ×V)} {vs:List (κ×Value)} (r:KV kvs vs):kvs.length=vs.length:=Paired.length r
theorem dropK_le (kvs:List (κ×V)) (k:κ):(dropK kvs k).length<=kvs.length:=List.length_filter_le _ _
end
theorem kV_is {P:Program} {w:World} {k:Key} {u:Value} (r:RelV (kV k) u):(mixKind P w).is k u=true:=by
 cases k with
 | inl i=>obtain ⟨t,e⟩:=(show ∃ t,u=Value.int i t from r);subst e;exact mixKind_int P w i t
 | inr x=>obtain ⟨t,e⟩:=(show ∃ t,u=Value.str x t from r);subst e;exact mixKind_str P w x t
theorem items_are {P:Program} {w:World}:∀ {ks:List Key} {us:List Value},Vals (ks.map kV) us->ItemsAre (mixKind P w) ks us
 | [],_,r=>by rw [List.map_nil] at r;cases r;exact .nil
 | k::ks,_,r=>by
  rw [List.map_cons] at r
  cases r with
  | cons h t=>exact .cons (kV_is h) (items_are t)
abbrev KT (H:Hp):List (List Key×V)->List (List Key×Addr×Value)->Prop:=Paired fun p q=>p.1=q.1/\H q.2.1=some (.tup (p.1.map kV))/\RelV p.2 q.2.2
theorem KT.val {H:Hp} {kvs:List (List Key×V)} {xs:List (List Key×Addr×Value)} (r:KT H kvs xs) (k:List Key):RelO (valV kvs k) ((atKey xs k).map (·.2)):=by
 induction r with
 | nil=>exact True.intro
 | @cons p q ps qs h t ih =>
  obtain ⟨h1,_,h2⟩:=h
  by_cases e:p.1=k
  ·have e':q.1=k:=h1.symm.trans e
   have b:atKey (q::qs) k=some q.2:=by simp [atKey,List.find?_cons,e']
   rw [valV_pos e,b];exact h2
  ·have e':¬ q.1=k:=fun z=>e (h1.trans z)
   have b:atKey (q::qs) k=atKey qs k:=by simp [atKey,List.find?_cons,e']
   rw [valV_neg e,b];exact ih
theorem KT.repl {H:Hp} {kvs:List (List Key×V)} {xs:List (List Key×Addr×Value)} (r:KT H kvs xs) (k:List Key) {y:V} {u:Value} (ry:RelV y u) :
  KT H (kvs.map fun kv=>if kv.1=k then (kv.1,y) else kv) (xs.map (putAt k u)):=by
 induction r with
 | nil=>exact .nil
 | @cons p q ps qs h t ih =>
  rw [List.map_cons,List.map_cons]
  refine .cons ?_ ih
  obtain ⟨h1,h2,h3⟩:=h
  unfold putAt
  by_cases e:p.1=k
  ·rw [if_pos e,if_pos (h1.symm.trans e)];exact ⟨h1,h2,ry⟩
  ·rw [if_neg e,if_neg (fun z=>e (h1.trans z))];exact ⟨h1,h2,h3⟩
theorem KT.put {H:Hp} {kvs:List (List Key×V)} {xs:List (List Key×Addr×Value)} (r:KT H kvs xs) (k:List Key) {b:Addr} {y:V} {u:Value} (hb:H b=some (.tup (k.map kV))) (ry:RelV y u) :
  KT H (putK kvs k y) (storedH xs k b u):=by
 have e:(kvs.any fun kv=>decide (kv.1=k))=(atKey xs k).isSome:=by
  rw [valV_any,(r.val k).isSome_eq,Option.isSome_map]
 unfold putK storedH
 rw [e]
 by_cases q:(atKey xs k).isSome=true
 ·rw [if_pos q,if_pos q];exact r.repl k ry
 ·rw [if_neg q,if_neg q];exact Paired.snoc r ⟨rfl,hb,ry⟩
theorem KT.keeps {H H':Hp} {kvs:List (List Key×V)} {xs:List (List Key×Addr×Value)} (r:KT H kvs xs) (ht:∀ b ys,H b=some (.tup ys)->H' b=some (.tup ys)):KT H' kvs xs :=
 Paired.mapP r fun _ _ z=>⟨z.1,ht _ _ z.2.1,z.2.2⟩
section
variable {P:Program} {w:World} {H:Hp} {h:Heap} {a:Addr}
theorem rd_of {u:HO} (ok:HOk P w H h) (e:Rd H a u):ObjOk P w H h a u:=e.ok ok
theorem dk_rd {kvs:List (Key×V)} (ok:HOk P w H h) (e:Rd H a (.dK kvs)):kvs.length<=sizeLine/\(a == sysModules)=false/\∃ vs,KV kvs vs/\h.DictOf (mixKind P w) a vs :=
 show ObjOk P w H h a (.dK kvs) from rd_of ok e
theorem dk_of {kvs:List (Key×V)} (ok:HOk P w H h) (e:H a=some (.dK kvs)):kvs.length<=sizeLine/\(a == sysModules)=false/\∃ vs,KV kvs vs/\h.DictOf (mixKind P w) a vs:=dk_rd ok (.inl e)
theorem key_of {ks:List Key} (ok:HOk P w H h) (e:H a=some (.tup (ks.map kV))):(tupleKind (mixKind P w)).is h ks a:=by
 obtain ⟨_,its,r,o,h1,h2,n,h3⟩:=(show ObjOk P w H h a (.tup (ks.map kV)) from ok a _ e)
 exact ⟨o,its.toArray,n,h1,h2,h3,by simpa using items_are r⟩
theorem dt_rd {kvs:List (List Key×V)} (ok:HOk P w H h) (e:Rd H a (.dT kvs)):kvs.length<=sizeLine/\(a == sysModules)=false /\
  ∃ xs,KT H kvs xs/\h.DictOfH (tupleKind (mixKind P w)) a xs:=by
 obtain ⟨z,y,xs,r,o,es,ep,h1,h2,h3,h4,h5⟩:=(show ObjOk P w H h a (.dT kvs) from rd_of ok e)
 refine ⟨z,y,xs,r,o,es,ep,h1,h2,h3,h4,fun x hx=>?_,h5⟩
 have all:∀ {l:List (List Key×V)} {m:List (List Key×Addr×Value)},KT H l m->∀ x∈m,(tupleKind (mixKind P w)).is h x.1 x.2.1:=by
  intro l m q
  induction q with
  | nil=>intro x hx;exact nomatch hx
  | @cons p q ps qs hq t ih =>
   intro x hx
   rcases List.mem_cons.mp hx with e | hx
   ·subst e
    exact key_of ok (by rw [← hq.1];exact hq.2.1)
   ·exact ih x hx
 exact all r x hx
theorem dt_of {kvs:List (List Key×V)} (ok:HOk P w H h) (e:H a=some (.dT kvs)):kvs.length<=sizeLine/\(a == sysModules)=false /\
  ∃ xs,KT H kvs xs/\h.DictOfH (tupleKind (mixKind P w)) a xs:=dt_rd ok (.inl e)
end
def DGet (H:Hp) (a:Addr) (y:V) (r:Option V):Prop :=
 (∃ kvs k,Rd H a (.dK kvs)/\y=kV k/\r=valV kvs k)\/∃ kvs k b,Rd H a (.dT kvs)/\y=.ref b/\H b=some (.tup (k.map kV))/\r=valV kvs k
def DPut (H:Hp) (a:Addr) (y v:V) (H':Hp):Prop :=
 (∃ kvs k,H a=some (.dK kvs)/\y=kV k/\kvs.length < sizeLine/\H'=upd H a (.dK (putK kvs k v))) \/
 ∃ kvs k b,H a=some (.dT kvs)/\y=.ref b/\H b=some (.tup (k.map kV))/\kvs.length < sizeLine/\H'=upd H a (.dT (putK kvs k v))
theorem DGet.k {H:Hp} {a:Addr} {kvs:List (Key×V)} {k:Key} (e:H a=some (.dK kvs)):DGet H a (kV k) (valV kvs k):=.inl ⟨kvs,k,.inl e,rfl,rfl⟩
theorem DPut.k {H:Hp} {a:Addr} {kvs:List (Key×V)} {k:Key} {v:V} (e:H a=some (.dK kvs)) (hl:kvs.length < sizeLine):DPut H a (kV k) v (upd H a (.dK (putK kvs k v))):=.inl ⟨kvs,k,e,rfl,hl,rfl⟩
section
variable {X:Cx} {pins:List (Addr×Obj)} {σ:St} {H:Hp} {s:Shared} {a:Addr} {y v:V} {u r:Value} {o:Option V} {A:Around} {E:Value->Shared->Prop}
theorem Inv.big (I:Inv X pins σ H s):sysModules < s.heap.objs.size:=by
 have h:mainGlobals < s.heap.objs.size:=(I.mod.glob.keeps I.bk).lt
 exact Nat.lt_trans (by decide) h
theorem d_getItem {Q:Value->Shared->Prop} (hu:A.units + 1 < cLine) (I:Inv X pins σ H s) (g:DGet H a y (some v)) (ry:RelV y u) (h:∀ w' s',Inv X pins σ H s'->RelV v w'->Q w' s') :
  wpAny (model X.prog X.w) A (getItem (.ref a) u) Q E s:=by
 rcases g with ⟨kvs,k,e,ey,l⟩ | ⟨kvs,k,b,e,ey,eb,l⟩
 ·subst ey
  obtain ⟨z,hd,vs,rel,dd⟩:=dk_rd I.hok e
  obtain ⟨w',hw,rw'⟩:=RelO.some_of (v:=v) (o:=valueAt vs k) (by rw [l];exact rel.val k)
  exact wpAny_getItem_of (kV_is ry) dd.mapOf hw (h w' _ (I.tok _) rw')
 ·subst ey
  cases (show u=Value.ref b from ry)
  obtain ⟨z,hd,xs,rel,dd⟩:=dt_rd I.hok e
  obtain ⟨w',hw,rw'⟩:=RelO.some_of (v:=v) (o:=(atKey xs k).map (·.2)) (by rw [l];exact rel.val k)
  obtain ⟨p,hp,hp2⟩:=Option.map_eq_some_iff.mp hw
  refine wpAny_getItem_heap (tupleKind_room_in1 hu) (key_of I.hok eb) dd hp ?_
  rw [hp2]
  exact h w' _ (I.tok _) rw'
theorem d_notIn {Q:Value->Shared->Prop} (hu:A.units + 1 < cLine) (I:Inv X pins σ H s) (g:DGet H a y o) (ry:RelV y u) (h:∀ s',Inv X pins σ H s'->Q (.bool (!o.isSome)) s') :
  wpAny (model X.prog X.w) A (compareOp .NotIn u (.ref a)) Q E s:=by
 rcases g with ⟨kvs,k,e,ey,l⟩ | ⟨kvs,k,b,e,ey,eb,l⟩
 ·subst ey
  obtain ⟨z,hd,vs,rel,dd⟩:=dk_rd I.hok e
  refine wpAny_notIn_of (kV_is ry) hd dd.mapOf ?_
  rw [← (rel.val k).isSome_eq,← l]
  exact h _ (I.tok _)
 ·subst ey
  cases (show u=Value.ref b from ry)
  obtain ⟨z,hd,xs,rel,dd⟩:=dt_rd I.hok e
  refine wpAny_notIn_heap (tupleKind_room_in1 hu) (key_of I.hok eb) hd dd ?_
  have q:=(rel.val k).isSome_eq
  rw [Option.isSome_map] at q
  rw [← q,← l]
  exact h _ (I.tok _)
theorem d_write {h':Heap} {t':Nat} {ob:HO} (I:Inv X pins σ H s) (mu:Mut (H a)) (hs:Heap.SameBut a s.heap h') (he:∃ q,h'.get? a=some q) (new:ObjOk X.prog X.w (upd H a ob) h' a ob) :
  Inv X pins σ (upd H a ob) { s with heap:=h',toks:=t' } :=
 I.write (x:=a) (e:=a) mu (.inl rfl) (fun b q hb z=>(hs.2 b hb).trans z) he new
theorem dk_new {P:Program} {w:World} {H':Hp} {h':Heap} {kvs:List (Key×V)} {vs:List (Key×Value)} (z:kvs.length<=sizeLine) (hd:(a == sysModules)=false) (rel:KV kvs vs) (dd:h'.DictOf (mixKind P w) a vs) :
  ObjOk P w H' h' a (.dK kvs):=⟨z,hd,vs,rel,dd⟩
theorem d_setItem {H':Hp} {Q:Unit->Shared->Prop} (hu:A.units + 1 < cLine) (I:Inv X pins σ H s) (g:DPut H a y v H') (ry:RelV y u) (rv:RelV v r) (h:∀ s',Inv X pins σ H' s'->Q () s') :
  wpAny (model X.prog X.w) A (setItem (.ref a) u r) Q E s:=by
 rcases g with ⟨kvs,k,e,ey,l,eH⟩ | ⟨kvs,k,b,e,ey,eb,l,eH⟩
 ·subst ey eH
  obtain ⟨z,hd,vs,rel,dd⟩:=dk_of I.hok e
  have hz:vs.length<=sizeLine:=by rw [← rel.length];exact z
  have hl:(putK kvs k v).length<=sizeLine:=by have:=length_putK kvs k v;omega
  refine wpAny_setItem_pairs (hsz:=hz) (kV_is ry) dd fun h' dd' hs=>h _ ?_
  have he:∃ q,h'.get? a=some q:=let ⟨q,_,_,hq,_⟩:=dd';⟨q,hq⟩
  exact d_write I (by rw [e];exact True.intro) hs he (dk_new hl hd (rel.put k rv) dd')
 ·subst ey eH
  cases (show u=Value.ref b from ry)
  obtain ⟨z,hd,xs,rel,dd⟩:=dt_of I.hok e
  have hz:xs.length<=sizeLine:=by rw [← Paired.length rel];exact z
  have hl:(putK kvs k v).length<=sizeLine:=by have:=length_putK kvs k v;omega
  refine wpAny_setItem_heap (hsz:=hz) (tupleKind_room_in1 hu) (key_of I.hok eb) dd fun h' dd' hs=>h _ ?_
  obtain ⟨q,es,ep,hq,h2,h3,h4,_,h5⟩:=dd'
  refine d_write I (by rw [e];exact True.intro) hs ⟨q,hq⟩ ⟨hl,hd,_,(rel.put k eb rv).keeps fun c ys ec=>?_,q,es,ep,hq,h2,h3,h4,h5⟩
  rw [upd_ne (ne_of ec e (fun z=>nomatch z))]
  exact ec
end
section
variable {X:Cx} {pins:List (Addr×Obj)} {σ:St} {H:Hp} {s:Shared} {a:Addr} {kvs:List (Key×V)} {k:Key} {u:Value} {A:Around} {E:Value->Shared->Prop}
theorem d_pop {v:V} {more:List Value} {Q:Value->Shared->Prop} (I:Inv X pins σ H s) (e:H a=some (.dK kvs)) (ry:RelV (kV k) u) (l:valV kvs k=some v) (hm:more=[]\/∃ x,more=[x])
  (h:∀ w' s',Inv X pins σ (upd H a (.dK (dropK kvs k))) s'->RelV v w'->Q w' s'):wpAny (model X.prog X.w) A (call (.builtin "dict.pop") (.ref a::u::more)) Q E s:=by
 obtain ⟨z,hd,vs,rel,dd⟩:=dk_of I.hok e
 obtain ⟨w',hw,rw'⟩:=RelO.some_of (v:=v) (o:=valueAt vs k) (by rw [← l];exact rel.val k)
 have hp:(keyPart u).isSome=true:=by
  cases k with
  | inl i=>obtain ⟨t,q⟩:=(show ∃ t,u=Value.int i t from ry);subst q;rfl
  | inr x=>obtain ⟨t,q⟩:=(show ∃ t,u=Value.str x t from ry);subst q;rfl
 have ha:argsOk "dict.pop" ⟨.ref a::u::more,[]⟩:=by
  rcases hm with q | ⟨x,q⟩
  ·subst q;exact PySem.F.args_dict_pop_2 _ _
  ·subst q;exact PySem.F.args_dict_pop_3 _ _ _
 refine call_meetsIn PySem.F.slot_dict_pop dd.typeIs PySem.F.entry_dict_pop ha (meets_dict_pop_there (mixKind X.prog X.w) a (kV_is ry) more hm hp)
  ⟨vs,w',dd,by rw [← rel.length];exact z,hw,fun h' dd' hs=>h w' _ ?_ rw'⟩
 have he:∃ q,h'.get? a=some q:=let ⟨q,_,_,hq,_⟩:=dd';⟨q,hq⟩
 exact d_write I (by rw [e];exact True.intro) hs he (dk_new (Nat.le_trans (dropK_le kvs k) z) hd (rel.drop k) dd')
theorem d_len {Q:Value->Shared->Prop} (I:Inv X pins σ H s) (e:Rd H a (.dK kvs)) (h:∀ t s',Inv X pins σ H s'->Q (.int kvs.length t) s'):wpAny (model X.prog X.w) A (call (.builtin "len") [.ref a]) Q E s:=by
 obtain ⟨z,hd,vs,rel,dd⟩:=dk_rd I.hok e
 refine call_len_dict hd dd (by rw [← rel.length];rw [sizeLine_eq] at z;omega) ?_
 rw [← rel.length]
 exact h _ _ (I.tok _)
end
def NoSl (i:Expr):Prop:=∀ ov iv,subscripted i false ov iv=operate [ov,iv] (getItem ov iv)
theorem subD_of {prog:Program} {w:World} {A:Around} {E:Value->Shared->Prop} {s:Shared} {env:Env} {value slice:Expr} {pos:Pos} {T id:String} {Q:Value->Shared->Prop}
  (hl:typeLookup (.type T) "__getitem__" = pure (some (.builtin id))) (hs:NoSl slice)
  (h:wpAny (model prog w) A (eval value env) (fun o s₁=>wpAny (model prog w) A (eval slice env) (fun i s₂=>s₂.TypeIs o T/\wpAny (model prog w) A (getItem o i) Q E s₂) E s₁) E s) :
  wpAny (model prog w) A (eval (.Subscript value slice pos) env) Q E s:=by
 refine Subscript_ (wpAny_mono h (fun o s₁ h₁=>wpAny_mono h₁ (fun i s₂ h₂=>?_) fun _ _ x=>x) fun _ _ x=>x)
 obtain ⟨hT,h₂⟩:=h₂
 unfold subscriptTail
 refine wpAny_bind ?_
 rw [getitemInPython_of_ne hT.not_modules]
 refine wpAny_bind (wpAny_specialOf hT hl ?_)
 have fin:wpAny (model prog w) A (subscripted slice false o i) (fun r s₃=>wpAny (model prog w) A (letTemporaryGo value o r >>= fun _=>pure r) Q E s₃) E s₂:=by
  rw [hs o i]
  exact wpAny_operating (wpAny_mono h₂ (fun r s₃ h₃=>wpAny_bind (wpAny_letTemporaryGo (wpAny_pure h₃))) fun _ _ x=>x)
 first
  | exact wpAny_pure (wpAny_bind fin)
  | exact wpAny_bind (wpAny_pure (wpAny_bind fin))
  | exact wpAny_bind fin
theorem dict_typeIs {X:Cx} {pins:List (Addr×Obj)} {σ:St} {H:Hp} {s:Shared} {a:Addr} {y:V} {o:Option V} (I:Inv X pins σ H s) (g:DGet H a y o):s.TypeIs (.ref a) "dict":=by
 rcases g with ⟨kvs,k,e,_,_⟩ | ⟨kvs,k,b,e,_,_,_⟩
 ·obtain ⟨_,_,vs,_,dd⟩:=dk_rd I.hok e
  exact dd.typeIs
 ·obtain ⟨_,_,xs,_,dd⟩:=dt_rd I.hok e
  exact dd.typeIs
def tDGet (td ty:TE):TE:=fun σ H Q=>td σ H fun x H1=>ty σ H1 fun y H2=>∃ a v,x=.ref a/\DGet H2 a y (some v)/\Q v H2
def sDPut (td ty tv:TE):TS:=fun D σ H=>tv σ H fun v H1=>td σ H1 fun x H2=>ty σ H2 fun y H3=>∃ a H4,x=.ref a/\DPut H3 a y v H4/\D.nx σ H4
section
variable {X:Cx} {o i e value:Expr} {pos pos' tpos:Pos} {td ty tv:TE}
theorem pe_dget (hu:X.A.units + 1 < cLine) (ho:PE X o td) (hi:PE X i ty) (hs:NoSl i):PE X (.Subscript o i pos) (tDGet td ty):=by
 intro pins s σ H Q I h
 refine subD_of PySem.F.slot_dict_getitem.lookup hs (thn (ho pins s σ H _ I h) fun u s1 ⟨x,H1,I1,rx,q1⟩=>thn (hi pins s1 σ H1 _ I1 q1) fun iv s2 ⟨y,H2,I2,ry,a,v,ex,g,q2⟩=>?_)
 subst ex
 obtain rfl:u=Value.ref a:=rx
 exact ⟨dict_typeIs I2 g,d_getItem hu I2 g ry fun w' s3 I3 rw'=>⟨v,H2,I3,rw',q2⟩⟩
theorem ps_dput (hu:X.A.units + 1 < cLine) (ho:PE X o td) (hi:PE X i ty) (hv:PE X value tv) (hs:swapsWith value (some (.Subscript o i pos')) pos.line X.env=pure false) :
  PS X (.Assign [.Subscript o i pos'] value pos) (sDPut td ty tv):=by
 intro pins s σ H D I h
 refine wpAny_Assign_Subscript (thn (hv pins s σ H _ I h) fun r s1 ⟨v,H1,I1,rv,q1⟩=>thn (ho pins s1 σ H1 _ I1 q1) fun u s2 ⟨x,H2,I2,rx,q2⟩=>thn (hi pins s2 σ H2 _ I2 q2) fun iv s3 ⟨y,H3,I3,ry,a,H4,ex,g,q3⟩=>?_) hs
 subst ex
 obtain rfl:u=Value.ref a:=rx
 exact d_setItem hu I3 g ry rv fun s4 I4=>⟨σ,H4,I4,q3⟩
end
theorem dk_empty {P:Program} {w:World} {H:Hp} (h:Heap) (hb:sysModules < h.objs.size):ObjOk P w H (h.push { cls:=.type "dict",data:=.dict #[] }) h.objs.size (.dK []) :=
 ⟨Nat.zero_le _,beq_eq_false_iff_ne.mpr (Ne.symm (Nat.ne_of_lt hb)),[],.nil,Heap.DictOf.new h⟩
def tDNewK:TE:=fun _ H Q=>∀ p,H p=none->Q (.ref p) (upd H p (.dK []))
section
variable {X:Cx} {pos:Pos}
theorem pe_dnewK:PE X (.Dict [] [] pos) tDNewK:=fun pins s σ H Q I h =>
 wpAny_Dict_empty ⟨.ref s.heap.objs.size,_,I.laid (a:=s.heap.objs.size) (o:=.dK []) (t':=s.toks) (fun _ _ q=>Heap.get?_push_of_some _ q) (Nat.le_refl _) (dk_empty s.heap I.big),rfl,h _ (I.hok.fresh (Nat.le_refl _))⟩
end
structure M1 (X:Cx) (o:Expr) (m:Str) (apos:Pos) (e:Expr) (cpos:Pos):Prop where
 base:attributeBase o m X.env (eval o X.env)=eval o X.env
 few:((backTo cpos (starEach [e] X.env)).all (fun x=>!x.1) && (backToKw cpos (keywordEach [] X.env)).all (fun x=>x.1.isSome)
  && decide (([e]:List Expr).length + ([]:List Keyword).length + (if ([]:List Keyword).isEmpty then 0 else 1) < 30))=true
 line:(apos.endLine == cpos.line)=true
 trees:backTo cpos (starEach [e] X.env)=[(false,eval e X.env)]
structure M2 (X:Cx) (o:Expr) (m:Str) (apos:Pos) (e f:Expr) (cpos:Pos):Prop where
 base:attributeBase o m X.env (eval o X.env)=eval o X.env
 few:((backTo cpos (starEach [e,f] X.env)).all (fun x=>!x.1) && (backToKw cpos (keywordEach [] X.env)).all (fun x=>x.1.isSome)
  && decide (([e,f]:List Expr).length + ([]:List Keyword).length + (if ([]:List Keyword).isEmpty then 0 else 1) < 30))=true
 line:(apos.endLine == cpos.line)=true
 trees:backTo cpos (starEach [e,f] X.env)=[(false,eval e X.env),(false,eval f X.env)]
def IsD (H:Hp) (a:Addr):Prop:=(∃ kvs,Rd H a (.dK kvs))\/∃ kvs,Rd H a (.dT kvs)
theorem isD_at {X:Cx} {pins:List (Addr×Obj)} {σ:St} {H:Hp} {s:Shared} {a:Addr} (I:Inv X pins σ H s) (d:IsD H a) :
  s.TypeIs (.ref a) "dict"/\(∀ b,Value.ref a=.ref b->∃ ob,s.heap.get? b=some ob/\ob.dict=none)/\(a == sysModules)=false:=by
 rcases d with ⟨kvs,e⟩ | ⟨kvs,e⟩
 ·obtain ⟨_,hd,vs,_,dd⟩:=dk_rd I.hok e
  refine ⟨dd.typeIs,fun b q=>?_,hd⟩
  cases q
  obtain ⟨ob,_,_,h1,h2,_⟩:=dd
  exact ⟨ob,h1,h2.2.1⟩
 ·obtain ⟨_,hd,xs,_,dd⟩:=dt_rd I.hok e
  refine ⟨dd.typeIs,fun b q=>?_,hd⟩
  cases q
  obtain ⟨ob,_,_,h1,h2,_⟩:=dd
  exact ⟨ob,h1,h2.2.1⟩
section
variable {X:Cx} {pins:List (Addr×Obj)} {σ:St} {H:Hp} {s:Shared} {a:Addr} {y d:V} {u r:Value} {o:Option V} {A:Around} {E:Value->Shared->Prop}
theorem d_get1 {Q:Value->Shared->Prop} (hu:A.units + 1 < cLine) (I:Inv X pins σ H s) (g:DGet H a y o) (ry:RelV y u) (h:∀ w' s',Inv X pins σ H s'->RelV (o.getD .non) w'->Q w' s') :
  wpAny (model X.prog X.w) A (call (.builtin "dict.get") [.ref a,u]) Q E s:=by
 rcases g with ⟨kvs,k,e,ey,l⟩ | ⟨kvs,k,b,e,ey,eb,l⟩
 ·subst ey
  obtain ⟨z,hd,vs,rel,dd⟩:=dk_rd I.hok e
  refine call_meetsIn PySem.F.slot_dict_get dd.typeIs PySem.F.entry_dict_get (PySem.F.args_dict_get_2 _ _) (meets_dict_get (mixKind X.prog X.w) a (kV_is ry) hd) ⟨_,dd.mapOf,h _ _ (I.tok _) ?_⟩
  rw [l]
  exact (rel.val k).getD rfl
 ·subst ey
  cases (show u=Value.ref b from ry)
  obtain ⟨z,hd,xs,rel,dd⟩:=dt_rd I.hok e
  refine call_meetsIn PySem.F.slot_dict_get dd.typeIs PySem.F.entry_dict_get (PySem.F.args_dict_get_2 _ _) (meetsH_dict_get (tupleKind (mixKind X.prog X.w)) a b hd) ⟨tupleKind_room_in1 hu,k,xs,key_of I.hok eb,dd,h _ _ (I.tok _) ?_⟩
  rw [l]
  exact (rel.val k).getD rfl
end
def tDGet1 (td ty:TE):TE:=fun σ H Q=>td σ H fun x H1=>∃ a,x=.ref a/\IsD H1 a/\ty σ H1 fun y H2=>∃ o,DGet H2 a y o/\Q (o.getD .non) H2
def tDPop1 (td ty:TE):TE:=fun σ H Q=>td σ H fun x H1=>∃ a,x=.ref a/\IsD H1 a/\ty σ H1 fun y H2=>∃ kvs k v,H2 a=some (.dK kvs)/\y=kV k/\valV kvs k=some v/\Q v (upd H2 a (.dK (dropK kvs k)))
section
variable {X:Cx} {o e f:Expr} {apos cpos:Pos} {td ty tx:TE}
theorem pe_dget1 (hu:X.A.units + 1 < cLine) (ho:PE X o td) (he:PE X e ty) (m:M1 X o "get" apos e cpos):PE X (.Call (.Attribute o "get" apos) [e] [] cpos) (tDGet1 td ty):=by
 intro pins s σ H Q I h
 refine wpAny_Call_method m.base m.few m.line PySem.F.plainAttrs_dict PySem.F.slot_dict_get PySem.F.type_dict_get (thn (ho pins s σ H _ I h) fun u s1 ⟨x,H1,I1,rx,a,ex,d,q1⟩=>?_)
 subst ex
 obtain rfl:u=Value.ref a:=rx
 obtain ⟨t1,t2,_⟩:=isD_at I1 d
 refine ⟨t1,t2,?_⟩
 rw [m.trees]
 refine Calls.callWith_builtin rfl (Calls.evalArgs_plain (Calls.spliced_cons (thn (he pins s1 σ H1 _ I1 q1) fun iv s2 ⟨y,H2,I2,ry,ov,g,q2⟩=>Calls.spliced_nil ?_)))
 exact d_get1 hu I2 g ry fun w' s3 I3 rw'=>⟨_,H2,I3,rw',q2⟩
theorem pe_dpop1 (ho:PE X o td) (he:PE X e ty) (m:M1 X o "pop" apos e cpos):PE X (.Call (.Attribute o "pop" apos) [e] [] cpos) (tDPop1 td ty):=by
 intro pins s σ H Q I h
 refine wpAny_Call_method m.base m.few m.line PySem.F.plainAttrs_dict PySem.F.slot_dict_pop PySem.F.type_dict_pop (thn (ho pins s σ H _ I h) fun u s1 ⟨x,H1,I1,rx,a,ex,d,q1⟩=>?_)
 subst ex
 obtain rfl:u=Value.ref a:=rx
 obtain ⟨t1,t2,_⟩:=isD_at I1 d
 refine ⟨t1,t2,?_⟩
 rw [m.trees]
 refine Calls.callWith_builtin rfl (Calls.evalArgs_plain (Calls.spliced_cons (thn (he pins s1 σ H1 _ I1 q1) fun iv s2 ⟨y,H2,I2,ry,kvs,k,v,ea,ey,l,q2⟩=>Calls.spliced_nil ?_)))
 subst ey
 exact d_pop I2 ea ry l (.inl rfl) fun w' s3 I3 rw'=>⟨v,_,I3,rw',q2⟩
end
section
variable {X:Cx} {pins:List (Addr×Obj)} {σ:St} {H:Hp} {s:Shared} {a:Addr} {kvs:List (Key×V)} {A:Around} {E:Value->Shared->Prop}
end
section
variable {X:Cx} {pins:List (Addr×Obj)} {σ:St} {H:Hp} {s:Shared} {a:Addr} {y:V} {u:Value} {A:Around} {E:Value->Shared->Prop}
end
section
variable {X:Cx}
end
section
variable {κ:Type} [DecidableEq κ]
end
end L2
set_option maxRecDepth 100000
namespace L2
open PySem PySem.Spec PyProof.Rows
section
variable {X:Cx}
theorem PE.imp {e:Expr} {t t':TE} (h:PE X e t) (hi:∀ σ H Q,t' σ H Q->t σ H Q):PE X e t':=fun pins s σ H Q I q=>h pins s σ H Q I (hi _ _ _ q)
theorem PT.imp {e:Expr} {t t':TT} (h:PT X e t) (hi:∀ σ H Q,t' σ H Q->t σ H Q):PT X e t':=fun pins s σ H Q I q=>h pins s σ H Q I (hi _ _ _ q)
theorem PW.imp {e:Expr} {t t':TT} (h:PW X e t) (hi:∀ σ H Q,t' σ H Q->t σ H Q):PW X e t':=fun wh pins s σ H Q I q=>h wh pins s σ H Q I (hi _ _ _ q)
theorem PA.imp {e:List Expr} {t t':TA} (h:PA X e t) (hi:∀ σ H Q,t' σ H Q->t σ H Q):PA X e t':=fun pos pins s σ H Q I q=>h pos pins s σ H Q I (hi _ _ _ q)
theorem PS.imp {e:Stmt} {t t':TS} (h:PS X e t) (hi:∀ D σ H,t' D σ H->t D σ H):PS X e t':=fun pins s σ H D I q=>h pins s σ H D I (hi _ _ _ q)
theorem PSs.imp {e:List Stmt} {t t':TS} (h:PSs X e t) (hi:∀ D σ H,t' D σ H->t D σ H):PSs X e t':=fun pins s σ H D I q=>h pins s σ H D I (hi _ _ _ q)
theorem PG.imp {e:Expr} {t t':TG} (h:PG X e t) (hi:∀ v σ H Q,t' v σ H Q->t v σ H Q):PG X e t':=fun pins s σ H v u Q I r q=>h pins s σ H v u Q I r (hi _ _ _ _ q)
end
end L2
namespace L2
open PySem PySem.Spec PyProof.Rows
section
variable {prog:Program} {w:World} {A:Around} {R:Result->Shared->Prop} {s:Shared}
theorem comp_loop {elt target iter:Expr} {ifs:List Expr} {scope:Scope} {pos:Pos} {it acc:Value} {env:Env} (I:Nat->Shared->Prop)
  (turn:∀ n s,I n s->wpAny (model prog w) A (pyNext it) (fun r s₁=>match r with
   | none=>R (.ok .next) s₁
   | some v=>wpAny (model prog w) A (letOwnedTupleGo target it v) (fun _ s₁'=>wpAny (model prog w) A (assign target env v) (fun _ s₂ =>
     wpAny (model prog w) A (forIn ifs true fun c r=>if r=true then do let ok ← isTrue c env (eval c env);pure (ForInStep.yield ok) else pure (ForInStep.yield r)) (fun ok s₃ =>
      if ok=true then wpAny (model prog w) A (eval elt env) (fun x s₄ =>
       wpAny (model prog w) A (call (.builtin "list.append") [acc,x]) (fun _ s₅=>∃ m,m < n/\I m s₅) (fun _ _=>False) s₄) (fun _ _=>False) s₃
      else ∃ m,m < n/\I m s₃) (fun _ _=>False) s₂) (fun _ _=>False) s₁') (fun _ _=>False) s₁) (fun _ _=>False) s)
  (n:Nat) (h:I n s):codeAny (model prog w) A (.compLoop (.ListComp elt [⟨target,iter,ifs,0⟩] scope pos) 0 it acc env) R s:=by
 refine codeAny_loop rfl I (fun n s hI=>?_) n h
 show wpAny _ A ((compTurn (.ListComp elt [⟨target,iter,ifs,0⟩] scope pos) 0 it acc env).onRaise (fun x=>do noteFrame x env;theTreesLotGoes x)) _ _ s
 refine wpAny_noted ?_
 rw [compTurn_list]
 refine wpAny_mono (E:=fun _ _=>False) ?_ (fun _ _ q=>q) (fun _ _ q=>q.elim)
 refine wpAny_bind (wpAny_standAt (wpAny_bind (wpAny_mono (turn n s hI) (fun r s₁ h₁=>?_) fun _ _ h'=>h')))
 cases r with
 | none=>exact wpAny_pure h₁
 | some v =>
  refine wpAny_bind (wpAny_mono h₁ (fun _ s₁' h₁'=>?_) fun _ _ h'=>h')
  refine wpAny_bind (wpAny_mono h₁' (fun _ s₂ h₂=>wpAny_bind (wpAny_mono h₂ (fun ok s₃ h₃=>?_) fun _ _ h'=>h')) fun _ _ h'=>h')
  cases ok with
  | false=>exact wpAny_pure ⟨rfl,h₃⟩
  | true =>
   exact wpAny_bind (wpAny_bind (wpAny_mono h₃ (fun x s₄ h₄=>wpAny_bind (wpAny_mono h₄ (fun _ s₅ h₅=>wpAny_pure (wpAny_pure ⟨rfl,h₅⟩)) fun _ _ h'=>h')) fun _ _ h'=>h'))
end
def clOf (f:Str->Option Addr):List (Str×NameKind)->List (Str×Addr)->List (Str×Addr)
 | [],acc=>acc
 | (n,k)::r,acc=>if k == .free then (match f n with
  | some c=>clOf f r ((n,c)::acc)
  | none=>clOf f r acc) else clOf f r acc
theorem clOf_mem {f:Str->Option Addr}:∀ {names:List (Str×NameKind)} {acc:List (Str×Addr)} {x:Str} {c:Addr},(x,c)∈clOf f names acc->(x,c)∈acc\/f x=some c
 | [],acc,x,c,h=>.inl h
 | (n,k)::r,acc,x,c,h=>by
  unfold clOf at h
  split at h
  ·cases e:f n with
   | none=>rw [e] at h;exact clOf_mem h
   | some c' =>
    rw [e] at h
    rcases clOf_mem h with z | z
    ·rcases List.mem_cons.mp z with z | z
     ·cases z;exact .inr e
     ·exact .inl z
    ·exact .inr z
  ·exact clOf_mem h
theorem clOf_acc {f:Str->Option Addr}:∀ {names:List (Str×NameKind)} {acc:List (Str×Addr)} {p:Str×Addr},p∈acc->p∈clOf f names acc
 | [],acc,p,h=>h
 | (n,k)::r,acc,p,h=>by
  unfold clOf
  split
  ·cases e:f n with
   | none=>exact clOf_acc h
   | some c'=>exact clOf_acc (List.mem_cons_of_mem _ h)
  ·exact clOf_acc h
theorem clOf_has {f:Str->Option Addr}:∀ {names:List (Str×NameKind)} {acc:List (Str×Addr)} {x:Str} {c:Addr},(x,NameKind.free)∈names->f x=some c->∃ c',(x,c')∈clOf f names acc
 | [],acc,x,c,h,_=>nomatch h
 | (n,k)::r,acc,x,c,h,hf=>by
  unfold clOf
  rcases List.mem_cons.mp h with z | z
  ·cases z
   rw [if_pos (by decide),hf]
   exact ⟨c,clOf_acc List.mem_cons_self⟩
  ·split
   ·cases e:f n with
    | none=>exact clOf_has z hf
    | some c'=>exact clOf_has z hf
   ·exact clOf_has z hf
theorem closure_is {scope:Scope} {env:Env} (h:∀ y∈scope.names,y.2=.free->∃ c,env.cells.lookup y.1=some c):closureFor scope env=pure (clOf (fun x=>env.cells.lookup x) scope.names []):=by
 unfold closureFor
 suffices H:∀ (names:List (Str×NameKind)) (acc:List (Str×Addr)),(∀ y∈names,y.2=.free->∃ c,env.cells.lookup y.1=some c) ->
   (forIn names acc fun x cs=>do
    match x with
    | (name,kind)=>if (kind == .free)=true then do
      let a ← cellOf env name
      pure (ForInStep.yield ((name,a)::cs)) else pure (ForInStep.yield cs):Sem (List (Str×Addr)))=pure (clOf (fun x=>env.cells.lookup x) names acc) by
  have:=H scope.names [] h
  simp only [bind_pure] at this ⊢
  exact this
 intro names
 induction names with
 | nil=>intro acc _;rfl
 | cons y r ih =>
  intro acc hh
  obtain ⟨n,k⟩:=y
  rw [List.forIn_cons]
  by_cases hk:(k == NameKind.free)=true
  ·obtain ⟨c,hc⟩:=hh (n,k) List.mem_cons_self (by simpa using hk)
   simp only [hk,if_true,cellOf,hc,pure_bind,clOf]
   exact ih _ fun z hz=>hh z (List.mem_cons_of_mem _ hz)
  ·have hk':(k == NameKind.free)=false:=by simpa using hk
   simp only [hk',Bool.false_eq_true,if_false,pure_bind,clOf]
   exact ih _ fun z hz=>hh z (List.mem_cons_of_mem _ hz)
theorem relabel_kind {env:Env}:∀ {names:List (Str×NameKind)} {x:Str},(∀ y∈names,y.2≠.cell) ->
  ((names.map fun (n,k)=>if (k == NameKind.free && env.scope.kind == .function && env.kindOf n == some .cell) then (n,NameKind.cell) else (n,k)).lookup x=some .cell \/
   (names.map fun (n,k)=>if (k == NameKind.free && env.scope.kind == .function && env.kindOf n == some .cell) then (n,NameKind.cell) else (n,k)).lookup x=some .free)->(x,NameKind.free)∈names
 | [],x,_,h=>by simp at h
 | (n,k)::r,x,hc,h=>by
  have ih:=@relabel_kind env r x fun y hy=>hc y (List.mem_cons_of_mem _ hy)
  simp only [List.map_cons] at h
  by_cases hk:(k == NameKind.free && env.scope.kind == .function && env.kindOf n == some .cell)=true
  ·rw [if_pos hk] at h
   by_cases hx:(x == n)=true
   ·have:x=n:=by simpa using hx
    subst this
    have hkf:k=.free:=by
     simp only [Bool.and_eq_true,beq_iff_eq] at hk
     exact hk.1.1
    subst hkf
    exact List.mem_cons_self
   ·have hx':(x == n)=false:=by simpa using hx
    simp only [List.lookup_cons,hx'] at h
    exact List.mem_cons_of_mem _ (ih h)
  ·rw [if_neg hk] at h
   by_cases hx:(x == n)=true
   ·have:x=n:=by simpa using hx
    subst this
    simp only [List.lookup_cons,beq_self_eq_true] at h
    rcases h with h | h
    ·have:=hc (x,k) List.mem_cons_self
     exact absurd (Option.some.inj h) this
    ·have hkf:k=.free:=Option.some.inj h
     subst hkf
     exact List.mem_cons_self
   ·have hx':(x == n)=false:=by simpa using hx
    simp only [List.lookup_cons,hx'] at h
    exact List.mem_cons_of_mem _ (ih h)
theorem mem_lookup {l:List (Str×Addr)} {x:Str} {c:Addr} (h:(x,c)∈l):∃ c',l.lookup x=some c':=by
 induction l with
 | nil=>cases h
 | cons p r ih =>
  obtain ⟨n,a⟩:=p
  by_cases hx:(x == n)=true
  ·exact ⟨a,by simp only [List.lookup_cons,hx]⟩
  ·have hx':(x == n)=false:=by simpa using hx
   simp only [List.lookup_cons,hx']
   rcases List.mem_cons.mp h with z | z
   ·cases z;simp at hx
   ·exact ih z
structure CNames (X:Cx) (scope:Scope) (N':List Str) (k:Nat) (ix:List Nat):Prop where
 cell:∀ y∈scope.names,y.2≠.cell
 kind:scope.kind=.function
 loc:∀ y∈scope.names,y.2=.local->scope.names.lookup y.1=some .local
 fre:∀ y∈scope.names,y.2=.free->X.env.kindOf y.1=some .cell\/X.env.kindOf y.1=some .free
 len:N'.length=k + ix.length
 ref:∀ (j i:Nat) (x:Str),ix[j]? = some i->N'[k + j]? = some x->X.N[i]? = some x/\(X.env.kindOf x=some .cell\/X.env.kindOf x=some .free)/\(relabel scope X.env).names.lookup x≠some .local
abbrev clX (X:Cx) (scope:Scope):List (Str×Addr):=clOf (fun x=>X.env.cells.lookup x) scope.names []
def blk (X:Cx) (N':List Str) (scope:Scope) (C:Addr) (s2:Shared) (H2:Hp) (fp:List Addr) (pins:List (Addr×Obj)):Cx :=
 { X with N:=N',s₀:=s2,H₀:=H2,env:=compEnvC scope (clX X scope) C X.env,outer:=X.stack,ex:=fp,fn:=fun _=>false,pn:=X.pn++pins,xe:=fun _ _=>False }
def σin (k:Nat) (ix:List Nat) (σ:St):St:=List.replicate k none++ix.map fun i=>(σ[i]?).join
section
variable {X:Cx} {pins:List (Addr×Obj)} {σ:St} {H2:Hp} {s2:Shared} {scope:Scope} {N':List Str} {k:Nat} {ix:List Nat} {fp:List Addr}
theorem clX_sub {x:Str} {c:Addr} (h:(clX X scope).lookup x=some c):X.env.cells.lookup x=some c:=by
 rcases clOf_mem (PySem.mem_of_lookup h) with z | z
 ·cases z
 ·exact z
theorem blk_start {C D:Addr} {h1:Heap} {tk:Nat} {m0:Str->Option Value} (I:Inv X pins σ H2 s2) (hf:∀ b∈fp,FpOk X pins H2 b) (hfo:∀ b∈fp,b < s2.heap.objs.size) (S:CNames X scope N' k ix) (hD:D=s2.heap.objs.size) (hC:s2.heap.objs.size < C)
  (hns:h1.Ns C m0) (hk:∀ b o,s2.heap.get? b=some o->h1.get? b=some o) (hl:h1.get? D=some { cls:=.type "list",data:=.seq ([]:List Value).toArray }) :
  Inv (blk X N' scope C s2 H2 fp pins) [] (σin k ix σ) (upd H2 D (.lst [])) { s2 with heap:=h1,toks:=tk }:=by
 have hDn:H2 D=none:=I.hok.fresh (by rw [hD];exact Nat.le_refl _)
 have hCD:C≠D:=by rw [hD];exact Nat.ne_of_gt hC
 have freshC:H2 C=none:=I.hok.fresh (Nat.le_of_lt hC)
 have has:∀ x,((compEnvC scope (clX X scope) C X.env).kindOf x=some .cell\/(compEnvC scope (clX X scope) C X.env).kindOf x=some .free)->∃ c,(clX X scope).lookup x=some c:=fun x hx=>by
  have hm:=relabel_kind (env:=X.env) S.cell hx
  obtain ⟨c,hc⟩:=I.ok.has x (S.fre _ hm rfl)
  obtain ⟨c',hc'⟩:=clOf_has (f:=fun x=>X.env.cells.lookup x) (acc:=[]) hm hc
  exact mem_lookup hc'
 refine ⟨⟨I.ok.mod,S.kind,I.ok.glob,I.ok.blt,Nat.le_of_lt hC,fun x y c h1 h2=>I.ok.inj x y c (clX_sub h1) (clX_sub h2),has,fun x c z _=>absurd z Bool.false_ne_true,I.ok.hd,I.ok.frames,.inl rfl,fun b hb=>?_,I.bs,Nat.le_trans I.ok.bsz I.sz,fun b o e hb=>?_,fun b hb hs=>?_,I.stack,I.stkFree⟩,
  rfl,I.bare,?_,⟨m0,hns,fun i x v e1 e2 e3=>?_⟩,fun x c e=>?_,?_,fun x c e=>?_,fun p hp=>?_,?_,?_⟩
 ·exact ⟨Nat.ne_of_lt (Nat.lt_trans (hfo b hb) hC),fun x c e z=>(hf b hb).2.2.2.2.1 x c (clX_sub e) z⟩
 ·rcases (hf b hb).2.2.2.1 with z | z
  ·exact I.ok.noex b o e z
  ·exact absurd (Nat.lt_of_lt_of_le (Heap.lt_size e) (Nat.le_trans I.ok.bsz z)) (Nat.lt_irrefl _)
 ·rcases List.mem_cons.mp (I.stkSub b hs) with z | z
  ·exact (hf b hb).2.1 z
  ·exact (hf b hb).2.2.1 z
 ·exact (Un.laid (fun b u q=>hk b u q) (by rw [hD];exact Nat.le_refl _) hDn)
 ·have e2':(List.replicate k none++ix.map fun i=>(σ[i]?).join)[i]? = some (some v):=e2
  have hik:k<=i:=by
   rcases Nat.lt_or_ge i k with z | z
   ·rw [List.getElem?_append_left (by simpa using z),List.getElem?_replicate,if_pos z] at e2'
    cases e2'
   ·exact z
  obtain ⟨j,rfl⟩:∃ j,i=k + j:=⟨i - k,by lia⟩
  rw [List.getElem?_append_right (by simp),List.length_replicate,Nat.add_sub_cancel_left,List.getElem?_map] at e2'
  cases ej:ix[j]? with
  | none=>rw [ej] at e2';cases e2'
  | some i0 =>
   rw [ej] at e2'
   have e4:(σ[i0]?).join=some v:=Option.some.inj e2'
   have e5:σ[i0]? = some (some v):=by
    cases q:σ[i0]? with
    | none=>rw [q] at e4;cases e4
    | some z=>rw [q] at e4;exact congrArg some e4
   obtain ⟨r1,r2,r3⟩:=S.ref j i0 x ej e1
   obtain ⟨m,_,hl'⟩:=I.loc
   obtain ⟨u,hu,lk⟩:=hl' i0 x v r1 e5 (by rcases r2 with z | z;exact .inr (.inl z);exact .inr (.inr z))
   refine ⟨u,hu,?_⟩
   rcases lk with ⟨z,_⟩ | ⟨_,c,hc,hcell⟩
   ·rcases r2 with q | q <;> rw [z] at q <;> cases q
   ·have kk:(compEnvC scope (clX X scope) C X.env).kindOf x=some .cell\/(compEnvC scope (clX X scope) C X.env).kindOf x=some .free:=by
     rcases e3 with q | q
     ·exact absurd q r3
     ·exact q
    obtain ⟨c',hc'⟩:=has x kk
    have:=clX_sub hc'
    rw [hc] at this;cases this
    obtain ⟨o,ho,hd⟩:=hcell
    exact .inr ⟨kk,c,hc',o,hk _ _ ho,hd⟩
 ·obtain ⟨v,hv⟩:=I.cell x c (clX_sub e)
  obtain ⟨o,ho,hd⟩:=hv
  exact ⟨v,o,hk _ _ ho,hd⟩
 ·show upd H2 D (.lst []) C=none
  rw [upd_ne hCD];exact freshC
 ·have e':=clX_sub (X:=X) e
  show upd H2 D (.lst []) c=none
  obtain ⟨v,o,ho,_⟩:=I.cell x c e'
  rw [upd_ne (by rw [hD];exact Nat.ne_of_lt (Heap.lt_size ho))]
  exact I.freeC x c e'
 ·have hp':p∈X.pn++pins:=by
   have z:p∈(X.pn++pins)++[]:=hp
   rwa [List.append_nil] at z
  obtain ⟨q1,q2,q3,q4,q5⟩:=I.pin p hp'
  have lt:=Heap.lt_size q1
  refine ⟨hk _ _ q1,?_,Nat.ne_of_lt (Nat.lt_trans lt hC),fun z=>?_,q5⟩
  ·show upd H2 D (.lst []) p.1=none
   rw [upd_ne (by rw [hD];exact Nat.ne_of_lt lt)];exact q2
  ·rcases List.mem_cons.mp (I.stkSub p.1 z) with y | y
   ·exact q3 y
   ·exact q4 y
 ·exact I.hok.laid hk (by rw [hD];exact Nat.le_refl _) ⟨by simp,[],0,.nil,hl⟩
 ·show (List.replicate k none++ix.map fun i=>(σ[i]?).join).length=N'.length
  rw [S.len];simp
def PCs (X:Cx) (ifs:List Expr) (t:TT):Prop:=∀ (pins:List (Addr×Obj)) (s:Shared) (σ:St) (H:Hp) (Q:Bool->Hp->Prop),Inv X pins σ H s->t σ H Q ->
 wpAny (model X.prog X.w) X.A (forIn ifs true fun c r=>if r=true then do let ok ← isTrue c X.env (eval c X.env);pure (ForInStep.yield ok) else pure (ForInStep.yield r)) (TP X pins σ Q) X.xe s
def tYes:TT:=fun _ H Q=>Q true H
theorem pcs_nil {X:Cx}:PCs X [] tYes:=fun pins s σ H Q I h=>wpAny_tests_nil ⟨H,I,h⟩
theorem pcs_one {X:Cx} {c:Expr} {t:TT} (h:PT X c t):PCs X [c] t:=fun pins s σ H Q I q=>wpAny_tests_one (h pins s σ H Q I q)
def tComp (wi:TI) (g:TG) (gt:TT) (te:TE) (k:Nat) (ix:List Nat):TE:=fun σ H Q=>wi σ H fun J H1=>∀ D,H1 D=none->∃ W:Nat->Nat->St->List V->Hp->Prop,(∃ m,W 0 m (σin k ix σ) [] (upd H1 D (.lst []))) /\
 ∀ i m σ ys H,W i m σ ys H->H D=some (.lst ys)/\((J.stop i H/\Q (.ref D) H)\/(J.go i H/\ys.length < sizeLine/\∃ N:St->List V->Hp->Prop,(∀ σ' ys' H',N σ' ys' H'->∃ m',m' < m/\W (i + 1) m' σ' ys' H') /\
  ∀ x H',J.yld i H x H'->g x σ H' fun σ2 H2=>gt σ2 H2 fun b H3=>if b=true then te σ2 H3 fun y H4=>H4 D=some (.lst ys)/\N σ2 (ys++[y]) (upd H4 D (.lst (ys++[y]))) else N σ2 ys H3))
theorem comp_any {iter elt tg:Expr} {ifs:List Expr} {pos cpos:Pos} {wi:TI} {g:TG} {gt:TT} {te:TE} (hc:X.calm=true) (S:CNames X scope N' k ix) (hi:PI X tg iter wi)
  (hb:∀ C s2 H2 fp pins,PG (blk X N' scope C s2 H2 fp pins) tg g/\PCs (blk X N' scope C s2 H2 fp pins) ifs gt/\PE (blk X N' scope C s2 H2 fp pins) elt te)
  (hs:∀ x,foldedSetIterable iter X.env x=pure x) {use:Option (Value->Sem Unit)} {Q':Value->Shared->Prop} {pins:List (Addr×Obj)} {s:Shared} {σ:St} {H:Hp} {Q:VK} (I:Inv X pins σ H s) (h:tComp wi g gt te k ix σ H Q)
  (fin:∀ (D C:Addr) (H4:Hp) (s5:Shared),FpOk X pins H4 C->(∃ m,s5.heap.Ns C m)->(∀ h',Heap.SameBut C s5.heap h'->Inv X pins σ H4 { s5 with heap:=h' })->Q (.ref D) H4->compPost (model X.prog X.w) X.A X.xe use Q' (.ref D) C (.ok .next) s5) :
  wpAny (model X.prog X.w) X.A (comprehension (.ListComp elt [⟨tg,iter,ifs,0⟩] scope pos) scope X.env cpos (newList []) false (eval iter X.env) use) Q' X.xe s:=by
 have hcl:closureFor scope X.env=pure (clX X scope):=closure_is fun y hy hk=>I.ok.has y.1 (S.fre y hy hk)
 refine wpAny_comprehension_free (use:=use) rfl hs hcl S.kind S.loc (wpAny_mono (hi pins s σ H _ I h) (fun v s1 h1=>wpAny_mono h1 (fun itv s2 h2=>?_) fun _ _ e=>e) fun _ _ e=>e)
 obtain ⟨it,fp,tn,J,H2,e,I2,T,st2,f2,q⟩:=h2
 subst e
 refine wpAny_newObj_type (wpAny_newFunctionEnv S.cell (by intro y hy;simp at hy) (fun h₁ hns₁ hsb₁=>?_) S.kind)
 dsimp only at hns₁ hsb₁ ⊢
 generalize hH2:s2.heap.push { cls:=.type "list",dict:=none,data:=.seq ([]:List Value).toArray }=G2 at hns₁ hsb₁ ⊢
 have hC:G2.objs.size=s2.heap.objs.size + 1:=by rw [← hH2,Heap.size_push]
 have hDC:s2.heap.objs.size≠G2.objs.size:=by rw [hC];exact Nat.ne_of_lt (Nat.lt_succ_self _)
 have below:∀ b,b < s2.heap.objs.size->b≠G2.objs.size:=fun b hb=>by rw [hC];exact Nat.ne_of_lt (Nat.lt_succ_of_lt hb)
 have old:∀ b o,s2.heap.get? b=some o->h₁.get? b=some o:=fun b o e=>hsb₁.extBut b o (below b (Heap.lt_size e)) (Heap.get?_push_of_some _ (hH2 ▸ Heap.get?_push_of_some _ e))
 have hacc:h₁.get? s2.heap.objs.size=some { cls:=.type "list",data:=.seq ([]:List Value).toArray }:=hsb₁.extBut _ _ hDC (Heap.get?_push_of_some _ (hH2 ▸ Heap.get?_push_size _ rfl))
 obtain ⟨W,⟨m0,w0⟩,turn⟩:=q s2.heap.objs.size (I2.hok.fresh (Nat.le_refl _))
 have hfo:∀ b∈fp,b < s2.heap.objs.size:=fun b hb=>by
  obtain ⟨o,ho,_⟩:=T.obj _ _ st2 b hb
  exact Heap.lt_size ho
 have I3:=blk_start (C:=G2.objs.size) (D:=s2.heap.objs.size) (h1:=h₁) (tk:=s2.toks + ([]:List (Str×Value)).length) I2 f2 hfo S rfl (by rw [hC];exact Nat.lt_succ_self _) hns₁ old hacc
 have st3:tn 0 h₁:=T.keep _ _ _ st2 fun b hb o e=>old b o e
 obtain ⟨hg,hcs,he⟩:=hb G2.objs.size s2 H2 fp pins
 have fpo:∀ {H':Hp},(∀ b∈fp,H' b=none)->∀ b∈fp,FpOk (blk X N' scope G2.objs.size s2 H2 fp pins) [] H' b:=fun hn b hb=>by
  obtain ⟨_,q1,q2,_,q4,q5⟩:=f2 b hb
  refine ⟨hn b hb,Nat.ne_of_lt (Nat.lt_trans (hfo b hb) (by rw [hC];exact Nat.lt_succ_self _)),fun z=>?_,.inl hb,fun x c e z=>q4 x c (clX_sub e) z,fun p hp=>?_⟩
  ·rcases List.mem_cons.mp (I2.stkSub b z) with y | y
   ·exact q1 y
   ·exact q2 y
  ·have z:p∈(X.pn++pins)++[]:=hp
   rw [List.append_nil] at z
   exact q5 p z
 have loop:∀ s3:Shared,s3={ s2 with heap:=h₁,toks:=s2.toks + ([]:List (Str×Value)).length } ->
   codeAny (model X.prog X.w) X.A (.compLoop (.ListComp elt [⟨tg,iter,ifs,0⟩] scope pos) 0 (.ref it) (.ref s2.heap.objs.size) (compEnvC scope (clX X scope) G2.objs.size X.env))
    (compPost (model X.prog X.w) X.A X.xe use Q' (.ref s2.heap.objs.size) G2.objs.size) s3:=by
  rintro s3 rfl
  refine comp_loop (fun n s'=>∃ i σ' ys H',Inv (blk X N' scope G2.objs.size s2 H2 fp pins) [] σ' H' s'/\tn i s'.heap/\(∀ b∈fp,H' b=none)/\W i n σ' ys H') ?_ m0 ⟨0,_,[],_,I3,st3,fun b hb=>?_,w0⟩
  ·rintro n s4 ⟨i,σ4,ys,H4,I4,st4,fr4,w4⟩
   obtain ⟨hD4,w5⟩:=turn i n σ4 ys H4 w4
   rcases w5 with ⟨stop,qn⟩ | ⟨go,hlen,N,hN,step⟩
   ·refine thn (T.done (blk X N' scope G2.objs.size s2 H2 fp pins) rfl rfl rfl hc i [] s4 σ4 H4 (fun _ _=>False) I4 (fpo fr4) st4 stop) fun r s5 ⟨hr,I5⟩=>?_
    subst hr
    obtain ⟨m5,ns5,_⟩:=I5.loc
    have nC0:H4 G2.objs.size=none:=I5.free
    refine fin _ _ H4 s5 (I2.fpOk (by rw [hC];exact Nat.le_succ _) nC0) ⟨m5,ns5⟩ (fun h' hs'=>?_) qn
    have off:∀ b o,b≠G2.objs.size->s5.heap.get? b=some o->h'.get? b=some o:=fun b o hb e=>hs'.extBut b o hb e
    have nC:H4 G2.objs.size=none:=I5.free
    have ne2:∀ b o,s2.heap.get? b=some o->b≠G2.objs.size:=fun b o e=>below b (Heap.lt_size e)
    have u5:=I5.base
    have un:Un (frs X.stack) fp H2 H4 s2.heap h':=⟨fun b o e n hb hx=>off b o (ne2 b o e) (u5.keep b o e n hb hx),fun b o e n hb hx=>by
      obtain ⟨sl,q⟩:=u5.slot b o e n hb hx
      exact ⟨sl,off b _ (ne2 b o e) q⟩,u5.free,fun b o e hx=>by
      obtain ⟨o',q⟩:=u5.there b o e hx
      exact ⟨o',off b o' (ne2 b o e) q⟩,u5.tups,u5.frzs,u5.tbls⟩
    have hok:HOk X.prog X.w H4 h':=fun b u e=>(I5.hok b u e).stay (fun c v hc q=>off c v (fun z=>by
      rcases hc with y | y
      ·rw [← y,z,nC] at e;cases e
      ·rw [z,nC] at y;cases y) q) (fun _ q=>q) fun _ _ q=>q
    exact I2.call' (s':={ s5 with heap:=h' }) (ch:=fp) I5.os un hok I5.bare (fun b hb=>by
     obtain ⟨_,q1,_,q3,q4,q5⟩:=f2 b hb
     exact ⟨q3,q1,q4,q5⟩)
   ·refine thn (T.item (blk X N' scope G2.objs.size s2 H2 fp pins) rfl rfl rfl hc i [] s4 σ4 H4 (fun _ _=>False) I4 (fpo fr4) st4 go) fun r s5 ⟨u,hr,h5⟩=>?_
    subst hr
    refine thn h5 fun _ s6 ⟨x,H6,I6,r6,y6,st6,fr6⟩=>?_
    have I6':=I6.pinned (fpo fr6) (T.obj _ _ st6)
    refine thn (hg _ s6 σ4 H6 x u _ I6' r6 (step x H6 y6)) fun _ s7 ⟨σ7,H7,I7,q7⟩=>?_
    refine thn (hcs _ s7 σ7 H7 _ I7 q7) fun ok s8 ⟨H8,I8,q8⟩=>?_
    have again:∀ {σ9:St} {zs:List V} {H9:Hp} {s9:Shared},Inv (blk X N' scope G2.objs.size s2 H2 fp pins) ([]++pinsAt fp s6.heap) σ9 H9 s9->N σ9 zs H9 ->
      ∃ m,m < n/\∃ i σ' ys H',Inv (blk X N' scope G2.objs.size s2 H2 fp pins) [] σ' H' s9/\tn i s9.heap/\(∀ b∈fp,H' b=none)/\W i m σ' ys H':=fun {σ9 zs H9 s9} I9 n9=>by
     obtain ⟨m',hm,w9⟩:=hN σ9 zs H9 n9
     refine ⟨m',hm,i + 1,σ9,zs,H9,I9.unpinned,T.keep _ _ _ st6 fun b hb o e=>(I9.pin (b,o) (List.mem_append_right _ (List.mem_append_right _ (mem_pinsAt hb e)))).1,fun b hb=>?_,w9⟩
     obtain ⟨o,e,d⟩:=T.obj _ _ st6 b hb
     exact (I9.pin (b,o) (List.mem_append_right _ (List.mem_append_right _ (mem_pinsAt hb e)))).2.1
    cases ok with
    | false=>exact again I8 q8
    | true =>
     refine thn (he _ s8 σ7 H8 _ I8 q8) fun xv s9 ⟨y,H9,I9,r9,hD9,n9⟩=>?_
     exact thn (mt_append (X:=blk X N' scope G2.objs.size s2 H2 fp pins) _ s9 σ7 H9 (.ref s2.heap.objs.size) [y] _ _ (fun v H'=>H'=upd H9 s2.heap.objs.size (.lst (ys++[y]))) I9 rfl (.cons r9 .nil) ⟨_,ys,y,rfl,rfl,hD9,hlen,rfl⟩)
      fun _ s10 ⟨v10,H10,I10,_,e10⟩=>by subst e10;exact again I10 n9
  ·show upd H2 s2.heap.objs.size (.lst []) b=none
   rw [upd_ne (Nat.ne_of_lt (hfo b hb))]
   exact (f2 b hb).1
 exact codeAny_compStart_list (loop _ rfl) (T.self _ 0 _ _ _ st3 (loop _ rfl))
theorem pe_comp {iter elt tg:Expr} {ifs:List Expr} {pos:Pos} {wi:TI} {g:TG} {gt:TT} {te:TE} (hc:X.calm=true) (S:CNames X scope N' k ix) (hi:PI X tg iter wi)
  (hb:∀ C s2 H2 fp pins,PG (blk X N' scope C s2 H2 fp pins) tg g/\PCs (blk X N' scope C s2 H2 fp pins) ifs gt/\PE (blk X N' scope C s2 H2 fp pins) elt te)
  (hs:∀ x,foldedSetIterable iter X.env x=pure x:=by intro _;rfl):PE X (.ListComp elt [⟨tg,iter,ifs,0⟩] scope pos) (tComp wi g gt te k ix):=by
 intro pins s σ H Q I h
 rw [eval_ListComp]
 refine comp_any hc S hi hb hs I h fun D C H4 s5 _ ⟨m5,ns5⟩ iv q=>⟨m5,ns5,fun h' hs'=>⟨.ref D,H4,iv h' hs',rfl,q⟩⟩
theorem ps_comp {i:Nat} {x:Str} {pos' spos:Pos} {iter elt tg:Expr} {ifs:List Expr} {pos:Pos} {wi:TI} {g:TG} {gt:TT} {te:TE} (hN:X.N.Nodup) (hx0:X.N[i]? = some x) (hx:Loc X.env.scope x)
  (hsw:swapsWith (.ListComp elt [⟨tg,iter,ifs,0⟩] scope pos) (some (.Name x pos')) spos.line X.env=pure true)
  (hf:X.fn x=true\/X.env.scope.names.lookup x=some .local) (hc:X.calm=true) (S:CNames X scope N' k ix) (hi:PI X tg iter wi)
  (hb:∀ C s2 H2 fp pins,PG (blk X N' scope C s2 H2 fp pins) tg g/\PCs (blk X N' scope C s2 H2 fp pins) ifs gt/\PE (blk X N' scope C s2 H2 fp pins) elt te)
  (hs:∀ x,foldedSetIterable iter X.env x=pure x:=by intro _;rfl):PS X (.Assign [.Name x pos'] (.ListComp elt [⟨tg,iter,ifs,0⟩] scope pos) spos) (tAsg (tComp wi g gt te k ix) (gName i)):=by
 intro pins s σ H D I h
 rw [exec_Assign_Name_used _ _ _ _ hsw]
 refine wpAny_bind (wpAny_standAt (wpAny_bind ?_))
 show wpAny _ X.A (do let _ ← comprehension (.ListComp elt [⟨tg,iter,ifs,0⟩] scope pos) scope X.env _ (newList []) false (eval iter X.env) (some (assign (.Name x pos') X.env))) _ _ s
 refine wpAny_bind (wpAny_mono (comp_any (use:=some (assign (.Name x pos') X.env)) (Q':=fun _ s'=>SP X pins D .next s') hc S hi hb hs I h fun D' C H4 s5 fp ⟨m5,ns5⟩ iv q=>?_) (fun _ s' hq=>wpAny_pure (wpAny_pure hq)) fun _ _ e=>e)
 show wpAny _ X.A (assign (.Name x pos') X.env (.ref D')) _ _ s5
 have J:Inv X pins σ H4 s5:=iv s5.heap (Heap.SameBut.refl _ _)
 obtain ⟨oC,e1,e2,hoC,e3⟩:=id ns5
 have J':Inv X (pins++pinsAt [C] s5.heap) σ H4 s5:=J.pinned (fp:=[C]) (fun b hb=>by rw [List.mem_singleton.mp hb];exact fp) fun b hb=>by
  rw [List.mem_singleton.mp hb]
  refine ⟨oC,hoC,fun v hv=>?_⟩
  rw [hv] at e3
  simp at e3
 refine wpAny_assign_Name (store_ok J' hN hx0 hx (show RelV (.ref D') (.ref D') from rfl) (fun s6 I6=>?_) hf)
 have pC:=I6.pin (C,oC) (List.mem_append_right _ (List.mem_append_right _ (mem_pinsAt List.mem_cons_self hoC)))
 refine ⟨m5,⟨oC,e1,e2,pC.1,e3⟩,fun h' hs'=>?_⟩
 obtain ⟨q0,q1,q2,q3,q4,q5⟩:=fp
 have off:∀ b o,b≠C->s6.heap.get? b=some o->h'.get? b=some o:=fun b o hb e=>hs'.extBut b o hb e
 have un:Un (frs X.stack) [C] H4 H4 s6.heap h':=⟨fun b o e _ _ hx=>off b o (fun z=>hx (by rw [z];exact List.mem_cons_self)) e,fun b o e _ _ hx=>⟨o.slots,off b o (fun z=>hx (by rw [z];exact List.mem_cons_self)) e⟩,
  fun _ _ _ n _=>n,fun b o e hx=>⟨o,off b o (fun z=>hx (by rw [z];exact List.mem_cons_self)) e⟩,fun _ _ e=>e,fun _ _ _ e=>e,fun b ps e=>⟨#[],by rw [Array.append_empty];exact e⟩⟩
 have hok:HOk X.prog X.w H4 h':=fun b u e=>(I6.hok b u e).stay (fun c v hc q=>off c v (fun z=>by
   rcases hc with y | y
   ·rw [← y,z,q0] at e;cases e
   ·rw [z,q0] at y;cases y) q) (fun _ q=>q) fun _ _ q=>q
 exact ⟨_,H4,I6.unpinned.call' (s':={ s6 with heap:=h' }) (ch:=[C]) rfl un hok I6.bare (fun b hb=>by
  rw [List.mem_singleton.mp hb]
  exact ⟨q3,q1,q4,q5⟩),q⟩
structure CompR (X:Cx) (e:Expr) (te:TE):Prop where
 pe:PE X e te
 ps:∀ (i:Nat) (x:Str) (pos' spos:Pos),X.N.Nodup->X.N[i]? = some x->Loc X.env.scope x->swapsWith e (some (.Name x pos')) spos.line X.env=pure true->(X.fn x=true\/X.env.scope.names.lookup x=some .local)->PS X (.Assign [.Name x pos'] e spos) (tAsg te (gName i))
theorem CompR.imp {e:Expr} {te te':TE} (h:CompR X e te) (k:∀ σ H Q,te' σ H Q->te σ H Q):CompR X e te' :=
 ⟨h.pe.imp k,fun i x pos' spos a b c d f=>(h.ps i x pos' spos a b c d f).imp fun D σ H q=>k σ H _ q⟩
theorem comp_r {iter elt tg:Expr} {ifs:List Expr} {pos:Pos} {wi:TI} {g:TG} {gt:TT} {te:TE} (hc:X.calm=true) (S:CNames X scope N' k ix) (hi:PI X tg iter wi)
  (hb:∀ C s2 H2 fp pins,PG (blk X N' scope C s2 H2 fp pins) tg g/\PCs (blk X N' scope C s2 H2 fp pins) ifs gt/\PE (blk X N' scope C s2 H2 fp pins) elt te)
  (hs:∀ x,foldedSetIterable iter X.env x=pure x:=by intro _;rfl):CompR X (.ListComp elt [⟨tg,iter,ifs,0⟩] scope pos) (tComp wi g gt te k ix) :=
 ⟨pe_comp hc S hi hb hs,fun i x pos' spos a b c d f=>ps_comp a b c d f hc S hi hb hs⟩
end
end L2
namespace DL
open PySem PySem.Spec PyProof.Rows L2
abbrev St:=L2.St
inductive D where
 | non | bl (b:Bool) | int (i:Int) | str (x:Str) | tup (xs:List D) | lst (xs:List D) | frl (xs:List D) | dic (ks:List Key) (ds:List D) | obj (c:Str) | dip (ks:List (List Key)) (ds:List D) | exc (c:Str) (ks:List Str) (ds:List D)
 deriving Inhabited
structure Exn where
 cls:Str
 args:List D
inductive Ou (α:Type) where
 | ok (a:α) | ex (e:Exn) | bad
def Ou.bind {α β:Type}:Ou α->(α->Ou β)->Ou β
 | .ok a,f=>f a
 | .ex e,_=>.ex e
 | .bad,_=>.bad
@[simp] theorem bind_ok {α β:Type} (a:α) (f:α->Ou β):(Ou.ok a).bind f=f a:=rfl
@[simp] theorem bind_ex {α β:Type} (e:Exn) (f:α->Ou β):(Ou.ex e:Ou α).bind f=.ex e:=rfl
@[simp] theorem bind_bad {α β:Type} (f:α->Ou β):(Ou.bad:Ou α).bind f=.bad:=rfl
inductive Sl where
 | un | val (d:D) | own (d:D)
abbrev DS:=List Sl
abbrev Fn:=DS->Ou D
def FrK (K:PySem.W.Frag) (H:Hp) (a:Addr) (xs:List V):Prop :=
 (∃ o,H a=some (.frz o (.lst xs))) \/
  ∃ (o:Obj) (its:Array Value) (n:Nat),K.lookup a=some o/\o.cls=.type "list"/\o.dict=none/\o.data=.seq its n/\its.size<=sizeLine/\Vals xs its.toList
theorem FrK.sq {K:PySem.W.Frag} {H:Hp} {a:Addr} {xs:List V} (h:FrK K H a xs):SqL K H a xs:=by
 rcases h with ⟨o,h⟩ | h
 ·exact .inl (.inr ⟨o,h⟩)
 ·exact .inr h
def ExcAt (H:Hp) (a C:Addr) (dx:Option Addr):Prop:=∃ φ,H a=some (.ext φ)/\∀ h:Heap,φ h->∃ o,h.get? a=some o/\o.cls=.ref C/\o.dict=dx
mutual
def Rep (K:PySem.W.Frag) (B:Addr->Prop) (H:Hp):D->V->Prop
 | .non,v=>v=.non
 | .bl b,v=>v=.bl b
 | .int i,v=>v=.int i
 | .str x,v=>v=.str x
 | .tup ds,v=>∃ a xs,v=.ref a/\SqT K H a xs/\Reps K B H ds xs
 | .lst ds,v=>∃ a xs,v=.ref a/\B a/\H a=some (.lst xs)/\Reps K B H ds xs
 | .frl ds,v=>∃ a xs,v=.ref a/\FrK K H a xs/\Reps K B H ds xs
 | .dic ks ds,v=>∃ a kvs,v=.ref a/\B a/\Rd H a (.dK kvs)/\kvs.map (·.1)=ks/\Reps K B H ds (kvs.map (·.2))
 | .obj c,v=>∃ a C dx,v=.ref a/\PySem.W.nsIn K mainGlobals c=some (some (.ref C))/\B a/\H a=some (.ins C dx [])
 | .dip ks ds,v=>∃ a kvs,v=.ref a/\B a/\H a=some (.dT kvs)/\kvs.map (·.1)=ks/\Reps K B H ds (kvs.map (·.2))
 | .exc c ks ds,v=>∃ a C dx fs,v=.ref a/\PySem.W.nsIn K mainGlobals c=some (some (.ref C))/\B a/\ExcAt H a C dx/\fs.map (·.1)=ks/\(ks=[]\/∃ d,dx=some d/\B d/\H d=some (.xd fs))/\Reps K B H ds (fs.map (·.2))
def Reps (K:PySem.W.Frag) (B:Addr->Prop) (H:Hp):List D->List V->Prop
 | [],vs=>vs=[]
 | d::ds,vs=>∃ v r,vs=v::r/\Rep K B H d v/\Reps K B H ds r
end
section
variable {K:PySem.W.Frag} {B B':Addr->Prop} {H H':Hp}
theorem same_tup (e:Same H H') {a:Addr} {xs:List V} (h:SqT K H a xs):SqT K H' a xs:=by
 rcases h with (h | ⟨o,h⟩) | h
 ·exact .inl (.inl (e _ _ h))
 ·exact .inl (.inr ⟨o,e _ _ h⟩)
 ·exact .inr h
structure Stay (K:PySem.W.Frag) (B:Addr->Prop) (H H':Hp):Prop where
 tup:∀ a xs,SqT K H a xs->SqT K H' a xs
 frz:∀ a xs,FrK K H a xs->FrK K H' a xs
 keep:∀ a o,B a->H a=some o->H' a=some o
theorem same_frz (e:Same H H') {a:Addr} {xs:List V} (h:FrK K H a xs):FrK K H' a xs:=by
 rcases h with ⟨o,h⟩ | h
 ·exact .inl ⟨o,e _ _ h⟩
 ·exact .inr h
theorem Stay.of_same (e:Same H H'):Stay K B H H':=⟨fun _ _ h=>same_tup e h,fun _ _ h=>same_frz e h,fun _ _ _ h=>e _ _ h⟩
mutual
theorem Rep.mono (hB:∀ a o,B a->H a=some o->B' a) (hs:Stay K B H H'):∀ (d:D) (v:V),Rep K B H d v->Rep K B' H' d v
 | .non,_,h=>by simpa [Rep] using h
 | .bl _,_,h=>by simpa [Rep] using h
 | .int _,_,h=>by simpa [Rep] using h
 | .str _,_,h=>by simpa [Rep] using h
 | .tup ds,v,h=>by
  simp only [Rep] at h ⊢
  obtain ⟨a,xs,e,h1,h2⟩:=h
  exact ⟨a,xs,e,hs.tup _ _ h1,Reps.mono hB hs ds xs h2⟩
 | .lst ds,v,h=>by
  simp only [Rep] at h ⊢
  obtain ⟨a,xs,e,hb,h1,h2⟩:=h
  exact ⟨a,xs,e,hB _ _ hb h1,hs.keep _ _ hb h1,Reps.mono hB hs ds xs h2⟩
 | .frl ds,v,h=>by
  simp only [Rep] at h ⊢
  obtain ⟨a,xs,e,h1,h2⟩:=h
  exact ⟨a,xs,e,hs.frz _ _ h1,Reps.mono hB hs ds xs h2⟩
 | .dic ks ds,v,h=>by
  simp only [Rep] at h ⊢
  obtain ⟨a,kvs,e,hb,h1,hk,h2⟩:=h
  rcases h1 with h1 | ⟨o,h1⟩
  ·exact ⟨a,kvs,e,hB _ _ hb h1,.inl (hs.keep _ _ hb h1),hk,Reps.mono hB hs ds _ h2⟩
  ·exact ⟨a,kvs,e,hB _ _ hb h1,.inr ⟨o,hs.keep _ _ hb h1⟩,hk,Reps.mono hB hs ds _ h2⟩
 | .obj c,v,h=>by
  simp only [Rep] at h ⊢
  obtain ⟨a,C,dx,e,hn,hb,h1⟩:=h
  exact ⟨a,C,dx,e,hn,hB _ _ hb h1,hs.keep _ _ hb h1⟩
 | .dip ks ds,v,h=>by
  simp only [Rep] at h ⊢
  obtain ⟨a,kvs,e,hb,h1,hk,h2⟩:=h
  exact ⟨a,kvs,e,hB _ _ hb h1,hs.keep _ _ hb h1,hk,Reps.mono hB hs ds _ h2⟩
 | .exc c ks ds,v,h=>by
  simp only [Rep] at h ⊢
  obtain ⟨a,C,dx,fs,e,hn,hb,⟨φ,h1,h2⟩,hk,h3,h4⟩:=h
  refine ⟨a,C,dx,fs,e,hn,hB _ _ hb h1,⟨φ,hs.keep _ _ hb h1,h2⟩,hk,?_,Reps.mono hB hs ds _ h4⟩
  rcases h3 with h3 | ⟨d,h5,h6,h7⟩
  ·exact .inl h3
  ·exact .inr ⟨d,h5,hB _ _ h6 h7,hs.keep _ _ h6 h7⟩
theorem Reps.mono (hB:∀ a o,B a->H a=some o->B' a) (hs:Stay K B H H'):∀ (ds:List D) (vs:List V),Reps K B H ds vs->Reps K B' H' ds vs
 | [],_,h=>by simpa [Reps] using h
 | d::ds,vs,h=>by
  simp only [Reps] at h ⊢
  obtain ⟨v,r,e,h1,h2⟩:=h
  exact ⟨v,r,e,Rep.mono hB hs d v h1,Reps.mono hB hs ds r h2⟩
end
theorem Rep.same {d:D} {v:V} (r:Rep K B H d v) (e:Same H H'):Rep K B H' d v:=Rep.mono (fun _ _ h _=>h) (.of_same e) d v r
theorem Reps.same {ds:List D} {vs:List V} (r:Reps K B H ds vs) (e:Same H H'):Reps K B H' ds vs:=Reps.mono (fun _ _ h _=>h) (.of_same e) ds vs r
theorem Rep.weak {d:D} {v:V} (r:Rep K B H d v) (hB:∀ a,B a->B' a):Rep K B' H d v:=Rep.mono (fun a _ h _=>hB a h) (.of_same (Same.refl H)) d v r
theorem Reps.length:∀ {ds:List D} {vs:List V},Reps K B H ds vs->vs.length=ds.length
 | [],_,h=>by simp only [Reps] at h;rw [h];rfl
 | d::ds,vs,h=>by
  simp only [Reps] at h
  obtain ⟨v,r,rfl,_,h2⟩:=h
  simp [Reps.length h2]
theorem Reps.get:∀ {ds:List D} {vs:List V},Reps K B H ds vs->∀ (i:Nat) (d:D),ds[i]? = some d->∃ v,vs[i]? = some v/\Rep K B H d v
 | [],_,_=>fun i d e=>by simp at e
 | d0::ds,vs,h=>fun i d e=>by
  simp only [Reps] at h
  obtain ⟨v,r,rfl,h1,h2⟩:=h
  cases i with
  | zero=>simp at e;subst e;exact ⟨v,rfl,h1⟩
  | succ i=>simpa using Reps.get h2 i d (by simpa using e)
theorem Reps.append:∀ {ds es:List D} {vs us:List V},Reps K B H ds vs->Reps K B H es us->Reps K B H (ds++es) (vs++us)
 | [],es,vs,us,h,h'=>by simp only [Reps] at h;subst h;simpa using h'
 | d::ds,es,vs,us,h,h'=>by
  simp only [Reps] at h
  obtain ⟨v,r,rfl,h1,h2⟩:=h
  show Reps K B H (d::(ds++es)) (v::(r++us))
  simp only [Reps]
  exact ⟨v,r++us,rfl,h1,Reps.append h2 h'⟩
theorem Reps.one {d:D} {v:V} (h:Rep K B H d v):Reps K B H [d] [v]:=by
 simp only [Reps];exact ⟨v,[],rfl,h,rfl⟩
theorem Reps.take:∀ {ds:List D} {vs:List V} (n:Nat),Reps K B H ds vs->Reps K B H (ds.take n) (vs.take n)
 | [],_,n,h=>by simp only [Reps] at h;subst h;simp [Reps]
 | d::ds,vs,0,h=>by simp [Reps]
 | d::ds,vs,n + 1,h=>by
  simp only [Reps] at h
  obtain ⟨v,r,rfl,h1,h2⟩:=h
  simp only [List.take_succ_cons,Reps]
  exact ⟨v,r.take n,rfl,h1,Reps.take n h2⟩
theorem Reps.drop:∀ {ds:List D} {vs:List V} (n:Nat),Reps K B H ds vs->Reps K B H (ds.drop n) (vs.drop n)
 | [],_,n,h=>by simp only [Reps] at h;subst h;simp [Reps]
 | d::ds,vs,0,h=>by simpa using h
 | d::ds,vs,n + 1,h=>by
  simp only [Reps] at h
  obtain ⟨v,r,rfl,h1,h2⟩:=h
  simpa using Reps.drop n h2
theorem Reps.set:∀ {ds:List D} {vs:List V} (i:Nat) {d:D} {v:V},Reps K B H ds vs->Rep K B H d v->Reps K B H (ds.set i d) (vs.set i v)
 | [],_,i,_,_,h,_=>by simp only [Reps] at h;subst h;simp [Reps]
 | d0::ds,vs,0,d,v,h,h'=>by
  simp only [Reps] at h
  obtain ⟨v0,r,rfl,h1,h2⟩:=h
  simp only [List.set_cons_zero,Reps]
  exact ⟨v,r,rfl,h',h2⟩
 | d0::ds,vs,i + 1,d,v,h,h'=>by
  simp only [Reps] at h
  obtain ⟨v0,r,rfl,h1,h2⟩:=h
  simp only [List.set_cons_succ,Reps]
  exact ⟨v0,r.set i v,rfl,h1,Reps.set i h2 h'⟩
theorem Reps.ints (ns:List Int):Reps K B H (ns.map D.int) (ns.map V.int):=by
 induction ns with
 | nil=>simp [Reps]
 | cons n r ih=>simp only [List.map_cons,Reps];exact ⟨_,_,rfl,by simp [Rep],ih⟩
end
def toV:D->V
 | .bl b=>.bl b
 | .int i=>.int i
 | .str x=>.str x
 | _=>.non
def isS:D->Bool
 | .non=>true
 | .bl _=>true
 | .int _=>true
 | .str _=>true
 | _=>false
theorem Rep.ofS {K:PySem.W.Frag} {B:Addr->Prop} {H:Hp} {d:D} (h:isS d=true):Rep K B H d (toV d):=by
 cases d <;> simp [isS,Rep,toV] at h ⊢
mutual
def imm:D->Bool
 | .tup ds=>imms ds
 | .frl ds=>imms ds
 | .lst _=>false
 | .dic _ _=>false
 | .obj _=>false
 | .dip _ _=>false
 | .exc _ _ _=>false
 | _=>true
def imms:List D->Bool
 | []=>true
 | d::ds=>imm d && imms ds
end
mutual
theorem Rep.imm {K:PySem.W.Frag} {B B':Addr->Prop} {H:Hp}:∀ (d:D) (v:V),imm d=true->Rep K B H d v->Rep K B' H d v
 | .non,_,_,h=>by simpa [Rep] using h
 | .bl _,_,_,h=>by simpa [Rep] using h
 | .int _,_,_,h=>by simpa [Rep] using h
 | .str _,_,_,h=>by simpa [Rep] using h
 | .tup ds,v,hi,h=>by
  simp only [Rep] at h ⊢
  obtain ⟨a,xs,e,h1,h2⟩:=h
  exact ⟨a,xs,e,h1,Reps.imm ds xs (by simpa [DL.imm] using hi) h2⟩
 | .frl ds,v,hi,h=>by
  simp only [Rep] at h ⊢
  obtain ⟨a,xs,e,h1,h2⟩:=h
  exact ⟨a,xs,e,h1,Reps.imm ds xs (by simpa [DL.imm] using hi) h2⟩
 | .lst ds,v,hi,h=>by simp [DL.imm] at hi
 | .dic ks ds,v,hi,h=>by simp [DL.imm] at hi
 | .obj C,v,hi,h=>by simp [DL.imm] at hi
 | .dip ks ds,v,hi,h=>by simp [DL.imm] at hi
 | .exc c ks ds,v,hi,h=>by simp [DL.imm] at hi
theorem Reps.imm {K:PySem.W.Frag} {B B':Addr->Prop} {H:Hp}:∀ (ds:List D) (vs:List V),imms ds=true->Reps K B H ds vs->Reps K B' H ds vs
 | [],_,_,h=>by simpa [Reps] using h
 | d::ds,vs,hi,h=>by
  simp only [Reps] at h ⊢
  obtain ⟨v,r,e,h1,h2⟩:=h
  simp only [imms,Bool.and_eq_true] at hi
  exact ⟨v,r,e,Rep.imm d v hi.1 h1,Reps.imm ds r hi.2 h2⟩
end
def RepO (K:PySem.W.Frag) (B:Addr->Prop) (H:Hp):D->HO->Prop
 | .lst ds,o=>∃ xs,o=.lst xs/\Reps K B H ds xs
 | .dic ks ds,o=>∃ kvs,o=.dK kvs/\kvs.map (·.1)=ks/\Reps K B H ds (kvs.map (·.2))
 | .dip ks ds,o=>∃ kvs,o=.dT kvs/\kvs.map (·.1)=ks/\Reps K B H ds (kvs.map (·.2))
 | _,_=>False
section
variable {K:PySem.W.Frag} {B B':Addr->Prop} {H H':Hp}
theorem RepO.mono {d:D} {o:HO} (hB:∀ a o,B a->H a=some o->B' a) (hs:Stay K B H H') (r:RepO K B H d o):RepO K B' H' d o:=by
 cases d <;> first | exact r.elim | skip
 ·obtain ⟨xs,h1,h2⟩:=r
  exact ⟨xs,h1,Reps.mono hB hs _ _ h2⟩
 ·obtain ⟨kvs,h1,h2,h3⟩:=r
  exact ⟨kvs,h1,h2,Reps.mono hB hs _ _ h3⟩
 ·obtain ⟨kvs,h1,h2,h3⟩:=r
  exact ⟨kvs,h1,h2,Reps.mono hB hs _ _ h3⟩
theorem RepO.same {d:D} {o:HO} (r:RepO K B H d o) (e:Same H H'):RepO K B H' d o:=r.mono (fun _ _ h _=>h) (.of_same e)
theorem RepO.weak {d:D} {o:HO} (r:RepO K B H d o) (hB:∀ a,B a->B' a):RepO K B' H d o:=r.mono (fun a _ h _=>hB a h) (.of_same (Same.refl H))
theorem RepO.rep {d:D} {o:HO} {p:Addr} (r:RepO K B H d o) (h:H p=some o) (hp:B p):Rep K B H d (.ref p):=by
 cases d <;> first | exact r.elim | skip
 ·obtain ⟨xs,rfl,h2⟩:=r
  simp only [Rep]
  exact ⟨p,xs,rfl,hp,h,h2⟩
 ·obtain ⟨kvs,rfl,h2,h3⟩:=r
  simp only [Rep]
  exact ⟨p,kvs,rfl,hp,.inl h,h2,h3⟩
 ·obtain ⟨kvs,rfl,h2,h3⟩:=r
  simp only [Rep]
  exact ⟨p,kvs,rfl,hp,h,h2,h3⟩
theorem RepO.noT {d:D} {o:HO} (r:RepO K B H d o) (xs:List V):HO.tup xs≠o:=by
 cases d <;> first | exact r.elim | skip
 ·obtain ⟨xs,rfl,h2⟩:=r;intro w;cases w
 ·obtain ⟨kvs,rfl,h2,h3⟩:=r;intro w;cases w
 ·obtain ⟨kvs,rfl,h2,h3⟩:=r;intro w;cases w
theorem RepO.noF {d:D} {o:HO} (r:RepO K B H d o) (ob:Obj) (u:HO):HO.frz ob u≠o:=by
 cases d <;> first | exact r.elim | skip
 ·obtain ⟨xs,rfl,h2⟩:=r;intro w;cases w
 ·obtain ⟨kvs,rfl,h2,h3⟩:=r;intro w;cases w
 ·obtain ⟨kvs,rfl,h2,h3⟩:=r;intro w;cases w
end
structure Cn where
 K:PySem.W.Frag
 B:Addr->Prop
 H₀:Hp
 G:List (D×V)
 P:Option (Nat×Addr):=none
def Own (σ:St) (δ:DS) (p:Addr):Prop:=∃ (i:Nat) (ds:D),δ[i]? = some (Sl.own ds)/\σ[i]? = some (some (V.ref p))
def Av (c:Cn) (σ:St) (δ:DS) (a:Addr):Prop:=c.B a/\¬ Own σ δ a
structure Abs (c:Cn) (σ:St) (δ:DS) (H:Hp):Prop where
 same:Same c.H₀ H
 fr:∀ a,H a=none->c.B a
 len:δ.length=σ.length
 val:∀ (i:Nat) (d:D),δ[i]? = some (Sl.val d)->∃ v,σ[i]? = some (some v)/\Rep c.K (Av c σ δ) H d v
 own:∀ (i:Nat) (ds:D),δ[i]? = some (Sl.own ds)->∃ p xs,σ[i]? = some (some (V.ref p))/\H p=some xs/\(c.H₀ p=none/\c.B p)/\RepO c.K (Av c σ δ) H ds xs
 gho:∀ d v,(d,v)∈c.G->Rep c.K (Av c σ δ) H d v
 inj:∀ (i j:Nat) (di dj:D) (p:Addr),δ[i]? = some (Sl.own di)->δ[j]? = some (Sl.own dj)->σ[i]? = some (some (V.ref p))->σ[j]? = some (some (V.ref p))->i=j
 pin:∀ (i:Nat) (p:Addr),c.P=some (i,p)->∀ d,δ[i]? = some (Sl.own d)->σ[i]? = some (some (V.ref p))
section
variable {c:Cn} {σ:St} {δ:DS} {H H':Hp}
theorem Abs.grow (a:Abs c σ δ H) (e:Same H H'):Abs c σ δ H' where
 same:=a.same.trans e
 fr:=fun b h=>a.fr b (e.free h)
 len:=a.len
 val:=fun i d h=>by obtain ⟨v,h1,h2⟩:=a.val i d h;exact ⟨v,h1,h2.same e⟩
 own:=fun i ds h=>by obtain ⟨p,xs,h1,h2,h3,h4⟩:=a.own i ds h;exact ⟨p,xs,h1,e _ _ h2,h3,h4.same e⟩
 gho:=fun d v h=>(a.gho d v h).same e
 inj:=a.inj
 pin:=a.pin
theorem Own.is (a:Abs c σ δ H) {p:Addr} (o:Own σ δ p):∃ xs,H p=some xs/\c.H₀ p=none:=by
 obtain ⟨i,ds,h1,h2⟩:=o
 obtain ⟨p',xs,h3,h4,h5,_⟩:=a.own i ds h1
 rw [h2] at h3;cases h3
 exact ⟨xs,h4,h5.1⟩
theorem Abs.av_new (a:Abs c σ δ H) {p:Addr} (h:H p=none):Av c σ δ p:=by
 refine ⟨a.fr p h,fun o=>?_⟩
 obtain ⟨xs,h1,_⟩:=Own.is a o
 rw [h] at h1;cases h1
end
inductive Md where
 | W | S | F
def Post (c:Cn) (σ:St) (δ:DS) (H:Hp) (m:Md) (d:D) (v:V) (H':Hp):Prop :=
 match m with
 | .W=>Rep c.K c.B H' d v
 | .S=>Rep c.K (Av c σ δ) H' d v
 | .F=>∃ p xs,v=.ref p/\H p=none/\H' p=some xs/\RepO c.K (fun a=>Av c σ δ a/\a≠p) H' d xs
def Wish (K:PySem.W.Frag) (E:XK) (H₀:Hp) (e:Exn):Prop:=∃ C,PySem.W.nsIn K mainGlobals e.cls=some (some (.ref C))/\∀ H',Same H₀ H'->E (.ref C) none H'
def Res {α:Type} (K:PySem.W.Frag) (E:XK) (H₀:Hp) (o:Ou α) (k:α->Prop):Prop :=
 match o with
 | .ok a=>k a
 | .ex e=>Wish K E H₀ e
 | .bad=>False
theorem Res.bind {α β:Type} {K:PySem.W.Frag} {E:XK} {H₀:Hp} {o:Ou α} {f:α->Ou β} {k:β->Prop} (h:Res K E H₀ (o.bind f) k):Res K E H₀ o fun a=>Res K E H₀ (f a) k:=by
 cases o with
 | ok a=>exact h
 | ex e=>exact h
 | bad=>exact h
theorem Res.imp {α:Type} {K:PySem.W.Frag} {E:XK} {H₀:Hp} {o:Ou α} {k k':α->Prop} (h:Res K E H₀ o k) (hi:∀ a,o=.ok a->k a->k' a):Res K E H₀ o k':=by
 cases o with
 | ok a=>exact hi a rfl h
 | ex e=>exact h
 | bad=>exact h
def tX (K:PySem.W.Frag) (E:XK) (m:Md) (f:Fn):TE:=fun σ H Q=>∃ c δ,c.K=K/\Abs c σ δ H/\Res K E c.H₀ (f δ) fun d=>∀ v H',Same H H'->Post c σ δ H m d v H'->Q v H'
theorem Post.toW {c:Cn} {σ:St} {δ:DS} {H H':Hp} {m:Md} {d:D} {v:V} (a:Abs c σ δ H) (e:Same H H') (p:Post c σ δ H m d v H'):Rep c.K c.B H' d v:=by
 cases m with
 | W=>exact p
 | S=>exact Rep.weak p fun _ h=>h.1
 | F =>
  obtain ⟨p,xs,rfl,h1,h2,h3⟩:=p
  exact (h3.weak fun _ h=>h.1.1).rep h2 (a.fr p h1)
theorem Post.toS {c:Cn} {σ:St} {δ:DS} {H H':Hp} {d:D} {v:V} (a:Abs c σ δ H) (p:Post c σ δ H .F d v H'):Post c σ δ H .S d v H':=by
 obtain ⟨p,xs,rfl,h1,h2,h3⟩:=p
 show Rep _ _ _ _ _
 exact (h3.weak fun _ h=>h.1).rep h2 (a.av_new h1)
def notF:Md->Bool
 | .F=>false
 | _=>true
theorem Post.ofS {c:Cn} {σ:St} {δ:DS} {H H':Hp} {m:Md} {d:D} (hm:notF m=true) (h:isS d=true):Post c σ δ H m d (toV d) H':=by
 cases m with
 | W=>exact Rep.ofS h
 | S=>exact Rep.ofS h
 | F=>simp [notF] at hm
def fVar (i:Nat):Fn:=fun δ=>match δ[i]? with
 | some (.val d)=>.ok d
 | some (.own d)=>.ok d
 | _=>.bad
def fVarS (i:Nat):Fn:=fun δ=>match δ[i]? with
 | some (.val d)=>.ok d
 | _=>.bad
def fC (d:D):Fn:=fun _=>.ok d
section
variable {X:Cx} {E:XK} {m:Md} {a b:Expr} {fa fb:Fn} {pos:Pos}
theorem rd_var {K:PySem.W.Frag} {i:Nat} {σ:St} {H:Hp} {Q:VK} (h:tX K E .W (fVar i) σ H Q):tVar i σ H Q:=by
 obtain ⟨c,δ,rfl,ab,h⟩:=h
 unfold fVar at h
 cases e:δ[i]? with
 | none=>rw [e] at h;exact h.elim
 | some s =>
  rw [e] at h
  cases s with
  | un=>exact h.elim
  | val d =>
   obtain ⟨v,h1,h2⟩:=ab.val i d e
   exact ⟨v,h1,h v H (Same.refl H) (Rep.weak h2 fun _ z=>z.1)⟩
  | own ds =>
   obtain ⟨p,xs,h1,h2,h3,h4⟩:=ab.own i ds e
   refine ⟨.ref p,h1,h (.ref p) H (Same.refl H) ?_⟩
   show Rep _ _ _ _ _
   exact (h4.weak fun _ z=>z.1).rep h2 h3.2
theorem rd_varS {K:PySem.W.Frag} {i:Nat} {σ:St} {H:Hp} {Q:VK} (h:tX K E .S (fVarS i) σ H Q):tVar i σ H Q:=by
 obtain ⟨c,δ,rfl,ab,h⟩:=h
 unfold fVarS at h
 cases e:δ[i]? with
 | none=>rw [e] at h;exact h.elim
 | some s =>
  rw [e] at h
  cases s with
  | un=>exact h.elim
  | val d =>
   obtain ⟨v,h1,h2⟩:=ab.val i d e
   exact ⟨v,h1,h v H (Same.refl H) h2⟩
  | own ds=>exact h.elim
theorem xv (i:Nat) {x:Str} (hN:X.N[i]? = some x:=by rfl) (hv:Vis X.env.scope x:=by first | exact Or.inl rfl | exact Or.inr (Or.inl rfl) | exact Or.inr (Or.inr rfl)) (hd:(x == ("__debug__":Str))=false:=by decide)
  (hcd:(x == ("__classdict__":Str))=false:=by decide):PE X (.Name x pos) (tX X.K E .W (fVar i)):=PE.imp (pv i hN hv hd hcd) fun _ _ _ h=>rd_var h
theorem xvS (i:Nat) {x:Str} (hN:X.N[i]? = some x:=by rfl) (hv:Vis X.env.scope x:=by first | exact Or.inl rfl | exact Or.inr (Or.inl rfl) | exact Or.inr (Or.inr rfl)) (hd:(x == ("__debug__":Str))=false:=by decide)
  (hcd:(x == ("__classdict__":Str))=false:=by decide):PE X (.Name x pos) (tX X.K E .S (fVarS i)):=PE.imp (pv i hN hv hd hcd) fun _ _ _ h=>rd_varS h
theorem rd_c {K:PySem.W.Frag} {d:D} {σ:St} {H:Hp} {Q:VK} (hm:notF m=true) (hs:isS d=true) (h:tX K E m (fC d) σ H Q):tC (toV d) σ H Q:=by
 obtain ⟨c,δ,rfl,ab,h⟩:=h
 exact h _ H (Same.refl H) (Post.ofS hm hs)
theorem xint {i j} (hm:notF m=true:=by rfl):PE X (.Constant (.int i) j pos) (tX X.K E m (fC (.int i))):=PE.imp pe_int fun _ _ _ h=>rd_c hm rfl h
theorem xbl {i j} (hm:notF m=true:=by rfl):PE X (.Constant (.bool i) j pos) (tX X.K E m (fC (.bl i))):=PE.imp pe_bl fun _ _ _ h=>rd_c hm rfl h
theorem xnon {j} (hm:notF m=true:=by rfl):PE X (.Constant .none j pos) (tX X.K E m (fC .non)):=PE.imp pe_non fun _ _ _ h=>rd_c hm rfl h
theorem xstr {i j} (hm:notF m=true:=by rfl):PE X (.Constant (.str i) j pos) (tX X.K E m (fC (.str i))):=PE.imp pe_str fun _ _ _ h=>rd_c hm rfl h
theorem toW (h:PE X a (tX X.K E m fa)):PE X a (tX X.K E .W fa):=h.imp fun σ H Q q=>by
 obtain ⟨c,δ,hK,ab,q⟩:=q
 exact ⟨c,δ,hK,ab,q.imp fun d _ k v H' e p=>k v H' e (Post.toW ab e p)⟩
theorem toS (h:PE X a (tX X.K E .F fa)):PE X a (tX X.K E .S fa):=h.imp fun σ H Q q=>by
 obtain ⟨c,δ,hK,ab,q⟩:=q
 exact ⟨c,δ,hK,ab,q.imp fun d _ k v H' e p=>k v H' e (Post.toS ab p)⟩
def fUp (f:Fn):Fn:=fun δ=>(f δ).bind fun d=>if imm d=true then .ok d else .bad
theorem toUp (h:PE X a (tX X.K E .W fa)):PE X a (tX X.K E .S (fUp fa)):=h.imp fun σ H Q q=>by
 obtain ⟨c,δ,hK,ab,q⟩:=q
 refine ⟨c,δ,hK,ab,(Res.bind q).imp fun d _ k v H' e p=>?_⟩
 by_cases hi:imm d=true
 ·rw [if_pos hi] at k
  exact k v H' e (Rep.imm d v hi p)
 ·rw [if_neg hi] at k
  exact k.elim
def f2 (g:D->D->Ou D) (fa fb:Fn):Fn:=fun δ=>(fa δ).bind fun x=>(fb δ).bind fun y=>g x y
def OpD (X:Cx) (f:Value->Value->Sem Value) (g:D->D->Ou D):Prop :=
 ∃ r,OpR X f r/\∀ (B:Addr->Prop) (H:Hp) (dx dy:D) (x y:V) (Q:VK),Rep X.K B H dx x->Rep X.K B H dy y->match g dx dy with
  | .ok d=>isS d=true/\(Q (toV d) H->r x y H Q)
  | .ex _=>False
  | .bad=>True
theorem rd_2 {r:R2} {g:D->D->Ou D} {σ:St} {H:Hp} {Q:VK} (hr:∀ (B:Addr->Prop) (H:Hp) (dx dy:D) (x y:V) (Q:VK),Rep X.K B H dx x->Rep X.K B H dy y->match g dx dy with
  | .ok d=>isS d=true/\(Q (toV d) H->r x y H Q)
  | .ex _=>False
  | .bad=>True) (hm:notF m=true) (h:tX X.K E m (f2 g fa fb) σ H Q):tOp r (tX X.K E .W fa) (tX X.K E .W fb) σ H Q:=by
 obtain ⟨c,δ,hK,ab,h⟩:=h
 refine ⟨c,δ,hK,ab,(Res.bind h).imp fun dx _ k x H1 e1 r1=>?_⟩
 refine ⟨c,δ,hK,ab.grow e1,(Res.bind k).imp fun dy _ k y H2 e2 r2=>?_⟩
 have r1':Rep X.K c.B H2 dx x:=by
  have z:Rep c.K c.B H1 dx x:=r1
  rw [hK] at z;exact z.same e2
 have r2':Rep X.K c.B H2 dy y:=by
  have z:Rep c.K c.B H2 dy y:=r2
  rw [hK] at z;exact z
 have q:=hr c.B H2 dx dy x y Q r1' r2'
 cases e:g dx dy with
 | ok d =>
  rw [e] at q k
  exact q.2 (k (toV d) H2 (e1.trans e2) (Post.ofS hm q.1))
 | ex z=>rw [e] at q;exact q.elim
 | bad=>rw [e] at k;exact k.elim
theorem xop {op:Operator} {g:D->D->Ou D} (ho:OpD X (binaryOp op) g) (ha:PE X a (tX X.K E .W fa)) (hb:PE X b (tX X.K E .W fb)) (hm:notF m=true:=by rfl):PE X (.BinOp a op b pos) (tX X.K E m (f2 g fa fb)):=by
 obtain ⟨r,h1,h2⟩:=ho
 exact (pe_op h1 ha hb).imp fun σ H Q q=>rd_2 h2 hm q
theorem xcmp {op:CmpOp} {g:D->D->Ou D} (ho:OpD X (compareOp op) g) (ha:PE X a (tX X.K E .W fa)) (hb:PE X b (tX X.K E .W fb)) (hk:behindInMarks op b=false) (hm:notF m=true:=by rfl):PE X (.Compare a [op] [b] pos) (tX X.K E m (f2 g fa fb)):=by
 obtain ⟨r,h1,h2⟩:=ho
 exact (pe_cmpR h1 ha hb hk).imp fun σ H Q q=>rd_2 h2 hm q
def gAdd:D->D->Ou D
 | .int i,.int j=>.ok (.int (i + j))
 | .str x,.str y=>if x.length + y.length<=sizeLine then .ok (.str (x++y)) else .bad
 | _,_=>.bad
theorem od_add:OpD X (binaryOp .Add) gAdd:=by
 refine ⟨_,OpR.or op_add op_add_str,fun B H dx dy x y Q rx ry=>?_⟩
 cases dx <;> cases dy <;> simp only [gAdd]
 ·rename_i i j
  simp only [Rep] at rx ry
  subst rx;subst ry
  exact ⟨rfl,fun q=>.inl ⟨i,j,rfl,rfl,q⟩⟩
 ·rename_i i j
  simp only [Rep] at rx ry
  subst rx;subst ry
  by_cases hl:i.length + j.length<=sizeLine
  ·rw [if_pos hl]
   exact ⟨rfl,fun q=>.inr ⟨i,j,rfl,rfl,hl,q⟩⟩
  ·rw [if_neg hl]
   trivial
def tT (K:PySem.W.Frag) (E:XK) (f:DS->Ou Bool):TT:=fun σ H Q=>∃ c δ,c.K=K/\Abs c σ δ H/\Res K E c.H₀ (f δ) fun b=>∀ H',Same H H'->Q b H'
def asB:D->Ou Bool
 | .bl b=>.ok b
 | _=>.bad
def fAndV (fa fb:Fn):Fn:=fun δ=>(fa δ).bind fun x=>(asB x).bind fun b=>if b=true then fb δ else .ok (.bl false)
def fOrV (fa fb:Fn):Fn:=fun δ=>(fa δ).bind fun x=>(asB x).bind fun b=>if b=true then .ok (.bl true) else fb δ
def fNotV (fa:Fn):Fn:=fun δ=>(fa δ).bind fun x=>(asB x).bind fun b=>.ok (.bl (!b))
theorem Res.asB {K K':PySem.W.Frag} {H₀:Hp} {B:Addr->Prop} {H:Hp} {d:D} {v:V} {k:Bool->Prop} (h:Res K E H₀ (asB d) k) (r:Rep K' B H d v):∃ b,d=.bl b/\v=.bl b/\k b:=by
 cases d <;> first | exact h.elim | skip
 rename_i b
 simp only [Rep] at r
 exact ⟨b,rfl,r,h⟩
variable {rest:List Expr}
theorem xone {op} (h:PE X a (tX X.K E m fa)):PE X (.BoolOp op [a] pos) (tX X.K E m fa):=pe_one h
theorem xand (ha:PE X a (tX X.K E .W fa)) (hb:PE X (.BoolOp .And (b::rest) pos) (tX X.K E m fb)) (hm:notF m=true:=by rfl):PE X (.BoolOp .And (a::b::rest) pos) (tX X.K E m (fAndV fa fb)):=(pe_and ha hb).imp fun σ H Q q=>by
 obtain ⟨c,δ,hK,ab,q⟩:=q
 refine ⟨c,δ,hK,ab,(Res.bind q).imp fun dx _ k x H1 e1 r1=>?_⟩
 obtain ⟨z,rfl,rfl,k⟩:=Res.asB (Res.bind k) (show Rep c.K c.B H1 dx x from r1)
 refine ⟨z,rfl,?_⟩
 cases z with
 | true=>exact ⟨c,δ,hK,ab.grow e1,k.imp fun d _ k v H' e p=>k v H' (e1.trans e) (by
   cases m with
   | W=>exact p
   | S=>exact p
   | F=>simp [notF] at hm)⟩
 | false=>exact k _ H1 e1 (Post.ofS hm rfl)
theorem xor (ha:PE X a (tX X.K E .W fa)) (hb:PE X (.BoolOp .Or (b::rest) pos) (tX X.K E m fb)) (hm:notF m=true:=by rfl):PE X (.BoolOp .Or (a::b::rest) pos) (tX X.K E m (fOrV fa fb)):=(pe_or ha hb).imp fun σ H Q q=>by
 obtain ⟨c,δ,hK,ab,q⟩:=q
 refine ⟨c,δ,hK,ab,(Res.bind q).imp fun dx _ k x H1 e1 r1=>?_⟩
 obtain ⟨z,rfl,rfl,k⟩:=Res.asB (Res.bind k) (show Rep c.K c.B H1 dx x from r1)
 refine ⟨z,rfl,?_⟩
 cases z with
 | false=>exact ⟨c,δ,hK,ab.grow e1,k.imp fun d _ k v H' e p=>k v H' (e1.trans e) (by
   cases m with
   | W=>exact p
   | S=>exact p
   | F=>simp [notF] at hm)⟩
 | true=>exact k _ H1 e1 (Post.ofS hm rfl)
def truD:D->Ou Bool
 | .non=>.ok false
 | .bl b=>.ok b
 | .int i=>.ok (i != 0)
 | .str y=>if y.length<=sizeLine then .ok ((y.length:Int) != 0) else .bad
 | .tup ds=>.ok (!ds.isEmpty)
 | .lst ds=>.ok (!ds.isEmpty)
 | .frl ds=>.ok (!ds.isEmpty)
 | .dic _ _=>.bad
 | .obj _=>.bad
 | .dip _ _=>.bad
 | .exc _ _ _=>.bad
def fTru (fa:Fn):DS->Ou Bool:=fun δ=>(fa δ).bind truD
def fAsB (fa:Fn):DS->Ou Bool:=fun δ=>(fa δ).bind asB
theorem empty_of {K:PySem.W.Frag} {B:Addr->Prop} {H:Hp} {ds:List D} {xs:List V} (r:Reps K B H ds xs):(!ds.isEmpty)=!xs.isEmpty:=by
 have h:=r.length
 cases ds <;> cases xs <;> simp at h ⊢
theorem rd_tru {K:PySem.W.Frag} {H₀:Hp} {B:Addr->Prop} {H:Hp} {d:D} {v:V} {k:Bool->Prop} (h:Res K E H₀ (truD d) k) (r:Rep K B H d v):∃ b,TruV K v H b/\k b:=by
 cases d <;> simp only [Rep] at r
 ·subst r;exact ⟨_,rfl,h⟩
 ·subst r;exact ⟨_,rfl,h⟩
 ·subst r;exact ⟨_,rfl,h⟩
 ·subst r
  rename_i y
  simp only [truD] at h
  by_cases hl:y.length<=sizeLine
  ·rw [if_pos hl] at h;exact ⟨_,⟨hl,rfl⟩,h⟩
  ·rw [if_neg hl] at h;exact h.elim
 ·obtain ⟨a,xs,rfl,h1,h2⟩:=r
  exact ⟨_,.inr (.inl ⟨xs,h1,rfl⟩),by rw [← empty_of h2];exact h⟩
 ·obtain ⟨a,xs,rfl,hb,h1,h2⟩:=r
  exact ⟨_,.inl ⟨xs,.of h1,rfl⟩,by rw [← empty_of h2];exact h⟩
 ·obtain ⟨a,xs,rfl,h1,h2⟩:=r
  exact ⟨_,.inl ⟨xs,h1.sq,rfl⟩,by rw [← empty_of h2];exact h⟩
 ·exact h.elim
 ·exact h.elim
 ·exact h.elim
 ·exact h.elim
theorem xt (ha:PE X a (tX X.K E .W fa)) (he:∀ whole,isTrue a X.env whole=(do let v ← whole;standAt a.pos;holding [v] (truthy v)):=by intro _;rfl):PT X a (tT X.K E (fTru fa)):=(pt_truth ha he).imp fun σ H Q q=>by
 obtain ⟨c,δ,hK,ab,q⟩:=q
 refine ⟨c,δ,hK,ab,(Res.bind q).imp fun dx _ k x H1 e1 r1=>?_⟩
 obtain ⟨z,h1,h2⟩:=rd_tru k (show Rep X.K c.B H1 dx x by rw [← hK];exact r1)
 exact ⟨z,h1,h2 H1 e1⟩
theorem xt_cmp {op:CmpOp} {g:D->D->Ou D} (ho:OpD X (compareOp op) g) (ha:PE X a (tX X.K E .W fa)) (hb:PE X b (tX X.K E .W fb)) (hk:behindInMarks op b=false):PT X (.Compare a [op] [b] pos) (tT X.K E (fAsB (f2 g fa fb))):=by
 obtain ⟨r,h1,h2⟩:=ho
 refine (pt_cmpR h1 ha hb hk).imp fun σ H Q q=>?_
 refine rd_2 (m:=.W) (E:=E) (fa:=fa) (fb:=fb) h2 rfl ?_
 obtain ⟨c,δ,hK,ab,q⟩:=q
 refine ⟨c,δ,hK,ab,(Res.bind q).imp fun d _ k v H' e p=>?_⟩
 obtain ⟨z,rfl,rfl,k⟩:=Res.asB k (show Rep c.K c.B H' d v from p)
 exact ⟨z,rfl,k H' e⟩
variable {ga gb:DS->Ou Bool}
def fAndT (ga gb:DS->Ou Bool):DS->Ou Bool:=fun δ=>(ga δ).bind fun b=>if b=true then gb δ else .ok false
def fOrT (ga gb:DS->Ou Bool):DS->Ou Bool:=fun δ=>(ga δ).bind fun b=>if b=true then .ok true else gb δ
def fNotT (ga:DS->Ou Bool):DS->Ou Bool:=fun δ=>(ga δ).bind fun b=>.ok (!b)
theorem xw_and1 (ha:PT X a (tT X.K E ga)):PW X (.BoolOp .And [a] pos) (tT X.K E ga):=pw_and1 ha
theorem xw_or1 (ha:PT X a (tT X.K E ga)):PW X (.BoolOp .Or [a] pos) (tT X.K E ga):=pw_or1 ha
theorem xw_and (ha:PT X a (tT X.K E ga)) (hb:PW X (.BoolOp .And (b::rest) pos) (tT X.K E gb)):PW X (.BoolOp .And (a::b::rest) pos) (tT X.K E (fAndT ga gb)):=(pw_and ha hb).imp fun σ H Q q=>by
 obtain ⟨c,δ,hK,ab,q⟩:=q
 refine ⟨c,δ,hK,ab,(Res.bind q).imp fun z _ k H1 e1=>?_⟩
 cases z with
 | true=>exact ⟨c,δ,hK,ab.grow e1,k.imp fun d _ k H' e=>k H' (e1.trans e)⟩
 | false=>exact k H1 e1
theorem xw_or (ha:PT X a (tT X.K E ga)) (hb:PW X (.BoolOp .Or (b::rest) pos) (tT X.K E gb)):PW X (.BoolOp .Or (a::b::rest) pos) (tT X.K E (fOrT ga gb)):=(pw_or ha hb).imp fun σ H Q q=>by
 obtain ⟨c,δ,hK,ab,q⟩:=q
 refine ⟨c,δ,hK,ab,(Res.bind q).imp fun z _ k H1 e1=>?_⟩
 cases z with
 | false=>exact ⟨c,δ,hK,ab.grow e1,k.imp fun d _ k H' e=>k H' (e1.trans e)⟩
 | true=>exact k H1 e1
theorem xt_not (ha:PT X a (tT X.K E ga)):PT X (.UnaryOp .Not a pos) (tT X.K E (fNotT ga)):=(pt_not ha).imp fun σ H Q q=>by
 obtain ⟨c,δ,hK,ab,q⟩:=q
 exact ⟨c,δ,hK,ab,(Res.bind q).imp fun z _ k H1 e1=>k H1 e1⟩
def fIfE (gc:DS->Ou Bool) (fa fb:Fn):Fn:=fun δ=>(gc δ).bind fun b=>if b=true then fa δ else fb δ
def BOf (c:Cn) (σ:St) (δ:DS):Md->Addr->Prop
 | .W=>c.B
 | _=>Av c σ δ
def fArgs:List Fn->DS->Ou (List D)
 | [],_=>.ok []
 | f::fs,δ=>(f δ).bind fun d=>(fArgs fs δ).bind fun ds=>.ok (d::ds)
def tXA (K:PySem.W.Frag) (E:XK) (m:Md) (fs:List Fn):TA:=fun σ H Q=>∃ c δ,c.K=K/\Abs c σ δ H/\Res K E c.H₀ (fArgs fs δ) fun ds=>∀ vs H',Same H H'->Reps c.K (BOf c σ δ m) H' ds vs->Q vs H'
variable {es:List Expr} {fs:List Fn} {e:Expr} {fe:Fn}
theorem xa_nil:PA X [] (tXA X.K E m []):=pa_nil.imp fun σ H Q q=>by
 obtain ⟨c,δ,hK,ab,q⟩:=q
 exact q [] H (Same.refl H) (by simp [Reps])
theorem Post.bOf {c:Cn} {σ:St} {δ:DS} {H H':Hp} {d:D} {v:V} (hm:notF m=true) (p:Post c σ δ H m d v H'):Rep c.K (BOf c σ δ m) H' d v:=by
 cases m with
 | W=>exact p
 | S=>exact p
 | F=>simp [notF] at hm
theorem xa_cons (ha:PE X e (tX X.K E m fe)) (hr:PA X es (tXA X.K E m fs)) (hs:starEach (e::es) X.env=(false,eval e X.env)::starEach es X.env:=by rfl) (hm:notF m=true:=by rfl):PA X (e::es) (tXA X.K E m (fe::fs)):=(pa_cons ha hr hs).imp fun σ H Q q=>by
 obtain ⟨c,δ,hK,ab,q⟩:=q
 refine ⟨c,δ,hK,ab,(Res.bind q).imp fun d _ k v H1 e1 r1=>?_⟩
 refine ⟨c,δ,hK,ab.grow e1,(Res.bind k).imp fun ds _ k vs H2 e2 r2=>?_⟩
 refine k (v::vs) H2 (e1.trans e2) ?_
 simp only [Reps]
 exact ⟨v,vs,rfl,(Post.bOf hm r1).same e2,r2⟩
theorem fArgs_len:∀ {fs:List Fn} {δ:DS} {ds:List D},fArgs fs δ=.ok ds->ds.length=fs.length
 | [],δ,ds,h=>by simp only [fArgs] at h;cases h;rfl
 | f::fs,δ,ds,h=>by
  simp only [fArgs] at h
  cases e:f δ with
  | ok d =>
   rw [e] at h
   cases e2:fArgs fs δ with
   | ok r=>rw [e2] at h;simp only [bind_ok] at h;cases h;simp [fArgs_len e2]
   | ex z=>rw [e2] at h;simp at h
   | bad=>rw [e2] at h;simp at h
  | ex z=>rw [e] at h;simp at h
  | bad=>rw [e] at h;simp at h
def fTup (fs:List Fn):Fn:=fun δ=>(fArgs fs δ).bind fun ds=>.ok (.tup ds)
def fLst (fs:List Fn):Fn:=fun δ=>(fArgs fs δ).bind fun ds=>.ok (.lst ds)
theorem same_new {H:Hp} {p:Addr} (h:H p=none) (o:HO):Same H (upd H p o):=fun b u q=>by rw [upd_ne (ne_of_none q h)];exact q
theorem xtup {x1} (h:PA X es (tXA X.K E m fs)) (hl:fs.length<=sizeLine:=by decide) (hm:notF m=true:=by rfl):PE X (.Tuple es x1 pos) (tX X.K E m (fTup fs)):=(pe_tup h).imp fun σ H Q q=>by
 obtain ⟨c,δ,hK,ab,q⟩:=q
 refine ⟨c,δ,hK,ab,(Res.bind q).imp fun ds hds k vs H1 e1 r1=>⟨by rw [r1.length,fArgs_len hds];exact hl,fun p hp=>?_⟩⟩
 refine k (.ref p) _ (e1.trans (same_new hp _)) ?_
 have r2:Rep c.K (BOf c σ δ m) (upd H1 p (.tup vs)) (.tup ds) (.ref p):=by
  simp only [Rep]
  exact ⟨p,vs,rfl,.inl (.inl upd_same),r1.same (same_new hp _)⟩
 cases m with
 | W=>exact r2
 | S=>exact r2
 | F=>simp [notF] at hm
theorem Reps.off {K:PySem.W.Frag} {B:Addr->Prop} {H:Hp} {ds:List D} {vs:List V} {p:Addr} (r:Reps K B H ds vs) (hp:H p=none):Reps K (fun a=>B a/\a≠p) H ds vs :=
 Reps.mono (fun a o h z=>⟨h,fun e=>by subst e;rw [hp] at z;cases z⟩) (.of_same (Same.refl H)) ds vs r
theorem xlst (h:PA X es (tXA X.K E .S fs)) (hl:fs.length<=sizeLine:=by decide):PE X (.List es pos) (tX X.K E .F (fLst fs)):=(pe_lst h).imp fun σ H Q q=>by
 obtain ⟨c,δ,hK,ab,q⟩:=q
 refine ⟨c,δ,hK,ab,(Res.bind q).imp fun ds hds k vs H1 e1 r1=>⟨by rw [r1.length,fArgs_len hds];exact hl,fun p hp=>?_⟩⟩
 exact k (.ref p) _ (e1.trans (same_new hp _)) ⟨p,_,rfl,e1.free hp,upd_same,vs,rfl,(Reps.off r1 hp).same (same_new hp _)⟩
def gIx:D->D->Ou D
 | .tup ds,.int i=>match atI ds i with
  | some d=>.ok d
  | none=>.bad
 | .lst ds,.int i=>match atI ds i with
  | some d=>.ok d
  | none=>.bad
 | .frl ds,.int i=>match atI ds i with
  | some d=>.ok d
  | none=>.bad
 | .str z,.int i=>if z.length<=sizeLine then (match atI z.cps.toList i with
  | some c=>.ok (.str ⟨#[c]⟩)
  | none=>.bad) else .bad
 | _,_=>.bad
theorem Reps.at {K:PySem.W.Frag} {B:Addr->Prop} {H:Hp} {ds:List D} {vs:List V} {i:Int} {d:D} (r:Reps K B H ds vs) (h:atI ds i=some d):∃ v,atI vs i=some v/\Rep K B H d v:=by
 unfold atI at h ⊢
 rw [r.length]
 cases e:ixN ds.length i with
 | none=>rw [e] at h;cases h
 | some j =>
  rw [e] at h
  exact r.get j d h
theorem rd_ix {K:PySem.W.Frag} {H₀:Hp} {B:Addr->Prop} {H:Hp} {dx dy:D} {x y:V} {Q:VK} (rx:Rep K B H dx x) (ry:Rep K B H dy y) (h:Res K E H₀ (gIx dx dy) fun d=>∀ v,Rep K B H d v->Q v H):rIx K x y H Q:=by
 cases dy <;> first | (cases dx <;> exact h.elim) | skip
 rename_i i
 simp only [Rep] at ry
 subst ry
 cases dx <;> first | exact h.elim | skip
 ·rename_i z
  simp only [Rep] at rx
  subst rx
  simp only [gIx] at h
  by_cases hl:z.length<=sizeLine
  ·rw [if_pos hl] at h
   cases e:atI z.cps.toList i with
   | none=>rw [e] at h;exact h.elim
   | some ch=>rw [e] at h;exact .inr (.inr ⟨z,i,ch,rfl,rfl,hl,e,h _ (by simp [Rep])⟩)
  ·rw [if_neg hl] at h;exact h.elim
 ·rename_i ds
  simp only [Rep] at rx
  obtain ⟨a,xs,rfl,h1,h2⟩:=rx
  simp only [gIx] at h
  cases e:atI ds i with
  | none=>simp only [e] at h;exact h.elim
  | some d =>
   simp only [e] at h
   obtain ⟨v,e2,r2⟩:=h2.at e
   exact .inr (.inl ⟨a,xs,i,v,rfl,rfl,h1,e2,h v r2⟩)
 ·rename_i ds
  simp only [Rep] at rx
  obtain ⟨a,xs,rfl,hb,h1,h2⟩:=rx
  simp only [gIx] at h
  cases e:atI ds i with
  | none=>simp only [e] at h;exact h.elim
  | some d =>
   simp only [e] at h
   obtain ⟨v,e2,r2⟩:=h2.at e
   exact .inl ⟨a,xs,i,v,rfl,rfl,.of h1,e2,h v r2⟩
 ·rename_i ds
  simp only [Rep] at rx
  obtain ⟨a,xs,rfl,h1,h2⟩:=rx
  simp only [gIx] at h
  cases e:atI ds i with
  | none=>simp only [e] at h;exact h.elim
  | some d =>
   simp only [e] at h
   obtain ⟨v,e2,r2⟩:=h2.at e
   exact .inl ⟨a,xs,i,v,rfl,rfl,h1.sq,e2,h v r2⟩
theorem xix (ha:PE X a (tX X.K E m fa)) (hb:PE X b (tX X.K E .W fb)) (hs:PlainIx b:=by exact fun _ _=>rfl) (hm:notF m=true:=by rfl):PE X (.Subscript a b pos) (tX X.K E m (f2 gIx fa fb)):=(pe_ix ix_seq ha hb hs).imp fun σ H Q q=>by
 obtain ⟨c,δ,hK,ab,q⟩:=q
 refine ⟨c,δ,hK,ab,(Res.bind q).imp fun dx _ k x H1 e1 r1=>?_⟩
 refine ⟨c,δ,hK,ab.grow e1,(Res.bind k).imp fun dy hy k y H2 e2 r2=>?_⟩
 have z1:Rep X.K (BOf c σ δ m) H2 dx x:=by rw [← hK];exact (Post.bOf hm r1).same e2
 by_cases hd:∃ i,dy=.int i
 ·obtain ⟨i,rfl⟩:=hd
  have z2:Rep X.K (BOf c σ δ m) H2 (.int i) y:=by
   have z:Rep c.K c.B H2 (.int i) y:=r2
   simp only [Rep] at z ⊢;exact z
  refine rd_ix z1 z2 (k.imp fun d _ k v r=>k v H2 (e1.trans e2) ?_)
  rw [← hK] at r
  cases m with
  | W=>exact r
  | S=>exact r
  | F=>simp [notF] at hm
 ·exfalso
  have:gIx dx dy=.bad:=by
   cases dy <;> first | (cases dx <;> rfl) | exact absurd ⟨_,rfl⟩ hd
  rw [this] at k
  exact k
inductive Fl where
 | nx (δ:DS) | rt (d:D) | bk (δ:DS) | ct (δ:DS)
abbrev Sm:=DS->Ou Fl
structure Rm where
 new:Bool
 pin:Option Nat
instance:Coe Bool Rm:=⟨fun b=>⟨b,none⟩⟩
def RtP (K:PySem.W.Frag) (B:Addr->Prop) (H₀:Hp) (fr:Bool) (d:D) (v:V) (H':Hp):Prop :=
 match fr with
 | true=>∃ p xs,v=.ref p/\H₀ p=none/\H' p=some xs/\RepO K (fun a=>B a/\a≠p) H' d xs
 | false=>Rep K B H' d v
def RtM (c:Cn) (fr:Rm) (d:D) (v:V) (H':Hp):Prop :=
 match c.P with
 | none=>RtP c.K c.B c.H₀ fr.new d v H'
 | some (_,p)=>∃ dv dO o,d=.tup [dv,dO]/\Rep c.K (fun a=>c.B a/\a≠p) H' dv v/\H' p=some o/\RepO c.K (fun a=>c.B a/\a≠p) H' dO o
def EndP (c:Cn) (fr:Rm) (D:Ends):Fl->Prop
 | .nx δ'=>∀ σ' H',Abs c σ' δ' H'->D.nx σ' H'
 | .bk δ'=>∀ σ' H',Abs c σ' δ' H'->D.bk σ' H'
 | .ct δ'=>∀ σ' H',Abs c σ' δ' H'->D.ct σ' H'
 | .rt d=>∀ v H',Same c.H₀ H'->RtM c fr d v H'->D.rt v H'
structure AbsF (rm:Rm) (c:Cn) (σ:St) (δ:DS) (H:Hp):Prop extends Abs c σ δ H where
 pi:c.P.map (·.1)=rm.pin
instance {fr:Rm} {c:Cn} {σ:St} {δ:DS} {H:Hp}:CoeOut (AbsF fr c σ δ H) (Abs c σ δ H):=⟨AbsF.toAbs⟩
def tS (K:PySem.W.Frag) (E:XK) (fr:Rm) (F:Sm):TS:=fun D σ H=>∃ c δ,c.K=K/\AbsF fr c σ δ H/\Res K E c.H₀ (F δ) (EndP c fr D)
theorem AbsF.none {fr:Rm} {c:Cn} {σ:St} {δ:DS} {H:Hp} (a:AbsF fr c σ δ H) (h:fr.pin=Option.none):c.P=Option.none:=by
 have:=a.pi
 rw [h] at this
 cases e:c.P with
 | none=>rfl
 | some x=>rw [e] at this;cases this
theorem AbsF.ne {fr:Rm} {c:Cn} {σ:St} {δ:DS} {H:Hp} (a:AbsF fr c σ δ H) {i:Nat} (h:fr.pin≠some i) (q:Addr):c.P≠some (i,q):=fun z=>h (by rw [← a.pi,z];rfl)
theorem RtM.of {c:Cn} {fr:Rm} {d:D} {v:V} {H':Hp} (h:c.P=Option.none) (r:RtP c.K c.B c.H₀ fr.new d v H'):RtM c fr d v H':=by
 unfold RtM;rw [h];exact r
variable {fr:Rm} {F G:Sm} {st:Stmt} {sts:List Stmt}
def sNext:Sm:=fun δ=>.ok (.nx δ)
def sSeq (F G:Sm):Sm:=fun δ=>(F δ).bind fun r=>match r with
 | .nx δ'=>G δ'
 | r=>.ok r
def sIf (gc:DS->Ou Bool) (F G:Sm):Sm:=fun δ=>(gc δ).bind fun b=>if b=true then F δ else G δ
def sBreak:Sm:=fun δ=>.ok (.bk δ)
def sCont:Sm:=fun δ=>.ok (.ct δ)
def sRet (f:Fn):Sm:=fun δ=>(f δ).bind fun d=>.ok (.rt d)
def sDrop (f:Fn):Sm:=fun δ=>(f δ).bind fun _=>.ok (.nx δ)
theorem xs_nil:PSs X [] (tS X.K E fr sNext):=pss_nil.imp fun D σ H q=>by
 obtain ⟨c,δ,hK,ab,q⟩:=q
 exact q σ H ab
theorem xs_cons (h1:PS X st (tS X.K E fr F)) (h2:PSs X sts (tS X.K E fr G)):PSs X (st::sts) (tS X.K E fr (sSeq F G)):=(pss_cons h1 h2).imp fun D σ H q=>by
 obtain ⟨c,δ,hK,ab,q⟩:=q
 refine ⟨c,δ,hK,ab,(Res.bind q).imp fun r _ k=>?_⟩
 cases r with
 | nx δ'=>exact fun σ' H' ab'=>⟨c,δ',hK,⟨ab',ab.pi⟩,k⟩
 | rt d=>exact k
 | bk δ'=>exact k
 | ct δ'=>exact k
theorem xs_if {t:Expr} {sa sb:List Stmt} (hc:PT X t (tT X.K E ga)) (ha:PSs X sa (tS X.K E fr F)) (hb:PSs X sb (tS X.K E fr G)):PS X (.If t sa sb pos) (tS X.K E fr (sIf ga F G)):=(ps_if hc ha hb).imp fun D σ H q=>by
 obtain ⟨c,δ,hK,ab,q⟩:=q
 refine ⟨c,δ,hK,ab,(Res.bind q).imp fun z _ k H1 e1=>?_⟩
 cases z with
 | true=>exact ⟨c,δ,hK,⟨ab.grow e1,ab.pi⟩,k⟩
 | false=>exact ⟨c,δ,hK,⟨ab.grow e1,ab.pi⟩,k⟩
theorem xs_ret (h:PE X e (tX X.K E .W fe)):PS X (.Return (some e) pos) (tS X.K E false (sRet fe)):=(ps_ret h).imp fun D σ H q=>by
 obtain ⟨c,δ,hK,ab,q⟩:=q
 exact ⟨c,δ,hK,ab,(Res.bind q).imp fun d _ k v H1 e1 r1=>k v H1 (ab.same.trans e1) (.of (ab.none rfl) r1)⟩
theorem xs_retF (h:PE X e (tX X.K E .F fe)):PS X (.Return (some e) pos) (tS X.K E true (sRet fe)):=(ps_ret h).imp fun D σ H q=>by
 obtain ⟨c,δ,hK,ab,q⟩:=q
 refine ⟨c,δ,hK,ab,(Res.bind q).imp fun d _ k v H1 e1 r1=>k v H1 (ab.same.trans e1) (.of (ab.none rfl) ?_)⟩
 obtain ⟨p,xs,rfl,h1,h2,h3⟩:=r1
 exact ⟨p,xs,rfl,ab.same.free h1,h2,h3.weak fun a z=>⟨z.1.1,z.2⟩⟩
def sRetO (i:Nat):Sm:=fun δ=>match δ[i]? with
 | some (.own ds)=>.ok (.rt ds)
 | _=>.bad
theorem xs_retO (i:Nat) {x:Str} {px:Pos} (hN:X.N[i]? = some x:=by rfl) (hv:Vis X.env.scope x:=by first | exact Or.inl rfl | exact Or.inr (Or.inl rfl) | exact Or.inr (Or.inr rfl)) (hd:(x == ("__debug__":Str))=false:=by decide)
  (hcd:(x == ("__classdict__":Str))=false:=by decide):PS X (.Return (some (.Name x px)) pos) (tS X.K E true (sRetO i)):=(ps_ret (pv i hN hv hd hcd)).imp fun D σ H q=>by
 obtain ⟨c,δ,hK,ab,q⟩:=q
 unfold sRetO at q
 cases e:δ[i]? with
 | none=>rw [e] at q;exact q.elim
 | some s =>
  rw [e] at q
  cases s with
  | un=>exact q.elim
  | val d=>exact q.elim
  | own ds =>
   obtain ⟨p,xs,h1,h2,h3,h4⟩:=ab.own i ds e
   refine ⟨.ref p,h1,q (.ref p) H ab.same (.of (ab.none rfl) ⟨p,xs,rfl,h3.1,h2,h4.weak fun a z=>⟨z.1,fun w=>z.2 ⟨i,ds,e,by rw [w];exact h1⟩⟩⟩)⟩
theorem get_set {α:Type} {l:List α} {i j:Nat} {x y:α} (h:(l.set i x)[j]? = some y):(j=i/\y=x/\i < l.length)\/(j≠i/\l[j]? = some y):=by
 rw [List.getElem?_set] at h
 by_cases e:i=j
 ·rw [if_pos e] at h
  by_cases hl:i < l.length
  ·rw [if_pos hl] at h
   exact .inl ⟨e.symm,(Option.some.inj h).symm,hl⟩
  ·rw [if_neg hl] at h;cases h
 ·rw [if_neg e] at h
  exact .inr ⟨fun z=>e z.symm,h⟩
theorem set_ne {α:Type} {l:List α} {i j:Nat} {x:α} (h:j≠i):(l.set i x)[j]? = l[j]?:=by
 rw [List.getElem?_set,if_neg fun z=>h z.symm]
theorem set_eq {α:Type} {l:List α} {i:Nat} {x:α} (h:i < l.length):(l.set i x)[i]? = some x:=by
 rw [List.getElem?_set,if_pos rfl,if_pos h]
theorem own_set_val {σ:St} {δ:DS} {i:Nat} {v:V} {d:D} {q:Addr} (o:Own (σ.set i (some v)) (δ.set i (.val d)) q):Own σ δ q:=by
 obtain ⟨j,ds,h1,h2⟩:=o
 rcases get_set h1 with ⟨_,z,_⟩ | ⟨ne,h1⟩
 ·cases z
 ·rw [set_ne ne] at h2
  exact ⟨j,ds,h1,h2⟩
theorem Abs.set_val {c:Cn} {σ:St} {δ:DS} {H H':Hp} {i:Nat} {d:D} {v:V} (a:Abs c σ δ H) (e:Same H H') (r:Rep c.K (Av c σ δ) H' d v):Abs c (σ.set i (some v)) (δ.set i (.val d)) H':=by
 have av:∀ q,Av c σ δ q->Av c (σ.set i (some v)) (δ.set i (.val d)) q:=fun q h=>⟨h.1,fun o=>h.2 (own_set_val o)⟩
 refine ⟨a.same.trans e,fun b h=>a.fr b (e.free h),by rw [List.length_set,List.length_set];exact a.len,fun j d' h=>?_,fun j ds h=>?_,fun d' v' h=>?_,fun j k dj dk p h1 h2 h3 h4=>?_,fun j p hP d' h=>?_⟩
 ·rcases get_set h with ⟨rfl,z,hl⟩ | ⟨ne,h⟩
  ·cases z
   exact ⟨v,set_eq (by rw [← a.len];exact hl),r.weak av⟩
  ·obtain ⟨u,h1,h2⟩:=a.val j d' h
   exact ⟨u,by rw [set_ne ne];exact h1,(h2.same e).weak av⟩
 ·rcases get_set h with ⟨rfl,z,hl⟩ | ⟨ne,h⟩
  ·cases z
  ·obtain ⟨p,xs,h1,h2,h3,h4⟩:=a.own j ds h
   exact ⟨p,xs,by rw [set_ne ne];exact h1,e _ _ h2,h3,(h4.same e).weak av⟩
 ·exact ((a.gho d' v' h).same e).weak av
 ·rcases get_set h1 with ⟨_,z,_⟩ | ⟨n1,h1⟩
  ·cases z
  rcases get_set h2 with ⟨_,z,_⟩ | ⟨n2,h2⟩
  ·cases z
  rw [set_ne n1] at h3
  rw [set_ne n2] at h4
  exact a.inj j k dj dk p h1 h2 h3 h4
 ·rcases get_set h with ⟨_,z,_⟩ | ⟨ne,h⟩
  ·cases z
  ·rw [set_ne ne];exact a.pin j p hP d' h
theorem own_set_own {σ:St} {δ:DS} {i:Nat} {p:Addr} {ds:D} {q:Addr} (o:Own (σ.set i (some (.ref p))) (δ.set i (.own ds)) q):Own σ δ q\/q=p:=by
 obtain ⟨j,es,h1,h2⟩:=o
 rcases get_set h1 with ⟨rfl,z,_⟩ | ⟨ne,h1⟩
 ·rcases get_set h2 with ⟨_,z2,_⟩ | ⟨n2,_⟩
  ·cases z2;exact .inr rfl
  ·exact absurd rfl n2
 ·rw [set_ne ne] at h2
  exact .inl ⟨j,es,h1,h2⟩
theorem Abs.set_own {c:Cn} {σ:St} {δ:DS} {H H':Hp} {i:Nat} {ds:D} {p:Addr} {xs:HO} (a:Abs c σ δ H) (e:Same H H') (hp:H p=none) (h':H' p=some xs) (r:RepO c.K (fun q=>Av c σ δ q/\q≠p) H' ds xs) (hj:∀ q,c.P≠some (i,q)) :
  Abs c (σ.set i (some (.ref p))) (δ.set i (.own ds)) H':=by
 have av:∀ q,Av c σ δ q/\q≠p->Av c (σ.set i (some (.ref p))) (δ.set i (.own ds)) q:=fun q h=>⟨h.1.1,fun o=>(own_set_own o).elim h.1.2 h.2⟩
 have avH:∀ (q:Addr) (o:HO),Av c σ δ q->H q=some o->Av c (σ.set i (some (.ref p))) (δ.set i (.own ds)) q:=fun q o h z=>av q ⟨h,ne_of_none z hp⟩
 have up:∀ d v,Rep c.K (Av c σ δ) H d v->Rep c.K (Av c (σ.set i (some (.ref p))) (δ.set i (.own ds))) H' d v:=fun d v h=>Rep.mono avH (.of_same e) d v h
 have ups:∀ d v,RepO c.K (Av c σ δ) H d v->RepO c.K (Av c (σ.set i (some (.ref p))) (δ.set i (.own ds))) H' d v:=fun d v h=>RepO.mono avH (.of_same e) h
 have no:∀ (j:Nat) dj,δ[j]? = some (Sl.own dj)->σ[j]? = some (some (.ref p))->False:=fun j dj h1 h2=>by
  obtain ⟨p',ys,h3,h4,_⟩:=a.own j dj h1
  rw [h2] at h3;cases h3
  rw [hp] at h4;cases h4
 refine ⟨a.same.trans e,fun b h=>a.fr b (e.free h),by rw [List.length_set,List.length_set];exact a.len,fun j d' h=>?_,fun j es h=>?_,fun d' v' h=>up _ _ (a.gho d' v' h),fun j k dj dk q h1 h2 h3 h4=>?_,fun j q hP d' h=>?_⟩
 ·rcases get_set h with ⟨rfl,z,hl⟩ | ⟨ne,h⟩
  ·cases z
  ·obtain ⟨u,h1,h2⟩:=a.val j d' h
   exact ⟨u,by rw [set_ne ne];exact h1,up _ _ h2⟩
 ·rcases get_set h with ⟨rfl,z,hl⟩ | ⟨ne,h⟩
  ·cases z
   exact ⟨p,xs,set_eq (by rw [← a.len];exact hl),h',⟨a.same.free hp,a.fr p hp⟩,r.weak av⟩
  ·obtain ⟨q,ys,h1,h2,h3,h4⟩:=a.own j es h
   exact ⟨q,ys,by rw [set_ne ne];exact h1,e _ _ h2,h3,ups _ _ h4⟩
 ·rcases get_set h1 with ⟨e1,_,_⟩ | ⟨n1,h1⟩
  ·rcases get_set h2 with ⟨e2,_,_⟩ | ⟨n2,h2⟩
   ·rw [e1,e2]
   ·subst e1
    rcases get_set h3 with ⟨_,z,_⟩ | ⟨n3,_⟩
    ·cases z
     rw [set_ne n2] at h4
     exact (no k dk (by assumption) h4).elim
    ·exact absurd rfl n3
  ·rw [set_ne n1] at h3
   rcases get_set h2 with ⟨e2,_,_⟩ | ⟨n2,h2⟩
   ·subst e2
    rcases get_set h4 with ⟨_,z,_⟩ | ⟨n3,_⟩
    ·cases z
     exact (no j dj (by assumption) h3).elim
    ·exact absurd rfl n3
   ·rw [set_ne n2] at h4
    exact a.inj j k dj dk q h1 h2 h3 h4
 ·rcases get_set h with ⟨rfl,_,_⟩ | ⟨ne,h⟩
  ·exact absurd hP (hj q)
  ·rw [set_ne ne];exact a.pin j q hP d' h
theorem Abs.mut {c:Cn} {σ:St} {δ:DS} {H:Hp} {i:Nat} {ds ds':D} {p:Addr} {xs':HO} (a:Abs c σ δ H) (h:δ[i]? = some (Sl.own ds)) (hs:σ[i]? = some (some (V.ref p))) (r:RepO c.K (Av c σ δ) H ds' xs') :
  Abs c σ (δ.set i (.own ds')) (upd H p xs'):=by
 have hi:i < δ.length:=(List.getElem?_eq_some_iff.mp h).1
 have ow:Own σ δ p:=⟨i,ds,h,hs⟩
 have oi:∀ {q},Own σ (δ.set i (.own ds')) q->Own σ δ q:=fun {q} o=>by
  obtain ⟨j,es,h1,h2⟩:=o
  rcases get_set h1 with ⟨rfl,_,_⟩ | ⟨_,h1⟩
  ·exact ⟨j,ds,h,h2⟩
  ·exact ⟨j,es,h1,h2⟩
 have av:∀ q,Av c σ δ q->Av c σ (δ.set i (.own ds')) q:=fun q z=>⟨z.1,fun o=>z.2 (oi o)⟩
 have hne:∀ q,Av c σ δ q->q≠p:=fun q z e=>by subst e;exact z.2 ow
 obtain ⟨p',ys,g1,g2,g3,g4⟩:=a.own i ds h
 rw [hs] at g1;cases g1
 have st:Stay c.K (Av c σ δ) H (upd H p xs'):=⟨fun q ys z=>by
   rcases z with (z | ⟨o,z⟩) | z
   ·exact .inl (.inl (by rw [upd_ne (ne_of z g2 (g4.noT _))];exact z))
   ·exact .inl (.inr ⟨o,by rw [upd_ne (ne_of z g2 (g4.noF _ _))];exact z⟩)
   ·exact .inr z,fun q ys z=>by
   rcases z with ⟨o,z⟩ | z
   ·exact .inl ⟨o,by rw [upd_ne (ne_of z g2 (g4.noF _ _))];exact z⟩
   ·exact .inr z,fun q o z w=>by rw [upd_ne (hne q z)];exact w⟩
 have up:∀ d v,Rep c.K (Av c σ δ) H d v->Rep c.K (Av c σ (δ.set i (.own ds'))) (upd H p xs') d v:=fun d v z=>Rep.mono (fun q _ w _=>av q w) st d v z
 have ups:∀ d v,RepO c.K (Av c σ δ) H d v->RepO c.K (Av c σ (δ.set i (.own ds'))) (upd H p xs') d v:=fun d v z=>RepO.mono (fun q _ w _=>av q w) st z
 refine ⟨fun b o z=>?_,fun b z=>a.fr b (by
   by_cases hb:b=p
   ·subst hb;rw [upd_same] at z;cases z
   ·rw [upd_ne hb] at z;exact z),by rw [List.length_set];exact a.len,fun j d' z=>?_,fun j es z=>?_,fun d' v' z=>up _ _ (a.gho d' v' z),fun j k dj dk q h1 h2 h3 h4=>?_,fun j q hP d' z=>?_⟩
 ·rw [upd_ne (ne_of_none z g3.1)];exact a.same b o z
 ·rcases get_set z with ⟨_,w,_⟩ | ⟨ne,z⟩
  ·cases w
  ·obtain ⟨u,z1,z2⟩:=a.val j d' z
   exact ⟨u,z1,up _ _ z2⟩
 ·rcases get_set z with ⟨rfl,w,_⟩ | ⟨ne,z⟩
  ·cases w
   exact ⟨p,xs',hs,upd_same,g3,ups _ _ r⟩
  ·obtain ⟨q,zs,z1,z2,z3,z4⟩:=a.own j es z
   refine ⟨q,zs,z1,?_,z3,ups _ _ z4⟩
   rw [upd_ne fun w=>ne (a.inj j i es ds p z h (by rw [← w];exact z1) hs)]
   exact z2
 ·have go:∀ {j:Nat} {dj:D},(δ.set i (.own ds'))[j]? = some (Sl.own dj)->∃ dj',δ[j]? = some (Sl.own dj'):=fun {j dj} z=>by
   rcases get_set z with ⟨rfl,_,_⟩ | ⟨_,z⟩
   ·exact ⟨ds,h⟩
   ·exact ⟨_,z⟩
  obtain ⟨dj',h1⟩:=go h1
  obtain ⟨dk',h2⟩:=go h2
  exact a.inj j k dj' dk' q h1 h2 h3 h4
 ·rcases get_set z with ⟨rfl,_,_⟩ | ⟨_,z⟩
  ·exact a.pin j q hP ds h
  ·exact a.pin j q hP d' z
def thaw (i:Nat) (δ:DS):DS:=match δ[i]? with
 | some (.own ds)=>δ.set i (.val ds)
 | _=>δ
theorem Abs.thaw {c:Cn} {σ:St} {δ:DS} {H:Hp} (i:Nat) (a:Abs c σ δ H):Abs c σ (thaw i δ) H:=by
 unfold DL.thaw
 cases e:δ[i]? with
 | none=>exact a
 | some s =>
  cases s with
  | un=>exact a
  | val d=>exact a
  | own ds =>
   obtain ⟨p,xs,h1,h2,h3,h4⟩:=a.own i ds e
   have oi:∀ {q},Own σ (δ.set i (.val ds)) q->Own σ δ q/\q≠p:=fun {q} o=>by
    obtain ⟨j,es,z1,z2⟩:=o
    rcases get_set z1 with ⟨_,w,_⟩ | ⟨ne,z1⟩
    ·cases w
    ·exact ⟨⟨j,es,z1,z2⟩,fun w=>ne (a.inj j i es ds p z1 e (by rw [← w];exact z2) h1)⟩
   have av:∀ q,Av c σ δ q->Av c σ (δ.set i (.val ds)) q:=fun q z=>⟨z.1,fun o=>z.2 (oi o).1⟩
   refine ⟨a.same,a.fr,by rw [List.length_set];exact a.len,fun j d' z=>?_,fun j es z=>?_,fun d' v' z=>(a.gho d' v' z).weak av,fun j k dj dk q z1 z2 z3 z4=>?_,fun j q hP d' z=>?_⟩
   ·rcases get_set z with ⟨rfl,w,_⟩ | ⟨ne,z⟩
    ·cases w
     refine ⟨.ref p,h1,?_⟩
     exact (h4.weak av).rep h2 ⟨h3.2,fun o=>(oi o).2 rfl⟩
    ·obtain ⟨u,z1,z2⟩:=a.val j d' z
     exact ⟨u,z1,z2.weak av⟩
   ·rcases get_set z with ⟨_,w,_⟩ | ⟨ne,z⟩
    ·cases w
    ·obtain ⟨q,zs,z1,z2,z3,z4⟩:=a.own j es z
     exact ⟨q,zs,z1,z2,z3,z4.weak av⟩
   ·rcases get_set z1 with ⟨_,w,_⟩ | ⟨_,z1⟩
    ·cases w
    rcases get_set z2 with ⟨_,w,_⟩ | ⟨_,z2⟩
    ·cases w
    exact a.inj j k dj dk q z1 z2 z3 z4
   ·rcases get_set z with ⟨_,w,_⟩ | ⟨_,z⟩
    ·cases w
    ·exact a.pin j q hP d' z
theorem xs_thaw (i:Nat) (h:PS X st (tS X.K E fr F)):PS X st (tS X.K E fr fun δ=>F (thaw i δ)):=h.imp fun D σ H q=>by
 obtain ⟨c,δ,hK,ab,q⟩:=q
 exact ⟨c,_,hK,⟨ab.toAbs.thaw i,ab.pi⟩,q⟩
def sSet (i:Nat) (f:Fn):Sm:=fun δ=>(f δ).bind fun d=>.ok (.nx (δ.set i (.val d)))
def sOwn (i:Nat) (f:Fn):Sm:=fun δ=>(f δ).bind fun d=>.ok (.nx (δ.set i (.own d)))
theorem xs_set (i:Nat) {x:Str} {pos':Pos} (hN:X.N.Nodup) (he:PE X e (tX X.K E .S fe)) (hi:X.N[i]? = some x:=by rfl) (hx:Loc X.env.scope x:=by first | exact Or.inl rfl | exact Or.inr rfl) (hs:swapsWith e (some (.Name x pos')) pos.line X.env=pure false:=by rfl)
  (hf:X.fn x=true\/X.env.scope.names.lookup x=some .local:=by first | exact .inl rfl | exact .inr rfl):PS X (.Assign [.Name x pos'] e pos) (tS X.K E fr (sSet i fe)):=(ps_set hN hi hx he hs hf).imp fun D σ H q=>by
 obtain ⟨c,δ,hK,ab,q⟩:=q
 exact ⟨c,δ,hK,ab,(Res.bind q).imp fun d _ k v H1 e1 r1=>k _ H1 (ab.set_val e1 r1)⟩
theorem xs_own (i:Nat) {x:Str} {pos':Pos} (hN:X.N.Nodup) (he:PE X e (tX X.K E .F fe)) (hi:X.N[i]? = some x:=by rfl) (hx:Loc X.env.scope x:=by first | exact Or.inl rfl | exact Or.inr rfl) (hs:swapsWith e (some (.Name x pos')) pos.line X.env=pure false:=by rfl)
  (hf:X.fn x=true\/X.env.scope.names.lookup x=some .local:=by first | exact .inl rfl | exact .inr rfl) (hpi:fr.pin≠some i:=by decide):PS X (.Assign [.Name x pos'] e pos) (tS X.K E fr (sOwn i fe)):=(ps_set hN hi hx he hs hf).imp fun D σ H q=>by
 obtain ⟨c,δ,hK,ab,q⟩:=q
 refine ⟨c,δ,hK,ab,(Res.bind q).imp fun d _ k v H1 e1 r1=>?_⟩
 obtain ⟨p,xs,rfl,h1,h2,h3⟩:=r1
 exact k _ H1 (ab.set_own e1 h1 h2 h3 (ab.ne hpi))
def tG (K:PySem.W.Frag) (E:XK) (g:D->DS->Ou DS):TG:=fun v σ H Q=>∃ c δ d,c.K=K/\Abs c σ δ H/\Rep c.K (Av c σ δ) H d v/\Res K E c.H₀ (g d δ) fun δ'=>∀ σ' H',Same H H'->Abs c σ' δ' H'->Q σ' H'
def gNm (i:Nat):D->DS->Ou DS:=fun d δ=>.ok (δ.set i (.val d))
theorem xg_name (i:Nat) {x:Str} (hN:X.N.Nodup) (hi:X.N[i]? = some x:=by rfl) (hx:Loc X.env.scope x:=by first | exact Or.inl rfl | exact Or.inr rfl) (hf:X.fn x=true\/X.env.scope.names.lookup x=some .local:=by first | exact .inl rfl | exact .inr rfl):PG X (.Name x pos) (tG X.K E (gNm i)):=(pg_name hN hi hx hf).imp fun v σ H Q q=>by
 obtain ⟨c,δ,d,hK,ab,r,q⟩:=q
 exact q _ H (Same.refl H) (ab.set_val (Same.refl H) r)
def forL (g:D->DS->Ou DS) (body:Sm):List D->DS->Ou Fl
 | [],δ=>.ok (.nx δ)
 | x::xs,δ=>(g x δ).bind fun δ1=>(body δ1).bind fun r=>match r with
  | .nx δ2=>forL g body xs δ2
  | .ct δ2=>forL g body xs δ2
  | .bk δ2=>.ok (.nx δ2)
  | .rt d=>.ok (.rt d)
def sFor (fl:Fn) (g:D->DS->Ou DS) (body:Sm):Sm:=fun δ=>(fl δ).bind fun d=>match d with
 | .lst ds=>forL g body ds δ
 | .frl ds=>forL g body ds δ
 | _=>.bad
theorem Abs.drop {c:Cn} {σ:St} {δ:DS} {H:Hp} {g:List (D×V)} (a:Abs { c with G:=g } σ δ H) (hg:∀ z∈c.G,z∈g):Abs c σ δ H :=
 ⟨a.same,a.fr,a.len,a.val,a.own,fun d v h=>a.gho d v (hg _ h),a.inj,a.pin⟩
theorem for_turn {c:Cn} {g:D->DS->Ou DS} {body:Sm} {tg:TG} {tb:TS} {D:Ends} {K:PySem.W.Frag} {gh:List (DL.D×V)} (htg:∀ v σ H Q,tG K E g v σ H Q->tg v σ H Q) (htb:∀ D σ H,tS K E fr body D σ H->tb D σ H) (hK:c.K=K) (hg:∀ z∈c.G,z∈gh)
  {d:DL.D} {ds:List DL.D} {v:V} {σ:St} {δ:DS} {H:Hp} (ab:Abs { c with G:=gh } σ δ H) (r:Rep c.K (Av c σ δ) H d v) (h:Res K E c.H₀ (forL g body (d::ds) δ) (EndP c fr D)) (hp:c.P.map (·.1)=fr.pin:=by assumption) :
  tg v σ H fun σ2 H2=>tb { D with nx:=fun σ' H'=>∃ δ',Abs { c with G:=gh } σ' δ' H'/\Res K E c.H₀ (forL g body ds δ') (EndP c fr D),ct:=fun σ' H'=>∃ δ',Abs { c with G:=gh } σ' δ' H'/\Res K E c.H₀ (forL g body ds δ') (EndP c fr D),bk:=D.nx } σ2 H2:=by
 refine htg _ _ _ _ ⟨{ c with G:=gh },δ,d,hK,ab,r,(Res.bind h).imp fun δ1 _ k σ2 H2 _ ab2=>htb _ _ _ ⟨{ c with G:=gh },δ1,hK,⟨ab2,hp⟩,(Res.bind k).imp fun r _ k=>?_⟩⟩
 cases r with
 | nx δ2=>exact fun σ' H' ab'=>⟨δ2,ab',k⟩
 | ct δ2=>exact fun σ' H' ab'=>⟨δ2,ab',k⟩
 | bk δ2=>exact fun σ' H' ab'=>k σ' H' (ab'.drop hg)
 | rt z=>exact k
theorem for_goes {c:Cn} {g:D->DS->Ou DS} {body:Sm} {J:It} {tg:TG} {tb:TS} {D:Ends} {K:PySem.W.Frag} {gh:List (DL.D×V)} (htg:∀ v σ H Q,tG K E g v σ H Q->tg v σ H Q) (htb:∀ D σ H,tS K E fr body D σ H->tb D σ H) (hK:c.K=K) (hg:∀ z∈c.G,z∈gh)
  {ds:List DL.D} {σ:St} {δ:DS} {H:Hp} (ab:Abs { c with G:=gh } σ δ H) (h:Res K E c.H₀ (forL g body ds δ) (EndP c fr D))
  (go:∀ (i:Nat) σ δ H d,Abs { c with G:=gh } σ δ H->ds[i]? = some d->J.go i H/\∀ x H',J.yld i H x H'->H'=H/\Rep c.K (Av c σ δ) H d x)
  (stop:∀ σ δ H,Abs { c with G:=gh } σ δ H->J.stop ds.length H) (hp:c.P.map (·.1)=fr.pin:=by assumption) :
  ∃ W:Nat->Nat->St->Hp->Prop,(∃ m,W 0 m σ H)/\∀ i m σ H,W i m σ H ->
   (J.stop i H/\D.nx σ H)\/(J.go i H/\∃ N:St->Hp->Prop,(∀ σ' H',N σ' H'->∃ m',m' < m/\W (i + 1) m' σ' H')/\∀ x H',J.yld i H x H'->tg x σ H' fun σ2 H2=>tb { D with nx:=N,ct:=N,bk:=D.nx } σ2 H2):=by
 refine ⟨fun i m σ H=>m=ds.length - i/\i<=ds.length/\∃ δ,Abs { c with G:=gh } σ δ H/\Res K E c.H₀ (forL g body (ds.drop i) δ) (EndP c fr D),⟨ds.length,by simp,Nat.zero_le _,δ,ab,by simpa using h⟩,?_⟩
 rintro i m σ H ⟨rfl,hi,δ,ab,h⟩
 by_cases hlt:i < ds.length
 ·have hd:ds[i]? = some ds[i]:=by simp [hlt]
  obtain ⟨g1,g2⟩:=go i σ δ H _ ab hd
  rw [List.drop_eq_getElem_cons hlt] at h
  refine .inr ⟨g1,_,fun σ' H' p'=>⟨ds.length - (i + 1),by lia,rfl,hlt,p'⟩,fun x H' y=>?_⟩
  obtain ⟨rfl,r⟩:=g2 x H' y
  exact for_turn htg htb hK hg ab r h
 ·have e:i=ds.length:=by lia
  subst e
  rw [List.drop_length] at h
  exact .inl ⟨stop σ δ H ab,h σ H (ab.drop hg)⟩
theorem rd_for {c:Cn} {g:D->DS->Ou DS} {D:Ends} {K:PySem.W.Frag} {σ:St} {δ:DS} {H:Hp} {a:Addr} {d:DL.D} {ds:List DL.D} (hK:c.K=K) (ab:Abs c σ δ H) (r:Rep c.K (Av c σ δ) H d (.ref a))
  (all:∀ B H,Rep c.K B H d (.ref a)->∃ xs,SqL K H a xs/\Reps c.K B H ds xs) (h:Res K E c.H₀ (forL g F ds δ) (EndP c fr D)) (hp:c.P.map (·.1)=fr.pin:=by assumption) :
  ∃ W:Nat->Nat->St->Hp->Prop,(∃ m,W 0 m σ H)/\∀ i m σ H,W i m σ H ->
   ((Itl K a).stop i H/\D.nx σ H)\/((Itl K a).go i H/\∃ N:St->Hp->Prop,(∀ σ' H',N σ' H'->∃ m',m' < m/\W (i + 1) m' σ' H')/\∀ x H',(Itl K a).yld i H x H'->tG K E g x σ H' fun σ2 H2=>tS K E fr F { D with nx:=N,ct:=N,bk:=D.nx } σ2 H2):=by
 have ab':Abs { c with G:=(d,.ref a)::c.G } σ δ H:=by
  refine ⟨ab.same,ab.fr,ab.len,ab.val,ab.own,fun d' v' hm=>?_,ab.inj,ab.pin⟩
  rcases List.mem_cons.mp hm with e | hm
  ·cases e;exact r
  ·exact ab.gho d' v' hm
 refine for_goes (gh:=(d,.ref a)::c.G) (fun _ _ _ _ z=>z) (fun _ _ _ z=>z) hK (fun _ z=>List.mem_cons_of_mem _ z) ab' h (fun i σ δ H d z hd=>?_) fun σ δ H z=>?_
 ·obtain ⟨ys,w1,w2⟩:=all _ _ (z.gho _ _ List.mem_cons_self)
  obtain ⟨u,w3,w4⟩:=w2.get i d hd
  refine ⟨⟨ys,u,w1,w3⟩,fun x H' y=>⟨y.1,?_⟩⟩
  have w5:=y.2 ys w1
  rw [w3] at w5;cases w5
  exact w4
 ·obtain ⟨ys,w1,w2⟩:=all _ _ (z.gho _ _ List.mem_cons_self)
  exact ⟨ys,w1,Nat.le_of_eq w2.length⟩
theorem xs_for {tg iter:Expr} {body:List Stmt} {fl:Fn} {g:D->DS->Ou DS} (hp:PassesOwn (model X.prog X.w) X.A X.env X.xe) (hc:X.calm=true) (hi:PE X iter (tX X.K E .S fl)) (hg:PG X tg (tG X.K E g)) (hb:PSs X body (tS X.K E fr F))
  (hs:∀ x,foldedSetIterable iter X.env x=pure x:=by intro _;rfl):PS X (.For tg iter body [] pos) (tS X.K E fr (sFor fl g F)):=(ps_for hp hc (pi_list hi) hg hb hs).imp fun D σ H q=>by
 obtain ⟨c,δ,hK,ab,q⟩:=q
 have hp:=ab.pi
 refine ⟨c,δ,hK,ab,(Res.bind q).imp fun d hd0 k v H1 e1 r1=>?_⟩
 have r1':Rep c.K (Av c σ δ) H1 d v:=r1
 cases d <;> first | exact k.elim | skip
 ·rename_i ds
  have r2:=r1'
  simp only [Rep] at r2
  obtain ⟨a,xs,rfl,hb,h1,h2⟩:=r2
  refine ⟨a,rfl,⟨xs,.of h1⟩,rd_for hK (ab.grow e1) r1' (fun B H z=>?_) k⟩
  simp only [Rep] at z
  obtain ⟨b,ys,e,_,w1,w2⟩:=z
  cases e
  exact ⟨ys,.of w1,w2⟩
 ·rename_i ds
  have r2:=r1'
  simp only [Rep] at r2
  obtain ⟨a,xs,rfl,h1,h2⟩:=r2
  refine ⟨a,rfl,⟨xs,by rw [← hK];exact h1.sq⟩,rd_for hK (ab.grow e1) r1' (fun B H z=>?_) k⟩
  simp only [Rep] at z
  obtain ⟨b,ys,e,w1,w2⟩:=z
  cases e
  exact ⟨ys,by rw [← hK];exact w1.sq,w2⟩
def rng (lo:Int) (n:Nat):List D:=(List.range n).map fun (k:Nat)=>D.int (lo + (k:Int))
theorem rng_get {lo:Int} {n i:Nat} {d:D} (h:(rng lo n)[i]? = some d):i < n/\d=.int (lo + (i:Int)):=by
 unfold rng at h
 rw [List.getElem?_map] at h
 cases e:(List.range n)[i]? with
 | none=>rw [e] at h;cases h
 | some k =>
  rw [e] at h
  have e2:=List.getElem?_eq_some_iff.mp e
  obtain ⟨hl,e3⟩:=e2
  simp at e3 hl
  subst e3
  exact ⟨hl,(Option.some.inj h).symm⟩
theorem rng_len (lo:Int) (n:Nat):(rng lo n).length=n:=by simp [rng]
def rOk (i:Int):Bool:=decide (-(2 ^ 62)<=i/\i < 2 ^ 62)
def sRng (fs:List Fn) (g:D->DS->Ou DS) (body:Sm):Sm:=fun δ=>(fArgs fs δ).bind fun ds=>match ds with
 | [.int j]=>if rOk j=true then forL g body (rng 0 j.toNat) δ else .bad
 | [.int i,.int j]=>if rOk i=true/\rOk j=true then forL g body (rng i (j - i).toNat) δ else .bad
 | _=>.bad
theorem rd_rng1 {c:Cn} {g:D->DS->Ou DS} {D:Ends} {K:PySem.W.Frag} {σ:St} {δ:DS} {H:Hp} {lo:Int} {n:Nat} (hK:c.K=K) (ab:Abs c σ δ H) (h:Res K E c.H₀ (forL g F (rng lo n) δ) (EndP c fr D)) (hp:c.P.map (·.1)=fr.pin:=by assumption) :
  ∃ W:Nat->Nat->St->Hp->Prop,(∃ m,W 0 m σ H)/\∀ i m σ H,W i m σ H ->
   ((Itr lo n).stop i H/\D.nx σ H)\/((Itr lo n).go i H/\∃ N:St->Hp->Prop,(∀ σ' H',N σ' H'->∃ m',m' < m/\W (i + 1) m' σ' H')/\∀ x H',(Itr lo n).yld i H x H'->tG K E g x σ H' fun σ2 H2=>tS K E fr F { D with nx:=N,ct:=N,bk:=D.nx } σ2 H2):=by
 refine for_goes (gh:=c.G) (fun _ _ _ _ z=>z) (fun _ _ _ z=>z) hK (fun _ z=>z) ab h (fun i σ δ H d z hd=>?_) fun σ δ H z=>?_
 ·obtain ⟨h1,rfl⟩:=rng_get hd
  exact ⟨h1,fun x H' y=>⟨y.1,by rw [y.2];simp [Rep]⟩⟩
 ·show n<=_
  rw [rng_len];exact Nat.le_refl _
def whileF (gc:DS->Ou Bool) (body:Sm):Nat->Sm
 | 0,_=>.bad
 | n + 1,δ=>(gc δ).bind fun b=>if b=true then (body δ).bind fun r=>match r with
   | .nx δ2=>whileF gc body n δ2
   | .ct δ2=>whileF gc body n δ2
   | .bk δ2=>.ok (.nx δ2)
   | .rt d=>.ok (.rt d)
  else .ok (.nx δ)
theorem xs_while (n:Nat) {t:Expr} {body:List Stmt} (hp:PassesOwn (model X.prog X.w) X.A X.env X.xe) (hc:PT X t (tT X.K E ga)) (hb:PSs X body (tS X.K E fr F)):PS X (.While t body [] pos) (tS X.K E fr (whileF ga F n)):=(ps_while hp hc hb).imp fun D σ H q=>by
 obtain ⟨c,δ,hK,ab,q⟩:=q
 have hp:=ab.pi
 refine ⟨fun m σ H=>∃ δ,Abs c σ δ H/\Res X.K E c.H₀ (whileF ga F m δ) (EndP c fr D),⟨n,δ,ab.toAbs,q⟩,?_⟩
 rintro m σ H ⟨δ,ab,q⟩
 cases m with
 | zero=>exact q.elim
 | succ m =>
  refine ⟨c,δ,hK,ab,(Res.bind q).imp fun z _ k H1 e1=>?_⟩
  cases z with
  | true =>
   refine ⟨fun σ' H'=>∃ δ',Abs c σ' δ' H'/\Res X.K E c.H₀ (whileF ga F m δ') (EndP c fr D),fun σ' H' z=>⟨m,Nat.lt_succ_self m,z⟩,c,δ,hK,⟨ab.grow e1,hp⟩,(Res.bind k).imp fun r _ k=>?_⟩
   cases r with
   | nx δ2=>exact fun σ' H' ab'=>⟨δ2,ab',k⟩
   | ct δ2=>exact fun σ' H' ab'=>⟨δ2,ab',k⟩
   | bk δ2=>exact k
   | rt d=>exact k
  | false=>exact k σ H1 (ab.grow e1)
end
end DL
namespace DL
open PySem PySem.Spec PyProof.Rows L2
section
variable {X:Cx} {E:XK} {m:Md} {a b e:Expr} {fa fb fe:Fn} {pos:Pos} {es:List Expr} {fs:List Fn} {fr:Rm} {F G:Sm} {ga gb:DS->Ou Bool} {st:Stmt}
def gI (C:Int->Int->Bool) (g:Int->Int->D):D->D->Ou D
 | .int i,.int j=>if C i j=true then .ok (g i j) else .bad
 | _,_=>.bad
def gI0 (g:Int->Int->D):D->D->Ou D
 | .int i,.int j=>.ok (g i j)
 | _,_=>.bad
theorem od_I {f:Value->Value->Sem Value} {C':Int->Int->Prop} {C:Int->Int->Bool} {g:Int->Int->D} (h:OpR X f (rI C' fun i j=>toV (g i j))) (hC:∀ i j,C i j=true->C' i j) (hs:∀ i j,isS (g i j)=true):OpD X f (gI C g):=by
 refine ⟨_,h,fun B H dx dy x y Q rx ry=>?_⟩
 cases dx <;> cases dy <;> simp only [gI]
 rename_i i j
 simp only [Rep] at rx ry
 subst rx;subst ry
 by_cases hc:C i j=true
 ·rw [if_pos hc]
  exact ⟨hs i j,fun q=>⟨i,j,rfl,rfl,hC i j hc,q⟩⟩
 ·rw [if_neg hc];trivial
theorem od_I0 {f:Value->Value->Sem Value} {g:Int->Int->D} (h:OpR X f (rI0 fun i j=>toV (g i j))) (hs:∀ i j,isS (g i j)=true):OpD X f (gI0 g):=by
 refine ⟨_,h,fun B H dx dy x y Q rx ry=>?_⟩
 cases dx <;> cases dy <;> simp only [gI0]
 rename_i i j
 simp only [Rep] at rx ry
 subst rx;subst ry
 exact ⟨hs i j,fun q=>⟨i,j,rfl,rfl,q⟩⟩
def gSub:=gI0 fun i j=>.int (i - j)
def cMul (i j:Int):Bool:=decide ((-(2 ^ 64) < i/\i < 2 ^ 64)\/(-(2 ^ 64) < j/\j < 2 ^ 64))
def gMul:=gI cMul fun i j=>.int (i * j)
def cDiv (_ j:Int):Bool:=decide (0 < j/\j < 2 ^ 64)
def gDiv:=gI cDiv fun i j=>.int (i / j)
def cMod (_ j:Int):Bool:=decide (0 < j)
def gMod:=gI cMod fun i j=>.int (i % j)
def cPow (i j:Int):Bool:=decide (0<=j/\j<=1000000/\i.natAbs < 2 ^ 64)
def gPow:=gI cPow fun i j=>.int (i ^ j.toNat)
def gShl:=gI cPow fun i j=>.int (i * 2 ^ j.toNat)
def cShr (_ j:Int):Bool:=decide (0<=j)
def gShr:=gI cShr fun i j=>.int (i / 2 ^ j.toNat)
def gAnd:=gI0 fun i j=>.int (Builtin.bitAnd i j)
def gXor:=gI0 fun i j=>.int (Builtin.bitXor i j)
theorem od_sub:OpD X (binaryOp .Sub) gSub:=od_I0 op_sub fun _ _=>rfl
theorem od_mul:OpD X (binaryOp .Mult) gMul:=od_I op_mul (fun i j h=>by have z:=of_decide_eq_true h;exact z) fun _ _=>rfl
theorem log2_64 {j:Int} (h0:0 < j) (h:j < 2 ^ 64):j.natAbs.log2 < 9000:=by
 have h1:j.natAbs≠0:=by lia
 have h2:j.natAbs < 2 ^ 64:=by lia
 have:=(Nat.log2_lt h1).mpr h2
 lia
theorem op_fdiv64:OpR X (binaryOp .FloorDiv) (rI (fun _ j=>0 < j/\j < 2 ^ 64) fun i j=>.int (i / j)):=opI fun i j _ _ _ _ _ hc q=>by
 have h1:(0:Int) < j:=hc.1
 exact floordiv_int (by lia) (by rw [Int.fdiv_eq_ediv_of_nonneg i (by lia)];exact q) (.inl (PyProof.noPylong_of_log2 (log2_64 hc.1 hc.2)))
theorem od_div:OpD X (binaryOp .FloorDiv) gDiv:=od_I op_fdiv64 (fun _ _ h=>of_decide_eq_true h) fun _ _=>rfl
theorem od_mod:OpD X (binaryOp .Mod) gMod:=od_I op_mod (fun _ _ h=>of_decide_eq_true h) fun _ _=>rfl
theorem od_pow:OpD X (binaryOp .Pow) gPow:=od_I op_pow (fun i j h=>by have z:=of_decide_eq_true h;exact z) fun _ _=>rfl
theorem od_shl:OpD X (binaryOp .LShift) gShl:=od_I op_shl (fun i j h=>by have z:=of_decide_eq_true h;exact z) fun _ _=>rfl
theorem od_xor:OpD X (binaryOp .BitXor) gXor:=od_I0 op_xor fun _ _=>rfl
def gLt:=gI0 fun i j=>.bl (decide (i < j))
def gLe:=gI0 fun i j=>.bl (decide (i<=j))
def gGt:=gI0 fun i j=>.bl (decide (j < i))
def gGe:=gI0 fun i j=>.bl (decide (j<=i))
theorem od_lt:OpD X (compareOp .Lt) gLt:=od_I0 op_lt fun _ _=>rfl
theorem od_le:OpD X (compareOp .LtE) gLe:=od_I0 op_le fun _ _=>rfl
theorem od_gt:OpD X (compareOp .Gt) gGt:=od_I0 op_gt fun _ _=>rfl
theorem od_ge:OpD X (compareOp .GtE) gGe:=od_I0 op_ge fun _ _=>rfl
def f1 (g:D->Ou D) (fa:Fn):Fn:=fun δ=>(fa δ).bind g
def gNeg:D->Ou D
 | .int i=>.ok (.int (-i))
 | _=>.bad
theorem xneg (ha:PE X a (tX X.K E .W fa)) (hm:notF m=true:=by rfl):PE X (.UnaryOp .USub a pos) (tX X.K E m (f1 gNeg fa)):=(pe_un un_neg ha).imp fun σ H Q q=>by
 obtain ⟨c,δ,hK,ab,q⟩:=q
 refine ⟨c,δ,hK,ab,(Res.bind q).imp fun d _ k v H1 e1 r1=>?_⟩
 have r1':Rep c.K c.B H1 d v:=r1
 cases d <;> first | exact k.elim | skip
 simp only [Rep] at r1'
 subst r1'
 exact ⟨_,rfl,k _ H1 e1 (Post.ofS hm rfl)⟩
def gIsN:D->Ou D
 | .non=>.ok (.bl true)
 | _=>.ok (.bl false)
def gNotN:D->Ou D
 | .non=>.ok (.bl false)
 | _=>.ok (.bl true)
theorem non_iff {K:PySem.W.Frag} {B:Addr->Prop} {H:Hp} {d:D} {v:V} (r:Rep K B H d v):gIsN d=.ok (.bl (decide (v=.non)))/\gNotN d=.ok (.bl (!decide (v=.non))):=by
 cases d <;> simp only [Rep] at r <;> first | (subst r;exact ⟨rfl,rfl⟩) | (obtain ⟨a,_,rfl,_⟩:=r;exact ⟨rfl,rfl⟩) | (obtain ⟨a,_,_,rfl,_⟩:=r;exact ⟨rfl,rfl⟩) | (obtain ⟨a,_,_,_,rfl,_⟩:=r;exact ⟨rfl,rfl⟩)
theorem xnotN {j p} (ha:PE X a (tX X.K E .W fa)) (hm:notF m=true:=by rfl):PE X (.Compare a [.IsNot] [.Constant .none j p] pos) (tX X.K E m (f1 gNotN fa)):=(pe_cmp (pc_notN ha)).imp fun σ H Q q=>by
 obtain ⟨c,δ,hK,ab,q⟩:=q
 refine ⟨c,δ,hK,ab,(Res.bind q).imp fun d _ k v H1 e1 r1=>?_⟩
 rw [(non_iff (show Rep c.K c.B H1 d v from r1)).2] at k
 exact k _ H1 e1 (Post.ofS hm rfl)
theorem xt_isN {j p} (ha:PE X a (tX X.K E .W fa)):PT X (.Compare a [.Is] [.Constant .none j p] pos) (tT X.K E (fAsB (f1 gIsN fa))):=(pt_cmp (pc_isN ha)).imp fun σ H Q q=>by
 obtain ⟨c,δ,hK,ab,q⟩:=q
 refine ⟨c,δ,hK,ab,(Res.bind (Res.bind q)).imp fun d _ k v H1 e1 r1=>?_⟩
 rw [(non_iff (show Rep c.K c.B H1 d v from r1)).1] at k
 exact ⟨_,rfl,k H1 e1⟩
theorem xt_notN {j p} (ha:PE X a (tX X.K E .W fa)):PT X (.Compare a [.IsNot] [.Constant .none j p] pos) (tT X.K E (fAsB (f1 gNotN fa))):=(pt_cmp (pc_notN ha)).imp fun σ H Q q=>by
 obtain ⟨c,δ,hK,ab,q⟩:=q
 refine ⟨c,δ,hK,ab,(Res.bind (Res.bind q)).imp fun d _ k v H1 e1 r1=>?_⟩
 rw [(non_iff (show Rep c.K c.B H1 d v from r1)).2] at k
 exact ⟨_,rfl,k H1 e1⟩
def fChn (g g':D->D->Ou D) (fa fb fc:Fn):Fn:=fun δ=>(fa δ).bind fun x=>(fb δ).bind fun y=>(g x y).bind fun z=>(asB z).bind fun k=>if k=true then (fc δ).bind fun w=>g' y w else .ok (.bl false)
theorem rd_chn {r r':R2} {g g':D->D->Ou D} {fc:Fn} {σ:St} {H:Hp} {Q:VK} (hr:∀ (B:Addr->Prop) (H:Hp) (dx dy:D) (x y:V) (Q:VK),Rep X.K B H dx x->Rep X.K B H dy y->match g dx dy with
  | .ok d=>isS d=true/\(Q (toV d) H->r x y H Q)
  | .ex _=>False
  | .bad=>True) (hr':∀ (B:Addr->Prop) (H:Hp) (dx dy:D) (x y:V) (Q:VK),Rep X.K B H dx x->Rep X.K B H dy y->match g' dx dy with
  | .ok d=>isS d=true/\(Q (toV d) H->r' x y H Q)
  | .ex _=>False
  | .bad=>True) (hm:notF m=true) (h:tX X.K E m (fChn g g' fa fb fc) σ H Q):tChain r r' (tX X.K E .W fa) (tX X.K E .W fb) (tX X.K E .W fc) σ H Q:=by
 obtain ⟨c,δ,hK,ab,h⟩:=h
 refine ⟨c,δ,hK,ab,(Res.bind h).imp fun dx _ k x H1 e1 r1=>?_⟩
 refine ⟨c,δ,hK,ab.grow e1,(Res.bind k).imp fun dy _ k y H2 e2 r2=>?_⟩
 have r1':Rep X.K c.B H2 dx x:=by
  have z:Rep c.K c.B H1 dx x:=r1
  rw [hK] at z;exact z.same e2
 have r2':Rep X.K c.B H2 dy y:=by
  have z:Rep c.K c.B H2 dy y:=r2
  rw [hK] at z;exact z
 have q:=hr c.B H2 dx dy x y (fun z H3=>∃ k,z=.bl k/\(if k=true then tX X.K E .W fc σ H3 fun w' H4=>r' y w' H4 Q else Q (.bl false) H3)) r1' r2'
 cases e:g dx dy with
 | ex z=>rw [e] at q;exact q.elim
 | bad=>rw [e] at k;exact k.elim
 | ok d =>
  rw [e] at q k
  refine q.2 ?_
  simp only [bind_ok] at k
  cases d <;> first | exact k.elim | skip
  rename_i z
  refine ⟨z,rfl,?_⟩
  cases z with
  | false=>exact k _ H2 (e1.trans e2) (Post.ofS hm rfl)
  | true =>
   refine ⟨c,δ,hK,(ab.grow e1).grow e2,(Res.bind (show Res X.K E c.H₀ ((fc δ).bind fun w=>g' dy w) _ from k)).imp fun dw _ k w H3 e3 r3=>?_⟩
   have r3':Rep X.K c.B H3 dw w:=by
    have z:Rep c.K c.B H3 dw w:=r3
    rw [hK] at z;exact z
   have q':=hr' c.B H3 dy dw y w Q (r2'.same e3) r3'
   cases e':g' dy dw with
   | ex z=>rw [e'] at q';exact q'.elim
   | bad=>rw [e'] at k;exact k.elim
   | ok d =>
    rw [e'] at q' k
    exact q'.2 (k (toV d) H3 ((e1.trans e2).trans e3) (Post.ofS hm q'.1))
theorem xchn {op op':CmpOp} {g g':D->D->Ou D} {c:Expr} {fc:Fn} (ho:OpD X (compareOp op) g) (ho':OpD X (compareOp op') g') (ha:PE X a (tX X.K E .W fa)) (hb:PE X b (tX X.K E .W fb)) (hc:PE X c (tX X.K E .W fc)) (hk:lastMarks [op,op'] [b,c]=false:=by rfl) (hm:notF m=true:=by rfl) :
  PE X (.Compare a [op,op'] [b,c] pos) (tX X.K E m (fChn g g' fa fb fc)):=by
 obtain ⟨r,h1,h2⟩:=ho
 obtain ⟨r',h1',h2'⟩:=ho'
 exact (pe_chain h1 h1' ha hb hc hk).imp fun σ H Q q=>rd_chn h2 h2' hm q
end
end DL
namespace DL
open PySem PySem.Spec PyProof.Rows L2
def zipO (f:D->D->Option Bool):List D->List D->Option (List Bool)
 | x::xs,y::ys=>(f x y).bind fun b=>(zipO f xs ys).bind fun bs=>some (b::bs)
 | _,_=>some []
def eqT (f:D->D->Option Bool) (xs ys:List D):Option Bool:=(zipO f xs ys).bind fun bs=>some (bs.all id && xs.length == ys.length)
def eqL (f:D->D->Option Bool) (xs ys:List D):Option Bool:=if xs.length=ys.length then (zipO f xs ys).bind fun bs=>some (bs.all id) else some false
def rk:D->Nat
 | .tup _=>1
 | .lst _=>2
 | .frl _=>2
 | .dic _ _=>3
 | .obj _=>3
 | .dip _ _=>3
 | .exc _ _ _=>3
 | _=>0
def its:D->List D
 | .tup xs=>xs
 | .lst xs=>xs
 | .frl xs=>xs
 | _=>[]
def eqF (f:D->D->Option Bool) (x y:D):Option Bool :=
 match rk x,rk y with
 | 0,0=>some (eqV (toV x) (toV y))
 | 1,1=>eqT f (its x) (its y)
 | 2,2=>eqL f (its x) (its y)
 | 3,_=>none
 | _,3=>none
 | _,_=>some false
def eqD:Nat->D->D->Option Bool
 | 0=>fun _ _=>none
 | n + 1=>eqF (eqD n)
theorem zipO_len {f:D->D->Option Bool}:∀ {xs ys:List D} {bs:List Bool},zipO f xs ys=some bs->bs.length=min xs.length ys.length
 | [],ys,bs,h=>by
  have:bs=[]:=by simpa [zipO] using h.symm
  subst this;simp
 | x::xs,[],bs,h=>by
  have:bs=[]:=by simpa [zipO] using h.symm
  subst this;simp
 | x::xs,y::ys,bs,h=>by
  simp only [zipO] at h
  cases e:f x y with
  | none=>rw [e] at h;cases h
  | some b =>
   rw [e] at h
   cases e2:zipO f xs ys with
   | none=>rw [e2] at h;cases h
   | some bs' =>
    rw [e2] at h
    cases h
    have:=zipO_len e2
    simp only [List.length_cons,this]
    lia
theorem zipO_get {f:D->D->Option Bool}:∀ {xs ys:List D} {bs:List Bool},zipO f xs ys=some bs->∀ (j:Nat) (x y:D),xs[j]? = some x->ys[j]? = some y->∃ b,bs[j]? = some b/\f x y=some b
 | [],ys,bs,h,j,x,y,hx,hy=>by simp at hx
 | x::xs,[],bs,h,j,_,y,hx,hy=>by simp at hy
 | x::xs,y::ys,bs,h,j,x',y',hx,hy=>by
  simp only [zipO] at h
  cases e:f x y with
  | none=>rw [e] at h;cases h
  | some b =>
   rw [e] at h
   cases e2:zipO f xs ys with
   | none=>rw [e2] at h;cases h
   | some bs' =>
    rw [e2] at h
    cases h
    cases j with
    | zero =>
     simp at hx hy
     subst hx;subst hy
     exact ⟨b,rfl,e⟩
    | succ j =>
     obtain ⟨b',h1,h2⟩:=zipO_get e2 j x' y' (by simpa using hx) (by simpa using hy)
     exact ⟨b',by simpa using h1,h2⟩
theorem all_range {bs:List Bool} {n:Nat} (h:bs.length=n):(List.range n).all (fun j=>bs.getD j true)=bs.all id:=by
 subst h
 rw [Bool.eq_iff_iff]
 simp only [List.all_eq_true,List.mem_range,id]
 constructor
 ·intro h b hb
  obtain ⟨j,hj,rfl⟩:=List.getElem_of_mem hb
  have:=h j hj
  simpa [List.getD,hj] using this
 ·intro h j hj
  have:=h bs[j] (List.getElem_mem hj)
  simpa [List.getD,hj] using this
section
variable {X:Cx} {pins:List (Addr×Obj)} {σ:St} {H:Hp} {s:Shared} {B:Addr->Prop} {A:Around}
structure Eq3 (A:Around) (s:Shared) (u v:Value) (b:Bool):Prop where
 rc:SeqAt.RcAt A s u v b
 ne:SeqAt.RcNeAt A s u v (!b)
 eq:SeqAt.EqAt A s u v b
theorem rc_sc {x y:V} {u v:Value} (rx:L2.RelV x u) (ry:L2.RelV y v) (fx:flatV x=true) (fy:flatV y=true):SeqAt.RcAt A s u v (eqV x y):=by
 cases x with
 | non =>
  cases rx
  cases y with
  | non=>cases ry;exact .none_none
  | bl b=>cases ry;exact .none_bool b
  | int b=>obtain ⟨tb,rfl⟩:=ry;exact .none_int b tb
  | str b=>obtain ⟨tb,rfl⟩:=ry;exact .none_str b tb
  | _=>exact absurd (show false=true from fy) Bool.false_ne_true
 | bl a =>
  cases rx
  cases y with
  | non=>cases ry;exact .bool_none a
  | bl b=>cases ry;exact .bool_bool a b
  | int b=>obtain ⟨tb,rfl⟩:=ry;exact .bool_int a b tb
  | str b=>obtain ⟨tb,rfl⟩:=ry;exact .bool_str a b tb
  | _=>exact absurd (show false=true from fy) Bool.false_ne_true
 | int a =>
  obtain ⟨ta,rfl⟩:=rx
  cases y with
  | non=>cases ry;exact .int_none a ta
  | bl b=>cases ry;exact .int_bool a ta b
  | int b=>obtain ⟨tb,rfl⟩:=ry;exact .int_int a ta b tb
  | str b=>obtain ⟨tb,rfl⟩:=ry;exact .int_str a ta b tb
  | _=>exact absurd (show false=true from fy) Bool.false_ne_true
 | str a =>
  obtain ⟨ta,rfl⟩:=rx
  cases y with
  | non=>cases ry;exact .str_none a ta
  | bl b=>cases ry;exact .str_bool a ta b
  | int b=>obtain ⟨tb,rfl⟩:=ry;exact .str_int a ta b tb
  | str b=>obtain ⟨tb,rfl⟩:=ry;exact .str_str a ta b tb
  | _=>exact absurd (show false=true from fy) Bool.false_ne_true
 | _=>exact absurd (show false=true from fx) Bool.false_ne_true
theorem rcn_sc {x y:V} {u v:Value} (rx:L2.RelV x u) (ry:L2.RelV y v) (fx:flatV x=true) (fy:flatV y=true):SeqAt.RcNeAt A s u v (!eqV x y):=by
 cases x with
 | non =>
  cases rx
  cases y with
  | non=>cases ry;exact .none_none
  | bl b=>cases ry;exact .none_bool b
  | int b=>obtain ⟨tb,rfl⟩:=ry;exact .none_int b tb
  | str b=>obtain ⟨tb,rfl⟩:=ry;exact .none_str b tb
  | _=>exact absurd (show false=true from fy) Bool.false_ne_true
 | bl a =>
  cases rx
  cases y with
  | non=>cases ry;exact .bool_none a
  | bl b=>cases ry;exact .bool_bool a b
  | int b=>obtain ⟨tb,rfl⟩:=ry;exact .bool_int a b tb
  | str b=>obtain ⟨tb,rfl⟩:=ry;exact .bool_str a b tb
  | _=>exact absurd (show false=true from fy) Bool.false_ne_true
 | int a =>
  obtain ⟨ta,rfl⟩:=rx
  cases y with
  | non=>cases ry;exact .int_none a ta
  | bl b=>cases ry;exact .int_bool a ta b
  | int b=>obtain ⟨tb,rfl⟩:=ry;exact .int_int a ta b tb
  | str b=>obtain ⟨tb,rfl⟩:=ry;exact .int_str a ta b tb
  | _=>exact absurd (show false=true from fy) Bool.false_ne_true
 | str a =>
  obtain ⟨ta,rfl⟩:=rx
  cases y with
  | non=>cases ry;exact .str_none a ta
  | bl b=>cases ry;exact .str_bool a ta b
  | int b=>obtain ⟨tb,rfl⟩:=ry;exact .str_int a ta b tb
  | str b=>obtain ⟨tb,rfl⟩:=ry;exact .str_str a ta b tb
  | _=>exact absurd (show false=true from fy) Bool.false_ne_true
 | _=>exact absurd (show false=true from fx) Bool.false_ne_true
theorem eq3_sc {x y:V} {u v:Value} (rx:L2.RelV x u) (ry:L2.RelV y v) (fx:flatV x=true) (fy:flatV y=true):Eq3 A s u v (eqV x y):=⟨rc_sc rx ry fx fy,rcn_sc rx ry fx fy,eqAt_V rx ry fx fy⟩
theorem eq3_tup_sc {l:Addr} {items:Array Value} {y:V} {v:Value} (hl:s.heap.IsTuple l items) (hu:A.units < cLine) (ry:L2.RelV y v) (fy:flatV y=true):Eq3 A s (.ref l) v false/\Eq3 A s v (.ref l) false:=by
 cases y <;> first | exact absurd (show false=true from fy) Bool.false_ne_true | skip
 all_goals simp only [L2.RelV] at ry
 all_goals first | subst ry | (obtain ⟨t',rfl⟩:=ry)
 ·exact ⟨⟨.tuple_none hl hu,.tuple_none hl hu,.tuple_none hl hu⟩,.none_tuple hl hu,.none_tuple hl hu,.none_tuple hl hu⟩
 ·exact ⟨⟨.tuple_bool _ hl hu,.tuple_bool _ hl hu,.tuple_bool _ hl hu⟩,.bool_tuple _ hl hu,.bool_tuple _ hl hu,.bool_tuple _ hl hu⟩
 ·exact ⟨⟨.tuple_int _ _ hl hu,.tuple_int _ _ hl hu,.tuple_int _ _ hl hu⟩,.int_tuple _ _ hl hu,.int_tuple _ _ hl hu,.int_tuple _ _ hl hu⟩
 ·exact ⟨⟨.tuple_str _ _ hl hu,.tuple_str _ _ hl hu,.tuple_str _ _ hl hu⟩,.str_tuple _ _ hl hu,.str_tuple _ _ hl hu,.str_tuple _ _ hl hu⟩
theorem eq3_lst_sc {l:Addr} {items:Array Value} {y:V} {v:Value} (hl:s.heap.IsList l items) (hu:A.units < cLine) (ry:L2.RelV y v) (fy:flatV y=true):Eq3 A s (.ref l) v false/\Eq3 A s v (.ref l) false:=by
 cases y <;> first | exact absurd (show false=true from fy) Bool.false_ne_true | skip
 all_goals simp only [L2.RelV] at ry
 all_goals first | subst ry | (obtain ⟨t',rfl⟩:=ry)
 ·exact ⟨⟨.list_none hl hu,.list_none hl hu,.list_none hl hu⟩,.none_list hl hu,.none_list hl hu,.none_list hl hu⟩
 ·exact ⟨⟨.list_bool _ hl hu,.list_bool _ hl hu,.list_bool _ hl hu⟩,.bool_list _ hl hu,.bool_list _ hl hu,.bool_list _ hl hu⟩
 ·exact ⟨⟨.list_int _ _ hl hu,.list_int _ _ hl hu,.list_int _ _ hl hu⟩,.int_list _ _ hl hu,.int_list _ _ hl hu,.int_list _ _ hl hu⟩
 ·exact ⟨⟨.list_str _ _ hl hu,.list_str _ _ hl hu,.list_str _ _ hl hu⟩,.str_list _ _ hl hu,.str_list _ _ hl hu,.str_list _ _ hl hu⟩
theorem rk0 {K:PySem.W.Frag} {d:D} {x:V} (h:rk d=0) (r:Rep K B H d x):x=toV d/\flatV x=true:=by
 cases d <;> simp [rk] at h <;> simp only [Rep] at r <;> subst r <;> exact ⟨rfl,rfl⟩
theorem rk1 {K:PySem.W.Frag} {d:D} {x:V} (h:rk d=1) (r:Rep K B H d x):∃ a xs,x=.ref a/\SqT K H a xs/\Reps K B H (its d) xs:=by
 cases d <;> simp [rk] at h
 simpa only [Rep,its] using r
theorem rk2 {K:PySem.W.Frag} {d:D} {x:V} (h:rk d=2) (r:Rep K B H d x):∃ a xs,x=.ref a/\SqL K H a xs/\Reps K B H (its d) xs:=by
 cases d <;> simp [rk] at h <;> simp only [Rep] at r
 ·obtain ⟨a,xs,e,_,h1,h2⟩:=r;exact ⟨a,xs,e,.of h1,h2⟩
 ·obtain ⟨a,xs,e,h1,h2⟩:=r;exact ⟨a,xs,e,h1.sq,h2⟩
theorem rk_le (d:D):rk d=0\/rk d=1\/rk d=2\/rk d=3:=by cases d <;> simp [rk]
theorem eq_items {f:D->D->Option Bool} {dxs dys:List D} {xs ys:List V} {us vs:List Value} {bs:List Bool} (hz:zipO f dxs dys=some bs) (rx:Reps X.K B H dxs xs) (ry:Reps X.K B H dys ys) (ru:Vals xs us) (rv:Vals ys vs)
  (ih:∀ dx dy x y u v b,Rep X.K B H dx x->Rep X.K B H dy y->L2.RelV x u->L2.RelV y v->f dx dy=some b->SeqAt.EqAt A s u v b) :
  ∀ j (h1:j < us.toArray.size) (h2:j < vs.toArray.size),SeqAt.EqAt A s us.toArray[j] vs.toArray[j] (bs.getD j true):=by
 intro j h1 h2
 have hl1:=rx.length;have hl2:=ry.length;have hl3:=ru.length;have hl4:=rv.length
 have h1':j < us.length:=by simpa using h1
 have h2':j < vs.length:=by simpa using h2
 have k1:dxs[j]? = some (dxs[j]'(by lia)):=List.getElem?_eq_getElem (by lia)
 have k2:dys[j]? = some (dys[j]'(by lia)):=List.getElem?_eq_getElem (by lia)
 obtain ⟨b,e1,e2⟩:=zipO_get hz j _ _ k1 k2
 obtain ⟨x,g1,g2⟩:=rx.get j _ k1
 obtain ⟨y,g3,g4⟩:=ry.get j _ k2
 obtain ⟨u,g5,g6⟩:=ru.get g1
 obtain ⟨v,g7,g8⟩:=rv.get g3
 have eu:us.toArray[j]=u:=by
  have:=List.getElem?_eq_getElem h1'
  rw [g5] at this
  simpa using (Option.some.inj this).symm
 have ev:vs.toArray[j]=v:=by
  have:=List.getElem?_eq_getElem h2'
  rw [g7] at this
  simpa using (Option.some.inj this).symm
 have eb:bs.getD j true=b:=by simp [List.getD,e1]
 rw [eu,ev,eb]
 exact ih _ _ x y u v b g2 g4 g6 g8 e2
theorem same_true (I : Inv X pins σ H s) : ∀ (n : Nat) (dx dy : D) (x : V) (b : Bool), Rep X.K B H dx x → Rep X.K B H dy x → eqD n dx dy = some b → b = true
  | 0, _, _, _, _, _, _, e => nomatch e
  | n + 1, dx, dy, x, b, rx, ry, e => by
    have go : ∀ (dxs dys : List D) (xs : List V) (bs : List Bool), Reps X.K B H dxs xs → Reps X.K B H dys xs → zipO (eqD n) dxs dys = some bs → bs.all id = true := by
      intro dxs dys xs bs r1 r2 hz
      have hl := zipO_len hz
      have l1 := r1.length; have l2 := r2.length
      rw [List.all_eq_true]
      intro b hb
      obtain ⟨j, hj, rfl⟩ := List.getElem_of_mem hb
      have k1 : dxs[j]? = some (dxs[j]'(by lia)) := List.getElem?_eq_getElem (by lia)
      have k2 : dys[j]? = some (dys[j]'(by lia)) := List.getElem?_eq_getElem (by lia)
      obtain ⟨b', e1, e2⟩ := zipO_get hz j _ _ k1 k2
      obtain ⟨v, g1, g2⟩ := r1.get j _ k1
      obtain ⟨v', g3, g4⟩ := r2.get j _ k2
      rw [g1] at g3; cases g3
      have := same_true I n _ _ _ _ g2 g4 e2
      subst this
      rw [List.getElem?_eq_getElem hj] at e1
      simpa using Option.some.inj e1
    have e' : eqF (eqD n) dx dy = some b := e
    unfold eqF at e'
    rcases rk_le dx with hx | hx | hx | hx <;> rcases rk_le dy with hy | hy | hy | hy <;> rw [hx, hy] at e' <;> simp only at e'
    all_goals try cases e'
    · obtain ⟨h1, h2⟩ := rk0 hx rx
      obtain ⟨h3, _⟩ := rk0 hy ry
      rw [← h1, ← h3]
      cases x <;> simp [eqV, flatV] at h2 ⊢
    all_goals first
      | (obtain ⟨_, h2⟩ := rk0 hx rx
         first | (obtain ⟨a, xs, rfl, _⟩ := rk1 hy ry; simp [flatV] at h2) | (obtain ⟨a, xs, rfl, _⟩ := rk2 hy ry; simp [flatV] at h2))
      | (obtain ⟨_, h2⟩ := rk0 hy ry
         first | (obtain ⟨a, xs, rfl, _⟩ := rk1 hx rx; simp [flatV] at h2) | (obtain ⟨a, xs, rfl, _⟩ := rk2 hx rx; simp [flatV] at h2))
      | skip
    · obtain ⟨a, xs, rfl, h1, h2⟩ := rk1 hx rx
      obtain ⟨a', xs', z, h3, h4⟩ := rk1 hy ry
      cases z
      have := I.tuple_inj h1 h3
      subst this
      unfold eqT at e'
      cases ez : zipO (eqD n) (its dx) (its dy) with
      | none => rw [ez] at e'; cases e'
      | some bs =>
        rw [ez] at e'
        cases e'
        have l1 := h2.length; have l2 := h4.length
        rw [go _ _ _ _ h2 h4 ez]
        simp; lia
    · obtain ⟨a, xs, rfl, h1, h2⟩ := rk1 hx rx
      obtain ⟨a', xs', z, h3, h4⟩ := rk2 hy ry
      cases z
      obtain ⟨_, _, p1, _⟩ := I.tuple h1
      obtain ⟨_, _, p2, _⟩ := I.list h3
      exact absurd rfl (SeqAt.ne_of_list_tuple p2.isList p1)
    · obtain ⟨a, xs, rfl, h1, h2⟩ := rk2 hx rx
      obtain ⟨a', xs', z, h3, h4⟩ := rk1 hy ry
      cases z
      obtain ⟨_, _, p1, _⟩ := I.tuple h3
      obtain ⟨_, _, p2, _⟩ := I.list h1
      exact absurd rfl (SeqAt.ne_of_list_tuple p2.isList p1)
    · obtain ⟨a, xs, rfl, h1, h2⟩ := rk2 hx rx
      obtain ⟨a', xs', z, h3, h4⟩ := rk2 hy ry
      cases z
      have := I.list_inj h1 h3
      subst this
      have l1 := h2.length; have l2 := h4.length
      unfold eqL at e'
      rw [if_pos (by lia)] at e'
      cases ez : zipO (eqD n) (its dx) (its dy) with
      | none => rw [ez] at e'; cases e'
      | some bs =>
        rw [ez] at e'
        cases e'
        exact go _ _ _ _ h2 h4 ez
theorem eq_at (I:Inv X pins σ H s):∀ (n:Nat) (A:Around) (dx dy:D) (x y:V) (u v:Value) (b:Bool),A.units + n < cLine->Rep X.K B H dx x->Rep X.K B H dy y->L2.RelV x u->L2.RelV y v->eqD n dx dy=some b->Eq3 A s u v b
 | 0,_,_,_,_,_,_,_,_,_,_,_,_,_,e=>nomatch e
 | n + 1,A,dx,dy,x,y,u,v,b,hu,rx,ry,ru,rv,e=>by
  have hu0:A.units < cLine:=by lia
  have ih:=fun dx dy x y u v b=>fun h1 h2 h3 h4 h5=>(eq_at I n A.in1 dx dy x y u v b (by show A.units + 1 + n < cLine;lia) h1 h2 h3 h4 h5).eq
  have e0:=e
  have e':eqF (eqD n) dx dy=some b:=e
  unfold eqF at e'
  rcases rk_le dx with hx | hx | hx | hx <;> rcases rk_le dy with hy | hy | hy | hy <;> rw [hx,hy] at e' <;> simp only at e'
  all_goals try cases e'
  ·obtain ⟨h1,h2⟩:=rk0 hx rx
   obtain ⟨h3,h4⟩:=rk0 hy ry
   rw [← h1,← h3]
   exact eq3_sc ru rv h2 h4
  ·obtain ⟨h1,h2⟩:=rk0 hx rx
   obtain ⟨a,xs,rfl,h3,h4⟩:=rk1 hy ry
   obtain rfl:v=Value.ref a:=rv
   obtain ⟨_,_,p,_⟩:=I.tuple h3
   exact (eq3_tup_sc p hu0 ru h2).2
  ·obtain ⟨h1,h2⟩:=rk0 hx rx
   obtain ⟨a,xs,rfl,h3,h4⟩:=rk2 hy ry
   obtain rfl:v=Value.ref a:=rv
   obtain ⟨_,_,p,_⟩:=I.list h3
   exact (eq3_lst_sc p.isList hu0 ru h2).2
  ·obtain ⟨h1,h2⟩:=rk0 hy ry
   obtain ⟨a,xs,rfl,h3,h4⟩:=rk1 hx rx
   obtain rfl:u=Value.ref a:=ru
   obtain ⟨_,_,p,_⟩:=I.tuple h3
   exact (eq3_tup_sc p hu0 rv h2).1
  ·obtain ⟨a,xs,rfl,h1,h2⟩:=rk1 hx rx
   obtain ⟨a',ys,rfl,h3,h4⟩:=rk1 hy ry
   obtain rfl:u=Value.ref a:=ru
   obtain rfl:v=Value.ref a':=rv
   obtain ⟨us,r1,p1,_⟩:=I.tuple h1
   obtain ⟨vs,r2,p2,_⟩:=I.tuple h3
   unfold eqT at e'
   cases ez:zipO (eqD n) (its dx) (its dy) with
   | none=>rw [ez] at e';cases e'
   | some bs =>
    rw [ez] at e'
    have eb:=Option.some.inj e'
    have hit:=eq_items (A:=A.in1) (s:=s) ez h2 h4 r1 r2 ih
    have hl:=zipO_len ez
    have l1:=h2.length;have l2:=h4.length;have l3:=r1.length;have l4:=r2.length
    have el:bs.length=min us.toArray.size vs.toArray.size:=by simp;lia
    have es:(us.toArray.size == vs.toArray.size)=((its dx).length == (its dy).length):=by
     rw [Bool.eq_iff_iff];simp;lia
    have h5:=SeqAt.RcAt.tuples p1 p2 hu0 hit
    have h6:=SeqAt.RcNeAt.tuples p1 p2 hu0 hit
    rw [all_range el,es,eb] at h5 h6
    refine ⟨h5,h6,?_⟩
    by_cases ha:a=a'
    ·subst ha
     rw [same_true I (n + 1) dx dy (.ref a) b rx ry e0]
     exact .same _
    ·exact .of_refs ha h5
  ·obtain ⟨a,xs,rfl,h1,h2⟩:=rk1 hx rx
   obtain ⟨a',ys,rfl,h3,h4⟩:=rk2 hy ry
   obtain rfl:u=Value.ref a:=ru
   obtain rfl:v=Value.ref a':=rv
   obtain ⟨us,r1,p1,_⟩:=I.tuple h1
   obtain ⟨vs,r2,p2,_⟩:=I.list h3
   exact ⟨.tuple_list p1 p2.isList hu0,.tuple_list p1 p2.isList hu0,.tuple_list p1 p2.isList hu0⟩
  ·obtain ⟨h1,h2⟩:=rk0 hy ry
   obtain ⟨a,xs,rfl,h3,h4⟩:=rk2 hx rx
   obtain rfl:u=Value.ref a:=ru
   obtain ⟨_,_,p,_⟩:=I.list h3
   exact (eq3_lst_sc p.isList hu0 rv h2).1
  ·obtain ⟨a,xs,rfl,h1,h2⟩:=rk2 hx rx
   obtain ⟨a',ys,rfl,h3,h4⟩:=rk1 hy ry
   obtain rfl:u=Value.ref a:=ru
   obtain rfl:v=Value.ref a':=rv
   obtain ⟨us,r1,p1,_⟩:=I.list h1
   obtain ⟨vs,r2,p2,_⟩:=I.tuple h3
   exact ⟨.list_tuple p1.isList p2 hu0,.list_tuple p1.isList p2 hu0,.list_tuple p1.isList p2 hu0⟩
  ·obtain ⟨a,xs,rfl,h1,h2⟩:=rk2 hx rx
   obtain ⟨a',ys,rfl,h3,h4⟩:=rk2 hy ry
   obtain rfl:u=Value.ref a:=ru
   obtain rfl:v=Value.ref a':=rv
   obtain ⟨us,r1,p1,_⟩:=I.list h1
   obtain ⟨vs,r2,p2,_⟩:=I.list h3
   have l1:=h2.length;have l2:=h4.length;have l3:=r1.length;have l4:=r2.length
   have key:SeqAt.RcAt A s (.ref a) (.ref a') b/\SeqAt.RcNeAt A s (.ref a) (.ref a') (!b):=by
    unfold eqL at e'
    by_cases hl:(its dx).length=(its dy).length
    ·rw [if_pos hl] at e'
     cases ez:zipO (eqD n) (its dx) (its dy) with
     | none=>rw [ez] at e';cases e'
     | some bs =>
      rw [ez] at e'
      have eb:=Option.some.inj e'
      have hit:=eq_items (A:=A.in1) (s:=s) ez h2 h4 r1 r2 ih
      have hlz:=zipO_len ez
      have el:bs.length=us.toArray.size:=by simp;lia
      have esz:us.toArray.size=vs.toArray.size:=by simp;lia
      have h5:=SeqAt.RcAt.lists p1.isList p2.isList esz hu0 hit
      have h6:=SeqAt.RcNeAt.lists p1.isList p2.isList esz hu0 hit
      rw [all_range el,eb] at h5 h6
      exact ⟨h5,h6⟩
    ·rw [if_neg hl] at e'
     cases e'
     have esz:(us.toArray.size != vs.toArray.size)=true:=by simp;lia
     exact ⟨.lists_lengths p1.isList p2.isList esz hu0,.lists_lengths p1.isList p2.isList esz hu0⟩
   refine ⟨key.1,key.2,?_⟩
   by_cases ha:a=a'
   ·subst ha
    rw [same_true I (n + 1) dx dy (.ref a) b rx ry e0]
    exact .same _
   ·exact .of_refs ha key.1
end
section
variable {X:Cx}
def gEq (x y:D):Ou D:=match eqD 60 x y with
 | some b=>.ok (.bl b)
 | none=>.bad
def gNe (x y:D):Ou D:=match eqD 60 x y with
 | some b=>.ok (.bl (!b))
 | none=>.bad
def rEqD (K:PySem.W.Frag) (neg:Bool):R2:=fun x y H Q=>∃ (B:Addr->Prop) (dx dy:D) (b:Bool),Rep K B H dx x/\Rep K B H dy y/\eqD 60 dx dy=some b/\Q (.bl (if neg then !b else b)) H
theorem op_eqD (hu:X.A.units + 64 < cLine):OpR X (compareOp .Eq) (rEqD X.K false):=by
 intro pins s σ H x y v u Q I rx ry h
 obtain ⟨B,dx,dy,b,h1,h2,h3,q⟩:=h
 exact EqBoolInt.of_rc (eq_at I 60 X.A dx dy x y v u b (by lia) h1 h2 rx ry h3).rc ⟨.bl b,H,I,rfl,q⟩
theorem op_neD (hu:X.A.units + 64 < cLine):OpR X (compareOp .NotEq) (rEqD X.K true):=by
 intro pins s σ H x y v u Q I rx ry h
 obtain ⟨B,dx,dy,b,h1,h2,h3,q⟩:=h
 exact EqBoolInt.of_rcne (eq_at I 60 X.A dx dy x y v u b (by lia) h1 h2 rx ry h3).ne ⟨.bl (!b),H,I,rfl,q⟩
theorem od_eq (hu:X.A.units + 64 < cLine):OpD X (compareOp .Eq) gEq:=by
 refine ⟨_,op_eqD hu,fun B H dx dy x y Q rx ry=>?_⟩
 unfold gEq
 cases e:eqD 60 dx dy with
 | none=>trivial
 | some b=>exact ⟨rfl,fun q=>⟨B,dx,dy,b,rx,ry,e,q⟩⟩
theorem od_ne (hu:X.A.units + 64 < cLine):OpD X (compareOp .NotEq) gNe:=by
 refine ⟨_,op_neD hu,fun B H dx dy x y Q rx ry=>?_⟩
 unfold gNe
 cases e:eqD 60 dx dy with
 | none=>trivial
 | some b=>exact ⟨rfl,fun q=>⟨B,dx,dy,b,rx,ry,e,q⟩⟩
end
end DL
namespace DL
open PySem PySem.Spec PyProof.Rows L2
structure Src (K:PySem.W.Frag) (mg:Str->Option Value) (x:Str) (st:Stmt) (ps:List Str):Prop where
 ex:∃ f fd,Fun K x x st f fd/\Binds K fd ps []/\mg x=some (.ref f)
def spD (K:PySem.W.Frag) (fr:Bool) (n:Nat) (mm:List D->Ou D):Sp:=fun vs H Q _=>∃ (B:Addr->Prop) (ds:List D),ds.length=n/\Reps K B H ds vs /\
 Res K E0 H (mm ds) fun d=>∀ v H',Same H H'->RtP K (fun a=>B a\/H a=none) H fr d v H'->Q v H'
structure Df (P:Program) (w:World) (K:PySem.W.Frag) (mg:Str->Option Value) (base:Heap) (x:Str) (k:Nat) (ps:List Str) (fr:Bool) (mm:List D->Ou D):Prop where
 ex:∃ f fd,FnOk P w K mg base CX0 k f fd ps (spD K fr ps.length mm)/\Binds K fd ps []/\PySem.W.keepIn K (.ref f)=true/\mg x=some (.ref f)
section
variable {P:Program} {w:World} {K:PySem.W.Frag} {mg:Str->Option Value} {base:Heap}
theorem Df.mono {x:Str} {j k:Nat} {ps:List Str} {fr:Bool} {mm:List D->Ou D} (h:Df P w K mg base x j ps fr mm) (hj:j<=k):Df P w K mg base x k ps fr mm:=by
 obtain ⟨f,fd,h1,h2⟩:=h.ex
 exact ⟨f,fd,h1.mono hj,h2⟩
def startD (n:Nat) (ds:List D):DS:=ds.map Sl.val++List.replicate (n - ds.length) Sl.un
def runD (fr:Bool) (n:Nat) (F:Sm) (ds:List D):Ou D:=(F (startD n ds)).bind fun r=>match r with
 | .rt d=>.ok d
 | .nx _=>(match fr with
  | true=>.bad
  | false=>.ok .non)
 | _=>.bad
theorem start_abs {N:List Str} {B:Addr->Prop} {H:Hp} {ds:List D} {vs:List V} (r:Reps K B H ds vs) (hl:ds.length<=N.length):Abs { K:=K,B:=fun a=>B a\/H a=none,H₀:=H,G:=[] } (start N vs) (startD N.length ds) H:=by
 have hv:=r.length
 have no:∀ (i:Nat) (z:D),(startD N.length ds)[i]? = some (Sl.own z)->False:=fun i z h=>by
  unfold startD at h
  rw [List.getElem?_append] at h
  split at h
  ·rw [List.getElem?_map] at h
   cases e:ds[i]? with
   | none=>rw [e] at h;cases h
   | some d=>rw [e] at h;cases h
  ·rw [List.getElem?_replicate] at h
   split at h <;> cases h
 have nown:∀ q,¬ Own (start N vs) (startD N.length ds) q:=fun q ⟨i,z,h,_⟩=>no i z h
 refine ⟨Same.refl H,fun a h=>.inr h,?_,fun i d h=>?_,fun i z h=>(no i z h).elim,fun d v h=>(nomatch h),fun i j di dj p h=>(no i di h).elim,fun i p hP=>(nomatch hP)⟩
 ·unfold startD L2.start
  simp [hv]
 ·unfold startD at h
  rw [List.getElem?_append] at h
  split at h
  ·rename_i hi
   rw [List.getElem?_map] at h
   cases e:ds[i]? with
   | none=>rw [e] at h;cases h
   | some d' =>
    rw [e] at h
    cases h
    obtain ⟨v,h1,h2⟩:=r.get i d e
    refine ⟨v,?_,h2.weak fun a z=>⟨.inl z,nown a⟩⟩
    unfold L2.start
    rw [List.getElem?_append_left (by rw [List.length_map];exact (List.getElem?_eq_some_iff.mp h1).1),List.getElem?_map,h1]
    rfl
  ·rw [List.getElem?_replicate] at h
   split at h <;> cases h
theorem fn_ofD {N ps:List Str} {st:Stmt} {x:Str} {k:Nat} {fr:Bool} {F:Sm} {f:Addr} {fd:FuncData} (Fn:Fun K x x st f fd) (sc:FnScope N ps (defScope st)) (hn:ps.length<=N.length)
  (hbody:∀ (f:Addr) (cdv:Value) (A:Around) (outer:List Env) (s:Shared) (H:Hp) (E:XK),Room k (A.deeper (envOfC x (defScope st) s.heap.objs.size f cdv)) ->
   PSs (cxOf CX0 P w K mg base N x (defScope st) f cdv A outer s H E).nox (defBody st) (tS K E0 fr F)):FnOk P w K mg base CX0 (k + 1) f fd ps (spD K fr ps.length (runD fr N.length F)):=by
 refine Fn.ok sc (fun vs H Q E h=>?_) (fun cdv A outer s H vs Q E hr h=>⟨_,hbody f cdv A outer s H E hr,?_⟩)
 ·obtain ⟨B,ds,hl,r,_⟩:=h
  rw [r.length];exact hl
 ·obtain ⟨B,ds,hl,r,h⟩:=h
  refine ⟨_,startD N.length ds,rfl,⟨start_abs r (by rw [hl];exact hn),rfl⟩,(Res.bind h).imp fun z _ k=>?_⟩
  cases z with
  | rt d=>exact k
  | nx δ =>
   cases fr with
   | true=>exact k.elim
   | false=>exact fun σ' H' ab=>k .non H' ab.same (by show Rep _ _ _ _ _;simp [Rep])
  | bk δ=>exact k.elim
  | ct δ=>exact k.elim
theorem fn_ofM {N ps:List Str} {st:Stmt} {x qual:Str} {k:Nat} {fr:Bool} {F:Sm} {f:Addr} {fd:FuncData} (Fn:Fun K x qual st f fd) (sc:FnScope N ps (defScope st)) (hn:ps.length<=N.length)
  (hbody:∀ (f:Addr) (cdv:Value) (A:Around) (outer:List Env) (s:Shared) (H:Hp) (E:XK),Room k (A.deeper (envOfC qual (defScope st) s.heap.objs.size f cdv)) ->
   PSs (cxOf CX0 P w K mg base N qual (defScope st) f cdv A outer s H E).nox (defBody st) (tS K E0 fr F)):FnOk P w K mg base CX0 (k + 1) f fd ps (spD K fr ps.length (runD fr N.length F)):=by
 refine Fn.ok sc (fun vs H Q E h=>?_) (fun cdv A outer s H vs Q E hr h=>⟨_,hbody f cdv A outer s H E hr,?_⟩)
 ·obtain ⟨B,ds,hl,r,_⟩:=h
  rw [r.length];exact hl
 ·obtain ⟨B,ds,hl,r,h⟩:=h
  refine ⟨_,startD N.length ds,rfl,⟨start_abs r (by rw [hl];exact hn),rfl⟩,(Res.bind h).imp fun z _ k=>?_⟩
  cases z with
  | rt d=>exact k
  | nx δ =>
   cases fr with
   | true=>exact k.elim
   | false=>exact fun σ' H' ab=>k .non H' ab.same (by show Rep _ _ _ _ _;simp [Rep])
  | bk δ=>exact k.elim
  | ct δ=>exact k.elim
theorem df_of {N ps:List Str} {st:Stmt} {x:Str} {k:Nat} {fr:Bool} {F:Sm} (S:Src K mg x st ps) (sc:FnScope N ps (defScope st)) (hn:ps.length<=N.length)
  (hbody:∀ (f:Addr) (cdv:Value) (A:Around) (outer:List Env) (s:Shared) (H:Hp) (E:XK),Room k (A.deeper (envOfC x (defScope st) s.heap.objs.size f cdv)) ->
   PSs (cxOf CX0 P w K mg base N x (defScope st) f cdv A outer s H E).nox (defBody st) (tS K E0 fr F)):Df P w K mg base x (k + 1) ps fr (runD fr N.length F):=by
 obtain ⟨f,fd,Fn,b,hm⟩:=S.ex
 exact ⟨f,fd,fn_ofD Fn sc hn hbody,b,Fn.kp,hm⟩
end
section
variable {X:Cx} {m:Md} {e:Expr} {es:List Expr} {fs:List Fn} {p pos:Pos} {x:Str} {ps:List Str} {k:Nat} {mm:List D->Ou D}
def fCall (mm:List D->Ou D) (fs:List Fn):Fn:=fun δ=>(fArgs fs δ).bind mm
theorem wish_mono {α:Type} {K:PySem.W.Frag} {E:XK} {H H':Hp} {o:Ou α} {q:α->Prop} (h:Res K E H o q) (e:Same H H'):Res K E H' o q:=by
 cases o with
 | ok a=>exact h
 | ex z =>
  obtain ⟨C,hc,h⟩:=h
  exact ⟨C,hc,fun H2 e2=>h H2 (e.trans e2)⟩
 | bad=>exact h
theorem xcall (h:Df X.prog X.w X.K X.mg X.base x k ps false mm) (hr:Room k X.A) (ha:PA X (e::es) (tXA X.K E0 m fs)) (hl:fs.length=ps.length:=by rfl) (hg:Gl X x:=by rfl) (hdb:(x == ("__debug__":Str))=false:=by decide)
  (he:starEach (e::es) X.env=(false,eval e X.env)::starEach es X.env:=by rfl) (hpl:(backTo pos (starEach es X.env)).any (·.1)=false:=by rfl) (hm:notF m=true:=by rfl):PE X (.Call (.Name x p) (e::es) [] pos) (tX X.K E0 m (fCall mm fs)):=by
 obtain ⟨f,fd,h1,h2,h3,h4⟩:=h.ex
 refine (pe_call h1 hr hg h4 h3 h2 .nil pass0 ha hdb he hpl).imp fun σ H Q q=>?_
 obtain ⟨c,δ,hK,ab,q⟩:=q
 refine ⟨c,δ,hK,ab,(Res.bind q).imp fun ds hds k vs H1 e1 r1=>?_⟩
 refine ⟨BOf c σ δ m,ds,by rw [fArgs_len hds];exact hl,by rw [List.append_nil,← hK];exact r1,(wish_mono k (ab.same.trans e1)).imp fun d _ k v H' e2 r2=>k v H' (e1.trans e2) ?_⟩
 have ab1:=ab.grow e1
 rw [← hK] at r2
 have r3:Rep c.K (BOf c σ δ m) H' d v:=Rep.weak r2 fun a z=>by
  rcases z with z | z
  ·exact z
  ·have:=ab1.av_new z
   cases m with
   | W=>exact this.1
   | S=>exact this
   | F=>simp [notF] at hm
 cases m with
 | W=>exact r3
 | S=>exact r3
 | F=>simp [notF] at hm
theorem xcallF (h:Df X.prog X.w X.K X.mg X.base x k ps true mm) (hr:Room k X.A) (ha:PA X (e::es) (tXA X.K E0 .S fs)) (hl:fs.length=ps.length:=by rfl) (hg:Gl X x:=by rfl) (hdb:(x == ("__debug__":Str))=false:=by decide)
  (he:starEach (e::es) X.env=(false,eval e X.env)::starEach es X.env:=by rfl) (hpl:(backTo pos (starEach es X.env)).any (·.1)=false:=by rfl):PE X (.Call (.Name x p) (e::es) [] pos) (tX X.K E0 .F (fCall mm fs)):=by
 obtain ⟨f,fd,h1,h2,h3,h4⟩:=h.ex
 refine (pe_call h1 hr hg h4 h3 h2 .nil pass0 ha hdb he hpl).imp fun σ H Q q=>?_
 obtain ⟨c,δ,hK,ab,q⟩:=q
 refine ⟨c,δ,hK,ab,(Res.bind q).imp fun ds hds k vs H1 e1 r1=>?_⟩
 refine ⟨Av c σ δ,ds,by rw [fArgs_len hds];exact hl,by rw [List.append_nil,← hK];exact r1,(wish_mono k (ab.same.trans e1)).imp fun d _ k v H' e2 r2=>k v H' (e1.trans e2) ?_⟩
 have ab1:=ab.grow e1
 rw [← hK] at r2
 obtain ⟨q,xs,rfl,z1,z2,z3⟩:=r2
 exact ⟨q,xs,rfl,e1.free z1,z2,z3.weak fun a z=>⟨z.1.elim id fun w=>ab1.av_new w,z.2⟩⟩
end
theorem law_sp {K:PySem.W.Frag} {H:Hp} {a:Addr} {ns:List Int} {mm:List D->Ou D} (hO:Only H) (hS:SqL K H a (ns.map V.int)) (h:mm [.frl (ns.map D.int)]=.ok (.bl true)):spD K false 1 mm [.ref a] H (fun v _=>v=.bl true) fun _ _ _=>False:=by
 refine ⟨fun _=>True,[.frl (ns.map D.int)],rfl,?_,?_⟩
 ·simp only [Reps]
  refine ⟨.ref a,[],rfl,?_,rfl⟩
  simp only [Rep]
  refine ⟨a,_,rfl,?_,Reps.ints ns⟩
  rcases hS with (z | z) | z
  ·rcases hO a with w | ⟨o,xs,w⟩
   ·rw [w] at z;cases z
   ·rw [w] at z;cases z
  ·exact .inl z
  ·exact .inr z
 ·rw [h]
  intro v H' _ r
  have r':Rep K (fun a=>True\/H a=none) H' (.bl true) v:=r
  simpa [Rep] using r'
end DL
namespace DL
open PySem PySem.Spec PyProof.Rows L2
section
variable {X:Cx} {E:XK} {m:Md} {a b e:Expr} {fa fb fe:Fn} {pos p:Pos} {es:List Expr} {fs:List Fn} {fr:Rm} {F G:Sm} {ga gb:DS->Ou Bool} {st:Stmt} {x:Str}
def CallD (X:Cx) (f:Value) (g:List D->Ou D):Prop :=
 ∃ r,CallR X f r/\∀ (B:Addr->Prop) (H:Hp) (ds:List D) (vs:List V) (Q:VK),Reps X.K B H ds vs->(∀ d,g ds=.ok d->isS d=true/\(Q (toV d) H->r vs H Q))/\∀ z,g ds≠.ex z
theorem rd_cb {r:List V->Hp->VK->Prop} {g:List D->Ou D} {σ:St} {H:Hp} {Q:VK} (hr:∀ (B:Addr->Prop) (H:Hp) (ds:List D) (vs:List V) (Q:VK),Reps X.K B H ds vs->(∀ d,g ds=.ok d->isS d=true/\(Q (toV d) H->r vs H Q))/\∀ z,g ds≠.ex z) (hm:notF m=true) (h:tX X.K E m (fCall g fs) σ H Q):tCB r (tXA X.K E .W fs) σ H Q:=by
 obtain ⟨c,δ,hK,ab,h⟩:=h
 refine ⟨c,δ,hK,ab,(Res.bind h).imp fun ds _ k vs H1 e1 r1=>?_⟩
 have r1':Reps X.K c.B H1 ds vs:=by rw [← hK];exact r1
 have q:=hr c.B H1 ds vs Q r1'
 cases e:g ds with
 | ok d =>
  rw [e] at k
  exact (q.1 d e).2 (k (toV d) H1 e1 (Post.ofS hm (q.1 d e).1))
 | ex z=>exact (q.2 z e).elim
 | bad=>rw [e] at k;exact k.elim
theorem xb {id:String} {g:List D->Ou D} (hc:CallD X (.builtin id) g) (hm:X.mg x=none) (ha:PA X (e::es) (tXA X.K E .W fs)) (hg:Gl X x:=by rfl) (hv:bootBuiltins x=some (.builtin id):=by decide +kernel) (hn:x≠"__name__":=by decide) (hdb:(x == ("__debug__":Str))=false:=by decide)
  (he:starEach (e::es) X.env=(false,eval e X.env)::starEach es X.env:=by rfl) (hpl:(backTo pos (starEach es X.env)).any (·.1)=false:=by rfl) (hf:notF m=true:=by rfl):PE X (.Call (.Name x p) (e::es) [] pos) (tX X.K E m (fCall g fs)):=by
 obtain ⟨r,h1,h2⟩:=hc
 exact (pe_callB h1 hg hm hv ha hn hdb he hpl).imp fun σ H Q q=>rd_cb h2 hf q
def gLen:List D->Ou D
 | [.tup ds]=>.ok (.int (ds.length:Nat))
 | [.lst ds]=>.ok (.int (ds.length:Nat))
 | [.frl ds]=>.ok (.int (ds.length:Nat))
 | [.dic _ ds]=>.ok (.int (ds.length:Nat))
 | [.str z]=>if z.length<=sizeLine then .ok (.int (z.length:Nat)) else .bad
 | _=>.bad
theorem Reps.one' {K:PySem.W.Frag} {B:Addr->Prop} {H:Hp} {d:D} {vs:List V} (r:Reps K B H [d] vs):∃ v,vs=[v]/\Rep K B H d v:=by
 simp only [Reps] at r
 obtain ⟨v,r',rfl,h1,rfl⟩:=r
 exact ⟨v,rfl,h1⟩
theorem Reps.two' {K:PySem.W.Frag} {B:Addr->Prop} {H:Hp} {d d':D} {vs:List V} (r:Reps K B H [d,d'] vs):∃ v v',vs=[v,v']/\Rep K B H d v/\Rep K B H d' v':=by
 simp only [Reps] at r
 obtain ⟨v,r',rfl,h1,v',r'',rfl,h2,rfl⟩:=r
 exact ⟨v,v',rfl,h1,h2⟩
theorem call_lenR:CallR X (.builtin "len") (fun xs H Q=>∃ a kvs,xs=[V.ref a]/\Rd H a (.dK kvs)/\Q (.int kvs.length) H):=by
 intro pins s σ H xs us Q I r h
 obtain ⟨a,kvs,rfl,ha,q⟩:=h
 obtain ⟨u,rfl,ru⟩:=vals1 r
 cases ru
 exact d_len I ha fun t s' I'=>⟨.int kvs.length,H,I',⟨t,rfl⟩,q⟩
theorem cd_len:CallD X (.builtin "len") gLen:=by
 refine ⟨_,CallR.or call_len_seq (CallR.or call_len_str call_lenR),fun B H ds vs Q r=>⟨fun d h=>?_,fun z h=>?_⟩⟩
 ·unfold gLen at h
  split at h
  ·cases h
   obtain ⟨v,rfl,r2⟩:=r.one'
   simp only [Rep] at r2
   obtain ⟨a,xs,rfl,h1,h2⟩:=r2
   exact ⟨rfl,fun q=>.inl ⟨a,xs,rfl,.inr h1,by rw [h2.length];exact q⟩⟩
  ·cases h
   obtain ⟨v,rfl,r2⟩:=r.one'
   simp only [Rep] at r2
   obtain ⟨a,xs,rfl,_,h1,h2⟩:=r2
   exact ⟨rfl,fun q=>.inl ⟨a,xs,rfl,.inl (.of h1),by rw [h2.length];exact q⟩⟩
  ·cases h
   obtain ⟨v,rfl,r2⟩:=r.one'
   simp only [Rep] at r2
   obtain ⟨a,xs,rfl,h1,h2⟩:=r2
   exact ⟨rfl,fun q=>.inl ⟨a,xs,rfl,.inl h1.sq,by rw [h2.length];exact q⟩⟩
  ·cases h
   obtain ⟨v,rfl,r2⟩:=r.one'
   simp only [Rep] at r2
   obtain ⟨a,kvs,rfl,_,h1,_,h2⟩:=r2
   have hl:=h2.length
   rw [List.length_map] at hl
   exact ⟨rfl,fun q=>.inr (.inr ⟨a,kvs,rfl,h1,by rw [hl];exact q⟩)⟩
  ·split at h
   ·rename_i z hl
    cases h
    obtain ⟨v,rfl,r2⟩:=r.one'
    simp only [Rep] at r2
    subst r2
    exact ⟨rfl,fun q=>.inr (.inl ⟨_,rfl,hl,q⟩)⟩
   ·cases h
  ·cases h
 ·unfold gLen at h
  split at h <;> first | cases h | (split at h <;> cases h)
def gMin:List D->Ou D
 | [.int i,.int j]=>.ok (.int (if j < i then j else i))
 | _=>.bad
def gMax:List D->Ou D
 | [.int i,.int j]=>.ok (.int (if j > i then j else i))
 | _=>.bad
theorem cd_min (hc:X.calm=true:=by rfl):CallD X (.builtin "min") gMin:=by
 refine ⟨_,call_min2 hc,fun B H ds vs Q r=>⟨fun d h=>?_,fun z h=>?_⟩⟩
 ·unfold gMin at h
  split at h
  ·cases h
   obtain ⟨v,v',rfl,r1,r2⟩:=r.two'
   simp only [Rep] at r1 r2
   subst r1;subst r2
   exact ⟨rfl,fun q=>⟨_,_,rfl,q⟩⟩
  ·cases h
 ·unfold gMin at h
  split at h <;> cases h
theorem cd_max (hc:X.calm=true:=by rfl):CallD X (.builtin "max") gMax:=by
 refine ⟨_,call_max2 hc,fun B H ds vs Q r=>⟨fun d h=>?_,fun z h=>?_⟩⟩
 ·unfold gMax at h
  split at h
  ·cases h
   obtain ⟨v,v',rfl,r1,r2⟩:=r.two'
   simp only [Rep] at r1 r2
   subst r1;subst r2
   exact ⟨rfl,fun q=>⟨_,_,rfl,q⟩⟩
  ·cases h
 ·unfold gMax at h
  split at h <;> cases h
def kitTT (t T:String):Option Bool:=if (Value.type t == Value.type T)=true then some true else if PySem.W.kitMeta T=true then (PySem.fastBuiltinMro t).map (·.contains (.type T)) else none
inductive TyV (K:PySem.W.Frag) (H:Hp):V->String->Prop where
 | non:TyV K H .non "NoneType"
 | bl (x:Bool):TyV K H (.bl x) "bool"
 | int (i:Int):TyV K H (.int i) "int"
 | str (x:Str):TyV K H (.str x) "str"
 | lst {a:Addr} {xs:List V} (e:SqL K H a xs):TyV K H (.ref a) "list"
 | tup {a:Addr} {xs:List V} (e:SqT K H a xs):TyV K H (.ref a) "tuple"
theorem call_isT:CallR X (.builtin "isinstance") (fun vs H Q=>∃ v t T k,vs=[v,.ty T]/\TyV X.K H v t/\kitTT t T=some k/\Q (.bl k) H):=by
 intro pins s σ H xs us Q I r h
 obtain ⟨v,t,T,k,rfl,ty,hk,q⟩:=h
 obtain ⟨u,w',rfl,ru,rw'⟩:=vals2 r
 obtain rfl:w'=Value.type T:=rw'
 have e:PySem.W.kitOne X.K (.type t) (.type T)=some k:=hk
 have fin:∀ tk,EP X pins σ Q (.bool k) { s with toks:=tk }:=fun tk=>⟨.bl k,H,I.tok tk,rfl,q⟩
 cases ty with
 | non=>cases (show u=Value.none from ru);exact PySem.W.kia_one PySem.W.kitx_none I.kIn True.intro e (fun z=>nomatch z) fin
 | bl y=>cases (show u=Value.bool y from ru);exact PySem.W.kia_one PySem.W.kitx_bool I.kIn True.intro e (fun z=>nomatch z) fin
 | int i=>obtain ⟨t,z⟩:=(show ∃ t,u=Value.int i t from ru);cases z;exact PySem.W.kia_one PySem.W.kitx_int I.kIn True.intro e (fun z=>nomatch z) fin
 | str y=>obtain ⟨t,z⟩:=(show ∃ t,u=Value.str y t from ru);cases z;exact PySem.W.kia_one PySem.W.kitx_str I.kIn True.intro e (fun z=>nomatch z) fin
 | @lst a xs ea =>
  cases (show u=Value.ref a from ru)
  obtain ⟨its,_,⟨o,n,h1,h2,_⟩,_⟩:=I.list ea
  exact PySem.W.kia_one PySem.W.kitx_list I.kIn ⟨o,h1,h2⟩ e (fun z=>nomatch z) fin
 | @tup a xs ea =>
  cases (show u=Value.ref a from ru)
  obtain ⟨its,_,⟨o,h1,h2,_⟩,_⟩:=I.tuple ea
  exact PySem.W.kia_one PySem.W.kitx_tuple I.kIn ⟨o,h1,h2⟩ e (fun z=>nomatch z) fin
def tyN:D->String
 | .non=>"NoneType"
 | .bl _=>"bool"
 | .int _=>"int"
 | .str _=>"str"
 | .tup _=>"tuple"
 | .lst _=>"list"
 | .frl _=>"list"
 | .dic _ _=>"dict"
 | .obj _=>"object"
 | .dip _ _=>"dict"
 | .exc _ _ _=>"object"
def isT (t T:String):Bool:=t == T || (t == "bool" && T == "int")
def gIs (T:String):D->Ou D
 | .obj _=>.bad
 | .dic _ _=>.bad
 | .dip _ _=>.bad
 | .exc _ _ _=>.bad
 | d=>.ok (.bl (isT (tyN d) T))
theorem ty_of {K:PySem.W.Frag} {B:Addr->Prop} {H:Hp} {d:D} {v:V} (r:Rep K B H d v) (hd:rk d≠3):TyV K H v (tyN d)/\tyN d∈["NoneType","bool","int","str","tuple","list"]:=by
 cases d <;> simp only [Rep] at r
 ·subst r;exact ⟨.non,by decide⟩
 ·subst r;exact ⟨.bl _,by simp [tyN]⟩
 ·subst r;exact ⟨.int _,by simp [tyN]⟩
 ·subst r;exact ⟨.str _,by simp [tyN]⟩
 ·obtain ⟨a,xs,rfl,h1,_⟩:=r;exact ⟨.tup h1,by simp [tyN]⟩
 ·obtain ⟨a,xs,rfl,_,h1,_⟩:=r;exact ⟨.lst (.of h1),by simp [tyN]⟩
 ·obtain ⟨a,xs,rfl,h1,_⟩:=r;exact ⟨.lst h1.sq,by simp [tyN]⟩
 ·exact absurd rfl hd
 ·exact absurd rfl hd
 ·exact absurd rfl hd
 ·exact absurd rfl hd
theorem xis {T:String} {tx:Str} {p2:Pos} (z1:X.mg "isinstance" = none) (z2:X.mg tx=none) (ha:PE X a (tX X.K E .W fa)) (hb:bootBuiltins tx=some (.type T):=by decide +kernel)
  (hT:∀ t∈["NoneType","bool","int","str","tuple","list"],kitTT t T=some (isT t T):=by decide +kernel) (hg1:Gl X "isinstance":=by rfl) (hg2:Gl X tx:=by rfl) (hn:tx≠"__name__":=by decide) (hdb:(tx == ("__debug__":Str))=false:=by decide)
  (he:starEach [a,.Name tx p2] X.env=(false,eval a X.env)::starEach [.Name tx p2] X.env:=by rfl) (he2:starEach [.Name tx p2] X.env=(false,eval (.Name tx p2) X.env)::starEach [] X.env:=by rfl) (hpl:(backTo pos (starEach [.Name tx p2] X.env)).any (·.1)=false:=by rfl) (hf:notF m=true:=by rfl) :
  PE X (.Call (.Name "isinstance" p) [a,.Name tx p2] [] pos) (tX X.K E m (f1 (gIs T) fa)):=by
 have hty:PE X (.Name tx p2) (tC (.ty T)):=pe_bltn hg2 z2 hb rfl hn hdb
 refine (pe_callB call_isT hg1 z1 (by decide +kernel) (pa_cons ha (pa_cons hty pa_nil he2) he) (by decide) (by decide) he hpl).imp fun σ H Q q=>?_
 obtain ⟨c,δ,hK,ab,q⟩:=q
 refine ⟨c,δ,hK,ab,(Res.bind q).imp fun d _ k v H1 e1 r1=>?_⟩
 have r1':Rep X.K c.B H1 d v:=by rw [← hK];exact r1
 by_cases hd:rk d=3
 ·cases d <;> first | exact k.elim | (simp [rk] at hd)
 ·have hg:gIs T d=.ok (.bl (isT (tyN d) T)):=by
   cases d <;> first | rfl | exact absurd rfl hd
  rw [hg] at k
  obtain ⟨t1,t2⟩:=ty_of r1' hd
  exact ⟨v,tyN d,T,_,rfl,t1,hT _ t2,k _ H1 e1 (Post.ofS hf rfl)⟩
def gBits:D->Ou D
 | .int i=>.ok (.int (Builtin.Int.intBits i:Nat))
 | _=>.bad
theorem mt_bits:MtR X "int.bit_length" (fun x xs H Q=>∃ i,x=.int i/\xs=[]/\Q (.int (Builtin.Int.intBits i:Nat)) H):=by
 intro pins s σ H x xs v us Q I rx rs h
 obtain ⟨i,rfl,rfl,q⟩:=h
 obtain ⟨t,rfl⟩:=rx
 cases rs
 exact call_int_bit_length ⟨.int _,H,I.tok _,⟨_,rfl⟩,q⟩
theorem xbits {apos cpos:Pos} (ha:PE X a (tX X.K E .W fa)) (hbase:attributeBase a "bit_length" X.env (eval a X.env)=eval a X.env:=by rfl) (hline:(apos.endLine == cpos.line)=true:=by rfl) (hf:notF m=true:=by rfl):PE X (.Call (.Attribute a "bit_length" apos) [] [] cpos) (tX X.K E m (f1 gBits fa)) :=
 (pe_bm0 PySem.F.plainAttrs_int PySem.F.slot_int_bit_length PySem.F.type_int_bit_length mt_bits ha hbase hline).imp fun σ H Q q=>by
 obtain ⟨c,δ,hK,ab,q⟩:=q
 refine ⟨c,δ,hK,ab,(Res.bind q).imp fun d _ k v H1 e1 r1=>?_⟩
 have r1':Rep c.K c.B H1 d v:=r1
 cases d <;> first | exact k.elim | skip
 simp only [Rep] at r1'
 subst r1'
 exact ⟨rfl,_,rfl,rfl,k _ H1 e1 (Post.ofS hf rfl)⟩
theorem xs_rng1 {tg:Expr} {body:List Stmt} {g:D->DS->Ou DS} (hp:PassesOwn (model X.prog X.w) X.A X.env X.xe) (hc:X.calm=true) (hm:X.mg "range" = none) (ha:PA X [a] (tXA X.K E .W [fa])) (hg:PG X tg (tG X.K E g)) (hb:PSs X body (tS X.K E fr F))
  (hgl:Gl X "range":=by rfl) (hse:starEach [a] X.env=[(false,eval a X.env)]:=by rfl) (hs:∀ x,foldedSetIterable (.Call (.Name "range" p) [a] [] pos) X.env x=pure x:=by intro _;rfl) {fpos:Pos} :
  PS X (.For tg (.Call (.Name "range" p) [a] [] pos) body [] fpos) (tS X.K E fr (sRng [fa] g F)):=(ps_for hp hc (pi_range1 hgl hm ha hse) hg hb hs).imp fun D σ H q=>by
 obtain ⟨c,δ,hK,ab,q⟩:=q
 refine ⟨c,δ,hK,ab,(Res.bind q).imp fun ds hds k vs H1 e1 r1=>?_⟩
 have hl:ds.length=1:=fArgs_len hds
 obtain ⟨d,rfl⟩:∃ d,ds=[d]:=by
  cases ds with
  | nil=>cases hl
  | cons d r =>
   cases r with
   | nil=>exact ⟨d,rfl⟩
   | cons d' r=>simp at hl
 obtain ⟨v,rfl,r2⟩:=r1.one'
 cases d <;> first | exact k.elim | skip
 simp only [Rep] at r2
 subst r2
 rename_i j
 by_cases hj:rOk j=true
 ·simp only [hj,if_true] at k
  have hj':=of_decide_eq_true hj
  exact ⟨j,rfl,hj'.1,hj'.2,rd_rng1 hK (ab.grow e1) k ab.pi⟩
 ·simp only [if_neg hj] at k
  exact k.elim
def fPart:Option Fn->DS->Ou (Option Int)
 | none,_=>.ok none
 | some f,δ=>(f δ).bind fun d=>match d with
  | .int i=>.ok (some i)
  | _=>.bad
def tP (K:PySem.W.Frag) (E:XK) (f:Option Fn):TO:=fun σ H Q=>∃ c δ,c.K=K/\Abs c σ δ H/\Res K E c.H₀ (fPart f δ) fun i=>∀ H',Same H H'->Q i H'
theorem PO.imp {e:Option Expr} {t t':TO} (h:PO X e t) (hi:∀ σ H Q,t' σ H Q->t σ H Q):PO X e t':=fun pins s σ H Q I q=>h pins s σ H Q I (hi _ _ _ q)
theorem po_some' (h:PE X e (tX X.K E .W fe)):PO X (some e) (tP X.K E (some fe)):=PO.imp (po_some h) fun σ H Q q=>by
 obtain ⟨c,δ,hK,ab,q⟩:=q
 refine ⟨c,δ,hK,ab,(Res.bind q).imp fun d _ k v H1 e1 r1=>?_⟩
 have r1':Rep c.K c.B H1 d v:=r1
 cases d <;> first | exact k.elim | skip
 simp only [Rep] at r1'
 exact ⟨_,r1',k H1 e1⟩
def cutD (xs:List D) (lo hi:Option Int):List D:=(xs.drop (HT.sIx xs.length 0 lo)).take (HT.sIx xs.length xs.length hi - HT.sIx xs.length 0 lo)
def fSl (f:Fn) (lo hi:Option Fn):Fn:=fun δ=>(f δ).bind fun d=>(fPart lo δ).bind fun l=>(fPart hi δ).bind fun u=>match d with
 | .lst ds=>.ok (.lst (cutD ds l u))
 | .frl ds=>.ok (.lst (cutD ds l u))
 | _=>.bad
theorem Reps.cut {K:PySem.W.Frag} {B:Addr->Prop} {H:Hp} {ds:List D} {vs:List V} (lo hi:Option Int) (r:Reps K B H ds vs):Reps K B H (cutD ds lo hi) (cutV vs lo hi):=by
 unfold cutD cutV
 rw [r.length]
 exact Reps.take _ (Reps.drop _ r)
theorem xsl {lo hi:Option Expr} {flo fhi:Option Fn} {p2:Pos} (he:PE X e (tX X.K E .S fe)) (hl:PO X lo (tP X.K E flo)) (hu:PO X hi (tP X.K E fhi)):PE X (.Subscript e (.Slice lo hi none p2) pos) (tX X.K E .F (fSl fe flo fhi)):=(pe_slice sl_list he hl hu).imp fun σ H Q q=>by
 obtain ⟨c,δ,hK,ab,q⟩:=q
 refine ⟨c,δ,hK,ab,(Res.bind q).imp fun d hd k v H1 e1 r1=>?_⟩
 refine ⟨c,δ,hK,ab.grow e1,(Res.bind k).imp fun l _ k H2 e2=>?_⟩
 refine ⟨c,δ,hK,(ab.grow e1).grow e2,(Res.bind k).imp fun u _ k H3 e3=>?_⟩
 have r1':Rep c.K (Av c σ δ) H3 d v:=Rep.same (Rep.same (show Rep c.K (Av c σ δ) H1 d v from r1) e2) e3
 have e13:=(e1.trans e2).trans e3
 cases d <;> first | exact k.elim | skip
 ·rename_i ds
  simp only [Rep] at r1'
  obtain ⟨a,xs,rfl,_,h1,h2⟩:=r1'
  exact ⟨a,xs,rfl,.of h1,fun p hp=>k (.ref p) _ (e13.trans (same_new hp _)) ⟨p,_,rfl,e13.free hp,upd_same,_,rfl,(Reps.off (Reps.cut l u h2) hp).same (same_new hp _)⟩⟩
 ·rename_i ds
  simp only [Rep] at r1'
  obtain ⟨a,xs,rfl,h1,h2⟩:=r1'
  exact ⟨a,xs,rfl,by rw [← hK];exact h1.sq,fun p hp=>k (.ref p) _ (e13.trans (same_new hp _)) ⟨p,_,rfl,e13.free hp,upd_same,_,rfl,(Reps.off (Reps.cut l u h2) hp).same (same_new hp _)⟩⟩
theorem op_catQ:OpR X (binaryOp .Add) (fun x y H Q=>∃ a b xs ys,x=.ref a/\y=.ref b/\SqL X.K H a xs/\SqL X.K H b ys/\xs.length + ys.length<=sizeLine/\∀ p,H p=none->Q (.ref p) (upd H p (.lst (xs++ys)))):=by
 intro pins s σ H x y v u Q I rx ry h
 obtain ⟨a,b,xs,ys,rfl,rfl,h1,h2,hz,q⟩:=h
 cases rx
 cases ry
 obtain ⟨us,r1,⟨⟨cls,dd,data,sl⟩,n,ho,hc,hdn,hd⟩,_⟩:=I.list h1
 obtain ⟨ws,r2,⟨⟨cls2,dd2,data2,sl2⟩,n2,ho2,hc2,hdn2,hd2⟩,_⟩:=I.list h2
 simp only at hc hd hc2 hd2
 subst hc hd hc2 hd2
 have l1:=r1.length
 have l2:=r2.length
 have ea:us.toArray++ws.toArray=(us++ws).toArray:=by simp
 refine concat_meets ⟨_,ho,rfl⟩ ⟨_,ho2,rfl⟩ noFill_list_add seq_list_add PySem.F.slot_list_add PySem.F.entry_list_add (PySem.F.args_list_add_2 _ _) (list_addW a b us.toArray ws.toArray n n2 dd dd2 sl sl2 (by rw [List.size_toArray,List.size_toArray];lia)) ⟨ho,ho2,?_⟩
 rw [ea]
 exact ⟨.ref _,_,I.lnew (t':=s.toks) (r1.append r2) (by rw [List.length_append];lia),rfl,q _ I.fresh⟩
def gCat:D->D->Ou D
 | .lst xs,.lst ys=>if xs.length + ys.length<=sizeLine then .ok (.lst (xs++ys)) else .bad
 | .frl xs,.lst ys=>if xs.length + ys.length<=sizeLine then .ok (.lst (xs++ys)) else .bad
 | _,_=>.bad
theorem xcat (ha:PE X a (tX X.K E .S fa)) (hb:PE X b (tX X.K E .S fb)):PE X (.BinOp a .Add b pos) (tX X.K E .F (f2 gCat fa fb)):=(pe_op op_catQ ha hb).imp fun σ H Q q=>by
 obtain ⟨c,δ,hK,ab,q⟩:=q
 refine ⟨c,δ,hK,ab,(Res.bind q).imp fun dx hx0 k x H1 e1 r1=>?_⟩
 refine ⟨c,δ,hK,ab.grow e1,(Res.bind k).imp fun dy hy0 k2 y H2 e2 r2=>?_⟩
 have r1':Rep c.K (Av c σ δ) H2 dx x:=Rep.same (show Rep c.K (Av c σ δ) H1 dx x from r1) e2
 have r2':Rep c.K (Av c σ δ) H2 dy y:=r2
 cases dx <;> first | (cases dy <;> exact k2.elim) | skip
 ·rename_i xs
  cases dy <;> first | exact k2.elim | skip
  rename_i ys
  simp only [Rep] at r1' r2'
  obtain ⟨a,vs,rfl,_,h1,h2⟩:=r1'
  obtain ⟨b,us,rfl,_,h3,h4⟩:=r2'
  unfold gCat at k2
  by_cases hl:xs.length + ys.length<=sizeLine
  ·simp only [if_pos hl] at k2
   exact ⟨a,b,vs,us,rfl,rfl,.of h1,.of h3,by rw [h2.length,h4.length];exact hl,fun p hp=>k2 (.ref p) _ ((e1.trans e2).trans (same_new hp _)) ⟨p,_,rfl,(e1.trans e2).free hp,upd_same,_,rfl,(Reps.off (Reps.append h2 h4) hp).same (same_new hp _)⟩⟩
  ·simp only [if_neg hl] at k2
   exact k2.elim
 ·rename_i xs
  cases dy <;> first | exact k2.elim | skip
  rename_i ys
  simp only [Rep] at r1' r2'
  obtain ⟨a,vs,rfl,h1,h2⟩:=r1'
  obtain ⟨b,us,rfl,_,h3,h4⟩:=r2'
  unfold gCat at k2
  by_cases hl:xs.length + ys.length<=sizeLine
  ·simp only [if_pos hl] at k2
   exact ⟨a,b,vs,us,rfl,rfl,(by rw [← hK];exact h1.sq),.of h3,by rw [h2.length,h4.length];exact hl,fun p hp=>k2 (.ref p) _ ((e1.trans e2).trans (same_new hp _)) ⟨p,_,rfl,(e1.trans e2).free hp,upd_same,_,rfl,(Reps.off (Reps.append h2 h4) hp).same (same_new hp _)⟩⟩
  ·simp only [if_neg hl] at k2
   exact k2.elim
def gNm2 (i j:Nat):D->DS->Ou DS:=fun d δ=>match d with
 | .tup [x,y]=>.ok ((δ.set i (.val x)).set j (.val y))
 | _=>.bad
theorem xg_2 (i j:Nat) {y:Str} {px py:Pos} {k2:_} (hN:X.N.Nodup) (hc:X.calm=true:=by rfl) (hi:X.N[i]? = some x:=by rfl) (hj:X.N[j]? = some y:=by rfl) (hx:Loc X.env.scope x:=by first | exact Or.inl rfl | exact Or.inr rfl) (hy:Loc X.env.scope y:=by first | exact Or.inl rfl | exact Or.inr rfl)
  (hfx:X.fn x=true\/X.env.scope.names.lookup x=some .local:=by first | exact .inl rfl | exact .inr rfl) (hfy:X.fn y=true\/X.env.scope.names.lookup y=some .local:=by first | exact .inl rfl | exact .inr rfl)
  (h1:(assignEach [.Name x px,.Name y py] X.env).map (·.2)=assign (.Name x px) X.env::(assignEach [.Name y py] X.env).map (·.2):=by rfl) (h2:(assignEach [.Name y py] X.env).map (·.2)=assign (.Name y py) X.env::(assignEach [] X.env).map (·.2):=by rfl)
  (hn:(assignEach [.Name x px,.Name y py] X.env).length=2:=by rfl) (hst:(assignEach [.Name x px,.Name y py] X.env).findIdx? (·.1)=none:=by rfl):PG X (.Tuple [.Name x px,.Name y py] k2 pos) (tG X.K E (gNm2 i j)) :=
 (pg_tup hc (pgs_cons (pg_name hN hi hx hfx) (pgs_cons (pg_name hN hj hy hfy) pgs_nil h2) h1) hn hst).imp fun v σ H Q q=>by
 obtain ⟨c,δ,d,hK,ab,r,q⟩:=q
 unfold gNm2 at q
 split at q
 ·rename_i d1 d2
  simp only [Rep] at r
  obtain ⟨a,xs,rfl,h1,h2⟩:=r
  obtain ⟨v1,v2,rfl,r1,r2⟩:=h2.two'
  refine ⟨a,[v1,v2],rfl,by rw [← hK];exact h1,rfl,v1,[v2],rfl,v2,[],rfl,rfl,?_⟩
  have ab1:=ab.set_val (i:=i) (Same.refl H) r1
  exact q _ H (Same.refl H) (ab1.set_val (i:=j) (Same.refl H) (r2.weak fun a z=>⟨z.1,fun o=>z.2 (own_set_val o)⟩))
 ·exact q.elim
end
end DL
namespace DL
open PySem PySem.Spec PyProof.Rows L2
def compL (g:D->DS->Ou DS) (gc:DS->Ou Bool) (fe:Fn):List D->DS->Ou (List D)
 | [],_=>.ok []
 | x::xs,δ=>(g x δ).bind fun δ1=>(gc δ1).bind fun b=>if b=true then (fe δ1).bind fun y=>(compL g gc fe xs δ1).bind fun ys=>.ok (y::ys) else compL g gc fe xs δ1
def slIn:Option Sl->Sl
 | some (.val d)=>.val d
 | _=>.un
def dsIn (k:Nat) (ix:List Nat) (δ:DS):DS:=List.replicate k .un++ix.map fun i=>slIn δ[i]?
def fYes:DS->Ou Bool:=fun _=>.ok true
def fComp (fi:DS->Ou (List D)) (g:D->DS->Ou DS) (gc:DS->Ou Bool) (fe:Fn) (k:Nat) (ix:List Nat):Fn:=fun δ=>(fi δ).bind fun ds=>if ds.length<=sizeLine then (compL g gc fe ds (dsIn k ix δ)).bind fun ys=>.ok (.lst ys) else .bad
def fItems (f:Fn):DS->Ou (List D):=fun δ=>(f δ).bind fun d=>match d with
 | .lst ds=>.ok ds
 | .frl ds=>.ok ds
 | _=>.bad
section
variable {c:Cn} {σ:St} {δ:DS} {H H1:Hp}
theorem Abs.off {p:Addr} {ys zs:List V} (a:Abs c σ δ H) (hp:H p=some (.lst ys)) (h0:c.H₀ p=none) (hB:¬ c.B p):Abs c σ δ (upd H p (.lst zs)):=by
 have hne:∀ q,Av c σ δ q->q≠p:=fun q z e=>by subst e;exact hB z.1
 have st:Stay c.K (Av c σ δ) H (upd H p (.lst zs)):=⟨fun q ys z=>by
   rcases z with (z | ⟨o,z⟩) | z
   ·exact .inl (.inl (by rw [upd_ne (ne_of z hp (by intro w;cases w))];exact z))
   ·exact .inl (.inr ⟨o,by rw [upd_ne (ne_of z hp (by intro w;cases w))];exact z⟩)
   ·exact .inr z,fun q ys z=>by
   rcases z with ⟨o,z⟩ | z
   ·exact .inl ⟨o,by rw [upd_ne (ne_of z hp (by intro w;cases w))];exact z⟩
   ·exact .inr z,fun q o z w=>by rw [upd_ne (hne q z)];exact w⟩
 refine ⟨fun b o z=>?_,fun b z=>a.fr b ?_,a.len,fun j d z=>?_,fun j d z=>?_,fun d v z=>Rep.mono (fun _ _ w _=>w) st d v (a.gho d v z),a.inj,a.pin⟩
 ·rw [upd_ne (ne_of_none z h0)];exact a.same b o z
 ·by_cases hb:b=p
  ·subst hb;rw [upd_same] at z;cases z
  ·rw [upd_ne hb] at z;exact z
 ·obtain ⟨v,z1,z2⟩:=a.val j d z
  exact ⟨v,z1,Rep.mono (fun _ _ w _=>w) st d v z2⟩
 ·obtain ⟨q,o,z1,z2,z3,z4⟩:=a.own j d z
  refine ⟨q,o,z1,?_,z3,RepO.mono (fun _ _ w _=>w) st z4⟩
  rw [upd_ne fun e=>by subst e;exact hB z3.2]
  exact z2
theorem Abs.block {p:Addr} {k:Nat} {ix:List Nat} (a:Abs c σ δ H) (hp:H p=none) :
  Abs { K:=c.K,B:=fun q=>Av c σ δ q/\q≠p,H₀:=H,G:=[] } (σin k ix σ) (dsIn k ix δ) (upd H p (.lst [])):=by
 have no:∀ (i:Nat) (z:D),(dsIn k ix δ)[i]? = some (Sl.own z)->False:=fun i z h=>by
  unfold dsIn at h
  rw [List.getElem?_append] at h
  split at h
  ·rw [List.getElem?_replicate] at h
   split at h <;> cases h
  ·rw [List.getElem?_map] at h
   cases e:ix[i - (List.replicate k Sl.un).length]? with
   | none=>rw [e] at h;cases h
   | some j =>
    rw [e] at h
    have h':slIn δ[j]? = Sl.own z:=Option.some.inj h
    unfold slIn at h'
    split at h' <;> cases h'
 have nown:∀ q,¬ Own (σin k ix σ) (dsIn k ix δ) q:=fun q ⟨i,z,h,_⟩=>no i z h
 refine ⟨same_new hp _,fun b hb=>?_,?_,fun i d h=>?_,fun i z h=>(no i z h).elim,fun d v h=>(nomatch h),fun i j di dj q h=>(no i di h).elim,fun i q hP=>(nomatch hP)⟩
 ·by_cases e:b=p
  ·subst e;rw [upd_same] at hb;cases hb
  ·rw [upd_ne e] at hb
   exact ⟨a.av_new hb,e⟩
 ·unfold dsIn σin;simp
 ·unfold dsIn at h
  rw [List.getElem?_append] at h
  split at h
  ·rw [List.getElem?_replicate] at h
   split at h <;> cases h
  ·rename_i hik
   rw [List.length_replicate] at hik h
   rw [List.getElem?_map] at h
   cases e:ix[i - k]? with
   | none=>rw [e] at h;cases h
   | some j =>
    rw [e] at h
    have h':slIn δ[j]? = Sl.val d:=Option.some.inj h
    have hj:δ[j]? = some (Sl.val d):=by
     unfold slIn at h'
     split at h'
     ·cases h';assumption
     ·cases h'
    obtain ⟨v,z1,z2⟩:=a.val j d hj
    refine ⟨v,?_,?_⟩
    ·unfold σin
     rw [List.getElem?_append_right (by rw [List.length_replicate];lia),List.length_replicate,List.getElem?_map,e]
     show some ((σ[j]?).join)=_
     rw [z1];rfl
    ·refine Rep.mono (fun q o w1 w2=>⟨⟨w1,ne_of_none w2 hp⟩,nown q⟩) (.of_same (same_new hp _)) d v z2
structure SrcI (J:It) (K:PySem.W.Frag) (B:Addr->Prop) (H1:Hp) (ds:List D):Prop where
 go:∀ (i:Nat) (H':Hp),Same H1 H'->i < ds.length->J.go i H'
 yld:∀ (i:Nat) (H':Hp) (x:V) (H'':Hp) (d:D),Same H1 H'->ds[i]? = some d->J.yld i H' x H''->H''=H'/\Rep K B H1 d x
 stop:∀ H':Hp,Same H1 H'->J.stop ds.length H'
theorem comp_core {K:PySem.W.Frag} {J:It} {ds:List DL.D} {g:DL.D->DS->Ou DS} {gc:DS->Ou Bool} {fe:Fn} {k:Nat} {ix:List Nat} {Q:VK} (hK:c.K=K) (ab:Abs c σ δ H1) (src:SrcI J c.K (Av c σ δ) H1 ds) (hl:ds.length<=sizeLine)
  (kq:Res K E0 c.H₀ (compL g gc fe ds (dsIn k ix δ)) fun es=>∀ D xs H',H1 D=none->Same H1 H'->H' D=some (.lst xs)->Reps c.K (fun a=>Av c σ δ a/\a≠D) H' es xs->Q (.ref D) H') :
  ∀ D,H1 D=none->∃ W:Nat->Nat->St->List V->Hp->Prop,(∃ m,W 0 m (σin k ix σ) [] (upd H1 D (.lst []))) /\
   ∀ i m σ ys H,W i m σ ys H->H D=some (.lst ys)/\((J.stop i H/\Q (.ref D) H)\/(J.go i H/\ys.length < sizeLine/\∃ N:St->List V->Hp->Prop,(∀ σ' ys' H',N σ' ys' H'->∃ m',m' < m/\W (i + 1) m' σ' ys' H') /\
    ∀ x H',J.yld i H x H'->tG K E0 g x σ H' fun σ2 H2=>tT K E0 gc σ2 H2 fun b H3=>if b=true then tX K E0 .S fe σ2 H3 fun y H4=>H4 D=some (.lst ys)/\N σ2 (ys++[y]) (upd H4 D (.lst (ys++[y]))) else N σ2 ys H3)):=by
 intro D hD
 let c':Cn:={ K:=c.K,B:=fun q=>Av c σ δ q/\q≠D,H₀:=H1,G:=[] }
 have hB':¬ c'.B D:=fun z=>z.2 rfl
 refine ⟨fun i m σ' ys H'=>∃ δ' es,Abs c' σ' δ' H'/\H' D=some (.lst ys)/\Reps c.K c'.B H' es ys/\m=ds.length - i/\i<=ds.length/\es.length<=i /\
  Res K E0 c.H₀ (compL g gc fe (ds.drop i) δ') fun rest=>∀ xs H'',Same H1 H''->H'' D=some (.lst xs)->Reps c.K c'.B H'' (es++rest) xs->Q (.ref D) H'',
  ⟨ds.length,dsIn k ix δ,[],ab.block hD,upd_same,by simp [Reps],by simp,Nat.zero_le _,Nat.zero_le _,?_⟩,?_⟩
 ·exact kq.imp fun es _ z xs H'' e1 e2 e3=>z D xs H'' hD e1 e2 e3
 ·rintro i m σ' ys H' ⟨δ',es,ab',hDy,hr,rfl,hi,hes,q⟩
  refine ⟨hDy,?_⟩
  by_cases hlt:i < ds.length
  ·refine .inr ⟨src.go i H' ab'.same hlt,?_,fun σ' ys' H'=>∃ δ' es,Abs c' σ' δ' H'/\H' D=some (.lst ys')/\Reps c.K c'.B H' es ys'/\ds.length - (i + 1)=ds.length - (i + 1)/\i + 1<=ds.length/\es.length<=i + 1 /\
    Res K E0 c.H₀ (compL g gc fe (ds.drop (i + 1)) δ') fun rest=>∀ xs H'',Same H1 H''->H'' D=some (.lst xs)->Reps c.K c'.B H'' (es++rest) xs->Q (.ref D) H'',fun σ' ys' H' n=>⟨ds.length - (i + 1),by lia,n⟩,fun x H2 y=>?_⟩
   ·have:=hr.length;lia
   have hd:ds[i]? = some ds[i]:=by simp [hlt]
   obtain ⟨rfl,rx⟩:=src.yld i H' x H2 _ ab'.same hd y
   rw [List.drop_eq_getElem_cons hlt] at q
   have rx':Rep c'.K (Av c' σ' δ') H2 ds[i] x:=Rep.mono (fun a o w1 w2=>⟨⟨w1,ne_of_none w2 hD⟩,fun ow=>by
    obtain ⟨_,_,z⟩:=Own.is ab' ow
    have w3:=(show c'.H₀ a=some o from w2).symm.trans z
    cases w3⟩) (.of_same ab'.same) _ x rx
   refine ⟨c',δ',ds[i],hK,ab',rx',(wish_mono (Res.bind q) ab.same).imp fun δ2 _ k2 σ2 H3 e3 ab2=>?_⟩
   refine ⟨c',δ2,hK,ab2,(wish_mono (Res.bind k2) ab.same).imp fun b _ k3 H4 e4=>?_⟩
   cases b with
   | false=>exact ⟨δ2,es,ab2.grow e4,e4 _ _ (e3 _ _ hDy),(hr.same e3).same e4,rfl,hlt,by lia,k3⟩
   | true =>
    have k3':Res K E0 c.H₀ ((fe δ2).bind fun y=>(compL g gc fe (ds.drop (i + 1)) δ2).bind fun ys=>.ok (y::ys)) _:=k3
    refine ⟨c',δ2,hK,ab2.grow e4,(wish_mono (Res.bind k3') ab.same).imp fun dy _ k4 y H5 e5 r5=>?_⟩
    have hD5:=e5 _ _ (e4 _ _ (e3 _ _ hDy))
    have r5':Rep c.K c'.B H5 dy y:=Rep.weak (show Rep c'.K (Av c' σ2 δ2) H5 dy y from r5) fun a z=>z.1
    have st:Stay c.K c'.B H5 (upd H5 D (.lst (ys++[y]))):=⟨fun q ys z=>by
      rcases z with (z | ⟨o,z⟩) | z
      ·exact .inl (.inl (by rw [upd_ne (ne_of z hD5 (by intro w;cases w))];exact z))
      ·exact .inl (.inr ⟨o,by rw [upd_ne (ne_of z hD5 (by intro w;cases w))];exact z⟩)
      ·exact .inr z,fun q ys z=>by
      rcases z with ⟨o,z⟩ | z
      ·exact .inl ⟨o,by rw [upd_ne (ne_of z hD5 (by intro w;cases w))];exact z⟩
      ·exact .inr z,fun q o z w=>by rw [upd_ne z.2];exact w⟩
    refine ⟨hD5,δ2,es++[dy],((ab2.grow e4).grow e5).off hD5 hD hB',upd_same,Reps.mono (fun _ _ w _=>w) st _ _ (Reps.append (((hr.same e3).same e4).same e5) (Reps.one r5')),rfl,hlt,by simp;lia,(Res.bind k4).imp fun rest _ k5 xs H'' s1 s2 s3=>k5 xs H'' s1 s2 ?_⟩
    rw [List.append_assoc] at s3
    exact s3
  ·have e:i=ds.length:=by lia
   subst e
   rw [List.drop_length] at q
   exact .inl ⟨src.stop H' ab'.same,q ys H' ab'.same hDy (by rw [List.append_nil];exact hr)⟩
end
section
variable {X:Cx} {iter elt tg:Expr} {ifs:List Expr} {scope:Scope} {N':List Str} {k:Nat} {ix:List Nat} {pos:Pos} {g:D->DS->Ou DS} {gc:DS->Ou Bool} {fe fl:Fn} {fs:List Fn} {a b:Expr} {p:Pos}
theorem xc_yes:PCs X [] (tT X.K E0 fYes):=fun pins s σ H Q I q=>pcs_nil pins s σ H Q I (by
 obtain ⟨c,δ,hK,ab,q⟩:=q
 exact q H (Same.refl H))
theorem comp_read {wi:TI} {fi:DS->Ou (List D)} {σ:St} {H:Hp} {Q:VK} (q:tX X.K E0 .F (fComp fi g gc fe k ix) σ H Q)
  (hw:∀ (c:Cn) (δ:DS) (R:It->Hp->Prop),c.K=X.K->Abs c σ δ H->Res X.K E0 c.H₀ (fi δ) (fun ds=>∀ J H1,Same H H1->SrcI J c.K (Av c σ δ) H1 ds->R J H1)->wi σ H R) :
  tComp wi (tG X.K E0 g) (tT X.K E0 gc) (tX X.K E0 .S fe) k ix σ H Q:=by
 obtain ⟨c,δ,hK,ab,q⟩:=q
 refine hw c δ _ hK ab ((Res.bind q).imp fun ds _ kq J H1 e1 src=>?_)
 by_cases hl:ds.length<=sizeLine
 ·rw [if_pos hl] at kq
  refine comp_core hK (ab.grow e1) src hl ((Res.bind kq).imp fun es _ z D xs H' hD e2 h1 h2=>z (.ref D) H' (e1.trans e2) ⟨D,_,rfl,e1.free hD,h1,xs,rfl,h2⟩)
 ·rw [if_neg hl] at kq
  exact kq.elim
theorem srcL {c:Cn} {σ:St} {δ:DS} {H1:Hp} {p:Addr} {xs:List V} {ds:List D} (h1:SqL c.K H1 p xs) (h2:Reps c.K (Av c σ δ) H1 ds xs):SrcI (Itl c.K p) c.K (Av c σ δ) H1 ds :=
 ⟨fun i H' e hi=>⟨xs,xs[i]'(by rw [h2.length];exact hi),e.seq h1,List.getElem?_eq_getElem _⟩,fun i H' x H'' d e hd y=>⟨y.1,by
  obtain ⟨v,z1,z2⟩:=h2.get i d hd
  have:=y.2 xs (e.seq h1)
  rw [z1] at this;cases this
  exact z2⟩,fun H' e=>⟨xs,e.seq h1,by rw [h2.length];exact Nat.le_refl _⟩⟩
theorem xcompL (S:CNames X scope N' k ix) (hi:PE X iter (tX X.K E0 .S fl))
  (hb:∀ C s2 H2 fp pins,PG (blk X N' scope C s2 H2 fp pins) tg (tG X.K E0 g)/\PCs (blk X N' scope C s2 H2 fp pins) ifs (tT X.K E0 gc)/\PE (blk X N' scope C s2 H2 fp pins) elt (tX X.K E0 .S fe))
  (hc:X.calm=true:=by rfl) (hs:∀ x,foldedSetIterable iter X.env x=pure x:=by intro _;rfl):CompR X (.ListComp elt [⟨tg,iter,ifs,0⟩] scope pos) (tX X.K E0 .F (fComp (fItems fl) g gc fe k ix)) :=
 (comp_r hc S (pi_list hi) hb hs).imp fun σ H Q q=>comp_read q fun c δ R hK ab kq=>by
  refine ⟨c,δ,hK,ab,(Res.bind kq).imp fun d _ z v H1 e1 r1=>?_⟩
  have r1':Rep c.K (Av c σ δ) H1 d v:=r1
  cases d <;> first | exact z.elim | skip
  ·simp only [Rep] at r1'
   obtain ⟨p,xs,rfl,_,h1,h2⟩:=r1'
   exact ⟨p,rfl,⟨xs,by rw [← hK];exact .of h1⟩,by rw [← hK];exact z _ H1 e1 (srcL (.of h1) h2)⟩
  ·simp only [Rep] at r1'
   obtain ⟨p,xs,rfl,h1,h2⟩:=r1'
   exact ⟨p,rfl,⟨xs,by rw [← hK];exact h1.sq⟩,by rw [← hK];exact z _ H1 e1 (srcL h1.sq h2)⟩
end
end DL
namespace L2
open PySem PySem.Spec PyProof.Rows
structure Mk0 (K:PySem.W.Frag) (C:Addr):Prop where
 makes:PySem.W.makesIn K C=true
 init:PySem.W.findIn K (.ref C) "__init__" = some (some (.builtin "object.__init__"))
 kp:PySem.W.keepIn K (.ref C)=true
section
variable {X:Cx} {C:Addr} {x:Str} {p pos:Pos}
def tMakeN (C:Addr):TE:=fun _ H Q=>∀ x dx,H x=none->H dx=none->dx≠x->Q (.ref x) (upd (upd H dx (.own x)) x (.ins C dx []))
theorem run_makeN {pins:List (Addr×Obj)} {σ:St} {H:Hp} {s:Shared} {Q:VK} (M:Mk0 X.K C) (I:Inv X pins σ H s)
  (h:∀ x dx,H x=none->H dx=none->dx≠x->Q (.ref x) (upd (upd H dx (.own x)) x (.ins C dx []))):wpAny (model X.prog X.w) X.A (call (.ref C) []) (EP X pins σ Q) X.xe s:=by
 have hq:=h (s.heap.objs.size + 1) s.heap.objs.size (I.hok.fresh (Nat.le_succ _)) (I.hok.fresh (Nat.le_refl _)) (Nat.ne_of_lt (Nat.lt_succ_self _))
 have I2:=Inv.made (C:=C) I
 have Y:=PySem.W.makes_of (M:=model X.prog X.w) I.kIn M.makes
 refine wpAny_call (make_map0 I.kIn M.makes M.init (fun self=>PySem.W.Looks.of_pure (PySem.W.oi_bind self)) ?_)
 have hx:((s.heap.push PySem.W.emptyDict).push (PySem.W.instObj C s.heap.objs.size)).get? (s.heap.objs.size + 1)=some (PySem.W.instObj C s.heap.objs.size):=by
  have:=Heap.get?_push_size (s.heap.push PySem.W.emptyDict) (o:=PySem.W.instObj C s.heap.objs.size) rfl
  rwa [Heap.size_push] at this
 have t1:PySem.W.Looks (model X.prog X.w) ((s.heap.push PySem.W.emptyDict).push (PySem.W.instObj C s.heap.objs.size)) (typeOf (.ref (s.heap.objs.size + 1))) (.ref C):=(PySem.W.Looks.ld hx).andThen .now
 have t2:PySem.W.Looks (model X.prog X.w) ((s.heap.push PySem.W.emptyDict).push (PySem.W.instObj C s.heap.objs.size)) (isInstance (.ref (s.heap.objs.size + 1)) (.type "object")) true:=t1.andThen (Y.top.keeps fun b o e=>Heap.get?_push_of_some _ (Heap.get?_push_of_some _ e))
 refine codeAny_call_builtin PySem.W.oi_plain PySem.W.entry_oi (@PySem.W.check_slot (model X.prog X.w) _ _ _ "object.__init__" "object" "__init__" (.ref (s.heap.objs.size + 1)) [] [] _ PySem.W.oi_kind PySem.W.oi_split t2 (PySem.W.oi_args (.ref (s.heap.objs.size + 1))) ?_)
 rw [PySem.W.oi_run]
 exact wpAny_pure (And.intro rfl ⟨V.ref (s.heap.objs.size + 1),_,I2,rfl,hq⟩)
theorem pe_makeN (M:Mk0 X.K C) (hg:Gl X x) (hm:X.mg x=some (.ref C)) (hdb:(x == ("__debug__":Str))=false:=by decide):PE X (.Call (.Name x p) [] [] pos) (tMakeN C):=by
 intro pins s σ H Q I h
 refine wpAny_Call_Name_kw (ld_glob I hg hm ?_ hdb)
 exact PySem.W.callWith_K0 I.kIn M.kp (run_makeN M I h)
end
end L2
namespace DL
open PySem PySem.Spec PyProof.Rows L2
section
variable {X:Cx} {E:XK} {m:Md} {x:Str} {p pos apos:Pos} {e o:Expr} {es:List Expr} {fs:List Fn} {fo:Fn} {k:Nat} {ps:List Str} {fr:Bool} {mt:Str}
structure ClsOk (K:PySem.W.Frag) (mg:Str->Option Value) (x:Str):Prop where
 ex:∃ C,Cls K C/\PySem.W.nsIn K mainGlobals x=some (some (.ref C))/\mg x=some (.ref C)
def fMake0 (x:Str):Fn:=fun _=>.ok (.obj x)
theorem xmake0 {C:Addr} (M:Mk0 X.K C) (hn:PySem.W.nsIn X.K mainGlobals x=some (some (.ref C))) (hm:X.mg x=some (.ref C)) (hg:Gl X x:=by rfl) (hf:notF m=true:=by rfl) (hdb:(x == ("__debug__":Str))=false:=by decide) :
  PE X (.Call (.Name x p) [] [] pos) (tX X.K E m (fMake0 x)):=(pe_makeN M hg hm hdb).imp fun σ H Q q=>by
 obtain ⟨c,δ,hK,ab,q⟩:=q
 intro a dx ha hd hne
 have e1:Same H (upd (upd H dx (.own a)) a (.ins C dx [])):=(same_new hd _).trans (same_new (by rw [upd_ne (Ne.symm hne)];exact ha) _)
 refine q (.ref a) _ e1 ?_
 have r:∀ B:Addr->Prop,B a->Rep c.K B (upd (upd H dx (.own a)) a (.ins C dx [])) (.obj x) (.ref a):=fun B hB=>by
  simp only [Rep]
  exact ⟨a,C,dx,rfl,by rw [hK];exact hn,hB,upd_same⟩
 cases m with
 | W=>exact r _ (ab.fr a ha)
 | S=>exact r _ (ab.av_new ha)
 | F=>simp [notF] at hf
structure MDf (P:Program) (w:World) (K:PySem.W.Frag) (mg:Str->Option Value) (base:Heap) (c m:Str) (k:Nat) (ps:List Str) (fr:Bool) (mm:List D->Ou D):Prop where
 ex:∃ C f fd,Cls K C/\PySem.W.nsIn K mainGlobals c=some (some (.ref C))/\Meth K C m f/\FnOk P w K mg base CX0 k f fd ps (spD K fr ps.length mm)/\Binds K fd ps []
theorem MDf.mono {P:Program} {w:World} {K:PySem.W.Frag} {mg:Str->Option Value} {base:Heap} {c m:Str} {j k:Nat} {ps:List Str} {fr:Bool} {mm:List D->Ou D} (h:MDf P w K mg base c m j ps fr mm) (hj:j<=k):MDf P w K mg base c m k ps fr mm:=by
 obtain ⟨C,f,fd,h1,h2,h3,h4,h5⟩:=h.ex
 exact ⟨C,f,fd,h1,h2,h3,h4.mono hj,h5⟩
abbrev MTab:=List (Str×(List D->Ou D))
def tbM (tb:MTab):D->Option (List D->Ou D)
 | .obj c=>(tb.find? fun z=>z.1 == c).map (·.2)
 | _=>none
def fMeth (tb:MTab) (fo:Fn) (fs:List Fn):Fn:=fun δ=>(fo δ).bind fun d=>match tbM tb d with
 | some mm=>(fArgs fs δ).bind fun ds=>mm (d::ds)
 | none=>.bad
inductive MAll (P:Program) (w:World) (K:PySem.W.Frag) (mg:Str->Option Value) (base:Heap) (m:Str) (k:Nat) (n:Nat) (fr:Bool):MTab->Prop where
 | nil:MAll P w K mg base m k n fr []
 | cons {c:Str} {ps:List Str} {mm:List D->Ou D} {tb:MTab} (h:MDf P w K mg base c m k ps fr mm) (hn:ps.length=n) (r:MAll P w K mg base m k n fr tb):MAll P w K mg base m k n fr ((c,mm)::tb)
theorem MAll.at {P:Program} {w:World} {K:PySem.W.Frag} {mg:Str->Option Value} {base:Heap} {m:Str} {k n:Nat} {fr:Bool} {tb:MTab} (h:MAll P w K mg base m k n fr tb) {c:Str} {z:Str×(List D->Ou D)} (hz:(tb.find? fun z=>z.1 == c)=some z) :
  ∃ ps,MDf P w K mg base c m k ps fr z.2/\ps.length=n:=by
 induction h with
 | nil=>cases hz
 | @cons c' ps mm tb h hn r ih =>
  rw [List.find?_cons] at hz
  by_cases e:(c' == c)=true
  ·rw [e] at hz
   cases hz
   have:c'=c:=by simpa using e
   subst this
   exact ⟨ps,h,hn⟩
  ·have e':(c' == c)=false:=by simpa using e
   rw [e'] at hz
   exact ih hz
theorem obj_at {K:PySem.W.Frag} {B:Addr->Prop} {H:Hp} {c:Str} {v:V} {C:Addr} (r:Rep K B H (.obj c) v) (hC:PySem.W.nsIn K mainGlobals c=some (some (.ref C))):∃ a dx,v=.ref a/\H a=some (.ins C dx []):=by
 simp only [Rep] at r
 obtain ⟨a,C',dx,rfl,h1,_,h2⟩:=r
 rw [hC] at h1
 cases h1
 exact ⟨a,dx,rfl,h2⟩
theorem Post.bOf' {c:Cn} {σ:St} {δ:DS} {H H':Hp} {d:D} {v:V} {m:Md} (hm:notF m=true) (r:Rep c.K (BOf c σ δ m) H' d v):Post c σ δ H m d v H':=by
 cases m with
 | W=>exact r
 | S=>exact r
 | F=>simp [notF] at hm
theorem meth_read {tb:MTab} {n:Nat} {fr:Bool} {σ:St} {H:Hp} {Q:VK} {c:Cn} {δ:DS} {cn:Str} {t:TA} (hb:MAll X.prog X.w X.K X.mg X.base mt k n fr tb) (hm:notF m=true) (hl:fs.length + 1=n) (hK:c.K=X.K) (ab:Abs c σ δ H) (e1:fo δ=.ok (.obj cn))
  {z:Str×(List D->Ou D)} (hz:(tb.find? fun z=>z.1 == cn)=some z) (hta:∀ σ H Q,tXA X.K E0 m fs σ H Q->t σ H Q)
  (q:Res X.K E0 c.H₀ ((fArgs fs δ).bind fun ds=>z.2 (.obj cn::ds)) fun d=>∀ v H',Same H H'->RtP c.K (BOf c σ δ m) H fr d v H'->Q v H') :
  ∃ C f fd ps mm,Cls X.K C/\Meth X.K C mt f/\FnOk X.prog X.w X.K X.mg X.base CX0 k f fd ps (spD X.K fr ps.length mm)/\Binds X.K fd ps []/\tMeth C mt (spD X.K fr ps.length mm) [] E0 (tX X.K E0 m fo) t σ H Q:=by
 obtain ⟨ps,h,hn⟩:=hb.at hz
 obtain ⟨C,f,fd,h1,h2,h3,h4,h5⟩:=h.ex
 refine ⟨C,f,fd,ps,z.2,h1,h3,h4,h5,c,δ,hK,ab,?_⟩
 rw [e1]
 intro v H1 s1 r1
 have r1':Rep c.K (BOf c σ δ m) H1 (.obj cn) v:=Post.bOf hm r1
 obtain ⟨a,dx,rfl,ha⟩:=obj_at r1' (by rw [hK];exact h2)
 refine ⟨a,dx,[],rfl,ha,rfl,hta _ _ _ ⟨c,δ,hK,ab.grow s1,(Res.bind q).imp fun ds hds kq vs H2 e2 r2=>?_⟩⟩
 have ab2:=(ab.grow s1).grow e2
 refine ⟨BOf c σ δ m,.obj cn::ds,by rw [List.length_cons,fArgs_len hds,hl,hn],?_,(wish_mono kq (ab2.same)).imp fun d _ kd v H' e3 r3=>kd v H' ((s1.trans e2).trans e3) ?_⟩
 ·simp only [Reps,List.append_nil]
  rw [← hK]
  exact ⟨.ref a,vs,rfl,r1'.same e2,r2⟩
 ·rw [← hK] at r3
  have up:∀ b,(BOf c σ δ m b\/H2 b=none)->BOf c σ δ m b:=fun b w=>by
   rcases w with w | w
   ·exact w
   ·have:=ab2.av_new w
    cases m with
    | W=>exact this.1
    | S=>exact this
    | F=>simp [notF] at hm
  cases fr with
  | false=>exact Rep.weak (show Rep _ _ _ _ _ from r3) up
  | true =>
   obtain ⟨p',xs,rfl,w1,w2,w3⟩:=r3
   exact ⟨p',xs,rfl,(s1.trans e2).free w1,w2,w3.weak fun b y=>⟨up b y.1,y.2⟩⟩
theorem RtP.post {c:Cn} {σ:St} {δ:DS} {H H':Hp} {d:D} {v:V} {m:Md} (hm:notF m=true) (r:RtP c.K (BOf c σ δ m) H false d v H'):Post c σ δ H m d v H':=Post.bOf' hm r
theorem fMeth_cases {tb:MTab} {δ:DS} {kq:D->Prop} {K:PySem.W.Frag} {H₀:Hp} {d:D} (e1:fo δ=.ok d) (q:Res K E0 H₀ (fMeth tb fo fs δ) kq) :
  ∃ cn z,d=.obj cn/\(tb.find? fun z=>z.1 == cn)=some z/\Res K E0 H₀ ((fArgs fs δ).bind fun ds=>z.2 (.obj cn::ds)) kq:=by
 unfold fMeth at q
 rw [e1] at q
 have q':Res K E0 H₀ (match tbM tb d with
  | some mm=>(fArgs fs δ).bind fun ds=>mm (d::ds)
  | none=>.bad) kq:=q
 cases d <;> first | exact q'.elim | skip
 rename_i cn
 cases e2:(tb.find? fun z=>z.1 == cn) with
 | none=>simp only [tbM,e2,Option.map_none] at q';exact q'.elim
 | some z =>
  simp only [tbM,e2,Option.map_some] at q'
  exact ⟨cn,z,rfl,e2,q'⟩
theorem xmeth {pl:Sem Bool} {tb:MTab} {n:Nat} (hb:MAll X.prog X.w X.K X.mg X.base mt k n false tb) (hr:Room k X.A) (ho:PE X o (tX X.K E0 m fo)) (ha:PA X (e::es) (tXA X.K E0 m fs)) (hl:fs.length + 1=n:=by rfl) (hm:notF m=true:=by rfl)
  (hst:starEach (e::es) X.env=(false,eval e X.env)::starEach es X.env:=by rfl) (hpl:(backTo pos (starEach es X.env)).any (·.1)=false:=by rfl)
  (ht:eval (.Call (.Attribute o mt apos) (e::es) [] pos) X.env=(do
   let ov ← eval o X.env
   standAt apos.atName
   let (f,first) ← holding [ov] (getMethod ov mt pl)
   callWith pos f first (backTo pos (starEach (e::es) X.env)) (backToKw pos (keywordEach [] X.env))):=by rfl) :
  PE X (.Call (.Attribute o mt apos) (e::es) [] pos) (tX X.K E0 m (fMeth tb fo fs)):=by
 intro pins s σ H Q I q
 obtain ⟨c,δ,hK,ab,q⟩:=q
 cases e1:fo δ with
 | bad=>unfold fMeth at q;rw [e1] at q;exact q.elim
 | ex z =>
  unfold fMeth at q;rw [e1] at q
  exact PySem.W.methodCall_KW (pl:=pl) (thn (ho pins s σ H (fun _ _=>False) I ⟨c,δ,hK,ab,by rw [e1];exact q⟩) fun u s1 ⟨_,_,_,_,w⟩=>w.elim) ht
 | ok d =>
  obtain ⟨cn,z,rfl,hz,q⟩:=fMeth_cases e1 q
  obtain ⟨C,f,fd,ps,mm,h1,h2,h3,h4,h5⟩:=meth_read (m:=m) (fs:=fs) hb hm hl hK ab e1 hz (fun _ _ _ z=>z) (q.imp fun d _ kd v H' e2 r2=>kd v H' e2 (RtP.post hm r2))
  exact pe_meth ho h1 h2 h3 hr h4 .nil pass0 ha hst hpl ht pins s σ H Q I h5
end
end DL
namespace DL
open PySem PySem.Spec PyProof.Rows L2
section
variable {X:Cx} {E:XK} {m:Md} {a b e:Expr} {fa fb fe:Fn} {pos p:Pos} {es:List Expr} {fs:List Fn} {fr:Rm} {F G:Sm} {st:Stmt} {x:Str}
def isBl (k:Bool):D->Bool
 | .bl k'=>k' == k
 | _=>false
def gIsB:D->D->Ou D
 | d,.bl k=>.ok (.bl (isBl k d))
 | _,_=>.bad
def gNotB:D->D->Ou D
 | d,.bl k=>.ok (.bl (!isBl k d))
 | _,_=>.bad
def gListOf:D->Ou D
 | .lst ds=>.ok (.lst ds)
 | .frl ds=>.ok (.lst ds)
 | .tup ds=>.ok (.lst ds)
 | _=>.bad
def sBad:Sm:=fun _=>.bad
theorem xs_raise {exc cause:Option Expr}:PS X (.Raise exc cause pos) (tS X.K E fr sBad):=fun pins s σ H D I q=>by
 obtain ⟨c,δ,hK,ab,q⟩:=q
 exact q.elim
end
theorem df_bad {P:Program} {w:World} {K:PySem.W.Frag} {mg:Str->Option Value} {base:Heap} {x:Str} {st:Stmt} {ps:List Str} {k:Nat} {fr:Bool} (S:Src K mg x st ps):Df P w K mg base x k ps fr (fun _=>.bad):=by
 obtain ⟨f,fd,Fn,b,hm⟩:=S.ex
 refine ⟨f,fd,⟨fun vs H Q E h=>?_,fun A outer s H args us vs Q E _ _ _ _ h=>?_⟩,b,Fn.kp,hm⟩
 ·obtain ⟨_,_,_,_,z⟩:=h;exact z.elim
 ·obtain ⟨_,_,_,_,z⟩:=h;exact z.elim
def relab (sc0 scope:Scope):List (Str×NameKind):=scope.names.map fun (n,k)=>if (k == .free && sc0.kind == .function && sc0.names.lookup n == some .cell) then (n,.cell) else (n,k)
def cnOk (sc0 scope:Scope) (N0 N':List Str) (k:Nat) (ix:List Nat):Bool :=
 scope.names.all (fun y=>y.2 != .cell) && (scope.kind == .function) && scope.names.all (fun y=>y.2 != .local || scope.names.lookup y.1 == some .local) &&
 scope.names.all (fun y=>y.2 != .free || (sc0.names.lookup y.1 == some .cell || sc0.names.lookup y.1 == some .free)) && N'.length == k + ix.length &&
 (List.range ix.length).all (fun j=>match ix[j]?,N'[k + j]? with
  | some i,some x=>N0[i]? == some x && (sc0.names.lookup x == some .cell || sc0.names.lookup x == some .free) && (relab sc0 scope).lookup x != some .local
  | _,_=>false)
theorem cnames {X:Cx} {scope:Scope} {N':List Str} {k:Nat} {ix:List Nat} (sc0:Scope) (N0:List Str) (h:cnOk sc0 scope N0 N' k ix=true) (hs:X.env.scope=sc0:=by rfl) (hN:X.N=N0:=by rfl):CNames X scope N' k ix:=by
 unfold cnOk at h
 simp only [Bool.and_eq_true] at h
 obtain ⟨⟨⟨⟨⟨h1,h2⟩,h3⟩,h4⟩,h5⟩,h6⟩:=h
 subst hs;subst hN
 refine ⟨fun y hy=>by simpa using List.all_eq_true.mp h1 y hy,by simpa using h2,fun y hy hk=>?_,fun y hy hk=>?_,by simpa using h5,fun j i x e1 e2=>?_⟩
 ·have:=List.all_eq_true.mp h3 y hy
  rw [hk] at this
  simpa using this
 ·have:=List.all_eq_true.mp h4 y hy
  rw [hk] at this
  have z:List.lookup y.fst X.env.scope.names=some NameKind.cell\/List.lookup y.fst X.env.scope.names=some NameKind.free:=by simpa using this
  exact z
 ·have:=List.all_eq_true.mp h6 j (List.mem_range.mpr (List.getElem?_eq_some_iff.mp e1).1)
  rw [e1,e2] at this
  simp only [Bool.and_eq_true,Bool.or_eq_true,beq_iff_eq,bne_iff_ne] at this
  exact ⟨this.1.1,this.1.2,this.2⟩
end DL
namespace DL
open PySem PySem.Spec PyProof.Rows L2
def keyD:D->Option Key
 | .int i=>some (.inl i)
 | .str x=>some (.inr x)
 | _=>none
def dGet:List Key->List D->Key->Option D
 | k::ks,d::ds,q=>if k=q then some d else dGet ks ds q
 | _,_,_=>none
def dSet:List Key->List D->Key->D->List D
 | k::ks,d::ds,q,v=>(if k=q then v else d)::dSet ks ds q v
 | _,ds,_,_=>ds
theorem keyD_rep {K:PySem.W.Frag} {B:Addr->Prop} {H:Hp} {d:D} {v:V} {k:Key} (h:keyD d=some k) (r:Rep K B H d v):v=kV k:=by
 cases d <;> simp [keyD] at h <;> simp only [Rep] at r <;> subst r <;> subst h <;> rfl
section
variable {K:PySem.W.Frag} {B:Addr->Prop} {H:Hp}
theorem dGet_val:∀ {kvs:List (Key×V)} {ds:List D} {q:Key},Reps K B H ds (kvs.map (·.2))->match dGet (kvs.map (·.1)) ds q with
  | some d=>∃ v,valV kvs q=some v/\Rep K B H d v
  | none=>valV kvs q=none
 | [],ds,q,r=>by
  simp only [List.map_nil] at r
  have:ds=[]:=by
   cases ds with
   | nil=>rfl
   | cons d r'=>simp [Reps] at r
  subst this
  rfl
 | (k,v)::kvs,ds,q,r=>by
  cases ds with
  | nil=>simp [Reps] at r
  | cons d ds =>
   simp only [List.map_cons,Reps] at r
   obtain ⟨v',r',e,h1,h2⟩:=r
   cases e
   simp only [List.map_cons,dGet]
   by_cases hk:k=q
   ·rw [if_pos hk]
    exact ⟨v,valV_pos hk,h1⟩
   ·rw [if_neg hk,valV_neg (p:=(k,v)) hk]
    exact dGet_val h2
def dPutK (ks:List Key) (q:Key):List Key:=if (ks.any fun k=>decide (k=q))=true then ks else ks++[q]
def dPutV (ks:List Key) (ds:List D) (q:Key) (d:D):List D:=if (ks.any fun k=>decide (k=q))=true then dSet ks ds q d else ds++[d]
theorem dSet_reps {d:D} {v:V} {q:Key} (hd:Rep K B H d v):∀ {kvs:List (Key×V)} {ds:List D},Reps K B H ds (kvs.map (·.2))->Reps K B H (dSet (kvs.map (·.1)) ds q d) ((kvs.map fun kv=>if kv.1=q then (kv.1,v) else kv).map (·.2))
 | [],ds,r=>by
  simp only [List.map_nil] at r ⊢
  have:ds=[]:=by
   cases ds with
   | nil=>rfl
   | cons d r'=>simp [Reps] at r
  subst this
  exact r
 | (k,v')::kvs,ds,r=>by
  cases ds with
  | nil=>simp [Reps] at r
  | cons d' ds =>
   simp only [List.map_cons,Reps] at r
   obtain ⟨v'',r',e,h1,h2⟩:=r
   cases e
   simp only [List.map_cons,dSet,Reps]
   refine ⟨_,_,rfl,?_,dSet_reps hd h2⟩
   by_cases hk:k=q
   ·rw [if_pos hk,if_pos hk];exact hd
   ·rw [if_neg hk,if_neg hk];exact h1
theorem put_rep {kvs:List (Key×V)} {ds:List D} {q:Key} {d:D} {v:V} (r:Reps K B H ds (kvs.map (·.2))) (hd:Rep K B H d v) :
  (putK kvs q v).map (·.1)=dPutK (kvs.map (·.1)) q/\Reps K B H (dPutV (kvs.map (·.1)) ds q d) ((putK kvs q v).map (·.2)):=by
 have e:((kvs.map (·.1)).any fun k=>decide (k=q))=kvs.any fun kv=>decide (kv.1=q):=by rw [List.any_map];rfl
 unfold putK dPutK dPutV
 rw [e]
 by_cases h:(kvs.any fun kv=>decide (kv.1=q))=true
 ·rw [if_pos h,if_pos h,if_pos h]
  refine ⟨?_,dSet_reps hd r⟩
  rw [List.map_map]
  refine List.map_congr_left fun kv _=>?_
  show (if kv.1=q then (kv.1,v) else kv).1=kv.1
  by_cases hk:kv.1=q
  ·rw [if_pos hk]
  ·rw [if_neg hk]
 ·rw [if_neg h,if_neg h,if_neg h]
  refine ⟨by rw [List.map_append];rfl,?_⟩
  rw [List.map_append]
  exact Reps.append r (Reps.one hd)
end
section
variable {X:Cx} {E:XK} {m:Md} {a b e o i:Expr} {fa fb fe fo fi:Fn} {pos p:Pos} {fr:Rm} {x:Str}
def fDic0:Fn:=fun _=>.ok (.dic [] [])
theorem xdnew:PE X (.Dict [] [] pos) (tX X.K E .F fDic0):=pe_dnewK.imp fun σ H Q q=>by
 obtain ⟨c,δ,hK,ab,q⟩:=q
 intro p hp
 exact q (.ref p) _ (same_new hp _) ⟨p,_,rfl,hp,upd_same,[],rfl,rfl,by simp [Reps]⟩
theorem DGet.r {H:Hp} {a:Addr} {kvs:List (Key×V)} {k:Key} (e:Rd H a (.dK kvs)):DGet H a (kV k) (valV kvs k):=.inl ⟨kvs,k,e,rfl,rfl⟩
theorem Rd.same {H H':Hp} {a:Addr} {u:HO} (r:Rd H a u) (e:Same H H'):Rd H' a u:=r.elim (fun h=>.inl (e _ _ h)) fun ⟨o,h⟩=>.inr ⟨o,e _ _ h⟩
def gDIx:D->D->Ou D
 | .dic ks ds,k=>(match keyD k with
  | some q=>(match dGet ks ds q with
   | some d=>.ok d
   | none=>.bad)
  | none=>.bad)
 | _,_=>.bad
theorem xdix (hu:X.A.units + 64 < cLine) (ho:PE X o (tX X.K E m fo)) (hi:PE X i (tX X.K E .W fi)) (hm:notF m=true:=by rfl) (hs:NoSl i:=by exact fun _ _=>rfl):PE X (.Subscript o i pos) (tX X.K E m (f2 gDIx fo fi)) :=
 (pe_dget (by lia) ho hi hs).imp fun σ H Q q=>by
 obtain ⟨c,δ,hK,ab,q⟩:=q
 refine ⟨c,δ,hK,ab,(Res.bind q).imp fun d _ k v H1 e1 r1=>?_⟩
 refine ⟨c,δ,hK,ab.grow e1,(Res.bind k).imp fun dk _ k2 y H2 e2 r2=>?_⟩
 have r1':Rep c.K (BOf c σ δ m) H2 d v:=(Post.bOf hm r1).same e2
 have r2':Rep c.K c.B H2 dk y:=r2
 obtain ⟨ks,ds,rfl⟩:∃ ks ds,d=.dic ks ds:=by
  cases d <;> first | exact k2.elim | exact ⟨_,_,rfl⟩
 simp only [Rep] at r1'
 obtain ⟨p,kvs,rfl,_,h1,rfl,h3⟩:=r1'
 unfold gDIx at k2
 cases ek:keyD dk with
 | none=>simp only [ek] at k2;exact k2.elim
 | some q' =>
  simp only [ek] at k2
  have hv:=dGet_val (q:=q') h3
  cases eg:dGet (kvs.map (·.1)) ds q' with
  | none=>simp only [eg] at k2;exact k2.elim
  | some d' =>
   simp only [eg] at k2 hv
   obtain ⟨w',z1,z2⟩:=hv
   rw [keyD_rep ek r2']
   refine ⟨p,w',rfl,?_,k2 w' H2 (e1.trans e2) (Post.bOf' hm z2)⟩
   rw [← z1];exact DGet.r h1
def fIxD (j:Nat) (fk:Fn):Fn:=fun δ=>match δ[j]? with
 | some (.own (.dic ks ds))=>(fk δ).bind fun k=>gDIx (.dic ks ds) k
 | _=>.bad
theorem xixOD (j:Nat) {px:Pos} (hu:X.A.units + 64 < cLine) (hi:PE X i (tX X.K E .W fi)) (hN:X.N[j]? = some x:=by rfl) (hv:Vis X.env.scope x:=by first | exact Or.inl rfl | exact Or.inr (Or.inl rfl) | exact Or.inr (Or.inr rfl)) (hd:(x == ("__debug__":Str))=false:=by decide)
  (hcd:(x == ("__classdict__":Str))=false:=by decide) (hs:NoSl i:=by exact fun _ _=>rfl):PE X (.Subscript (.Name x px) i pos) (tX X.K E .S (fIxD j fi)) :=
 (pe_dget (by lia) (pv j hN hv hd hcd) hi hs).imp fun σ H Q q=>by
 obtain ⟨c,δ,hK,ab,q⟩:=q
 unfold fIxD at q
 cases e0:δ[j]? with
 | none=>rw [e0] at q;exact q.elim
 | some s =>
  rw [e0] at q
  cases s with
  | un=>exact q.elim
  | val d=>exact q.elim
  | own d =>
   cases d <;> first | exact q.elim | skip
   rename_i ks ds
   obtain ⟨p,o,g1,g2,g3,kvs,rfl,rfl,g4⟩:=ab.own j _ e0
   refine ⟨.ref p,g1,c,δ,hK,ab,(Res.bind q).imp fun dk _ k2 y H2 e2 r2=>?_⟩
   have r2':Rep c.K c.B H2 dk y:=r2
   unfold gDIx at k2
   cases ek:keyD dk with
   | none=>simp only [ek] at k2;exact k2.elim
   | some q' =>
    simp only [ek] at k2
    have hv:=dGet_val (q:=q') (g4.same e2)
    cases eg:dGet (kvs.map (·.1)) ds q' with
    | none=>simp only [eg] at k2;exact k2.elim
    | some d' =>
     simp only [eg] at k2 hv
     obtain ⟨w',z1,z2⟩:=hv
     rw [keyD_rep ek r2']
     refine ⟨p,w',rfl,?_,k2 w' H2 e2 z2⟩
     rw [← z1];exact DGet.k (e2 _ _ g2)
def gDIn (neg:Bool):D->D->Ou D
 | k,.dic ks ds=>(match keyD k with
  | some q=>if ds.length=ks.length then .ok (.bl (let z:=(dGet ks ds q).isSome;if neg then !z else z)) else .bad
  | none=>.bad)
 | _,_=>.bad
theorem op_dnotin (hu:X.A.units + 64 < cLine):OpR X (compareOp .NotIn) (fun x y H Q=>∃ a o,y=.ref a/\DGet H a x o/\Q (.bl (!o.isSome)) H):=by
 intro pins s σ H x y v u Q I rx ry h
 obtain ⟨a,o,rfl,g,q⟩:=h
 obtain rfl:u=Value.ref a:=ry
 exact d_notIn (by lia) I g rx fun s' I'=>⟨.bl (!o.isSome),H,I',rfl,q⟩
theorem din_core {K:PySem.W.Frag} {B:Addr->Prop} {H:Hp} {dx:D} {ks:List Key} {ds:List D} {x y:V} {q:Key} (hk:keyD dx=some q) (rx:Rep K B H dx x) (ry:Rep K B H (.dic ks ds) y):∃ a o,y=.ref a/\DGet H a x o/\o.isSome=(dGet ks ds q).isSome:=by
 simp only [Rep] at ry
 obtain ⟨a,kvs,rfl,_,h1,rfl,h3⟩:=ry
 have hv:=dGet_val (q:=q) h3
 rw [keyD_rep hk rx]
 refine ⟨a,_,rfl,DGet.r h1,?_⟩
 cases eg:dGet (kvs.map (·.1)) ds q with
 | none=>rw [eg] at hv;rw [show valV kvs q=none from hv];rfl
 | some d' =>
  rw [eg] at hv
  obtain ⟨w',z1,_⟩:=hv
  rw [z1];rfl
theorem od_dnotin (hu:X.A.units + 64 < cLine):OpD X (compareOp .NotIn) (gDIn true):=by
 refine ⟨_,op_dnotin hu,fun B H dx dy x y Q rx ry=>?_⟩
 cases dy <;> simp only [gDIn]
 rename_i ks ds
 cases ek:keyD dx with
 | none=>trivial
 | some q =>
  by_cases hl:ds.length=ks.length
  ·simp only [if_pos hl]
   refine ⟨rfl,fun w=>?_⟩
   obtain ⟨a,o,h1,h2,h3⟩:=din_core ek rx ry
   exact ⟨a,o,h1,h2,by rw [h3];exact w⟩
  ·simp only [if_neg hl]
def fDGet1 (fo fe:Fn):Fn:=fun δ=>(fo δ).bind fun d=>match d with
 | .dic ks ds=>(fe δ).bind fun k=>(match keyD k with
  | some q=>.ok ((dGet ks ds q).getD .non)
  | none=>.bad)
 | _=>.bad
theorem xdget1 {apos cpos:Pos} (hu:X.A.units + 64 < cLine) (ho:PE X o (tX X.K E m fo)) (he:PE X e (tX X.K E .W fe)) (hm:notF m=true:=by rfl) (h:M1 X o "get" apos e cpos:=by exact ⟨rfl,rfl,rfl,rfl⟩):PE X (.Call (.Attribute o "get" apos) [e] [] cpos) (tX X.K E m (fDGet1 fo fe)) :=
 (pe_dget1 (by lia) ho he h).imp fun σ H Q q=>by
 obtain ⟨c,δ,hK,ab,q⟩:=q
 refine ⟨c,δ,hK,ab,(Res.bind q).imp fun d _ k v H1 e1 r1=>?_⟩
 have r1':Rep c.K (BOf c σ δ m) H1 d v:=Post.bOf hm r1
 obtain ⟨ks,ds,rfl⟩:∃ ks ds,d=.dic ks ds:=by
  cases d <;> first | exact k.elim | exact ⟨_,_,rfl⟩
 have k':Res X.K E c.H₀ ((fe δ).bind fun k=>(match keyD k with
  | some q=>.ok ((dGet ks ds q).getD .non)
  | none=>.bad)) (fun d=>∀ v H',Same H H'->Post c σ δ H m d v H'->Q v H'):=k
 simp only [Rep] at r1'
 obtain ⟨p,kvs,rfl,_,h1,rfl,h3⟩:=r1'
 refine ⟨p,rfl,.inl ⟨kvs,h1⟩,c,δ,hK,ab.grow e1,(Res.bind k').imp fun dk _ k2 y H2 e2 r2=>?_⟩
 have r2':Rep c.K c.B H2 dk y:=r2
 cases ek:keyD dk with
 | none=>simp only [ek] at k2;exact k2.elim
 | some q' =>
  simp only [ek] at k2
  have hv:=dGet_val (q:=q') (h3.same e2)
  rw [keyD_rep ek r2']
  refine ⟨_,DGet.r (Rd.same h1 e2),k2 _ H2 (e1.trans e2) (Post.bOf' hm ?_)⟩
  cases eg:dGet (kvs.map (·.1)) ds q' with
  | none=>rw [eg] at hv;rw [show valV kvs q'=none from hv];simp [Rep]
  | some d' =>
   rw [eg] at hv
   obtain ⟨w',z1,z2⟩:=hv
   rw [z1];exact z2
def sDPut (j:Nat) (fk fv:Fn):Sm:=fun δ=>(fv δ).bind fun d=>match δ[j]? with
 | some (.own (.dic ks ds))=>(fk δ).bind fun k=>(match keyD k with
  | some q=>if ks.length < sizeLine then .ok (.nx (δ.set j (.own (.dic (dPutK ks q) (dPutV ks ds q d))))) else .bad
  | none=>.bad)
 | _=>.bad
theorem xs_dput (j:Nat) {px tpos:Pos} (hu:X.A.units + 64 < cLine) (hk:PE X b (tX X.K E .W fb)) (he:PE X e (tX X.K E .S fe)) (hN:X.N[j]? = some x:=by rfl) (hv:Vis X.env.scope x:=by first | exact Or.inl rfl | exact Or.inr (Or.inl rfl) | exact Or.inr (Or.inr rfl)) (hd:(x == ("__debug__":Str))=false:=by decide) (hcd:(x == ("__classdict__":Str))=false:=by decide)
  (hs:swapsWith e (some (.Subscript (.Name x px) b tpos)) pos.line X.env=pure false:=by rfl):PS X (.Assign [.Subscript (.Name x px) b tpos] e pos) (tS X.K E fr (sDPut j fb fe)) :=
 (ps_dput (by lia) (pv j hN hv hd hcd) hk he hs).imp fun D σ H q=>by
 obtain ⟨c,δ,hK,ab,q⟩:=q
 refine ⟨c,δ,hK,ab,(Res.bind q).imp fun d _ k v H1 e1 r1=>?_⟩
 cases e0:δ[j]? with
 | none=>rw [e0] at k;exact k.elim
 | some s =>
  rw [e0] at k
  cases s with
  | un=>exact k.elim
  | val d=>exact k.elim
  | own dd =>
   cases dd <;> first | exact k.elim | skip
   rename_i ks ds
   obtain ⟨p,o,g1,g2,g3,kvs,rfl,rfl,g4⟩:=ab.own j _ e0
   refine ⟨.ref p,g1,c,δ,hK,ab.grow e1,(Res.bind k).imp fun dk _ k2 kv H2 e2 r2=>?_⟩
   have r2':Rep c.K c.B H2 dk kv:=r2
   cases ek:keyD dk with
   | none=>simp only [ek] at k2;exact k2.elim
   | some q' =>
    simp only [ek] at k2
    by_cases hl:(kvs.map (·.1)).length < sizeLine
    ·simp only [if_pos hl] at k2
     have z2:=e2 _ _ (e1 _ _ g2)
     obtain ⟨w1,w2⟩:=put_rep (q:=q') ((g4.same e1).same e2) (Rep.same (show Rep c.K (Av c σ δ) H1 d v from r1) e2)
     rw [keyD_rep ek r2']
     exact ⟨p,_,rfl,DPut.k z2 (by simpa using hl),k2 σ _ (((ab.grow e1).grow e2).mut e0 g1 ⟨_,rfl,w1,w2⟩)⟩
    ·simp only [if_neg hl] at k2
     exact k2.elim
theorem dict_new {c:Cn} {σ:St} {δ:DS} {H H1:Hp} {kvs:List (Key×V)} {ds:List D} {l:Addr} (e1:Same H H1) (hl:H1 l=none) (h2:Reps c.K (Av c σ δ) H1 ds (kvs.map (·.2))):Post c σ δ H .F (.dic (kvs.map (·.1)) ds) (.ref l) (upd H1 l (.dK kvs)) :=
 ⟨l,_,rfl,e1.free hl,upd_same,kvs,rfl,rfl,(Reps.off h2 hl).same (same_new hl _)⟩
end
end DL
namespace DL
open PySem PySem.Spec PyProof.Rows L2
def ins (n:Int):List Int->List Int
 | []=>[n]
 | m::r=>if n<=m then n::m::r else m::ins n r
def isort:List Int->List Int
 | []=>[]
 | n::r=>ins n (isort r)
theorem ins_perm (n:Int):∀ r:List Int,(ins n r).Perm (n::r)
 | []=>List.Perm.refl _
 | m::r=>by
  unfold ins
  by_cases h:n<=m
  ·rw [if_pos h]
  ·rw [if_neg h]
   exact ((ins_perm n r).cons m).trans (List.Perm.swap n m r)
theorem isort_perm:∀ r:List Int,(isort r).Perm r
 | []=>List.Perm.refl _
 | n::r=>(ins_perm n _).trans ((isort_perm r).cons n)
theorem ins_sorted (n:Int):∀ {r:List Int},r.Pairwise (·<=·)->(ins n r).Pairwise (·<=·)
 | [],_=>by simp [ins]
 | m::r,h=>by
  unfold ins
  have h':=List.pairwise_cons.mp h
  by_cases hn:n<=m
  ·rw [if_pos hn]
   refine List.pairwise_cons.mpr ⟨fun x hx=>?_,h⟩
   rcases List.mem_cons.mp hx with rfl | hx
   ·exact hn
   ·exact Int.le_trans hn (h'.1 x hx)
  ·rw [if_neg hn]
   refine List.pairwise_cons.mpr ⟨fun x hx=>?_,ins_sorted n h'.2⟩
   rcases List.mem_cons.mp ((ins_perm n r).mem_iff.mp hx) with rfl | hx
   ·lia
   ·exact h'.1 x hx
theorem isort_sorted:∀ r:List Int,(isort r).Pairwise (·<=·)
 | []=>List.Pairwise.nil
 | n::r=>ins_sorted n (isort_sorted r)
theorem isort_length (r:List Int):(isort r).length=r.length:=(isort_perm r).length_eq
theorem isort_uniq {a ns:List Int} (hp:a.Perm ns) (ha:a.Pairwise (·<=·)):a=isort ns:=PySem.W.ksm_same (hp.trans (isort_perm ns).symm) ha (isort_sorted ns)
theorem vals_ints:∀ {ns:List Int} {us:List Value},Vals (ns.map V.int) us->IntsAre us ns
 | [],us,r=>by cases r;exact .nil
 | n::ns,us,r=>by
  cases r with
  | cons h t =>
   obtain ⟨tk,rfl⟩:=h
   exact .cons n tk (vals_ints t)
theorem ints_vals:∀ {us:List Value} {ns:List Int},IntsAre us ns->Vals (ns.map V.int) us
 | _,_,.nil=>.nil
 | _,_,.cons n t h=>.cons ⟨t,rfl⟩ (ints_vals h)
section
variable {X:Cx} {E:XK} {m:Md} {a b e o i:Expr} {fa fb fe fo fi:Fn} {pos p:Pos} {fr:Rm} {x:Str}
theorem ints_of:∀ {us:List Value} {ns:List Int},us.length=ns.length->(∀ (j:Nat) (v:Value),us[j]? = some v->∃ n,ns[j]? = some n/\∃ t,v=Value.int n t)->IntsAre us ns
 | [],[],_,_=>.nil
 | [],_::_,h,_=>by simp at h
 | _::_,[],h,_=>by simp at h
 | u::us,n::ns,h,g=>by
  obtain ⟨n',h1,t,rfl⟩:=g 0 u rfl
  cases h1
  exact .cons _ t (ints_of (by simpa using h) fun j v hj=>g (j + 1) v hj)
theorem kv_key {kvs:List (Key×V)} {vs:List (Key×Value)} (r:KV kvs vs):∀ {j:Nat} {k:Key} {x:Value},vs[j]? = some (k,x)->(kvs.map (·.1))[j]? = some k:=by
 induction r with
 | nil=>intro j k x h;simp at h
 | cons h t ih =>
  intro j k x hx
  cases j with
  | zero =>
   simp only [List.getElem?_cons_zero,Option.some.injEq] at hx
   subst hx
   simp only [List.map_cons,List.getElem?_cons_zero,Option.some.injEq]
   exact h.1
  | succ j =>
   simp only [List.getElem?_cons_succ] at hx
   simp only [List.map_cons,List.getElem?_cons_succ]
   exact ih hx
theorem keyIs_int {n:Int} {v:Value} (h:keyIs (.inl n) v=true):∃ t,v=Value.int n t:=by
 have h':Value.isInt n v=true:=h
 cases v <;> simp [Value.isInt] at h'
 subst h'
 exact ⟨_,rfl⟩
theorem ints_reps {K:PySem.W.Frag} {B:Addr->Prop} {H:Hp}:∀ {ns:List Int},Reps K B H (ns.map D.int) (ns.map V.int)
 | []=>by simp [Reps]
 | n::ns=>by
  simp only [List.map_cons,Reps]
  exact ⟨_,_,rfl,by simp only [Rep],ints_reps⟩
def keysI:List Key->Option (List Int)
 | []=>some []
 | .inl n::r=>(keysI r).map (n::·)
 | _=>none
theorem keysI_map (ns:List Int):keysI (ns.map Sum.inl)=some ns:=by
 induction ns with
 | nil=>rfl
 | cons n r ih=>simp [keysI,ih]
theorem keysI_eq:∀ {ks:List Key} {ns:List Int},keysI ks=some ns->ks=ns.map Sum.inl
 | [],ns,h=>by cases h;rfl
 | d::r,ns,h=>by
  cases d <;> simp [keysI] at h
  obtain ⟨a,h1,rfl⟩:=h
  rw [keysI_eq h1];rfl
end
end DL
namespace Tim
open PySem PyProof.Rows
def R (ρ:Keyed->Int) (xs:Array Keyed) (i:Nat):Int:=(xs[i]?.map ρ).getD 0
def Up (ρ:Keyed->Int) (xs:Array Keyed) (lo hi:Nat):Prop:=∀ i j,lo<=i->i<=j->j < hi->R ρ xs i<=R ρ xs j
def Dn (ρ:Keyed->Int) (xs:Array Keyed) (lo hi:Nat):Prop:=∀ i j,lo<=i->i<=j->j < hi->R ρ xs j<=R ρ xs i
def Stays (xs ys:Array Keyed) (lo hi:Nat):Prop:=∀ i,i < lo\/hi<=i->ys[i]? = xs[i]?
theorem Stays.refl (xs:Array Keyed) (lo hi:Nat):Stays xs xs lo hi:=fun _ _=>rfl
theorem Stays.trans {xs ys zs:Array Keyed} {lo hi:Nat} (h:Stays xs ys lo hi) (k:Stays ys zs lo hi):Stays xs zs lo hi:=fun i hi=>(k i hi).trans (h i hi)
theorem R_of {ρ:Keyed->Int} {xs ys:Array Keyed} {i j:Nat} (h:xs[i]? = ys[j]?):R ρ xs i=R ρ ys j:=by unfold R;rw [h]
theorem R_mirror {ρ:Keyed->Int} {xs:Array Keyed} {i j:Nat} (hj:j<=xs.size) (k:Nat):R ρ (mirror xs i j ((j - i) / 2)) k=if i<=k/\k < j then R ρ xs (i + j - 1 - k) else R ρ xs k:=by
 have e:=getElem?_mirror_all (i:=i) hj k
 by_cases c:i<=k/\k < j
 ·rw [if_pos c] at e ⊢;exact R_of e
 ·rw [if_neg c] at e ⊢;exact R_of e
theorem R_mirror_same {ρ:Keyed->Int} {xs:Array Keyed} {i j:Nat} (hj:j<=xs.size) (he:∀ k,i<=k->k < j->R ρ xs k=R ρ xs (j - 1)) (k:Nat):R ρ (mirror xs i j ((j - i) / 2)) k=R ρ xs k:=by
 rw [R_mirror hj]
 by_cases c:i<=k/\k < j
 ·rw [if_pos c,he _ (by lia) (by lia),he k c.1 c.2]
 ·rw [if_neg c]
theorem Stays.mirror {xs:Array Keyed} {i j lo hi:Nat} (hj:j<=xs.size) (h1:lo<=i) (h2:j<=hi):Stays xs (mirror xs i j ((j - i) / 2)) lo hi:=fun k hk=>by
 rw [getElem?_mirror_all hj,if_neg (by lia)]
theorem R_bubble {ρ:Keyed->Int} {xs:Array Keyed} {src d:Nat} (hs:src < xs.size) (hd:d<=src) (k:Nat):R ρ (bubble xs src d) k=if k=src - d then R ρ xs src else if src - d < k/\k<=src then R ρ xs (k - 1) else R ρ xs k:=by
 have e:=getElem?_bubble hs d hd k
 by_cases c1:k=src - d
 ·rw [if_pos c1] at e ⊢;exact R_of e
 ·rw [if_neg c1] at e ⊢
  by_cases c2:src - d < k/\k<=src
  ·rw [if_pos c2] at e ⊢;exact R_of e
  ·rw [if_neg c2] at e ⊢;exact R_of e
theorem Stays.bubble {xs:Array Keyed} {src d lo hi:Nat} (hs:src < xs.size) (hd:d<=src) (h1:lo<=src - d) (h2:src < hi):Stays xs (bubble xs src d) lo hi:=fun k hk=>by
 rw [getElem?_bubble hs d hd,if_neg (by lia),if_neg (by lia)]
structure Bs (κ:SortKind) (a₀:Array Keyed) (st:SortSt):Prop where
 perm:(arrOf st).Perm a₀
 kind:kindOf st=κ
 fine:failedOf st=none
theorem Bs.size {κ:SortKind} {a₀:Array Keyed} {st:SortSt} (h:Bs κ a₀ st):(arrOf st).size=a₀.size:=h.perm.size_eq
theorem Bs.put {κ:SortKind} {a₀:Array Keyed} {st:SortSt} (h:Bs κ a₀ st) {xs:Array Keyed} (hp:xs.Perm (arrOf st)):Bs κ a₀ (setArr st xs):=⟨hp.trans h.perm,h.kind,h.fine⟩
theorem Bs.has {κ:SortKind} {a₀:Array Keyed} {st:SortSt} (h:Bs κ a₀ st) {i:Nat} (hi:i < a₀.size):∃ x,(arrOf st)[i]? = some x/\x∈a₀.toList:=by
 have hi':i < (arrOf st).size:=by rw [h.size];exact hi
 exact ⟨(arrOf st)[i],getElem?_pos _ i hi',(Array.perm_iff_toList_perm.mp h.perm).mem_iff.mp (by simp)⟩
section
variable {prog:Program} {w:World} {A:Around} {E:Value->Shared->Prop} {s:Shared} {κ:SortKind} {ρ:Keyed->Int} {a₀:Array Keyed}
def Told (prog:Program) (w:World) (A:Around) (s:Shared) (κ:SortKind) (ρ:Keyed->Int) (a₀:Array Keyed):Prop :=
 ∀ x,x∈a₀.toList->∀ y,y∈a₀.toList->∀ (E:Value->Shared->Prop) (Q:Bool->Shared->Prop),Q (decide (ρ x < ρ y)) s->wpAny (model prog w) A (keyLt' κ x.1 y.1) Q E s
theorem lt_ {st:SortSt} {x y:Keyed} {Q:Option Bool->SortSt->Prop} (T:Told prog w A s κ ρ a₀) (hk:kindOf st=κ) (hx:x∈a₀.toList) (hy:y∈a₀.toList) (h:Q (some (decide (ρ x < ρ y))) st) :
  wpS (model prog w) A E s (lt' x y) Q st:=by
 rw [lt'_eq]
 refine wpS_bind (wpS_get ?_)
 rw [hk]
 refine wpS_bind (wpS_lift (wpAny_attempt (T x hx y hy _ _ ⟨rfl,?_⟩)))
 exact wpS_pure h
theorem elem_ {st:SortSt} {xs:Array Keyed} {i:Nat} {x:Keyed} {Q:Keyed->SortSt->Prop} (hx:xs[i]? = some x) (h:Q x st):wpS (model prog w) A E s (elem' xs i) Q st:=by
 rw [elem'_eq,hx]
 exact wpS_pure h
theorem ltAt_ {st:SortSt} {i j:Nat} {Q:Option Bool->SortSt->Prop} (T:Told prog w A s κ ρ a₀) (hB:Bs κ a₀ st) (hi:i < a₀.size) (hj:j < a₀.size)
  (h:Q (some (decide (R ρ (arrOf st) i < R ρ (arrOf st) j))) st):wpS (model prog w) A E s (ltAt' i j) Q st:=by
 obtain ⟨x,ex,mx⟩:=hB.has hi
 obtain ⟨y,ey,my⟩:=hB.has hj
 rw [ltAt'_eq]
 refine wpS_bind (wpS_get (wpS_bind (elem_ ex (wpS_bind (elem_ ey (lt_ T hB.kind mx my ?_))))))
 have e1:R ρ (arrOf st) i=ρ x:=by unfold R;rw [ex];rfl
 have e2:R ρ (arrOf st) j=ρ y:=by unfold R;rw [ey];rfl
 rw [e1,e2] at h
 exact h
abbrev St1:=Option (Option Nat)×Nat
abbrev St2:=Option (Option Nat)×Nat×Nat
def upL (lo a m:Nat):StateT SortSt Sem St1:=forIn [a:m] ((none,a):St1) fun _ r=>do
 let x ← ltAt' (lo + r.snd) (lo + r.snd - 1)
 match x with
 | some b=>if b=true then pure (.done (none,r.snd)) else pure (.yield (none,r.snd + 1))
 | _=>pure (.done (some none,r.snd))
def endL (lo n m:Nat):StateT SortSt Sem (Option Nat):=do
 reverseSlice' lo (lo + n)
 let r ← upL lo n m
 match r.fst with
 | some z=>pure z
 | none=>pure (some r.snd)
def dnL (lo n m:Nat):StateT SortSt Sem St2:=forIn [n:m] ((none,n,0):St2) fun _ r=>do
 let x ← ltAt' (lo + r.snd.fst) (lo + r.snd.fst - 1)
 match x with
 | some b =>
  if b=true then
   if r.snd.snd > 0 then do
    reverseSlice' (lo + r.snd.fst - (r.snd.snd + 1)) (lo + r.snd.fst)
    pure (.yield (none,r.snd.fst + 1,0))
   else pure (.yield (none,r.snd.fst + 1,0))
  else do
   let y ← ltAt' (lo + r.snd.fst - 1) (lo + r.snd.fst)
   match y with
   | some c=>if c=true then pure (.done (none,r.snd.fst,r.snd.snd)) else pure (.yield (none,r.snd.fst + 1,r.snd.snd + 1))
   | _=>pure (.done (some none,r.snd.fst,r.snd.snd))
 | _=>pure (.done (some none,r.snd.fst,r.snd.snd))
def fallL (lo n m:Nat):StateT SortSt Sem (Option Nat):=do
 liftM (rule "list.sort.descending-run")
 let r ← dnL lo (n + 1) m
 match r.fst with
 | some z=>pure z
 | none =>
  if r.snd.snd > 0 then do
   reverseSlice' (lo + r.snd.fst - (r.snd.snd + 1)) (lo + r.snd.fst)
   endL lo r.snd.fst m
  else endL lo r.snd.fst m
def runL (lo m:Nat):StateT SortSt Sem (Option Nat):=do
 let r ← upL lo 1 m
 match r.fst with
 | some z=>pure z
 | none =>
  if (r.snd == m)=true then pure (some r.snd)
  else if r.snd > 1 then do
   let x ← ltAt' lo (lo + r.snd - 1)
   match x with
   | some b=>if b=true then pure (some r.snd) else do
     reverseSlice' lo (lo + r.snd)
     fallL lo r.snd m
   | _=>pure none
  else fallL lo r.snd m
theorem run_eq (lo m:Nat):countRun' lo m=runL lo m:=by
 rw [countRun'_eq]
 unfold runL
 dsimp only
 congr 1
 funext r
 obtain ⟨z,n⟩:=r
 cases z with
 | some z=>rfl
 | none =>
  dsimp only
  by_cases c1:(n == m)=true
  ·rw [if_pos c1,if_pos c1]
  ·rw [if_neg c1,if_neg c1]
   by_cases c2:n > 1
   ·rw [if_pos c2,if_pos c2]
    congr 1
    funext x
    cases x with
    | none=>rfl
    | some b =>
     dsimp only
     cases b with
     | true=>rfl
     | false =>
      simp only [Bool.false_eq_true,if_false]
      congr 1
      funext u
      unfold fallL
      congr 1
      funext v
      congr 1
      funext r
      obtain ⟨z,n',q⟩:=r
      cases z with
      | some z=>rfl
      | none =>
       dsimp only
       by_cases c3:q > 0
       ·rw [if_pos c3,if_pos c3]
        congr 1
        funext y
        unfold endL
        congr 1
        funext y'
        congr 1
        funext r
        obtain ⟨z,k⟩:=r
        cases z <;> rfl
       ·rw [if_neg c3,if_neg c3]
        unfold endL
        congr 1
        funext y'
        congr 1
        funext r
        obtain ⟨z,k⟩:=r
        cases z <;> rfl
   ·rw [if_neg c2,if_neg c2]
    unfold fallL
    congr 1
    funext v
    congr 1
    funext r
    obtain ⟨z,n',q⟩:=r
    cases z with
    | some z=>rfl
    | none =>
     dsimp only
     by_cases c3:q > 0
     ·rw [if_pos c3,if_pos c3]
      congr 1
      funext y
      unfold endL
      congr 1
      funext y'
      congr 1
      funext r
      obtain ⟨z,k⟩:=r
      cases z <;> rfl
     ·rw [if_neg c3,if_neg c3]
      unfold endL
      congr 1
      funext y'
      congr 1
      funext r
      obtain ⟨z,k⟩:=r
      cases z <;> rfl
theorem rev_ {st:SortSt} {i j:Nat} {Q:Unit->SortSt->Prop} (h:Q () (setArr st (mirror (arrOf st) i j ((j - i) / 2)))):wpS (model prog w) A E s (reverseSlice' i j) Q st:=by
 rw [reverseSlice'_eq]
 exact wpS_modify h
theorem upL_ {st:SortSt} {lo a m:Nat} {Q:St1->SortSt->Prop} (T:Told prog w A s κ ρ a₀) (hB:Bs κ a₀ st) (hm:lo + m<=a₀.size) (h1:1<=a) (ha:a<=m) (hu:Up ρ (arrOf st) lo (lo + a))
  (h:∀ n,a<=n->n<=m->Up ρ (arrOf st) lo (lo + n)->(n=m\/R ρ (arrOf st) (lo + n) < R ρ (arrOf st) (lo + n - 1))->Q (none,n) st):wpS (model prog w) A E s (upL lo a m) Q st:=by
 unfold upL
 refine wpS_forRange (I:=fun x c st'=>st'=st/\c=(none,x)/\Up ρ (arrOf st) lo (lo + x)) ?_ ?_ ⟨rfl,rfl,hu⟩
 ·rintro x c st' hx1 hx2 ⟨rfl,rfl,hs⟩
  dsimp only
  refine wpS_bind (ltAt_ T hB (by lia) (by lia) ?_)
  by_cases hl:R ρ (arrOf st') (lo + x) < R ρ (arrOf st') (lo + x - 1)
  ·rw [decide_eq_true hl]
   exact wpS_pure (h x hx1 (by lia) hs (.inr hl))
  ·rw [decide_eq_false hl]
   refine wpS_pure ⟨rfl,rfl,fun i j q1 q2 q3=>?_⟩
   by_cases c:j < lo + x
   ·exact hs i j q1 q2 c
   ·obtain rfl:j=lo + x:=by lia
    by_cases c2:i=lo + x
    ·rw [c2];exact Int.le_refl _
    ·have:=hs i (lo + x - 1) q1 (by lia) (by lia)
     lia
 ·rintro c st' ⟨rfl,rfl,hs⟩
  rw [Nat.max_eq_right ha] at hs ⊢
  exact h m ha (Nat.le_refl _) hs (.inl rfl)
theorem endL_ {st:SortSt} {lo n m:Nat} {Q:Option Nat->SortSt->Prop} (T:Told prog w A s κ ρ a₀) (hB:Bs κ a₀ st) (hm:lo + m<=a₀.size) (h1:1<=n) (hn:n<=m) (hd:Dn ρ (arrOf st) lo (lo + n))
  (h:∀ k st',Bs κ a₀ st'->Stays (arrOf st) (arrOf st') lo (lo + m)->pendingOf st'=pendingOf st->1<=k->k<=m->Up ρ (arrOf st') lo (lo + k)->Q (some k) st'):wpS (model prog w) A E s (endL lo n m) Q st:=by
 unfold endL
 have hz:lo + n<=(arrOf st).size:=by rw [hB.size];lia
 refine wpS_bind (rev_ ?_)
 have hB':Bs κ a₀ (setArr st (mirror (arrOf st) lo (lo + n) ((lo + n - lo) / 2))):=hB.put (mirror_perm _ _ _ _)
 refine wpS_bind (upL_ T hB' hm h1 hn (fun i j q1 q2 q3=>?_) fun k k1 k2 k3 _=>wpS_pure (h k _ hB' (Stays.mirror hz (Nat.le_refl _) (by lia)) rfl (by lia) k2 k3))
 show R ρ (mirror (arrOf st) lo (lo + n) _) i<=R ρ (mirror (arrOf st) lo (lo + n) _) j
 rw [R_mirror hz,R_mirror hz,if_pos (by lia),if_pos (by lia)]
 exact hd _ _ (by lia) (by lia) (by lia)
theorem dnL_ {st:SortSt} {lo n m:Nat} {Q:St2->SortSt->Prop} (T:Told prog w A s κ ρ a₀) (hB:Bs κ a₀ st) (hm:lo + m<=a₀.size) (h1:1<=n) (hn:n<=m) (hd:Dn ρ (arrOf st) lo (lo + n))
  (h:∀ k q st',Bs κ a₀ st'->Stays (arrOf st) (arrOf st') lo (lo + m)->pendingOf st'=pendingOf st->n<=k->k<=m->Dn ρ (arrOf st') lo (lo + k)->q + 1<=k ->
   (∀ i,lo + k - (q + 1)<=i->i < lo + k->R ρ (arrOf st') i=R ρ (arrOf st') (lo + k - 1))->Q (none,k,q) st'):wpS (model prog w) A E s (dnL lo n m) Q st:=by
 unfold dnL
 refine wpS_forRange (I:=fun x c st'=>∃ q,c=(none,x,q)/\Bs κ a₀ st'/\Stays (arrOf st) (arrOf st') lo (lo + m)/\pendingOf st'=pendingOf st/\Dn ρ (arrOf st') lo (lo + x)/\q + 1<=x /\
   (∀ i,lo + x - (q + 1)<=i->i < lo + x->R ρ (arrOf st') i=R ρ (arrOf st') (lo + x - 1))) ?_ ?_ ⟨0,rfl,hB,Stays.refl _ _ _,rfl,hd,h1,fun i q1 q2=>by congr 1;lia⟩
 ·rintro x c st' hx1 hx2 ⟨q,rfl,hB',hst,hpe,hs,hq,he⟩
  dsimp only
  have hz:lo + x<=(arrOf st').size:=by rw [hB'.size];lia
  refine wpS_bind (ltAt_ T hB' (by lia) (by lia) ?_)
  have more:∀ xs:Array Keyed,(∀ k,R ρ xs k=R ρ (arrOf st') k)->R ρ (arrOf st') (lo + x)<=R ρ (arrOf st') (lo + x - 1)->Dn ρ xs lo (lo + (x + 1)):=by
   intro xs hk hl i j q1 q2 q3
   rw [hk,hk]
   by_cases c:j < lo + x
   ·exact hs i j q1 q2 c
   ·obtain rfl:j=lo + x:=by lia
    by_cases c2:i=lo + x
    ·rw [c2];exact Int.le_refl _
    ·have:=hs i (lo + x - 1) q1 (by lia) (by lia)
     lia
  by_cases hl:R ρ (arrOf st') (lo + x) < R ρ (arrOf st') (lo + x - 1)
  ·rw [decide_eq_true hl]
   by_cases hq0:q > 0
   ·simp only [if_true]
    rw [if_pos hq0]
    refine wpS_bind (rev_ (wpS_pure ⟨0,rfl,hB'.put (mirror_perm _ _ _ _),hst.trans (Stays.mirror hz (by lia) (by lia)),hpe,more _ (R_mirror_same hz he) (Int.le_of_lt hl),by lia,fun i q1 q2=>by congr 1;lia⟩))
   ·simp only [if_true]
    rw [if_neg hq0]
    exact wpS_pure ⟨0,rfl,hB',hst,hpe,more _ (fun _=>rfl) (Int.le_of_lt hl),by lia,fun i q1 q2=>by congr 1;lia⟩
  ·rw [decide_eq_false hl]
   simp only [Bool.false_eq_true,if_false]
   refine wpS_bind (ltAt_ T hB' (by lia) (by lia) ?_)
   by_cases hg:R ρ (arrOf st') (lo + x - 1) < R ρ (arrOf st') (lo + x)
   ·rw [decide_eq_true hg]
    exact wpS_pure (h x q st' hB' hst hpe hx1 (by lia) hs hq he)
   ·rw [decide_eq_false hg]
    have ee:R ρ (arrOf st') (lo + x)=R ρ (arrOf st') (lo + x - 1):=by lia
    refine wpS_pure ⟨q + 1,rfl,hB',hst,hpe,more _ (fun _=>rfl) (by lia),by lia,fun i q1 q2=>?_⟩
    rw [show lo + (x + 1) - 1=lo + x by lia]
    by_cases c:i=lo + x
    ·rw [c]
    ·rw [ee];exact he i (by lia) (by lia)
 ·rintro c st' ⟨q,rfl,hB',hst,hpe,hs,hq,he⟩
  rw [Nat.max_eq_right hn] at hs hq he ⊢
  exact h m q st' hB' hst hpe hn (Nat.le_refl _) hs hq he
theorem fallL_ {st:SortSt} {lo n m:Nat} {Q:Option Nat->SortSt->Prop} (T:Told prog w A s κ ρ a₀) (hB:Bs κ a₀ st) (hm:lo + m<=a₀.size) (hn:n + 1<=m) (hd:Dn ρ (arrOf st) lo (lo + (n + 1)))
  (h:∀ k st',Bs κ a₀ st'->Stays (arrOf st) (arrOf st') lo (lo + m)->pendingOf st'=pendingOf st->1<=k->k<=m->Up ρ (arrOf st') lo (lo + k)->Q (some k) st'):wpS (model prog w) A E s (fallL lo n m) Q st:=by
 unfold fallL
 refine wpS_bind (wpS_lift (wpAny_rule ⟨rfl,?_⟩))
 refine wpS_bind (dnL_ T hB hm (by lia) hn hd fun k q st' hB' hst hpe k1 k2 hs hq he=>?_)
 dsimp only
 have hz:lo + k<=(arrOf st').size:=by rw [hB'.size];lia
 by_cases hq0:q > 0
 ·rw [if_pos hq0]
  refine wpS_bind (rev_ (endL_ T (hB'.put (mirror_perm _ _ _ _)) hm (by lia) k2 (fun i j q1 q2 q3=>?_) fun k' st'' b1 b2 b3=>h k' st'' b1 ((hst.trans (Stays.mirror hz (by lia) (by lia))).trans b2) (b3.trans hpe)))
  show R ρ (mirror (arrOf st') _ _ _) j<=R ρ (mirror (arrOf st') _ _ _) i
  rw [R_mirror_same hz he,R_mirror_same hz he]
  exact hs i j q1 q2 q3
 ·rw [if_neg hq0]
  exact endL_ T hB' hm (by lia) k2 hs fun k' st'' b1 b2 b3=>h k' st'' b1 (hst.trans b2) (b3.trans hpe)
theorem run_ {st:SortSt} {lo m:Nat} {Q:Option Nat->SortSt->Prop} (T:Told prog w A s κ ρ a₀) (hB:Bs κ a₀ st) (hm:lo + m<=a₀.size) (h1:1<=m)
  (h:∀ k st',Bs κ a₀ st'->Stays (arrOf st) (arrOf st') lo (lo + m)->pendingOf st'=pendingOf st->1<=k->k<=m->Up ρ (arrOf st') lo (lo + k)->Q (some k) st'):wpS (model prog w) A E s (countRun' lo m) Q st:=by
 rw [run_eq]
 unfold runL
 refine wpS_bind (upL_ T hB hm (Nat.le_refl 1) h1 (fun i j q1 q2 q3=>by rw [show i=j by lia];exact Int.le_refl _) fun n n1 n2 hu hor=>?_)
 dsimp only
 by_cases c:n=m
 ·rw [if_pos (by simpa using c)]
  exact wpS_pure (h n st hB (Stays.refl _ _ _) rfl n1 n2 hu)
 ·rw [if_neg (by simpa using c)]
  have hl:=hor.resolve_left c
  by_cases c1:n > 1
  ·rw [if_pos c1]
   refine wpS_bind (ltAt_ T hB (by lia) (by lia) ?_)
   by_cases hr:R ρ (arrOf st) lo < R ρ (arrOf st) (lo + n - 1)
   ·rw [decide_eq_true hr]
    exact wpS_pure (h n st hB (Stays.refl _ _ _) rfl n1 n2 hu)
   ·rw [decide_eq_false hr]
    have hz:lo + n<=(arrOf st).size:=by rw [hB.size];lia
    have all:∀ k,lo<=k->k < lo + n->R ρ (arrOf st) k=R ρ (arrOf st) (lo + n - 1):=by
     intro k k1 k2
     have a1:=hu lo k (Nat.le_refl _) k1 k2
     have a2:=hu k (lo + n - 1) k1 (by lia) (by lia)
     lia
    simp only [Bool.false_eq_true,if_false]
    refine wpS_bind (rev_ (fallL_ T (hB.put (mirror_perm _ _ _ _)) hm (by lia) (fun i j q1 q2 q3=>?_) fun k st' b1 b2=>h k st' b1 ((Stays.mirror hz (Nat.le_refl _) (by lia)).trans b2)))
    show R ρ (mirror (arrOf st) _ _ _) j<=R ρ (mirror (arrOf st) _ _ _) i
    rw [R_mirror_same hz all,R_mirror_same hz all]
    by_cases cj:j < lo + n
    ·rw [all i (by lia) (by lia),all j (by lia) cj];exact Int.le_refl _
    ·obtain rfl:j=lo + n:=by lia
     by_cases ci:i=lo + n
     ·rw [ci];exact Int.le_refl _
     ·rw [all i q1 (by lia)];exact Int.le_of_lt hl
  ·rw [if_neg c1]
   obtain rfl:n=1:=by lia
   refine fallL_ T hB hm (by lia) (fun i j q1 q2 q3=>?_) h
   by_cases ci:i=j
   ·rw [ci];exact Int.le_refl _
   ·obtain rfl:i=lo:=by lia
    obtain rfl:j=i + 1:=by lia
    exact Int.le_of_lt hl
theorem ins_ {st:SortSt} {lo n ok:Nat} {Q:Bool->SortSt->Prop} (T:Told prog w A s κ ρ a₀) (hB:Bs κ a₀ st) (hn:lo + n<=a₀.size) (hok:ok<=n) (hu:Up ρ (arrOf st) lo (lo + ok))
  (h:∀ st',Bs κ a₀ st'->Stays (arrOf st) (arrOf st') lo (lo + n)->pendingOf st'=pendingOf st->Up ρ (arrOf st') lo (lo + n)->Q true st'):wpS (model prog w) A E s (binarySort' lo n ok) Q st:=by
 rw [binarySort'_eq]
 refine wpS_bind (wpS_mono (wpS_forRange (I:=fun k c st'=>c=(none,())/\Bs κ a₀ st'/\Stays (arrOf st) (arrOf st') lo (lo + n)/\pendingOf st'=pendingOf st/\Up ρ (arrOf st') lo (lo + min k n))
  (Q:=fun c st'=>c=(none,())/\Bs κ a₀ st'/\Stays (arrOf st) (arrOf st') lo (lo + n)/\pendingOf st'=pendingOf st/\Up ρ (arrOf st') lo (lo + n)) ?_ ?_ ?_) ?_)
 ·rintro k c st' k1 k2 ⟨rfl,hB',hst,hpe,hs⟩
  rw [Nat.min_eq_left (by lia)] at hs
  refine wpS_bind (wpS_mono (wpS_forRange (I:=fun x c st''=>st''=st'/\∃ l r,c=(none,l,r)/\l<=r/\r<=k/\r - l<=k - x /\
    (∀ i,i < l->R ρ (arrOf st') (lo + i)<=R ρ (arrOf st') (lo + k))/\(∀ i,r<=i->i < k->R ρ (arrOf st') (lo + k) < R ρ (arrOf st') (lo + i)))
   (Q:=fun c st''=>st''=st'/\∃ l r,c=(none,l,r)/\l<=k /\
    (∀ i,i < l->R ρ (arrOf st') (lo + i)<=R ρ (arrOf st') (lo + k))/\(∀ i,l<=i->i < k->R ρ (arrOf st') (lo + k) < R ρ (arrOf st') (lo + i))) ?_ ?_ ?_) ?_)
  ·rintro x c st'' _ hx ⟨rfl,l,r,rfl,hlr,hrk,hm,h1,h2⟩
   dsimp only
   by_cases hge:l ≥ r
   ·rw [if_pos hge]
    obtain rfl:l=r:=by lia
    exact wpS_pure ⟨rfl,l,l,rfl,hrk,h1,h2⟩
   ·rw [if_neg hge]
    refine wpS_bind (ltAt_ T hB' (by lia) (by lia) ?_)
    by_cases hl:R ρ (arrOf st'') (lo + k) < R ρ (arrOf st'') (lo + (l + r) / 2)
    ·rw [decide_eq_true hl]
     refine wpS_pure ⟨rfl,l,(l + r) / 2,rfl,by lia,by lia,by lia,h1,fun i q1 q2=>?_⟩
     exact Int.lt_of_lt_of_le hl (hs _ _ (by lia) (by lia) (by lia))
    ·rw [decide_eq_false hl]
     refine wpS_pure ⟨rfl,(l + r) / 2 + 1,r,rfl,by lia,by lia,by lia,fun i q1=>?_,h2⟩
     exact Int.le_trans (hs (lo + i) (lo + (l + r) / 2) (by lia) (by lia) (by lia)) (Int.not_lt.mp hl)
  ·rintro c st'' ⟨rfl,l,r,rfl,hlr,hrk,hm,h1,h2⟩
   obtain rfl:l=r:=by lia
   exact ⟨rfl,l,l,rfl,hrk,h1,h2⟩
  ·exact ⟨rfl,0,k,rfl,by lia,by lia,by lia,fun i hi=>by lia,fun i q1 q2=>by lia⟩
  ·rintro c st'' ⟨rfl,l,r,rfl,hlk,h1,h2⟩
   have hz:lo + k < (arrOf st'').size:=by rw [hB'.size];lia
   dsimp only
   rw [moveDown'_eq]
   refine wpS_bind (wpS_modify (wpS_pure ⟨rfl,hB'.put (bubble_perm _ _ _),hst.trans (Stays.bubble hz (by lia) (by lia) (by lia)),hpe,fun i j q1 q2 q3=>?_⟩))
   rw [Nat.min_eq_left (show k + 1<=n by lia)] at q3
   show R ρ (bubble (arrOf st'') (lo + k) (lo + k - (lo + l))) i<=R ρ (bubble (arrOf st'') (lo + k) (lo + k - (lo + l))) j
   rw [R_bubble hz (by lia),R_bubble hz (by lia),show lo + k - (lo + k - (lo + l))=lo + l by lia]
   have g1:∀ i,lo<=i->i < lo + l->R ρ (arrOf st'') i<=R ρ (arrOf st'') (lo + k):=fun i a b=>by
    have:=h1 (i - lo) (by lia)
    rwa [show lo + (i - lo)=i by lia] at this
   have g2:∀ i,lo + l<=i->i < lo + k->R ρ (arrOf st'') (lo + k) < R ρ (arrOf st'') i:=fun i a b=>by
    have:=h2 (i - lo) (by lia) (by lia)
    rwa [show lo + (i - lo)=i by lia] at this
   repeat' split
   all_goals first
    | (exfalso;lia)
    | exact Int.le_refl _
    | exact g1 _ (by lia) (by lia)
    | exact Int.le_of_lt (g2 _ (by lia) (by lia))
    | exact hs _ _ (by lia) (by lia) (by lia)
 ·rintro c st' ⟨hc,hB',hst,hpe,hs⟩
  refine ⟨hc,hB',hst,hpe,?_⟩
  rwa [show min (max (max ok 1) n) n=n by lia] at hs
 ·refine ⟨rfl,hB,Stays.refl _ _ _,rfl,fun i j q1 q2 q3=>?_⟩
  by_cases c:ok=0
  ·rw [show i=j by lia];exact Int.le_refl _
  ·exact hu i j q1 q2 (by lia)
 ·rintro c st' ⟨rfl,hB',hst,hpe,hs⟩
  exact wpS_pure (h st' hB' hst hpe hs)
end
def gallop':Bool->Keyed->Array Keyed->Nat->Nat->Nat->StateT SortSt Sem (Option Nat):=sortPriv% PySem.Builtin.gallop
section
variable {prog:Program} {w:World} {A:Around} {E:Value->Shared->Prop} {s:Shared} {κ:SortKind} {ρ:Keyed->Int} {a₀:Array Keyed}
def goes (ρ:Keyed->Int) (left:Bool) (key:Keyed) (arr:Array Keyed) (i:Nat):Bool:=if left then decide (R ρ arr i < ρ key) else !decide (ρ key < R ρ arr i)
def asks (left:Bool) (key:Keyed) (arr:Array Keyed) (base i:Nat):StateT SortSt Sem (Option Bool):=do
 let x ← elem' arr (base + i)
 if left=true then lt' x key else do
  let b ← lt' key x
  pure (Option.map (fun x=>!x) b)
def Among (a₀ arr:Array Keyed):Prop:=∀ i,i < arr.size->∃ x,arr[i]? = some x/\x∈a₀.toList
theorem asks_ {st:SortSt} {Q:Option Bool->SortSt->Prop} {left:Bool} {key:Keyed} {arr:Array Keyed} {base i:Nat} (T:Told prog w A s κ ρ a₀) (hk:kindOf st=κ) (hm:key∈a₀.toList) (ha:Among a₀ arr) (hi:base + i < arr.size)
  (h:Q (some (goes ρ left key arr (base + i))) st):wpS (model prog w) A E s (asks left key arr base i) Q st:=by
 obtain ⟨x,ex,mx⟩:=ha _ hi
 have er:R ρ arr (base + i)=ρ x:=by unfold R;rw [ex];rfl
 unfold goes at h
 rw [er] at h
 unfold asks
 refine wpS_bind (elem_ ex ?_)
 cases left with
 | true =>
  simp only [if_true] at h ⊢
  exact lt_ T hk mx hm h
 | false =>
  simp only [Bool.false_eq_true,if_false] at h ⊢
  exact wpS_bind (lt_ T hk hm mx (wpS_pure h))
theorem gallop_ {st:SortSt} {Q:Option Nat->SortSt->Prop} {left:Bool} {key:Keyed} {arr:Array Keyed} {base n hint:Nat} (T:Told prog w A s κ ρ a₀) (hk:kindOf st=κ) (hm:key∈a₀.toList) (ha:Among a₀ arr) (hz:base + n<=arr.size) (hh:hint < n)
  (mono:∀ i j,i<=j->j < n->goes ρ left key arr (base + j)=true->goes ρ left key arr (base + i)=true)
  (h:∀ k,k<=n->(∀ i,i < k->goes ρ left key arr (base + i)=true)->(∀ i,k<=i->i < n->goes ρ left key arr (base + i)=false)->Q (some k) st):wpS (model prog w) A E s (gallop' left key arr base n hint) Q st:=by
 have last:∀ (body:Nat->St2->StateT SortSt Sem (ForInStep St2)),(∀ x l r (R':ForInStep St2->SortSt->Prop),l ≥ r->R' (.done (none,l,r)) st->wpS (model prog w) A E s (body x (none,l,r)) R' st) ->
   (∀ x l r (R':ForInStep St2->SortSt->Prop),l < r->r<=n->R' (.yield (if goes ρ left key arr (base + (l + (r - l) / 2))=true then (none,l + (r - l) / 2 + 1,r) else (none,l,l + (r - l) / 2))) st->wpS (model prog w) A E s (body x (none,l,r)) R' st) ->
   ∀ lo hi,lo<=hi->hi<=n->(∀ i,i < lo->goes ρ left key arr (base + i)=true)->(∀ i,hi<=i->i < n->goes ρ left key arr (base + i)=false) ->
   ∀ (Q':St2->SortSt->Prop),(∀ k,k<=n->(∀ i,i < k->goes ρ left key arr (base + i)=true)->(∀ i,k<=i->i < n->goes ρ left key arr (base + i)=false)->Q' (none,k,k) st)->wpS (model prog w) A E s (forIn [:n] ((none,lo,hi):St2) body) Q' st:=by
  intro body hb1 hb2 lo hi h1 h2 h3 h4 Q' hQ
  refine wpS_forRange (I:=fun x c st'=>st'=st/\∃ l r,c=(none,l,r)/\l<=r/\r<=n/\r - l<=n - x/\(∀ i,i < l->goes ρ left key arr (base + i)=true)/\(∀ i,r<=i->i < n->goes ρ left key arr (base + i)=false)) ?_ ?_ ?_
  ·rintro x c st' _ hx ⟨rfl,l,r,rfl,q1,q2,q3,q4,q5⟩
   by_cases c1:l ≥ r
   ·obtain rfl:l=r:=by lia
    exact hb1 x l l _ c1 (hQ l q2 q4 q5)
   ·refine hb2 x l r _ (by lia) q2 ?_
    cases c2:goes ρ left key arr (base + (l + (r - l) / 2)) with
    | true =>
     refine ⟨rfl,_,_,rfl,by lia,q2,by lia,fun i hi=>?_,q5⟩
     exact mono i (l + (r - l) / 2) (by lia) (by lia) c2
    | false =>
     refine ⟨rfl,_,_,rfl,by lia,by lia,by lia,q4,fun i i1 i2=>?_⟩
     cases c3:goes ρ left key arr (base + i) with
     | false=>rfl
     | true=>rw [mono _ _ i1 i2 c3] at c2;exact absurd c2 (by decide)
  ·rintro c st' ⟨rfl,l,r,rfl,q1,q2,q3,q4,q5⟩
   obtain rfl:l=r:=by simp at q3;lia
   exact hQ l q2 q4 q5
  ·exact ⟨rfl,lo,hi,rfl,h1,h2,by lia,h3,h4⟩
 unfold gallop'
 refine wpS_bind (asks_ T hk hm ha (by lia) ?_)
 cases c:goes ρ left key arr (base + hint) with
 | true =>
  dsimp only
  rw [if_pos rfl]
  refine wpS_bind (wpS_mono (wpS_forRange (I:=fun x c st'=>st'=st/\∃ l o,c=(none,l,o)/\l < o/\x + 1<=o/\hint + l < n/\goes ρ left key arr (base + (hint + l))=true)
   (Q:=fun c st'=>st'=st/\∃ l o,c=(none,l,o)/\l < o/\hint + l < n/\goes ρ left key arr (base + (hint + l))=true/\(n - hint<=o\/goes ρ left key arr (base + (hint + o))=false)) ?_ ?_ ?_) ?_)
  ·rintro x c st' _ hx ⟨rfl,l,o,rfl,q1,q2,q3,q4⟩
   dsimp only
   by_cases c1:o ≥ n - hint
   ·rw [if_pos c1]
    exact wpS_pure ⟨rfl,l,o,rfl,q1,q3,q4,.inl c1⟩
   ·rw [if_neg c1]
    refine wpS_bind (asks_ T hk hm ha (by lia) ?_)
    cases c2:goes ρ left key arr (base + (hint + o)) with
    | true=>exact wpS_pure ⟨rfl,o,2 * o + 1,rfl,by lia,by lia,by lia,c2⟩
    | false=>exact wpS_pure ⟨rfl,l,o,rfl,q1,q3,q4,.inr c2⟩
  ·rintro c st' ⟨rfl,l,o,rfl,q1,q2,q3,q4⟩
   exact ⟨rfl,l,o,rfl,q1,q3,q4,.inl (by simp at q2;lia)⟩
  ·exact ⟨rfl,0,1,rfl,by lia,by lia,by lia,c⟩
  ·rintro c st' ⟨rfl,l,o,rfl,q1,q3,q4,q5⟩
   have f1:∀ i,i < hint + l + 1->goes ρ left key arr (base + i)=true:=fun i hi=>mono i (hint + l) (by lia) q3 q4
   have f2:∀ i,hint + min o (n - hint)<=i->i < n->goes ρ left key arr (base + i)=false:=fun i i1 i2=>by
    rcases q5 with q5 | q5
    ·lia
    ·cases c3:goes ρ left key arr (base + i) with
     | false=>rfl
     | true =>
      by_cases c4:n - hint<=o
      ·lia
      ·rw [mono (hint + o) i (by lia) i2 c3] at q5;exact absurd q5 (by decide)
   dsimp only
   refine wpS_bind (last _ (fun x l r R' c1 hR=>?_) (fun x l r R' c1 c2 hR=>?_) _ _ (by lia) (by lia) f1 f2 _ fun k k1 k2 k3=>wpS_pure (h k k1 k2 k3))
   ·dsimp only
    rw [if_pos c1]
    exact wpS_pure hR
   ·dsimp only
    rw [if_neg (by lia)]
    refine wpS_bind (asks_ T hk hm ha (by lia) ?_)
    cases c3:goes ρ left key arr (base + (l + (r - l) / 2)) with
    | true=>rw [c3] at hR;exact wpS_pure hR
    | false=>rw [c3] at hR;exact wpS_pure hR
 | false =>
  dsimp only
  rw [if_neg (by decide)]
  refine wpS_bind (wpS_mono (wpS_forRange (I:=fun x c st'=>st'=st/\∃ l o,c=(none,l,o)/\l < o/\x + 1<=o/\l<=hint/\goes ρ left key arr (base + (hint - l))=false)
   (Q:=fun c st'=>st'=st/\∃ l o,c=(none,l,o)/\l < o/\l<=hint/\goes ρ left key arr (base + (hint - l))=false/\(hint + 1<=o\/goes ρ left key arr (base + (hint - o))=true)) ?_ ?_ ?_) ?_)
  ·rintro x c st' _ hx ⟨rfl,l,o,rfl,q1,q2,q3,q4⟩
   dsimp only
   by_cases c1:o ≥ hint + 1
   ·rw [if_pos c1]
    exact wpS_pure ⟨rfl,l,o,rfl,q1,q3,q4,.inl c1⟩
   ·rw [if_neg c1]
    refine wpS_bind (asks_ T hk hm ha (by lia) ?_)
    cases c2:goes ρ left key arr (base + (hint - o)) with
    | true=>exact wpS_pure ⟨rfl,l,o,rfl,q1,q3,q4,.inr c2⟩
    | false=>exact wpS_pure ⟨rfl,o,2 * o + 1,rfl,by lia,by lia,by lia,c2⟩
  ·rintro c st' ⟨rfl,l,o,rfl,q1,q2,q3,q4⟩
   exact ⟨rfl,l,o,rfl,q1,q3,q4,.inl (by simp at q2;lia)⟩
  ·exact ⟨rfl,0,1,rfl,by lia,by lia,by lia,c⟩
  ·rintro c st' ⟨rfl,l,o,rfl,q1,q3,q4,q5⟩
   have f1:∀ i,i < hint + 1 - min o (hint + 1)->goes ρ left key arr (base + i)=true:=fun i hi=>by
    rcases q5 with q5 | q5
    ·lia
    ·exact mono i (hint - o) (by lia) (by lia) q5
   have f2:∀ i,hint - l<=i->i < n->goes ρ left key arr (base + i)=false:=fun i i1 i2=>by
    cases c3:goes ρ left key arr (base + i) with
    | false=>rfl
    | true=>rw [mono (hint - l) i i1 i2 c3] at q4;exact absurd q4 (by decide)
   dsimp only
   refine wpS_bind (last _ (fun x l r R' c1 hR=>?_) (fun x l r R' c1 c2 hR=>?_) _ _ (by lia) (by lia) f1 f2 _ fun k k1 k2 k3=>wpS_pure (h k k1 k2 k3))
   ·dsimp only
    rw [if_pos c1]
    exact wpS_pure hR
   ·dsimp only
    rw [if_neg (by lia)]
    refine wpS_bind (asks_ T hk hm ha (by lia) ?_)
    cases c3:goes ρ left key arr (base + (l + (r - l) / 2)) with
    | true=>rw [c3] at hR;exact wpS_pure hR
    | false=>rw [c3] at hR;exact wpS_pure hR
end
structure J (ρ:Keyed->Int) (a b out:Array Keyed) (ia ib:Nat):Prop where
 perm:out.toList.Perm (a.toList.take ia++b.toList.take ib)
 srt:out.toList.Pairwise fun x y=>ρ x<=ρ y
 ca:∀ x,x∈out.toList->∀ j,ia<=j->j < a.size->ρ x<=R ρ a j
 cb:∀ x,x∈out.toList->∀ j,ib<=j->j < b.size->ρ x<=R ρ b j
theorem J.swap {ρ:Keyed->Int} {a b out:Array Keyed} {ia ib:Nat} (h:J ρ a b out ia ib):J ρ b a out ib ia:=⟨h.perm.trans List.perm_append_comm,h.srt,h.cb,h.ca⟩
theorem mem_part {a:Array Keyed} {i k:Nat} {x:Keyed} (h:x∈(a.toList.drop i).take k):∃ j,i<=j/\j < i + k/\j < a.size/\a[j]? = some x:=by
 obtain ⟨n,hn⟩:=List.getElem?_of_mem h
 rw [List.getElem?_take] at hn
 by_cases c:n < k
 ·rw [if_pos c,List.getElem?_drop,Array.getElem?_toList] at hn
  exact ⟨i + n,by lia,by lia,(Array.getElem?_eq_some_iff.mp hn).1,hn⟩
 ·rw [if_neg c] at hn;cases hn
theorem R_some {ρ:Keyed->Int} {a:Array Keyed} {j:Nat} {x:Keyed} (h:a[j]? = some x):R ρ a j=ρ x:=by unfold R;rw [h];rfl
theorem J.more {ρ:Keyed->Int} {a b out out':Array Keyed} {ia ib k:Nat} (h:J ρ a b out ia ib) (ua:Up ρ a 0 a.size) (hk:ia + k<=a.size) (ho:out'.toList=out.toList++(a.toList.drop ia).take k)
  (hc:∀ i j,ia<=i->i < ia + k->ib<=j->j < b.size->R ρ a i<=R ρ b j):J ρ a b out' (ia + k) ib:=by
 have e:a.toList.take (ia + k)=a.toList.take ia++(a.toList.drop ia).take k:=List.take_add
 refine ⟨?_,?_,fun x hx j j1 j2=>?_,fun x hx j j1 j2=>?_⟩
 ·rw [ho,e]
  refine (h.perm.append_right _).trans ?_
  rw [List.append_assoc,List.append_assoc]
  exact List.Perm.append_left _ List.perm_append_comm
 ·rw [ho]
  refine List.pairwise_append.mpr ⟨h.srt,?_,fun x hx y hy=>?_⟩
  ·rw [List.pairwise_iff_getElem]
   intro i j hi hj hij
   have hi':((a.toList.drop ia).take k)[i]? = some ((a.toList.drop ia).take k)[i]:=List.getElem?_eq_getElem hi
   have hj':((a.toList.drop ia).take k)[j]? = some ((a.toList.drop ia).take k)[j]:=List.getElem?_eq_getElem hj
   have l1:i < k:=by simp at hi;lia
   have l2:j < k:=by simp at hj;lia
   rw [List.getElem?_take,if_pos l1,List.getElem?_drop,Array.getElem?_toList] at hi'
   rw [List.getElem?_take,if_pos l2,List.getElem?_drop,Array.getElem?_toList] at hj'
   rw [← R_some (ρ:=ρ) hi',← R_some (ρ:=ρ) hj']
   exact ua _ _ (Nat.zero_le _) (by lia) (by lia)
  ·obtain ⟨j,j1,j2,j3,ej⟩:=mem_part hy
   rw [← R_some (ρ:=ρ) ej]
   exact h.ca x hx j j1 j3
 ·rw [ho] at hx
  rcases List.mem_append.mp hx with hx | hx
  ·exact h.ca x hx j (by lia) j2
  ·obtain ⟨i,i1,i2,i3,ei⟩:=mem_part hx
   rw [← R_some (ρ:=ρ) ei]
   exact ua _ _ (Nat.zero_le _) (by lia) j2
 ·rw [ho] at hx
  rcases List.mem_append.mp hx with hx | hx
  ·exact h.cb x hx j j1 j2
  ·obtain ⟨i,i1,i2,i3,ei⟩:=mem_part hx
   rw [← R_some (ρ:=ρ) ei]
   exact hc i j i1 i2 j1 j2
theorem part_toList (a:Array Keyed) (i j:Nat):(a.extract i j).toList=(a.toList.drop i).take (j - i):=by
 rw [Array.toList_extract,List.extract_eq_take_drop]
theorem one_part {a:Array Keyed} {i:Nat} {x:Keyed} (h:a[i]? = some x):(a.toList.drop i).take 1=[x]:=by
 obtain ⟨hi,e⟩:=Array.getElem?_eq_some_iff.mp h
 rw [List.drop_eq_getElem_cons (by simpa using hi)]
 simp [e]
theorem J.push {ρ:Keyed->Int} {a b out:Array Keyed} {ia ib:Nat} {x:Keyed} (h:J ρ a b out ia ib) (ua:Up ρ a 0 a.size) (hx:a[ia]? = some x) (hc:∀ j,ib<=j->j < b.size->ρ x<=R ρ b j):J ρ a b (out.push x) (ia + 1) ib:=by
 have hi:=(Array.getElem?_eq_some_iff.mp hx).1
 refine h.more ua hi (by rw [one_part hx,Array.toList_push]) fun i j i1 i2 j1 j2=>?_
 obtain rfl:i=ia:=by lia
 rw [R_some hx]
 exact hc j j1 j2
theorem J.run {ρ:Keyed->Int} {a b out:Array Keyed} {ia ib k:Nat} (h:J ρ a b out ia ib) (ua:Up ρ a 0 a.size) (hk:ia + k<=a.size) (hc:∀ i j,ia<=i->i < ia + k->ib<=j->j < b.size->R ρ a i<=R ρ b j):J ρ a b (out++a.extract ia (ia + k)) (ia + k) ib :=
 h.more ua hk (by rw [Array.toList_append,part_toList];congr 2;lia) hc
def Both (ρ:Keyed->Int) (a b out:Array Keyed):Prop:=out.toList.Perm (a.toList++b.toList)/\out.toList.Pairwise fun x y=>ρ x<=ρ y
theorem J.all {ρ:Keyed->Int} {a b out:Array Keyed} {ia ib:Nat} (h:J ρ a b out ia ib) (ha:a.size<=ia) (hb:b.size<=ib):Both ρ a b out:=by
 refine ⟨?_,h.srt⟩
 have p:=h.perm
 rw [List.take_of_length_le (by simpa using ha),List.take_of_length_le (by simpa using hb)] at p
 exact p
theorem J.doneA {ρ:Keyed->Int} {a b out:Array Keyed} {ia ib:Nat} (h:J ρ a b out ia ib) (ub:Up ρ b 0 b.size) (ha:ia=a.size) (hb:ib<=b.size):Both ρ a b (out++a.extract ia a.size++b.extract ib b.size):=by
 have e:out++a.extract ia a.size=out:=by rw [ha];simp
 rw [e]
 have k:=(h.swap.run (k:=b.size - ib) ub (by lia) fun i j i1 i2 j1 j2=>by lia).swap
 rw [show ib + (b.size - ib)=b.size by lia] at k
 exact k.all (by lia) (Nat.le_refl _)
theorem J.doneB {ρ:Keyed->Int} {a b out:Array Keyed} {ia ib:Nat} (h:J ρ a b out ia ib) (ua:Up ρ a 0 a.size) (hb:ib=b.size) (ha:ia<=a.size):Both ρ a b (out++a.extract ia a.size++b.extract ib b.size):=by
 have k:=h.run (k:=a.size - ia) ua (by lia) fun i j i1 i2 j1 j2=>by lia
 rw [show ia + (a.size - ia)=a.size by lia] at k
 have e:out++a.extract ia a.size++b.extract ib b.size=out++a.extract ia a.size:=by rw [hb];simp
 rw [e]
 exact k.all (Nat.le_refl _) (by lia)
theorem J.last {ρ:Keyed->Int} {a b out:Array Keyed} {ia ib:Nat} (h:J ρ a b out ia ib) (ua:Up ρ a 0 a.size) (ub:Up ρ b 0 b.size) (ha:ia + 1=a.size) (hb:ib<=b.size) (hl:∀ j,j < b.size->R ρ b j<=R ρ a (a.size - 1)) :
  Both ρ a b (out++b.extract ib b.size++a.extract ia a.size):=by
 have k:=(h.swap.run (k:=b.size - ib) ub (by lia) fun i j i1 i2 j1 j2=>by
  rw [show j=a.size - 1 by lia]
  exact hl i (by lia)).swap
 rw [show ib + (b.size - ib)=b.size by lia] at k
 have k2:=k.run (k:=a.size - ia) ua (by lia) fun i j i1 i2 j1 j2=>by lia
 rw [show ia + (a.size - ia)=a.size by lia] at k2
 exact k2.all (Nat.le_refl _) (Nat.le_refl _)
def mergeLo':Array Keyed->Array Keyed->StateT SortSt Sem (Array Keyed):=sortPriv% PySem.Builtin.mergeLo
def setMinGallop':Nat->StateT SortSt Sem Unit:=sortPriv% PySem.Builtin.setMinGallop
abbrev setG (st:SortSt) (g:Nat):SortSt:=SortSt.mk' (kindOf st) (arrOf st) (pendingOf st) g (failedOf st)
section
variable {prog:Program} {w:World} {A:Around} {E:Value->Shared->Prop} {s:Shared} {κ:SortKind} {ρ:Keyed->Int} {a₀:Array Keyed}
theorem setG_ {st:SortSt} {g:Nat} {Q:Unit->SortSt->Prop} (h:Q () (setG st g)):wpS (model prog w) A E s (setMinGallop' g) Q st:=wpS_modify h
theorem Among.get {a:Array Keyed} (m:Among a₀ a) {i:Nat} (hi:i < a.size):∃ x,a[i]? = some x/\x∈a₀.toList/\R ρ a i=ρ x:=by
 obtain ⟨x,ex,mx⟩:=m i hi
 exact ⟨x,ex,mx,R_some ex⟩
structure Way (ρ:Keyed->Int) (a b out:Array Keyed) (ia ib n:Nat):Prop where
 j:J ρ a b out ia ib
 ha:ia + 1 < a.size
 hb:ib < b.size
 hn:n<=ia + ib
def Step (ρ:Keyed->Int) (a b:Array Keyed) (st:SortSt) (n:Nat):ForInStep (Option (Array Keyed)×Array Keyed×Nat×Nat×Nat×Nat×Nat)->SortSt->Prop
 | .done c,st'=>∃ g,st'=setG st g/\((∃ r z,c=(some r,z)/\Both ρ a b r)\/∃ out ia ib mg ac bc,c=(none,out,ia,ib,mg,ac,bc)/\Way ρ a b out ia ib n)
 | .yield c,st'=>∃ g out ia ib mg ac bc,st'=setG st g/\c=(none,out,ia,ib,mg,ac,bc)/\Way ρ a b out ia ib n
theorem goes_mono {left:Bool} {key:Keyed} {arr:Array Keyed} {base n:Nat} (u:Up ρ arr base (base + n)):∀ i j,i<=j->j < n->goes ρ left key arr (base + j)=true->goes ρ left key arr (base + i)=true:=by
 intro i j hij hj h
 have:=u (base + i) (base + j) (by lia) (by lia) (by lia)
 unfold goes at h ⊢
 cases left with
 | true=>simp only [if_true,decide_eq_true_eq] at h ⊢;lia
 | false=>simp only [Bool.false_eq_true,if_false,Bool.not_eq_true',decide_eq_false_iff_not] at h ⊢;lia
theorem goesT {key:Keyed} {arr:Array Keyed} {i:Nat}:goes ρ true key arr i=decide (R ρ arr i < ρ key):=rfl
theorem goesF {key:Keyed} {arr:Array Keyed} {i:Nat}:goes ρ false key arr i=!decide (ρ key < R ρ arr i):=rfl
theorem Up.part {xs:Array Keyed} {lo hi lo' hi':Nat} (h:Up ρ xs lo hi) (h1:lo<=lo') (h2:hi'<=hi):Up ρ xs lo' hi':=fun i j q1 q2 q3=>h i j (by lia) q2 (by lia)
theorem mergeLo_ {st:SortSt} {Q:Array Keyed->SortSt->Prop} {a b:Array Keyed} (T:Told prog w A s κ ρ a₀) (hk:kindOf st=κ) (ua:Up ρ a 0 a.size) (ub:Up ρ b 0 b.size) (ma:Among a₀ a) (mb:Among a₀ b) (za:0 < a.size) (zb:0 < b.size)
  (hf:R ρ b 0<=R ρ a 0) (hl:∀ j,j < b.size->R ρ b j<=R ρ a (a.size - 1)) (h:∀ out g,Both ρ a b out->Q out (setG st g)):wpS (model prog w) A E s (mergeLo' a b) Q st:=by
 obtain ⟨b0,eb0,mb0,rb0⟩:=mb.get (ρ:=ρ) zb
 have j0:J ρ a b #[] 0 0:=⟨by simp,by simp,by simp,by simp⟩
 have j1:J ρ a b #[b0] 0 1:=(j0.swap.push ub eb0 fun j _ hj=>by
  have:=ua 0 j (Nat.le_refl _) (Nat.zero_le _) hj
  lia).swap
 clear hf rb0
 have hQ:∀ out,Both ρ a b out->Q out st:=fun out q=>h out (gallopOf st) q
 unfold mergeLo'
 refine wpS_bind (wpS_lift (wpAny_rule ⟨rfl,?_⟩))
 refine wpS_bind (elem_ eb0 ?_)
 by_cases c1:(1 == b.size)=true
 ·show wpS _ _ _ _ (if (1 == b.size)=true then _ else _) _ _
  rw [if_pos c1]
  exact wpS_pure (hQ _ (j1.doneB ua (by simpa using c1) (Nat.zero_le _)))
 ·have e1:¬ 1=b.size:=by simpa using c1
  show wpS _ _ _ _ (if (1 == b.size)=true then _ else _) _ _
  rw [if_neg c1]
  by_cases c2:(0 + 1 == a.size)=true
  ·show wpS _ _ _ _ (if (0 + 1 == a.size)=true then _ else _) _ _
   rw [if_pos c2]
   exact wpS_pure (hQ _ (j1.last ua ub (by simpa using c2) (by lia) hl))
  ·have e2:¬ 0 + 1=a.size:=by simpa using c2
   show wpS _ _ _ _ (if (0 + 1 == a.size)=true then _ else _) _ _
   rw [if_neg c2]
   refine wpS_bind (wpS_get ?_)
   refine wpS_bind (wpS_mono (wpS_forRange (I:=fun x c st'=>∃ g out ia ib mg,st'=setG st g/\c=(none,out,ia,ib,mg)/\Way ρ a b out ia ib (x + 1))
    (Q:=fun c st'=>∃ g r z,st'=setG st g/\c=(some r,z)/\Both ρ a b r) ?_ ?_ ?_) ?_)
   ·rintro x c st' _ hx ⟨g,out,ia,ib,mg,rfl,rfl,W⟩
    refine wpS_bind (wpS_mono (wpS_forRange (I:=fun y c st'=>st'=setG st g/\∃ out ia ib ac bc,c=(none,out,ia,ib,ac,bc)/\Way ρ a b out ia ib (x + 1 + y))
     (Q:=fun c st'=>st'=setG st g/\((∃ r z,c=(some r,z)/\Both ρ a b r)\/∃ out ia ib ac bc,c=(none,out,ia,ib,ac,bc)/\Way ρ a b out ia ib (x + 1 + 1))) ?_ ?_ ?_) ?_)
    ·rintro y c st' _ hy ⟨rfl,out,ia,ib,ac,bc,rfl,W⟩
     obtain ⟨ya,ea,mya,ra⟩:=ma.get (ρ:=ρ) (show ia < a.size by have:=W.ha;lia)
     obtain ⟨yb,eb,myb,rb⟩:=mb.get (ρ:=ρ) W.hb
     refine wpS_bind (elem_ eb (wpS_bind (elem_ ea (wpS_bind (lt_ T hk myb mya ?_)))))
     have wa:=W.ha
     have wb:=W.hb
     have wn:=W.hn
     by_cases c3:ρ yb < ρ ya
     ·rw [decide_eq_true c3]
      dsimp only
      rw [if_pos rfl]
      refine wpS_bind (elem_ eb ?_)
      have jj:J ρ a b (out.push yb) ia (ib + 1):=(W.j.swap.push ub eb fun j j1 j2=>by
       have:=ua ia j (Nat.zero_le _) j1 j2
       lia).swap
      clear ra rb c3
      by_cases c4:(ib + 1 == b.size)=true
      ·rw [if_pos c4]
       exact wpS_pure ⟨rfl,.inl ⟨_,_,rfl,jj.doneB ua (by simpa using c4) (by lia)⟩⟩
      ·rw [if_neg c4]
       have e4:¬ ib + 1=b.size:=by simpa using c4
       split
       ·exact wpS_pure ⟨rfl,.inr ⟨_,_,_,_,_,rfl,jj,wa,by lia,by lia⟩⟩
       ·exact wpS_pure ⟨rfl,_,_,_,_,_,rfl,jj,wa,by lia,by lia⟩
     ·rw [decide_eq_false c3]
      dsimp only
      rw [if_neg (by decide)]
      refine wpS_bind (elem_ ea ?_)
      have jj:J ρ a b (out.push ya) (ia + 1) ib:=W.j.push ua ea fun j j1 j2=>by
       have:=ub ib j (Nat.zero_le _) j1 j2
       lia
      clear ra rb c3
      by_cases c4:(ia + 1 + 1 == a.size)=true
      ·rw [if_pos c4]
       exact wpS_pure ⟨rfl,.inl ⟨_,_,rfl,jj.last ua ub (by simpa using c4) (by lia) hl⟩⟩
      ·rw [if_neg c4]
       have e4:¬ ia + 1 + 1=a.size:=by simpa using c4
       split
       ·exact wpS_pure ⟨rfl,.inr ⟨_,_,_,_,_,rfl,jj,by lia,wb,by lia⟩⟩
       ·exact wpS_pure ⟨rfl,_,_,_,_,_,rfl,jj,by lia,wb,by lia⟩
    ·rintro c st' ⟨rfl,out,ia,ib,ac,bc,rfl,W⟩
     refine ⟨rfl,.inr ⟨_,_,_,_,_,rfl,W.j,W.ha,W.hb,?_⟩⟩
     have:=W.hn
     simp at this
     lia
    ·exact ⟨rfl,_,_,_,_,_,rfl,W⟩
    ·rintro c st' ⟨rfl,⟨r,z,rfl,hr⟩ | ⟨out,ia,ib,ac,bc,rfl,W⟩⟩
     ·exact wpS_pure ⟨g,r,_,rfl,rfl,hr⟩
     ·refine wpS_bind (wpS_lift (wpAny_rule ⟨rfl,?_⟩))
      refine wpS_bind (wpS_mono (wpS_forRange (I:=fun y c st'=>∃ g out ia ib mg ac bc,st'=setG st g/\c=(none,out,ia,ib,mg,ac,bc)/\Way ρ a b out ia ib (x + 1 + 1))
       (Q:=fun c st'=>∃ g,st'=setG st g/\((∃ r z,c=(some r,z)/\Both ρ a b r)\/∃ out ia ib mg ac bc,c=(none,out,ia,ib,mg,ac,bc)/\Way ρ a b out ia ib (x + 1 + 1))) ?_ ?_ ?_) ?_)
      ·rintro y c st' _ hy ⟨g,out,ia,ib,mg,ac,bc,rfl,rfl,W⟩
       refine wpS_mono (Q:=Step ρ a b st (x + 1 + 1)) ?_ fun r st' hr=>by cases r <;> exact hr
       extract_lets -merge -underBinder _ _ _ _ _ _ _ _ _ _ _ jp
       have wa:=W.ha
       have wb:=W.hb
       have wn:=W.hn
       obtain ⟨yb,eb,myb,rb⟩:=mb.get (ρ:=ρ) wb
       have hj:∀ m g,wpS (model prog w) A E s (jp () m) (Step ρ a b st (x + 1 + 1)) (setG st g):=by
        intro m g
        refine wpS_bind (setG_ (wpS_bind (elem_ eb (wpS_bind (gallop_ (key:=yb) (arr:=a) (base:=ia) (n:=a.size - ia) (hint:=0) T hk myb ma (by lia) (by lia) (goes_mono (ua.part (Nat.zero_le _) (by lia))) fun k k1 k2 k3=>?_)))))
        try dsimp -zeta only
        extract_lets -merge -underBinder ac' jp2
        have jk:J ρ a b (out++a.extract ia (ia + k)) (ia + k) ib:=W.j.run ua (by lia) fun i j i1 i2 j1 j2=>by
         have g1:=k2 (i - ia) (by lia)
         rw [show ia + (i - ia)=i by lia,goesF] at g1
         have g2:=ub ib j (Nat.zero_le _) j1 j2
         simp at g1
         lia
        have beh:∀ j,ia + k<=j->j < a.size->ρ yb<=R ρ a j:=fun j j1 j2=>by
         have g1:=k3 (j - ia) (by lia) (by lia)
         rw [show ia + (j - ia)=j by lia,goesF] at g1
         simp at g1
         lia
        clear rb
        have hj2:∀ out' ia',J ρ a b out' ia' ib->ia'=ia + k->ia' + 1 < a.size->wpS (model prog w) A E s (jp2 () out' ia') (Step ρ a b st (x + 1 + 1)) (setG st m):=by
         intro out' ia' jk hi ha'
         refine wpS_bind (elem_ eb ?_)
         have jj:J ρ a b (out'.push yb) ia' (ib + 1):=(jk.swap.push ub eb fun j j1 j2=>beh j (by lia) j2).swap
         try dsimp -zeta only
         extract_lets -merge -underBinder o2 ib2
         by_cases c4:(ib + 1 == b.size)=true
         ·show wpS _ _ _ _ (if (ib + 1 == b.size)=true then _ else _) _ _
          rw [if_pos c4]
          exact wpS_pure ⟨_,rfl,.inl ⟨_,_,rfl,jj.doneB ua (by simpa using c4) (by lia)⟩⟩
         ·have e4:¬ ib + 1=b.size:=by simpa using c4
          show wpS _ _ _ _ (if (ib + 1 == b.size)=true then _ else _) _ _
          rw [if_neg c4]
          obtain ⟨ya,ea,mya,ra⟩:=ma.get (ρ:=ρ) (show ia' < a.size by lia)
          refine wpS_bind (elem_ ea (wpS_bind (gallop_ (key:=ya) (arr:=b) (base:=ib + 1) (n:=b.size - (ib + 1)) (hint:=0) T hk mya mb (by lia) (by lia) (goes_mono (ub.part (Nat.zero_le _) (by lia))) fun k' k1 k2 k3=>?_)))
          try dsimp -zeta only
          extract_lets -merge -underBinder bc' jp3
          have jk':J ρ a b (out'.push yb++b.extract (ib + 1) (ib + 1 + k')) ia' (ib + 1 + k'):=(jj.swap.run ub (by lia) fun i j i1 i2 j1 j2=>by
           have g1:=k2 (i - (ib + 1)) (by lia)
           rw [show ib + 1 + (i - (ib + 1))=i by lia,goesT] at g1
           have g2:=ua ia' j (Nat.zero_le _) j1 j2
           simp at g1
           lia).swap
          have beh':∀ j,ib + 1 + k'<=j->j < b.size->ρ ya<=R ρ b j:=fun j j1 j2=>by
           have g1:=k3 (j - (ib + 1)) (by lia) (by lia)
           rw [show ib + 1 + (j - (ib + 1))=j by lia,goesT] at g1
           simp at g1
           lia
          clear ra
          have hj3:∀ out' ib',J ρ a b out' ia' ib'->ib'=ib + 1 + k'->ib' < b.size->wpS (model prog w) A E s (jp3 () out' ib') (Step ρ a b st (x + 1 + 1)) (setG st m):=by
           intro out' ib' jk hi hb'
           refine wpS_bind (elem_ ea ?_)
           have jj:J ρ a b (out'.push ya) (ia' + 1) ib':=jk.push ua ea fun j j1 j2=>beh' j (by lia) j2
           by_cases c5:(ia' + 1 + 1 == a.size)=true
           ·show wpS _ _ _ _ (if (ia' + 1 + 1 == a.size)=true then _ else _) _ _
            rw [if_pos c5]
            exact wpS_pure ⟨_,rfl,.inl ⟨_,_,rfl,jj.last ua ub (by simpa using c5) (by lia) hl⟩⟩
           ·have e5:¬ ia' + 1 + 1=a.size:=by simpa using c5
            show wpS _ _ _ _ (if (ia' + 1 + 1 == a.size)=true then _ else _) _ _
            rw [if_neg c5]
            split
            ·exact wpS_pure ⟨_,rfl,.inr ⟨_,_,_,_,_,_,rfl,jj,by lia,by lia,by lia⟩⟩
            ·exact wpS_pure ⟨_,_,_,_,_,_,_,rfl,rfl,jj,by lia,by lia,by lia⟩
          clear_value jp3
          by_cases c6:k' > 0
          ·rw [if_pos c6]
           by_cases c7:(ib + 1 + k' == b.size)=true
           ·show wpS _ _ _ _ (if (ib + 1 + k' == b.size)=true then _ else _) _ _
            rw [if_pos c7]
            exact wpS_pure ⟨_,rfl,.inl ⟨_,_,rfl,jk'.doneB ua (by simpa using c7) (by lia)⟩⟩
           ·have e7:¬ ib + 1 + k'=b.size:=by simpa using c7
            show wpS _ _ _ _ (if (ib + 1 + k' == b.size)=true then _ else _) _ _
            rw [if_neg c7]
            exact hj3 _ (ib + 1 + k') jk' rfl (by lia)
          ·rw [if_neg c6]
           exact hj3 _ (ib + 1) jj (by lia) (by lia)
        clear_value jp2
        by_cases c6:k > 0
        ·rw [if_pos c6]
         by_cases c7:(ia + k + 1 == a.size)=true
         ·show wpS _ _ _ _ (if (ia + k + 1 == a.size)=true then _ else _) _ _
          rw [if_pos c7]
          exact wpS_pure ⟨_,rfl,.inl ⟨_,_,rfl,jk.last ua ub (by simpa using c7) (by lia) hl⟩⟩
         ·have e7:¬ ia + k + 1=a.size:=by simpa using c7
          show wpS _ _ _ _ (if (ia + k + 1 == a.size)=true then _ else _) _ _
          rw [if_neg c7]
          by_cases c8:(ia + k == a.size)=true
          ·show wpS _ _ _ _ (if (ia + k == a.size)=true then _ else _) _ _
           rw [if_pos c8]
           exact wpS_pure ⟨_,rfl,.inl ⟨_,_,rfl,jk.doneA ub (by simpa using c8) (by lia)⟩⟩
          ·have e8:¬ ia + k=a.size:=by simpa using c8
           show wpS _ _ _ _ (if (ia + k == a.size)=true then _ else _) _ _
           rw [if_neg c8]
           exact hj2 _ (ia + k) jk rfl (by lia)
        ·rw [if_neg c6]
         exact hj2 _ ia W.j (by lia) (by lia)
       clear_value jp
       split
       ·exact hj _ _
       ·exact hj _ _
      ·rintro c st' ⟨g,out,ia,ib,mg,ac,bc,rfl,rfl,W⟩
       exact ⟨g,rfl,.inr ⟨_,_,_,_,_,_,rfl,W⟩⟩
      ·exact ⟨g,_,_,_,_,_,_,rfl,rfl,W⟩
      ·rintro c st' ⟨g,rfl,⟨r,z,rfl,hr⟩ | ⟨out,ia,ib,mg,ac,bc,rfl,W⟩⟩
       ·exact wpS_pure ⟨g,r,_,rfl,rfl,hr⟩
       ·exact wpS_bind (setG_ (wpS_pure ⟨_,_,_,_,_,rfl,rfl,W⟩))
   ·rintro c st' ⟨g,out,ia,ib,mg,rfl,rfl,W⟩
    have wa:=W.ha
    have wb:=W.hb
    have wn:=W.hn
    simp at wn
    lia
   ·exact ⟨gallopOf st,_,_,_,_,rfl,rfl,j1,by lia,by lia,by lia⟩
   ·rintro c st' ⟨g,r,z,rfl,rfl,hr⟩
    exact wpS_pure (h r g hr)
end
structure H (ρ:Keyed->Int) (a b out:Array Keyed) (na nb:Nat):Prop where
 perm:out.toList.Perm (a.toList.drop na++b.toList.drop nb)
 srt:out.toList.Pairwise fun x y=>ρ y<=ρ x
 ca:∀ x,x∈out.toList->∀ j,j < na->R ρ a j<=ρ x
 cb:∀ x,x∈out.toList->∀ j,j < nb->R ρ b j<=ρ x
theorem H.swap {ρ:Keyed->Int} {a b out:Array Keyed} {na nb:Nat} (h:H ρ a b out na nb):H ρ b a out nb na:=⟨h.perm.trans List.perm_append_comm,h.srt,h.cb,h.ca⟩
theorem H.more {ρ:Keyed->Int} {a b out out':Array Keyed} {na nb m:Nat} (h:H ρ a b out na nb) (ua:Up ρ a 0 a.size) (hm:m<=na) (hz:na<=a.size) (ho:out'.toList=out.toList++((a.toList.drop m).take (na - m)).reverse)
  (hc:∀ i j,m<=i->i < na->j < nb->R ρ b j<=R ρ a i):H ρ a b out' m nb:=by
 have e:a.toList.drop m=(a.toList.drop m).take (na - m)++a.toList.drop na:=by
  have:=(List.take_append_drop (na - m) (a.toList.drop m)).symm
  rwa [List.drop_drop,show m + (na - m)=na by lia] at this
 refine ⟨?_,?_,fun x hx j j1=>?_,fun x hx j j1=>?_⟩
 ·rw [ho]
  have p1:=((a.toList.drop m).take (na - m)).reverse_perm
  refine (h.perm.append_right _).trans (List.perm_append_comm.trans ((p1.append_right _).trans ?_))
  rw [← List.append_assoc,← e]
 ·rw [ho]
  refine List.pairwise_append.mpr ⟨h.srt,?_,fun x hx y hy=>?_⟩
  ·rw [List.pairwise_reverse,List.pairwise_iff_getElem]
   intro i j hi hj hij
   have hi':((a.toList.drop m).take (na - m))[i]? = some ((a.toList.drop m).take (na - m))[i]:=List.getElem?_eq_getElem hi
   have hj':((a.toList.drop m).take (na - m))[j]? = some ((a.toList.drop m).take (na - m))[j]:=List.getElem?_eq_getElem hj
   have l1:i < na - m:=by simp at hi;lia
   have l2:j < na - m:=by simp at hj;lia
   rw [List.getElem?_take,if_pos l1,List.getElem?_drop,Array.getElem?_toList] at hi'
   rw [List.getElem?_take,if_pos l2,List.getElem?_drop,Array.getElem?_toList] at hj'
   rw [← R_some (ρ:=ρ) hi',← R_some (ρ:=ρ) hj']
   exact ua _ _ (Nat.zero_le _) (by lia) (by lia)
  ·obtain ⟨j,j1,j2,j3,ej⟩:=mem_part (List.mem_reverse.mp hy)
   rw [← R_some (ρ:=ρ) ej]
   exact h.ca x hx j (by lia)
 ·rw [ho] at hx
  rcases List.mem_append.mp hx with hx | hx
  ·exact h.ca x hx j (by lia)
  ·obtain ⟨i,i1,i2,i3,ei⟩:=mem_part (List.mem_reverse.mp hx)
   rw [← R_some (ρ:=ρ) ei]
   exact ua _ _ (Nat.zero_le _) (by lia) i3
 ·rw [ho] at hx
  rcases List.mem_append.mp hx with hx | hx
  ·exact h.cb x hx j j1
  ·obtain ⟨i,i1,i2,i3,ei⟩:=mem_part (List.mem_reverse.mp hx)
   rw [← R_some (ρ:=ρ) ei]
   exact hc i j i1 (by lia) j1
theorem H.push {ρ:Keyed->Int} {a b out:Array Keyed} {na nb:Nat} {x:Keyed} (h:H ρ a b out na nb) (ua:Up ρ a 0 a.size) (h1:1<=na) (hz:na<=a.size) (hx:a[na - 1]? = some x) (hc:∀ j,j < nb->R ρ b j<=ρ x):H ρ a b (out.push x) (na - 1) nb:=by
 refine h.more ua (by lia) hz (by rw [show na - (na - 1)=1 by lia,one_part hx,Array.toList_push];rfl) fun i j i1 i2 j1=>?_
 obtain rfl:i=na - 1:=by lia
 rw [R_some hx]
 exact hc j j1
theorem H.run {ρ:Keyed->Int} {a b out:Array Keyed} {na nb m:Nat} (h:H ρ a b out na nb) (ua:Up ρ a 0 a.size) (hm:m<=na) (hz:na<=a.size) (hc:∀ i j,m<=i->i < na->j < nb->R ρ b j<=R ρ a i):H ρ a b (out++(a.extract m na).reverse) m nb :=
 h.more ua hm hz (by rw [Array.toList_append,Array.toList_reverse,part_toList]) hc
theorem H.all {ρ:Keyed->Int} {a b out:Array Keyed} (h:H ρ a b out 0 0):Both ρ a b out.reverse:=by
 refine ⟨?_,?_⟩
 ·rw [Array.toList_reverse]
  exact (List.reverse_perm _).trans h.perm
 ·rw [Array.toList_reverse,List.pairwise_reverse]
  exact h.srt
theorem H.doneA {ρ:Keyed->Int} {a b out:Array Keyed} {na nb:Nat} (h:H ρ a b out na nb) (ub:Up ρ b 0 b.size) (ha:na=0) (hb:nb<=b.size):Both ρ a b (a.extract 0 na++b.extract 0 nb++out.reverse):=by
 subst ha
 have k:=(h.swap.run (m:=0) ub (Nat.zero_le _) hb fun i j i1 i2 j1=>by lia).swap
 have q:=k.all
 have e:(out++(b.extract 0 nb).reverse).reverse=a.extract 0 0++b.extract 0 nb++out.reverse:=by
  apply Array.toList_inj.mp
  simp
 rw [e] at q
 exact q
theorem H.doneB {ρ:Keyed->Int} {a b out:Array Keyed} {na nb:Nat} (h:H ρ a b out na nb) (ua:Up ρ a 0 a.size) (hb:nb=0) (ha:na<=a.size):Both ρ a b (a.extract 0 na++b.extract 0 nb++out.reverse):=by
 subst hb
 have k:=h.run (m:=0) ua (Nat.zero_le _) ha fun i j i1 i2 j1=>by lia
 have q:=k.all
 have e:(out++(a.extract 0 na).reverse).reverse=a.extract 0 na++b.extract 0 0++out.reverse:=by
  apply Array.toList_inj.mp
  simp
 rw [e] at q
 exact q
theorem H.first {ρ:Keyed->Int} {a b out:Array Keyed} {na nb:Nat} (h:H ρ a b out na nb) (ua:Up ρ a 0 a.size) (ub:Up ρ b 0 b.size) (hb:nb=1) (hz:nb<=b.size) (ha:na<=a.size) (hf:∀ j,j < a.size->R ρ b 0<=R ρ a j) :
  Both ρ a b (b.extract 0 nb++a.extract 0 na++out.reverse):=by
 have k:=h.run (m:=0) ua (Nat.zero_le _) ha fun i j i1 i2 j1=>by
  rw [show j=0 by lia]
  exact hf i (by lia)
 have k2:=(k.swap.run (m:=0) ub (Nat.zero_le _) hz fun i j i1 i2 j1=>by lia).swap
 have q:=k2.all
 have e:(out++(a.extract 0 na).reverse++(b.extract 0 nb).reverse).reverse=b.extract 0 nb++a.extract 0 na++out.reverse:=by
  apply Array.toList_inj.mp
  simp
 rw [e] at q
 exact q
def mergeHi':Array Keyed->Array Keyed->StateT SortSt Sem (Array Keyed):=sortPriv% PySem.Builtin.mergeHi
structure WayH (ρ:Keyed->Int) (a b out:Array Keyed) (na nb n:Nat):Prop where
 j:H ρ a b out na nb
 ha:1<=na
 za:na<=a.size
 hb:2<=nb
 zb:nb<=b.size
 hn:n + na + nb<=a.size + b.size
def StepH (ρ:Keyed->Int) (a b:Array Keyed) (st:SortSt) (n:Nat):ForInStep (Option (Array Keyed)×Nat×Nat×Array Keyed×Nat×Nat×Nat)->SortSt->Prop
 | .done c,st'=>∃ g,st'=setG st g/\((∃ r z,c=(some r,z)/\Both ρ a b r)\/∃ out na nb mg ac bc,c=(none,na,nb,out,mg,ac,bc)/\WayH ρ a b out na nb n)
 | .yield c,st'=>∃ g out na nb mg ac bc,st'=setG st g/\c=(none,na,nb,out,mg,ac,bc)/\WayH ρ a b out na nb n
section
variable {prog:Program} {w:World} {A:Around} {E:Value->Shared->Prop} {s:Shared} {κ:SortKind} {ρ:Keyed->Int} {a₀:Array Keyed}
theorem mergeHi_ {st:SortSt} {Q:Array Keyed->SortSt->Prop} {a b:Array Keyed} (T:Told prog w A s κ ρ a₀) (hk:kindOf st=κ) (ua:Up ρ a 0 a.size) (ub:Up ρ b 0 b.size) (ma:Among a₀ a) (mb:Among a₀ b) (za:0 < a.size) (zb:0 < b.size)
  (hf:∀ j,j < a.size->R ρ b 0<=R ρ a j) (hl:∀ j,j < b.size->R ρ b j<=R ρ a (a.size - 1)) (h:∀ out g,Both ρ a b out->Q out (setG st g)):wpS (model prog w) A E s (mergeHi' a b) Q st:=by
 obtain ⟨a0,ea0,ma0,ra0⟩:=ma.get (ρ:=ρ) (show a.size - 1 < a.size by lia)
 have j0:H ρ a b #[] a.size b.size:=⟨by simp,by simp,by simp,by simp⟩
 have j1:H ρ a b #[a0] (a.size - 1) b.size:=j0.push ua za (Nat.le_refl _) ea0 fun j hj=>by
  have:=hl j hj
  lia
 clear ra0
 have hQ:∀ out,Both ρ a b out->Q out st:=fun out q=>h out (gallopOf st) q
 unfold mergeHi'
 refine wpS_bind (wpS_lift (wpAny_rule ⟨rfl,?_⟩))
 refine wpS_bind (elem_ ea0 ?_)
 by_cases c1:(a.size - 1 == 0)=true
 ·show wpS _ _ _ _ (if (a.size - 1 == 0)=true then _ else _) _ _
  rw [if_pos c1]
  exact wpS_pure (hQ _ (j1.doneA ub (by simpa using c1) (Nat.le_refl _)))
 ·have e1:¬ a.size - 1=0:=by simpa using c1
  show wpS _ _ _ _ (if (a.size - 1 == 0)=true then _ else _) _ _
  rw [if_neg c1]
  by_cases c2:(b.size == 1)=true
  ·show wpS _ _ _ _ (if (b.size == 1)=true then _ else _) _ _
   rw [if_pos c2]
   exact wpS_pure (hQ _ (j1.first ua ub (by simpa using c2) (Nat.le_refl _) (by lia) hf))
  ·have e2:¬ b.size=1:=by simpa using c2
   show wpS _ _ _ _ (if (b.size == 1)=true then _ else _) _ _
   rw [if_neg c2]
   refine wpS_bind (wpS_get ?_)
   refine wpS_bind (wpS_mono (wpS_forRange (I:=fun x c st'=>∃ g out na nb mg,st'=setG st g/\c=(none,na,nb,out,mg)/\WayH ρ a b out na nb (x + 1))
    (Q:=fun c st'=>∃ g r z,st'=setG st g/\c=(some r,z)/\Both ρ a b r) ?_ ?_ ?_) ?_)
   ·rintro x c st' _ hx ⟨g,out,na,nb,mg,rfl,rfl,W⟩
    refine wpS_bind (wpS_mono (wpS_forRange (I:=fun y c st'=>st'=setG st g/\∃ out na nb ac bc,c=(none,na,nb,out,ac,bc)/\WayH ρ a b out na nb (x + 1 + y))
     (Q:=fun c st'=>st'=setG st g/\((∃ r z,c=(some r,z)/\Both ρ a b r)\/∃ out na nb ac bc,c=(none,na,nb,out,ac,bc)/\WayH ρ a b out na nb (x + 1 + 1))) ?_ ?_ ?_) ?_)
    ·rintro y c st' _ hy ⟨rfl,out,na,nb,ac,bc,rfl,⟨wj,w1,w2,w3,w4,w5⟩⟩
     obtain ⟨ya,ea,mya,ra⟩:=ma.get (ρ:=ρ) (show na - 1 < a.size by lia)
     obtain ⟨yb,eb,myb,rb⟩:=mb.get (ρ:=ρ) (show nb - 1 < b.size by lia)
     refine wpS_bind (elem_ eb (wpS_bind (elem_ ea (wpS_bind (lt_ T hk myb mya ?_)))))
     by_cases c3:ρ yb < ρ ya
     ·rw [decide_eq_true c3]
      dsimp only
      rw [if_pos rfl]
      refine wpS_bind (elem_ ea ?_)
      have jj:H ρ a b (out.push ya) (na - 1) nb:=wj.push ua w1 w2 ea fun j j1=>by
       have:=ub j (nb - 1) (Nat.zero_le _) (by lia) (by lia)
       lia
      clear ra rb c3
      by_cases c4:(na - 1 == 0)=true
      ·rw [if_pos c4]
       exact wpS_pure ⟨rfl,.inl ⟨_,_,rfl,jj.doneA ub (by simpa using c4) w4⟩⟩
      ·rw [if_neg c4]
       have e4:¬ na - 1=0:=by simpa using c4
       split
       ·exact wpS_pure ⟨rfl,.inr ⟨_,_,_,_,_,rfl,jj,by lia,by lia,w3,w4,by lia⟩⟩
       ·exact wpS_pure ⟨rfl,_,_,_,_,_,rfl,jj,by lia,by lia,w3,w4,by lia⟩
     ·rw [decide_eq_false c3]
      dsimp only
      rw [if_neg (by decide)]
      refine wpS_bind (elem_ eb ?_)
      have jj:H ρ a b (out.push yb) na (nb - 1):=(wj.swap.push ub (by lia) w4 eb fun j j1=>by
       have:=ua j (na - 1) (Nat.zero_le _) (by lia) (by lia)
       lia).swap
      clear ra rb c3
      by_cases c4:(nb - 1 == 1)=true
      ·rw [if_pos c4]
       exact wpS_pure ⟨rfl,.inl ⟨_,_,rfl,jj.first ua ub (by simpa using c4) (by lia) w2 hf⟩⟩
      ·rw [if_neg c4]
       have e4:¬ nb - 1=1:=by simpa using c4
       split
       ·exact wpS_pure ⟨rfl,.inr ⟨_,_,_,_,_,rfl,jj,w1,w2,by lia,by lia,by lia⟩⟩
       ·exact wpS_pure ⟨rfl,_,_,_,_,_,rfl,jj,w1,w2,by lia,by lia,by lia⟩
    ·rintro c st' ⟨rfl,out,na,nb,ac,bc,rfl,⟨wj,w1,w2,w3,w4,w5⟩⟩
     refine ⟨rfl,.inr ⟨_,_,_,_,_,rfl,wj,w1,w2,w3,w4,?_⟩⟩
     simp at w5
     lia
    ·exact ⟨rfl,_,_,_,_,_,rfl,W⟩
    ·rintro c st' ⟨rfl,⟨r,z,rfl,hr⟩ | ⟨out,na,nb,ac,bc,rfl,W⟩⟩
     ·exact wpS_pure ⟨g,r,_,rfl,rfl,hr⟩
     ·refine wpS_bind (wpS_lift (wpAny_rule ⟨rfl,?_⟩))
      refine wpS_bind (wpS_mono (wpS_forRange (I:=fun y c st'=>∃ g out na nb mg ac bc,st'=setG st g/\c=(none,na,nb,out,mg,ac,bc)/\WayH ρ a b out na nb (x + 1 + 1))
       (Q:=fun c st'=>∃ g,st'=setG st g/\((∃ r z,c=(some r,z)/\Both ρ a b r)\/∃ out na nb mg ac bc,c=(none,na,nb,out,mg,ac,bc)/\WayH ρ a b out na nb (x + 1 + 1))) ?_ ?_ ?_) ?_)
      ·rintro y c st' _ hy ⟨g,out,na,nb,mg,ac,bc,rfl,rfl,⟨wj,w1,w2,w3,w4,w5⟩⟩
       refine wpS_mono (Q:=StepH ρ a b st (x + 1 + 1)) ?_ fun r st' hr=>by cases r <;> exact hr
       extract_lets -merge -underBinder _ _ _ _ _ _ _ _ _ _ _ jp
       obtain ⟨yb,eb,myb,rb⟩:=mb.get (ρ:=ρ) (show nb - 1 < b.size by lia)
       have hj:∀ m g,wpS (model prog w) A E s (jp () m) (StepH ρ a b st (x + 1 + 1)) (setG st g):=by
        intro m g
        refine wpS_bind (setG_ (wpS_bind (elem_ eb (wpS_bind (gallop_ (key:=yb) (arr:=a) (base:=0) (n:=na) (hint:=na - 1) T hk myb ma (by lia) (by lia) (goes_mono (ua.part (Nat.le_refl _) (by lia))) fun k k1 k2 k3=>?_)))))
        try dsimp -zeta only
        extract_lets -merge -underBinder kk ac' jp2
        have jk:H ρ a b (out++(a.extract k na).reverse) k nb:=wj.run ua k1 w2 fun i j i1 i2 j1=>by
         have g1:=k3 i i1 i2
         rw [Nat.zero_add,goesF] at g1
         have g2:=ub j (nb - 1) (Nat.zero_le _) (by lia) (by lia)
         simp at g1
         lia
        have beh:∀ j,j < k->R ρ a j<=ρ yb:=fun j j1=>by
         have g1:=k2 j j1
         rw [Nat.zero_add,goesF] at g1
         simp at g1
         lia
        clear rb
        have hj2:∀ na' out',H ρ a b out' na' nb->na'=k->1<=na'->wpS (model prog w) A E s (jp2 () na' out') (StepH ρ a b st (x + 1 + 1)) (setG st m):=by
         intro na' out' jk hi ha'
         refine wpS_bind (elem_ eb ?_)
         have jj:H ρ a b (out'.push yb) na' (nb - 1):=(jk.swap.push ub (by lia) w4 eb fun j j1=>beh j (by lia)).swap
         by_cases c4:(nb - 1 == 1)=true
         ·show wpS _ _ _ _ (if (nb - 1 == 1)=true then _ else _) _ _
          rw [if_pos c4]
          exact wpS_pure ⟨_,rfl,.inl ⟨_,_,rfl,jj.first ua ub (by simpa using c4) (by lia) (by lia) hf⟩⟩
         ·have e4:¬ nb - 1=1:=by simpa using c4
          show wpS _ _ _ _ (if (nb - 1 == 1)=true then _ else _) _ _
          rw [if_neg c4]
          obtain ⟨ya,ea,mya,ra⟩:=ma.get (ρ:=ρ) (show na' - 1 < a.size by lia)
          refine wpS_bind (elem_ ea (wpS_bind (gallop_ (key:=ya) (arr:=b) (base:=0) (n:=nb - 1) (hint:=nb - 1 - 1) T hk mya mb (by lia) (by lia) (goes_mono (ub.part (Nat.le_refl _) (by lia))) fun k' k1 k2 k3=>?_)))
          try dsimp -zeta only
          extract_lets -merge -underBinder kk' bc' jp3
          have jk':H ρ a b (out'.push yb++(b.extract k' (nb - 1)).reverse) na' k':=(jj.swap.run ub k1 (by lia) fun i j i1 i2 j1=>by
           have g1:=k3 i i1 i2
           rw [Nat.zero_add,goesT] at g1
           have g2:=ua j (na' - 1) (Nat.zero_le _) (by lia) (by lia)
           simp at g1
           lia).swap
          have beh':∀ j,j < k'->R ρ b j<=ρ ya:=fun j j1=>by
           have g1:=k2 j j1
           rw [Nat.zero_add,goesT] at g1
           simp at g1
           lia
          clear ra
          have hj3:∀ nb' out',H ρ a b out' na' nb'->nb'=k'->2<=nb'->wpS (model prog w) A E s (jp3 () nb' out') (StepH ρ a b st (x + 1 + 1)) (setG st m):=by
           intro nb' out' jk hi hb'
           refine wpS_bind (elem_ ea ?_)
           have jj:H ρ a b (out'.push ya) (na' - 1) nb':=jk.push ua ha' (by lia) ea fun j j1=>beh' j (by lia)
           by_cases c5:(na' - 1 == 0)=true
           ·show wpS _ _ _ _ (if (na' - 1 == 0)=true then _ else _) _ _
            rw [if_pos c5]
            exact wpS_pure ⟨_,rfl,.inl ⟨_,_,rfl,jj.doneA ub (by simpa using c5) (by lia)⟩⟩
           ·have e5:¬ na' - 1=0:=by simpa using c5
            show wpS _ _ _ _ (if (na' - 1 == 0)=true then _ else _) _ _
            rw [if_neg c5]
            split
            ·exact wpS_pure ⟨_,rfl,.inr ⟨_,_,_,_,_,_,rfl,jj,by lia,by lia,by lia,by lia,by lia⟩⟩
            ·exact wpS_pure ⟨_,_,_,_,_,_,_,rfl,rfl,jj,by lia,by lia,by lia,by lia,by lia⟩
          clear_value jp3
          by_cases c6:nb - 1 - k' > 0
          ·show wpS _ _ _ _ (if nb - 1 - k' > 0 then _ else _) _ _
           rw [if_pos c6]
           by_cases c7:(k' == 1)=true
           ·show wpS _ _ _ _ (if (k' == 1)=true then _ else _) _ _
            rw [if_pos c7]
            exact wpS_pure ⟨_,rfl,.inl ⟨_,_,rfl,jk'.first ua ub (by simpa using c7) (by lia) (by lia) hf⟩⟩
           ·have e7:¬ k'=1:=by simpa using c7
            show wpS _ _ _ _ (if (k' == 1)=true then _ else _) _ _
            rw [if_neg c7]
            by_cases c8:(k' == 0)=true
            ·show wpS _ _ _ _ (if (k' == 0)=true then _ else _) _ _
             rw [if_pos c8]
             exact wpS_pure ⟨_,rfl,.inl ⟨_,_,rfl,jk'.doneB ua (by simpa using c8) (by lia)⟩⟩
            ·have e8:¬ k'=0:=by simpa using c8
             show wpS _ _ _ _ (if (k' == 0)=true then _ else _) _ _
             rw [if_neg c8]
             exact hj3 k' _ jk' rfl (by lia)
          ·show wpS _ _ _ _ (if nb - 1 - k' > 0 then _ else _) _ _
           rw [if_neg c6]
           exact hj3 (nb - 1) _ jj (by lia) (by lia)
        clear_value jp2
        by_cases c6:na - k > 0
        ·show wpS _ _ _ _ (if na - k > 0 then _ else _) _ _
         rw [if_pos c6]
         by_cases c7:(k == 0)=true
         ·show wpS _ _ _ _ (if (k == 0)=true then _ else _) _ _
          rw [if_pos c7]
          exact wpS_pure ⟨_,rfl,.inl ⟨_,_,rfl,jk.doneA ub (by simpa using c7) (by lia)⟩⟩
         ·have e7:¬ k=0:=by simpa using c7
          show wpS _ _ _ _ (if (k == 0)=true then _ else _) _ _
          rw [if_neg c7]
          exact hj2 k _ jk rfl (by lia)
        ·show wpS _ _ _ _ (if na - k > 0 then _ else _) _ _
         rw [if_neg c6]
         exact hj2 na _ wj (by lia) (by lia)
       clear_value jp
       split
       ·exact hj _ _
       ·exact hj _ _
      ·rintro c st' ⟨g,out,na,nb,mg,ac,bc,rfl,rfl,W⟩
       exact ⟨g,rfl,.inr ⟨_,_,_,_,_,_,rfl,W⟩⟩
      ·exact ⟨g,_,_,_,_,_,_,rfl,rfl,W⟩
      ·rintro c st' ⟨g,rfl,⟨r,z,rfl,hr⟩ | ⟨out,na,nb,mg,ac,bc,rfl,W⟩⟩
       ·exact wpS_pure ⟨g,r,_,rfl,rfl,hr⟩
       ·exact wpS_bind (setG_ (wpS_pure ⟨_,_,_,_,_,rfl,rfl,W⟩))
   ·rintro c st' ⟨g,out,na,nb,mg,rfl,rfl,⟨wj,w1,w2,w3,w4,w5⟩⟩
    simp at w5
    lia
   ·exact ⟨gallopOf st,_,_,_,_,rfl,rfl,j1,by lia,by lia,by lia,by lia,by lia⟩
   ·rintro c st' ⟨g,r,z,rfl,rfl,hr⟩
    exact wpS_pure (h r g hr)
end
theorem fold_set:∀ (l:List Keyed) (n off:Nat) (xs:Array Keyed),off + n + l.length<=xs.size ->
  ((l.zipIdx n).foldl (fun a (pj:Keyed×Nat)=>a.setIfInBounds (off + pj.2) pj.1) xs).toList=xs.toList.take (off + n)++l++xs.toList.drop (off + n + l.length)
 | [],n,off,xs,_=>by simp
 | x::l,n,off,xs,h=>by
  rw [List.zipIdx_cons,List.foldl_cons]
  simp only [List.length_cons] at h
  have ih:=fold_set l (n + 1) off (xs.setIfInBounds (off + n) x) (by simp;lia)
  rw [ih,Array.toList_setIfInBounds]
  have hlt:off + n < xs.toList.length:=by simp;lia
  rw [show off + (n + 1)=off + n + 1 by lia]
  have e1:(xs.toList.set (off + n) x).take (off + n + 1)=xs.toList.take (off + n)++[x]:=by
   rw [List.take_add_one,List.take_set_of_le (Nat.le_refl _),List.getElem?_set_self hlt]
   rfl
  have e2:(xs.toList.set (off + n) x).drop (off + n + 1 + l.length)=xs.toList.drop (off + n + (l.length + 1)):=by
   rw [List.drop_set_of_lt (by lia)]
   congr 1
   lia
  rw [e1,e2]
  simp
theorem up_of {ρ:Keyed->Int} {xs:Array Keyed} (h:xs.toList.Pairwise fun x y=>ρ x<=ρ y):Up ρ xs 0 xs.size:=by
 intro i j _ hij hj
 by_cases c:i=j
 ·rw [c];exact Int.le_refl _
 ·have:=List.pairwise_iff_getElem.mp h i j (by simp;lia) (by simp;lia) (by lia)
  simp only [Array.getElem_toList] at this
  rw [R_some (Array.getElem?_eq_getElem (show i < xs.size by lia)),R_some (Array.getElem?_eq_getElem hj)]
  exact this
theorem of_up {ρ:Keyed->Int} {xs:Array Keyed} {lo k:Nat} (u:Up ρ xs lo (lo + k)) (hz:lo + k<=xs.size):((xs.toList.drop lo).take k).Pairwise fun x y=>ρ x<=ρ y:=by
 rw [List.pairwise_iff_getElem]
 intro i j hi hj hij
 have hi':((xs.toList.drop lo).take k)[i]? = some ((xs.toList.drop lo).take k)[i]:=List.getElem?_eq_getElem hi
 have hj':((xs.toList.drop lo).take k)[j]? = some ((xs.toList.drop lo).take k)[j]:=List.getElem?_eq_getElem hj
 have l1:i < k:=by simp at hi;lia
 have l2:j < k:=by simp at hj;lia
 rw [List.getElem?_take,if_pos l1,List.getElem?_drop,Array.getElem?_toList] at hi'
 rw [List.getElem?_take,if_pos l2,List.getElem?_drop,Array.getElem?_toList] at hj'
 rw [← R_some (ρ:=ρ) hi',← R_some (ρ:=ρ) hj']
 exact u _ _ (by lia) (by lia) (by lia)
theorem get_part {xs:Array Keyed} {i j k:Nat} (hj:j<=xs.size) (hk:k < j - i):(xs.extract i j)[k]? = xs[i + k]?:=by
 rw [Array.getElem?_extract,if_pos (by rw [Nat.min_eq_left hj];exact hk)]
theorem size_part {xs:Array Keyed} {i j:Nat} (hj:j<=xs.size):(xs.extract i j).size=j - i:=by
 rw [Array.size_extract,Nat.min_eq_left hj]
theorem R_part {ρ:Keyed->Int} {xs:Array Keyed} {i j k:Nat} (hj:j<=xs.size) (hk:k < j - i):R ρ (xs.extract i j) k=R ρ xs (i + k):=R_of (get_part hj hk)
theorem Up.cut {ρ:Keyed->Int} {xs:Array Keyed} {i j:Nat} (u:Up ρ xs i j) (hj:j<=xs.size):Up ρ (xs.extract i j) 0 (xs.extract i j).size:=by
 intro p q _ h1 h2
 rw [size_part hj] at h2
 rw [R_part hj (by lia),R_part hj h2]
 exact u _ _ (by lia) (by lia) (by lia)
theorem Among.of {κ:SortKind} {a₀:Array Keyed} {st:SortSt} (h:Bs κ a₀ st):Among a₀ (arrOf st):=fun i hi=>h.has (by rw [← h.size];exact hi)
theorem Among.cut {a₀ xs:Array Keyed} (m:Among a₀ xs) {i j:Nat} (hj:j<=xs.size):Among a₀ (xs.extract i j):=fun k hk=>by
 rw [size_part hj] at hk
 rw [get_part hj hk]
 exact m _ (by lia)
theorem laid {ρ:Keyed->Int} {xs out:Array Keyed} {k m n:Nat} (u1:Up ρ xs 0 m) (u2:Up ρ xs m xs.size) (hk:k<=m) (hn:m + n<=xs.size) (hk2:0 < n) (h:Both ρ (xs.extract k m) (xs.extract m (m + n)) out)
  (f1:∀ i,i < k->R ρ xs i<=R ρ xs m) (f2:∀ i,i < m->∀ j,m + n<=j->j < xs.size->R ρ xs i<=R ρ xs j) :
  ∀ ys:Array Keyed,ys.toList=xs.toList.take k++out.toList++xs.toList.drop (k + out.toList.length)->ys.Perm xs/\Up ρ ys 0 ys.size:=by
 obtain ⟨p,so⟩:=h
 have hlen:=p.length_eq
 rw [List.length_append,Array.length_toList,Array.length_toList,Array.length_toList,size_part (Nat.le_trans (Nat.le_add_right m n) hn),size_part hn,Nat.add_sub_cancel_left] at hlen
 rw [part_toList,part_toList] at p
 rw [← Array.length_toList] at hlen
 have hkm:k + (m - k + n)=m + n:=by rw [← Nat.add_assoc,Nat.add_sub_cancel' hk]
 intro ys hy
 rw [hlen,hkm] at hy
 have mem:∀ x,x∈out.toList->∃ j,k<=j/\j < m + n/\xs[j]? = some x:=fun x hx=>by
  rcases List.mem_append.mp (p.mem_iff.mp hx) with q | q
  ·obtain ⟨j,j1,j2,_,e⟩:=mem_part q
   exact ⟨j,j1,by lia,e⟩
  ·obtain ⟨j,j1,j2,_,e⟩:=mem_part q
   exact ⟨j,by lia,by lia,e⟩
 have memD:∀ x,x∈xs.toList.drop (m + n)->∃ j,m + n<=j/\j < xs.size/\xs[j]? = some x:=fun x hx=>by
  obtain ⟨i,hi⟩:=List.getElem?_of_mem hx
  rw [List.getElem?_drop,Array.getElem?_toList] at hi
  exact ⟨m + n + i,by lia,(Array.getElem?_eq_some_iff.mp hi).1,hi⟩
 have memT:∀ x,x∈xs.toList.take k->∃ j,j < k/\xs[j]? = some x:=fun x hx=>by
  have hx':x∈(xs.toList.drop 0).take k:=by simpa using hx
  obtain ⟨j,j1,j2,_,e⟩:=mem_part hx'
  exact ⟨j,by lia,e⟩
 constructor
 ·rw [Array.perm_iff_toList_perm,hy]
  have e:xs.toList=xs.toList.take k++((xs.toList.drop k).take (m - k)++(xs.toList.drop m).take (m + n - m))++xs.toList.drop (m + n):=by
   have e1:xs.toList.drop k=(xs.toList.drop k).take (m - k)++xs.toList.drop m:=by
    have:=(List.take_append_drop (m - k) (xs.toList.drop k)).symm
    rwa [List.drop_drop,show k + (m - k)=m by lia] at this
   have e2:xs.toList.drop m=(xs.toList.drop m).take (m + n - m)++xs.toList.drop (m + n):=by
    have:=(List.take_append_drop (m + n - m) (xs.toList.drop m)).symm
    rwa [List.drop_drop,show m + (m + n - m)=m + n by lia] at this
   calc xs.toList=xs.toList.take k++xs.toList.drop k:=(List.take_append_drop k xs.toList).symm
    _=xs.toList.take k++((xs.toList.drop k).take (m - k)++xs.toList.drop m):=by rw [← e1]
    _=xs.toList.take k++((xs.toList.drop k).take (m - k)++((xs.toList.drop m).take (m + n - m)++xs.toList.drop (m + n))):=by rw [← e2]
    _=_:=by simp only [List.append_assoc]
  refine List.Perm.trans ?_ (List.Perm.of_eq e.symm)
  exact (List.Perm.append_left _ p).append_right _
 ·apply up_of
  rw [hy]
  refine List.pairwise_append.mpr ⟨List.pairwise_append.mpr ⟨?_,so,fun x hx y hy=>?_⟩,?_,fun x hx y hy=>?_⟩
  ·have:=of_up (lo:=0) (k:=k) (u1.part (Nat.le_refl _) (by lia)) (by lia)
   simpa using this
  ·obtain ⟨i,i1,ei⟩:=memT x hx
   obtain ⟨j,j1,j2,ej⟩:=mem y hy
   rw [← R_some (ρ:=ρ) ei,← R_some (ρ:=ρ) ej]
   by_cases c:j < m
   ·exact u1 i j (Nat.zero_le _) (by lia) c
   ·exact Int.le_trans (f1 i i1) (u2 m j (Nat.le_refl _) (by lia) (by lia))
  ·have:=of_up (lo:=m + n) (k:=xs.size - (m + n)) (u2.part (by lia) (by lia)) (by lia)
   rwa [List.take_of_length_le (by simp)] at this
  ·obtain ⟨j,j1,j2,ej⟩:=memD y hy
   rw [← R_some (ρ:=ρ) ej]
   rcases List.mem_append.mp hx with q | q
   ·obtain ⟨i,i1,ei⟩:=memT x q
    rw [← R_some (ρ:=ρ) ei]
    exact f2 i (by lia) j j1 j2
   ·obtain ⟨i,i1,i2,ei⟩:=mem x q
    rw [← R_some (ρ:=ρ) ei]
    by_cases c:i < m
    ·exact f2 i c j j1 j2
    ·exact u2 i j (by lia) (by lia) j2
section
variable {prog:Program} {w:World} {A:Around} {E:Value->Shared->Prop} {s:Shared} {κ:SortKind} {ρ:Keyed->Int} {a₀:Array Keyed}
theorem set_ {st st':SortSt} {Q:PUnit->SortSt->Prop} (h:Q ⟨⟩ st'):wpS (model prog w) A E s (set st':StateT SortSt Sem PUnit) Q st:=by
 unfold wpS
 rw [StateT.run_set]
 exact wpAny_pure ⟨rfl,h⟩
theorem mergeAt_ {st : SortSt} {Q : Bool → SortSt → Prop} {n1 n2 p q : Nat} (T : Told prog w A s κ ρ a₀) (hB : Bs κ a₀ st) (hp : pendingOf st = #[(0, n1, p), (n1, n2, q)]) (h1 : 1 ≤ n1) (h2 : 1 ≤ n2) (hz : n1 + n2 = a₀.size)
    (u1 : Up ρ (arrOf st) 0 n1) (u2 : Up ρ (arrOf st) n1 (n1 + n2)) (h : ∀ st', Bs κ a₀ st' → (pendingOf st').size ≤ 1 → Up ρ (arrOf st') 0 a₀.size → Q true st') : wpS (model prog w) A E s (mergeAt' 0) Q st := by
  have hsz := hB.size
  have am := Among.of hB
  have hn1 : n1 ≤ (arrOf st).size := Nat.le_trans (Nat.le_add_right n1 n2) (Nat.le_of_eq (hz.trans hsz.symm))
  unfold mergeAt'
  refine wpS_bind (wpS_get ?_)
  have g0 : (pendingOf st)[0]? = some (0, n1, p) := by rw [hp]; rfl
  have g1 : (pendingOf st)[0 + 1]? = some (n1, n2, q) := by rw [hp]; rfl
  rw [g0, g1]
  refine wpS_bind (set_ ?_)
  obtain ⟨xb, eb, mb, rb⟩ := am.get (ρ := ρ) (show n1 < (arrOf st).size by lia)
  refine wpS_bind (elem_ eb (wpS_bind (gallop_ (key := xb) (arr := arrOf st) (base := 0) (n := n1) (hint := 0) T hB.kind mb am (by lia) (by lia) (goes_mono (u1.part (Nat.le_refl _) (by lia))) fun k k1 k2 k3 => ?_)))
  have ep : (((pendingOf st).setIfInBounds 0 (0, n1 + n2, p)).eraseIdxIfInBounds (0 + 1)).size ≤ 1 := by rw [hp]; simp [Array.eraseIdxIfInBounds]
  have f1 : ∀ i, i < k → R ρ (arrOf st) i ≤ R ρ (arrOf st) n1 := fun i hi => by
    have g := k2 i hi
    rw [Nat.zero_add, goesF] at g
    simp at g
    lia
  have fst : ∀ j, k ≤ j → j < n1 → R ρ (arrOf st) n1 ≤ R ρ (arrOf st) j := fun j j1 j2 => by
    have g := k3 j j1 j2
    rw [Nat.zero_add, goesF] at g
    simp at g
    lia
  clear rb k2 k3
  have u2' : Up ρ (arrOf st) n1 (arrOf st).size := by rw [hsz, ← hz]; exact u2
  by_cases c1 : (n1 - k == 0) = true
  · show wpS _ _ _ _ (if (n1 - k == 0) = true then _ else _) _ _
    rw [if_pos c1]
    have e1 : k = n1 := by have : n1 - k = 0 := by simpa using c1
                           lia
    refine wpS_pure (h _ ⟨hB.perm, hB.kind, hB.fine⟩ ep fun i j q1 q2 q3 => ?_)
    by_cases c : j < n1
    · exact u1 i j (Nat.zero_le _) q2 c
    · by_cases c' : i < n1
      · exact Int.le_trans (f1 i (by lia)) (u2 n1 j (Nat.le_refl _) (by lia) (by lia))
      · exact u2 i j (by lia) q2 (by lia)
  · have e1 : ¬ n1 - k = 0 := by simpa using c1
    show wpS _ _ _ _ (if (n1 - k == 0) = true then _ else _) _ _
    rw [if_neg c1]
    obtain ⟨xa, ea, ma, ra⟩ := am.get (ρ := ρ) (show 0 + k + (n1 - k) - 1 < (arrOf st).size by lia)
    have eix : 0 + k + (n1 - k) - 1 = n1 - 1 := by lia
    refine wpS_bind (elem_ ea (wpS_bind (gallop_ (key := xa) (arr := arrOf st) (base := n1) (n := n2) (hint := n2 - 1) T hB.kind ma am (by lia) (by lia) (goes_mono u2) fun m m1 m2 m3 => ?_)))
    rw [eix] at ra
    have f2 : ∀ i, i < n1 → ∀ j, n1 + m ≤ j → j < (arrOf st).size → R ρ (arrOf st) i ≤ R ρ (arrOf st) j := fun i hi j j1 j2 => by
      have g := m3 (j - n1) (by lia) (by lia)
      rw [show n1 + (j - n1) = j by lia, goesT] at g
      have g2 := u1 i (n1 - 1) (Nat.zero_le _) (by lia) (by lia)
      simp at g
      lia
    have lst : ∀ j, j < m → R ρ (arrOf st) (n1 + j) ≤ R ρ (arrOf st) (n1 - 1) := fun j hj => by
      have g := m2 j hj
      rw [goesT] at g
      simp at g
      lia
    clear ra m2 m3
    by_cases c2 : (m == 0) = true
    · show wpS _ _ _ _ (if (m == 0) = true then _ else _) _ _
      rw [if_pos c2]
      have e2 : m = 0 := by simpa using c2
      refine wpS_pure (h _ ⟨hB.perm, hB.kind, hB.fine⟩ ep fun i j q1 q2 q3 => ?_)
      by_cases c : j < n1
      · exact u1 i j (Nat.zero_le _) q2 c
      · by_cases c' : i < n1
        · exact f2 i c' j (by lia) (by lia)
        · exact u2 i j (by lia) q2 (by lia)
    · have e2 : ¬ m = 0 := by simpa using c2
      have hnm : n1 + m ≤ (arrOf st).size := Nat.le_trans (Nat.add_le_add_left m1 n1) (Nat.le_of_eq (hz.trans hsz.symm))
      show wpS _ _ _ _ (if (m == 0) = true then _ else _) _ _
      rw [if_neg c2]
      extract_lets -merge -underBinder x y jp
      have hj : ∀ out g, Both ρ ((arrOf st).extract k n1) ((arrOf st).extract n1 (n1 + m)) out → wpS (model prog w) A E s (jp out) Q (setG (SortSt.mk' (kindOf st) (arrOf st) (((pendingOf st).setIfInBounds 0 (0, n1 + n2, p)).eraseIdxIfInBounds (0 + 1)) (gallopOf st) (failedOf st)) g) := by
        intro out g hb
        have hkm : k + (n1 - k + m) = n1 + m := by rw [← Nat.add_assoc, Nat.add_sub_cancel' k1]
        have hlen := hb.1.length_eq
        rw [List.length_append, Array.length_toList, Array.length_toList, Array.length_toList, size_part hn1, size_part hnm, Nat.add_sub_cancel_left] at hlen
        rw [← Array.length_toList] at hlen
        have hl := laid u1 u2' k1 hnm (Nat.pos_of_ne_zero e2) hb f1 f2
        have hf := fold_set out.toList 0 (0 + k) (arrOf st) (by rw [hlen, Nat.zero_add, Nat.add_zero, hkm]; exact hnm)
        rw [show 0 + k + 0 = k from (Nat.add_zero _).trans (Nat.zero_add k)] at hf
        obtain ⟨pp, uu⟩ := hl _ hf
        refine wpS_bind (wpS_modify (wpS_bind (wpS_get (wpS_pure ?_))))
        have hfn : (failedOf st).isNone = true := by rw [hB.fine]; rfl
        show Q (failedOf st).isNone _
        rw [hfn]
        refine h _ ⟨pp.trans hB.perm, hB.kind, hB.fine⟩ ep ?_
        have es := pp.size_eq
        rw [hsz] at es
        rw [← es]
        exact uu
      clear_value jp
      have zx : ((arrOf st).extract k n1).size = n1 - k := size_part hn1
      have zy : ((arrOf st).extract n1 (n1 + m)).size = m := by rw [size_part hnm, Nat.add_sub_cancel_left]
      have hlast : ∀ j, j < ((arrOf st).extract n1 (n1 + m)).size → R ρ ((arrOf st).extract n1 (n1 + m)) j ≤ R ρ ((arrOf st).extract k n1) (((arrOf st).extract k n1).size - 1) := fun j hj => by
        rw [zy] at hj
        rw [zx, R_part hnm (by rw [Nat.add_sub_cancel_left]; exact hj), R_part hn1 (Nat.sub_lt (Nat.pos_of_ne_zero e1) Nat.one_pos), ← Nat.add_sub_assoc (Nat.pos_of_ne_zero e1), Nat.add_sub_cancel' k1]
        exact lst j hj
      have hfirst : ∀ j, j < ((arrOf st).extract k n1).size → R ρ ((arrOf st).extract n1 (n1 + m)) 0 ≤ R ρ ((arrOf st).extract k n1) j := fun j hj => by
        rw [zx] at hj
        rw [R_part hnm (by rw [Nat.add_sub_cancel_left]; exact Nat.pos_of_ne_zero e2), R_part hn1 hj, Nat.add_zero]
        exact fst (k + j) (Nat.le_add_right k j) (Nat.add_lt_of_lt_sub' hj)
      have ux := (u1.part (lo' := k) (hi' := n1) (Nat.zero_le _) (Nat.le_refl _)).cut (xs := arrOf st) hn1
      have uy := (u2'.part (lo' := n1) (hi' := n1 + m) (Nat.le_refl _) hnm).cut (xs := arrOf st) hnm
      have ax := am.cut (i := k) (j := n1) hn1
      have ay := am.cut (i := n1) (j := n1 + m) hnm
      have e0 : x = (arrOf st).extract k n1 := by show (arrOf st).extract (0 + k) n1 = _; rw [Nat.zero_add]
      have e0' : y = (arrOf st).extract n1 (n1 + m) := rfl
      clear_value x y
      subst e0 e0'
      split
      · exact wpS_bind (mergeLo_ T hB.kind ux uy ax ay (by lia) (by lia) (hfirst 0 (by lia)) hlast fun out g hb => hj out g hb)
      · exact wpS_bind (mergeHi_ T hB.kind ux uy ax ay (by lia) (by lia) hfirst hlast fun out g hb => hj out g hb)
theorem minRun_big {n:Nat} (h1:64<=n) (h2:n < 128):minRun' n n 0=n / 2 + n % 2:=by
 obtain ⟨f,rfl⟩:∃ f,n=f + 1 + 1:=⟨n - 2,by lia⟩
 rw [minRun'_succ,if_neg (by lia),minRun'_succ,if_pos (by lia)]
 simp
theorem minRun_small {n:Nat} (h1:1<=n) (h2:n < 64):minRun' n n 0=n:=by
 obtain ⟨f,rfl⟩:∃ f,n=f + 1:=⟨n - 1,by lia⟩
 rw [minRun'_succ,if_pos h2]
inductive Runs (ρ:Keyed->Int) (a₀:Array Keyed) (st:SortSt):Nat->Nat->Prop
 | none (h:pendingOf st=#[]):Runs ρ a₀ st 0 0
 | one (n:Nat) (h:pendingOf st=#[(0,n,0)]) (h1:1<=n) (h2:n<=a₀.size) (hm:minRun' a₀.size a₀.size 0<=n) (u:Up ρ (arrOf st) 0 n):Runs ρ a₀ st 1 n
 | both (n p:Nat) (x:Nat) (h:pendingOf st=#[(0,n,p),(n,a₀.size - n,0)]) (h1:1<=n) (h2:n < a₀.size) (u:Up ρ (arrOf st) 0 n) (u2:Up ρ (arrOf st) n a₀.size) (hx:2<=x):Runs ρ a₀ st x a₀.size
def StepR (κ:SortKind) (ρ:Keyed->Int) (a₀:Array Keyed) (x:Nat):ForInStep (Option Unit×Nat)->SortSt->Prop
 | .done c',st'=>c'=(none,a₀.size)/\Bs κ a₀ st'/\∃ x,Runs ρ a₀ st' x a₀.size
 | .yield c',st'=>∃ lo,c'=(none,lo)/\Bs κ a₀ st'/\Runs ρ a₀ st' (x + 1) lo
theorem sortRuns_ {st:SortSt} {Q:Unit->SortSt->Prop} (T:Told prog w A s κ ρ a₀) (hB:Bs κ a₀ st) (hp:pendingOf st=#[]) (h2:2<=a₀.size) (h128:a₀.size < 128)
  (h:∀ st',(arrOf st').Perm a₀->failedOf st'=none->Up ρ (arrOf st') 0 a₀.size->Q () st'):wpS (model prog w) A E s sortRuns' Q st:=by
 have hmr:a₀.size<=2 * minRun' a₀.size a₀.size 0/\minRun' a₀.size a₀.size 0<=a₀.size/\1<=minRun' a₀.size a₀.size 0:=by
  by_cases c:a₀.size < 64
  ·rw [minRun_small (by lia) c];lia
  ·rw [minRun_big (by lia) h128];lia
 rw [sortRuns'_eq]
 refine wpS_bind (wpS_get ?_)
 dsimp -zeta only
 rw [hB.size]
 refine wpS_bind (wpS_mono (wpS_forRange (I:=fun x c st'=>∃ lo,c=(none,lo)/\Bs κ a₀ st'/\Runs ρ a₀ st' x lo)
  (Q:=fun c st'=>c=(none,a₀.size)/\Bs κ a₀ st'/\∃ x,Runs ρ a₀ st' x a₀.size) ?_ ?_ ?_) ?_)
 ·rintro x c st' _ hx ⟨lo,rfl,hB',r⟩
  refine wpS_mono (Q:=StepR κ ρ a₀ x) ?_ fun r st' hr=>by cases r <;> exact hr
  generalize hmrE:minRun' a₀.size a₀.size 0=mr at *
  cases r with
  | none hpe =>
   dsimp -zeta only
   extract_lets -merge -underBinder lo'
   show wpS _ _ _ _ (if 0 ≥ a₀.size then _ else _) _ _
   rw [if_neg (by lia)]
   refine wpS_bind (run_ (lo:=0) (m:=a₀.size - 0) T hB' (by lia) (by lia) fun k st2 b1 b2 b3 k1 k2 k3=>?_)
   dsimp -zeta only
   extract_lets -merge -underBinder n jp
   have hj:∀ n st',Bs κ a₀ st'->pendingOf st'=#[]->mr<=n->n<=a₀.size->Up ρ (arrOf st') 0 n->wpS (model prog w) A E s (jp () n) (StepR κ ρ a₀ 0) st':=by
    intro n st' hB' hpe n1 n2 u
    refine wpS_bind (wpS_get ?_)
    have hb:(pendingOf st').back? = none:=by rw [hpe];rfl
    extract_lets -merge -underBinder jp2
    rw [hb]
    refine wpS_bind (wpS_modify (wpS_pure ⟨_,rfl,⟨hB'.perm,hB'.kind,hB'.fine⟩,?_⟩))
    show Runs ρ a₀ _ (0 + 1) (0 + n)
    rw [Nat.zero_add n]
    exact .one n (by show (pendingOf st').push _=_;rw [hpe];rfl) (by lia) n2 (by lia) u
   clear_value jp
   by_cases c1:k < mr
   ·show wpS _ _ _ _ (if k < mr then _ else _) _ _
    rw [if_pos c1]
    refine wpS_bind (wpS_lift (wpAny_rule ⟨rfl,?_⟩))
    refine wpS_bind (ins_ (lo:=0) (n:=min (a₀.size - 0) mr) T b1 (by lia) (by lia) k3 fun st3 d1 d2 d3 d4=>?_)
    exact hj (min (a₀.size - 0) mr) st3 d1 (d3.trans (b3.trans hpe)) (by lia) (by lia) (by simpa using d4)
   ·show wpS _ _ _ _ (if k < mr then _ else _) _ _
    rw [if_neg c1]
    exact hj k st2 b1 (b3.trans hpe) (by lia) (by lia) (by simpa using k3)
  | one _ hpe h1 h2' hm u =>
   dsimp -zeta only
   extract_lets -merge -underBinder lo'
   by_cases c0:lo ≥ a₀.size
   ·show wpS _ _ _ _ (if lo ≥ a₀.size then _ else _) _ _
    rw [if_pos c0]
    obtain rfl:lo=a₀.size:=by lia
    exact wpS_pure ⟨rfl,hB',_,.one _ hpe h1 h2' (by lia) u⟩
   ·show wpS _ _ _ _ (if lo ≥ a₀.size then _ else _) _ _
    rw [if_neg c0]
    refine wpS_bind (run_ (lo:=lo) (m:=a₀.size - lo) T hB' (by lia) (by lia) fun k st2 b1 b2 b3 k1 k2 k3=>?_)
    dsimp -zeta only
    extract_lets -merge -underBinder n jp
    have hj:∀ n st',Bs κ a₀ st'->pendingOf st'=#[(0,lo,0)]->n=a₀.size - lo->Up ρ (arrOf st') 0 lo->Up ρ (arrOf st') lo a₀.size->wpS (model prog w) A E s (jp () n) (StepR κ ρ a₀ 1) st':=by
     intro n st' hB' hpe n1 u1 u2
     refine wpS_bind (wpS_get ?_)
     have hb:(pendingOf st').back? = some (0,lo,0):=by rw [hpe];rfl
     extract_lets -merge -underBinder jp2
     have hj2:∀ pw st',Bs κ a₀ st'->pendingOf st'=#[(0,lo,pw)]->Up ρ (arrOf st') 0 lo->Up ρ (arrOf st') lo a₀.size->wpS (model prog w) A E s (jp2 ()) (StepR κ ρ a₀ 1) st':=by
      intro pw st' hB' hpe u1 u2
      refine wpS_bind (wpS_modify (wpS_pure ⟨_,rfl,⟨hB'.perm,hB'.kind,hB'.fine⟩,?_⟩))
      show Runs ρ a₀ _ (1 + 1) (lo + n)
      rw [show lo + n=a₀.size by lia]
      exact .both lo pw _ (by show (pendingOf st').push _=_;rw [hpe,n1];rfl) h1 (by lia) u1 u2 (by lia)
     clear_value jp2
     rw [hb]
     dsimp -zeta only
     extract_lets -merge -underBinder pw
     refine wpS_bind (wpS_mono (wpS_forRange (I:=fun _ c st''=>st''=st'/\c=(none,())) (Q:=fun c st''=>st''=st'/\c=(none,())) ?_ (fun _ _ hh=>hh) ⟨rfl,rfl⟩) ?_)
     ·rintro x c st'' _ _ ⟨rfl,rfl⟩
      refine wpS_bind (wpS_get ?_)
      have hs:¬ (pendingOf st'').size > 1:=by rw [hpe];exact Nat.lt_irrefl 1
      dsimp only
      rw [if_neg hs]
      exact wpS_pure ⟨rfl,rfl⟩
     ·rintro c st'' ⟨rfl,rfl⟩
      refine wpS_bind (wpS_modify (hj2 pw _ ⟨hB'.perm,hB'.kind,hB'.fine⟩ ?_ u1 u2))
      have em:∀ f:Nat×Nat×Nat->Nat×Nat×Nat,(pendingOf st'').modify ((pendingOf st'').size - 1) f=#[f (0,lo,0)]:=fun f=>by rw [hpe];rfl
      exact em (fun x=>(x.1,x.2.1,pw))
    clear_value jp
    have uf:∀ {xs ys:Array Keyed},Up ρ xs 0 lo->Stays xs ys lo (lo + (a₀.size - lo))->Up ρ ys 0 lo:=fun q s i j q1 q2 q3=>by
     rw [R_of (ρ:=ρ) (s i (.inl (by lia))),R_of (ρ:=ρ) (s j (.inl q3))]
     exact q i j q1 q2 q3
    by_cases c1:k < mr
    ·show wpS _ _ _ _ (if k < mr then _ else _) _ _
     rw [if_pos c1]
     refine wpS_bind (wpS_lift (wpAny_rule ⟨rfl,?_⟩))
     have ef:min (a₀.size - lo) mr=a₀.size - lo:=by lia
     refine wpS_bind (ins_ (lo:=lo) (n:=min (a₀.size - lo) mr) T b1 (by lia) (by lia) k3 fun st3 d1 d2 d3 d4=>?_)
     rw [ef] at d2 d4
     rw [show lo + (a₀.size - lo)=a₀.size by lia] at d4
     exact hj (min (a₀.size - lo) mr) st3 d1 (d3.trans (b3.trans hpe)) ef (uf (uf u b2) d2) d4
    ·show wpS _ _ _ _ (if k < mr then _ else _) _ _
     rw [if_neg c1]
     obtain rfl:k=a₀.size - lo:=by lia
     rw [show lo + (a₀.size - lo)=a₀.size by lia] at k3
     exact hj (a₀.size - lo) st2 b1 (b3.trans hpe) rfl (uf u b2) k3
  | both n p _ hpe h1 h2' u u2 hx2 =>
   dsimp -zeta only
   extract_lets -merge -underBinder lo'
   show wpS _ _ _ _ (if a₀.size ≥ a₀.size then _ else _) _ _
   rw [if_pos (Nat.le_refl _)]
   exact wpS_pure ⟨rfl,hB',_,.both n p _ hpe h1 h2' u u2 hx2⟩
 ·rintro c st' ⟨lo,rfl,hB',r⟩
  rw [Nat.max_eq_right (Nat.zero_le _)] at r
  obtain ⟨y,hy⟩:∃ y,y=a₀.size:=⟨_,rfl⟩
  rw [← hy] at r
  cases r with
  | none _=>lia
  | one _ _ _ _ _ _=>lia
  | both n p _ hpe h1 h2' u u2 hx2=>exact ⟨rfl,hB',y,.both n p _ hpe h1 h2' u u2 hx2⟩
 ·exact ⟨0,rfl,hB,.none hp⟩
 ·rintro c st' ⟨rfl,hB',x,r⟩
  dsimp only
  refine wpS_bind (wpS_mono (wpS_forRange (I:=fun y c st'=>c=(none,())/\Bs κ a₀ st'/\((y=0/\Runs ρ a₀ st' x a₀.size)\/((pendingOf st').size<=1/\Up ρ (arrOf st') 0 a₀.size)))
   (Q:=fun c st'=>c=(none,())/\Bs κ a₀ st'/\Up ρ (arrOf st') 0 a₀.size) ?_ ?_ ⟨rfl,hB',.inl ⟨rfl,r⟩⟩) ?_)
  ·rintro y c st'' _ _ ⟨rfl,hB'',q⟩
   refine wpS_bind (wpS_get ?_)
   by_cases cs:(pendingOf st'').size<=1
   ·rw [if_pos cs]
    refine wpS_pure ⟨rfl,hB'',?_⟩
    rcases q with ⟨rfl,r'⟩ | ⟨_,u⟩
    ·generalize hz:a₀.size=z at r'
     cases r' with
     | none _=>lia
     | one _ hpe h1 h2' hm u=>exact u
     | both n p _ hpe h1 h2' u u2 hx2=>rw [hpe] at cs;exact absurd cs (by simp)
    ·exact u
   ·rw [if_neg cs]
    rcases q with ⟨rfl,r'⟩ | ⟨z,_⟩
    ·generalize hz:a₀.size=z at r'
     cases r' with
     | none hpe=>rw [hpe] at cs;exact absurd (Nat.zero_le 1) cs
     | one _ hpe h1 h2' hm u=>rw [hpe] at cs;exact absurd (Nat.le_refl 1) cs
     | both n p _ hpe h1 h2' u u2 hx2 =>
      have es:(pendingOf st'').size - 2=0:=by rw [hpe];rfl
      rw [es]
      rw [if_neg (show ¬ (Option.any _ (if 0 > 0 then _ else none))=true by rw [if_neg (Nat.lt_irrefl 0)];exact Bool.false_ne_true)]
      refine wpS_bind (mergeAt_ (n1:=n) (n2:=a₀.size - n) T hB'' hpe h1 (by lia) (by lia) u (by rw [show n + (a₀.size - n)=a₀.size by lia];exact u2) fun st3 d1 d2 d3=>?_)
      exact wpS_pure ⟨rfl,d1,.inr ⟨d2,d3⟩⟩
    ·exact absurd z cs
  ·rintro c st'' ⟨rfl,hB'',q⟩
   refine ⟨rfl,hB'',?_⟩
   rcases q with ⟨e,_⟩ | ⟨_,u⟩
   ·rw [Nat.max_eq_right (Nat.zero_le _)] at e;lia
   ·exact u
  ·rintro c st'' ⟨rfl,hB'',u⟩
   exact wpS_pure (h _ hB''.perm hB''.fine u)
end
section
variable {prog:Program} {w:World} {A:Around} {E:Value->Shared->Prop} {s:Shared} {κ:SortKind} {ρ:Keyed->Int}
def during (h:Heap) (a:Addr) (vs:List Value):Heap:=((h.update a (Obj.mapSeq fun _=>#[])).push (seqObj "tuple" vs.toArray 0)).push (seqObj "list" #[] 0)
theorem pairs_out {vs:List Value} {xs:Array Keyed} (hp:xs.Perm (pairsOf vs)) (hu:Up ρ xs 0 (pairsOf vs).size):(xs.map (·.2)).toList.Perm vs/\(xs.map (·.2)).toList.Pairwise fun x y=>ρ (x,x)<=ρ (y,y):=by
 have hl:xs.toList.Perm (vs.zip vs):=by rw [← pairsOf_toList];exact Array.perm_iff_toList_perm.mp hp
 have hm:∀ p,p∈xs.toList->p=(p.2,p.2):=fun p hq=>by
  have:=(mem_zip_self (hl.mem_iff.mp hq)).1
  exact Prod.ext this rfl
 constructor
 ·rw [Array.toList_map]
  have:=hl.map Prod.snd
  rwa [List.map_snd_zip (Nat.le_refl _)] at this
 ·rw [Array.toList_map,List.pairwise_map,List.pairwise_iff_getElem]
  intro i j hi hj hij
  have hi':i < xs.size:=by simpa using hi
  have hj':j < xs.size:=by simpa using hj
  have q:=hu i j (Nat.zero_le _) (Nat.le_of_lt hij) (by rw [← hp.size_eq];exact hj')
  rw [R_some (Array.getElem?_eq_getElem hi'),R_some (Array.getElem?_eq_getElem hj')] at q
  have e1:=hm _ (List.getElem_mem hi)
  have e2:=hm _ (List.getElem_mem hj)
  simp only [Array.getElem_toList] at e1 e2 ⊢
  rw [← e1,← e2]
  exact q
theorem list_sort_ {a:Addr} {vs:List Value} {n:Nat} {P:PySem.Fin->Shared->Prop} (ho:s.heap.get? a=some (seqObj "list" vs.toArray n)) (hlen:vs.length < 128)
  (hkind:2<=vs.length->∀ Q:SortKind->Shared->Prop,Q κ { s with heap:=during s.heap a vs }->wpAny (model prog w) A (keyKind' vs.toArray) Q E { s with heap:=during s.heap a vs })
  (T:Told prog w A { s with heap:=during s.heap a vs } κ ρ (pairsOf vs))
  (h:∀ out:Array Value,out.toList.Perm vs->out.toList.Pairwise (fun x y=>ρ (x,x)<=ρ (y,y))->P (.done (.ret .none)) { s with heap:=sortedHeap s.heap a vs out }) :
  wpAny (model prog w) A (Builtin.«list.sort» ⟨[.ref a],[]⟩) P E s:=by
 have hz:=sizeLine_eq
 rw [list_sort_plain]
 have ha:a < s.heap.objs.size:=Heap.lt_size ho
 refine wpAny_bind (listItems_at ho rfl (wpAny_bind (listUpdate_at ho rfl ?_ (by rw [List.size_toArray];lia) (Nat.zero_le _))))
 obtain ⟨e1,ho1⟩:∃ e1,(s.heap.update a (Obj.mapSeq fun _=>#[])).get? a=some (seqObj "list" #[] e1):=⟨_,get?_update_seq ho (fun _=>#[])⟩
 refine wpAny_bind (seqEpoch_at ho1 rfl (wpAny_bind (wpAny_newTuple (wpAny_bind (wpAny_newList (wpAny_holding ?_) (Nat.zero_le _))) (by show vs.length<=_;lia))))
 have ho6:(during s.heap a vs).get? a=some (seqObj "list" #[] e1):=by
  unfold during
  rw [Heap.get?_push_ne _ _ _ (show a≠_ by rw [size_push',Heap.size_update];exact Nat.ne_of_lt (Nat.lt_succ_of_lt ha)),Heap.get?_push_ne _ _ _ (show a≠_ by rw [Heap.size_update];exact Nat.ne_of_lt ha)]
  exact ho1
 show wpAny (model prog w) A _ P E { s with heap:=during s.heap a vs }
 have fin:∀ st':SortSt,(arrOf st').Perm (pairsOf vs)->Up ρ (arrOf st') 0 (pairsOf vs).size->P (.done (.ret .none)) { s with heap:=sortedHeap s.heap a vs ((arrOf st').map (·.2)) }:=fun st' hp hs=>by
  obtain ⟨q1,q2⟩:=pairs_out hp hs
  exact h _ q1 q2
 have hsz:vs.toArray.size=vs.length:=List.size_toArray
 by_cases h2:vs.toArray.size < 2
 ·rw [if_pos h2,if_pos h2]
  refine wpAny_bind (wpAny_pure ?_)
  dsimp only
  rw [StateT.run_pure]
  refine wpAny_bind (wpAny_pure ?_)
  dsimp only
  refine wpAny_bind (seqEpoch_at ho6 rfl (wpAny_bind (listUpdate_at ho6 rfl ?_ (Nat.zero_le _) (by rw [Array.size_map];show (pairsOf vs).size<=_;rw [pairsOf_size];lia))))
  simp only [bne_self_eq_false,Bool.false_eq_true,if_false]
  refine wpAny_pure (fin (SortSt.mk' general' (vs.toArray.zip vs.toArray) #[] 7 none) (Array.Perm.refl _) fun i j _ q2 q3=>?_)
  rw [pairsOf_size] at q3
  rw [show i=j by lia]
  exact Int.le_refl _
 ·rw [if_neg h2,if_neg h2]
  refine wpAny_bind (hkind (by lia) _ ?_)
  refine wpAny_bind (wpAny_mono (sortRuns_ (E:=E) (st:=SortSt.mk' κ (vs.toArray.zip vs.toArray) #[] 7 none) (Q:=fun _ st'=>(arrOf st').Perm (pairsOf vs)/\failedOf st'=none/\Up ρ (arrOf st') 0 (pairsOf vs).size) T ⟨Array.Perm.refl _,rfl,rfl⟩ rfl
   (by rw [pairsOf_size];lia) (by rw [pairsOf_size];exact hlen) fun st' b1 b2 b3=>⟨b1,b2,b3⟩) ?_ fun _ _ e=>e)
  rintro ⟨⟨⟩,st'⟩ s' ⟨rfl,hp,hf,hs⟩
  dsimp only
  refine wpAny_bind (seqEpoch_at ho6 rfl (wpAny_bind (listUpdate_at ho6 rfl ?_ (Nat.zero_le _) (by have e:=hp.size_eq;rw [pairsOf_size] at e;refine Nat.le_trans (Nat.le_of_eq ((Array.size_map ..).trans e)) ?_;lia))))
  rw [hf]
  simp only [bne_self_eq_false,Bool.false_eq_true,if_false]
  exact wpAny_pure (fin st' hp hs)
theorem told_ints {vs:List Value} {ns:List Int} (hI:IntsAre vs ns):Told prog w A s oneType' (fun p=>numOf p.1) (pairsOf vs):=by
 intro x hx y hy E Q q
 rw [pairsOf_toList] at hx hy
 obtain ⟨n,t,en⟩:=hI.all _ (mem_zip_self hx).2
 obtain ⟨m,u,em⟩:=hI.all _ (mem_zip_self hy).2
 obtain ⟨x1,x2⟩:=x
 obtain ⟨y1,y2⟩:=y
 dsimp only at en em ⊢
 subst en em
 rw [keyLt'_oneType]
 exact oneLt_int q
theorem kind_ints {vs:List Value} {ns:List Int} (hI:IntsAre vs ns) (h2:2<=vs.length) (Q:SortKind->Shared->Prop) (q:Q oneType' s):wpAny (model prog w) A (keyKind' vs.toArray) Q E s:=by
 match vs,h2,hI with
 | v₁::v₂::r,_,hI =>
  rw [keyKind_ints hI]
  exact wpAny_pure q
theorem ints_out {vs out:List Value} {ns:List Int} (hI:IntsAre vs ns) (hp:out.Perm vs) (hs:out.Pairwise fun x y=>numOf x<=numOf y):∃ ns',IntsAre out ns'/\ns'.Perm ns/\ns'.Pairwise (·<=·):=by
 refine ⟨out.map numOf,intsAre_map out fun v hv=>hI.all v (hp.mem_iff.mp hv),?_,List.pairwise_map.mpr hs⟩
 have:=hp.map numOf
 rwa [hI.nums] at this
theorem list_sort_tree {a:Addr} {vs:List Value} {ns:List Int} {n:Nat} {P:PySem.Fin->Shared->Prop} (ho:s.heap.get? a=some (seqObj "list" vs.toArray n)) (hI:IntsAre vs ns) (hl:vs.length < 128)
  (h:∀ (out:Array Value) (ns':List Int),IntsAre out.toList ns'->ns'.Perm ns->ns'.Pairwise (·<=·)->P (.done (.ret .none)) { s with heap:=sortedHeap s.heap a vs out }):wpAny (model prog w) A (Builtin.«list.sort» ⟨[.ref a],[]⟩) P E s :=
 list_sort_ ho hl (fun h2=>kind_ints hI h2) (told_ints hI) fun out b1 b2=>by
  obtain ⟨ns',c1,c2,c3⟩:=ints_out hI b1 b2
  exact h out ns' c1 c2 c3
end
end Tim
namespace DL
open PySem PySem.Spec PyProof.Rows L2
section
variable {X:Cx} {E:XK} {m:Md} {a b e o i:Expr} {fa fb fe fo fi:Fn} {pos p:Pos} {fr:Rm} {x:Str}
theorem call_sortedDB (hc:X.calm=true):CallR X (.builtin "sorted") (fun xs H Q=>∃ p kvs ns,xs=[.ref p]/\Rd H p (.dK kvs)/\kvs.map (·.1)=ns.map Sum.inl/\ns.length < 128/\∀ l,H l=none->Q (.ref l) (upd H l (.lst ((isort ns).map V.int)))):=by
 intro pins s σ H xs us Q I r h
 obtain ⟨p,kvs,ns,rfl,hp,hks,h64,q⟩:=h
 obtain ⟨u,rfl,rx⟩:=vals1 r
 obtain rfl:u=Value.ref p:=rx
 obtain ⟨hz,lo,vs,rel,dd⟩:=dk_rd I.hok hp
 have hlen:vs.length=ns.length:=by
  have h1:=rel.length
  have h2:=congrArg List.length hks
  simp only [List.length_map] at h2
  lia
 obtain ⟨ep,hat⟩:=dd.dictAt
 refine Calls.call_function_entry kind_sorted plain_sorted entry_sorted (args_sorted1 _) ?_
 unfold Builtin.«sorted»
 refine wpAny_bind (m:=checkCount "sorted" 1 1 _) (wpAny_pure ?_)
 refine wpAny_bind (PySem.W.kdu_collect (PySem.W.kdl_dict (knd:=mixKind X.prog X.w) (kvs:=vs) (ep:=ep) lo) (by exact I.ok.hd hc) hat (by have:=sizeLine_eq;lia) fun h' tk acc hk hacc=>?_)
 have hal:acc.toList.length=vs.length:=by rw [Array.length_toList];exact hacc.1
 have hI:IntsAre acc.toList ns:=by
  refine ints_of (by lia) fun j v hj=>?_
  obtain ⟨k,x,hx,hk'⟩:=hacc.2 j v (by rw [← Array.getElem?_toList];exact hj)
  have hj2:j < ns.length:=by
   have:=(List.getElem?_eq_some_iff.mp hx).1
   lia
  refine ⟨ns[j],List.getElem?_eq_getElem hj2,?_⟩
  have hkey:=kv_key rel hx
  rw [hks,List.getElem?_map,List.getElem?_eq_getElem hj2] at hkey
  cases hkey
  exact keyIs_int hk'
 refine wpAny_bind (wpAny_newList ?_ (by have hrl:kvs.length=vs.length:=rel.length;rw [hal,← hrl];exact hz))
 have hoL:(h'.push { cls:=.type "list",data:=.seq acc.toList.toArray }).get? h'.objs.size=some (seqObj "list" acc.toList.toArray 0):=Heap.get?_push_size _ rfl
 refine wpAny_bind (wpAny_holding (wpAny_call_entry slot_list_sort ⟨_,hoL,rfl⟩ entry_list_sort (Tim.list_sort_tree hoL hI (by lia) fun out ns' a1 a2 a3=>⟨_,rfl,?_⟩) (args_list_sort _)))
 refine wpAny_pure ⟨_,rfl,?_⟩
 have e:=isort_uniq a2 a3
 obtain ⟨c,hat2⟩:=sortedHeap_at (out:=out) hoL
 subst e
 have I1:Inv X pins σ H { s with heap:=h',toks:=tk }:=I.kept hk
 have kp:∀ b o',h'.get? b=some o'->(sortedHeap (h'.push { cls:=.type "list",data:=.seq acc.toList.toArray }) h'.objs.size acc.toList out).get? b=some o':=fun b o' hb'=>by
  have hlt:=Heap.lt_size hb'
  rw [sortedHeap_old (Nat.ne_of_lt hlt) (by rw [size_push'];exact Nat.lt_succ_of_lt hlt)]
  exact Heap.get?_push_of_some _ hb'
 exact ⟨.ref h'.objs.size,_,I1.laid (t':=tk) kp (Nat.le_refl _) (show ObjOk X.prog X.w _ _ _ (.lst _) from ⟨by have hrl:kvs.length=vs.length:=rel.length;rw [List.length_map,isort_length,← hlen,← hrl];exact hz,out.toList,c,ints_vals a1,hat2⟩),rfl,q _ (I1.hok.fresh (Nat.le_refl _))⟩
def gSortDB:D->Ou D
 | .dic ks _=>(match keysI ks with
  | some ns=>if ns.length < 128 then .ok (.lst ((isort ns).map D.int)) else .bad
  | none=>.bad)
 | _=>.bad
theorem xsortDB (hm:X.mg "sorted" = none) (ha:PE X e (tX X.K E m fe)) (hn:notF m=true:=by rfl) (hc:X.calm=true:=by rfl) (hg:Gl X "sorted":=by rfl) (he:starEach [e] X.env=(false,eval e X.env)::starEach [] X.env:=by rfl) (hpl:(backTo pos (starEach ([]:List Expr) X.env)).any (·.1)=false:=by rfl) :
  PE X (.Call (.Name "sorted" p) [e] [] pos) (tX X.K E .F (f1 gSortDB fe)) :=
 (pe_callB (call_sortedDB hc) hg hm (by decide +kernel) (pa_cons ha pa_nil he) (by decide) (by decide) he hpl).imp fun σ H Q q=>by
 obtain ⟨c,δ,hK,ab,q⟩:=q
 refine ⟨c,δ,hK,ab,(Res.bind q).imp fun d _ k v H1 e1 r1=>?_⟩
 have r1':Rep c.K (BOf c σ δ m) H1 d v:=Post.bOf hn r1
 cases d <;> first | exact k.elim | skip
 simp only [Rep] at r1'
 obtain ⟨a,kvs,rfl,_,h1,rfl,h2⟩:=r1'
 unfold gSortDB at k
 cases ei:keysI (kvs.map (·.1)) with
 | none=>simp only [ei] at k;exact k.elim
 | some ns =>
  simp only [ei] at k
  by_cases h64:ns.length < 128
  ·simp only [if_pos h64] at k
   exact ⟨a,kvs,ns,rfl,h1,keysI_eq ei,h64,fun l hl=>k (.ref l) _ (e1.trans (same_new hl _)) ⟨l,_,rfl,e1.free hl,upd_same,_,rfl,ints_reps⟩⟩
  ·simp only [if_neg h64] at k;exact k.elim
end
end DL
namespace DL
open PySem PySem.Spec PyProof.Rows L2
section
variable {X:Cx} {E:XK} {tg:Expr} {e:Expr} {fl:Fn} {F:Sm} {fr:Rm} {p pos rp:Pos}
end
end DL
namespace DL
open PySem PySem.Spec PyProof.Rows L2
section
variable {prog:Program} {w:World} {A:Around} {E:Value->Shared->Prop} {s:Shared} {I l S:Addr} {items:Array Value}
end
end DL
namespace DL
open PySem PySem.Spec PyProof.Rows L2
section
variable {X:Cx} {E:XK} {m:Md} {e:Expr} {fe:Fn} {p p2 pos pos2:Pos}
end
end DL
namespace DL
open PySem PySem.Spec PyProof.Rows L2
def dDropK (ks:List Key) (q:Key):List Key:=ks.filter fun k=>decide (k≠q)
def dDropV:List Key->List D->Key->List D
 | k::ks,d::ds,q=>if k=q then dDropV ks ds q else d::dDropV ks ds q
 | _,_,_=>[]
theorem drop_keys {q:Key}:∀ {kvs:List (Key×V)},(dropK kvs q).map (·.1)=dDropK (kvs.map (·.1)) q
 | []=>rfl
 | (k,v)::r=>by
  have ih:=drop_keys (q:=q) (kvs:=r)
  unfold dropK dDropK at ih ⊢
  simp only [List.map_cons,List.filter_cons]
  by_cases h:k=q
  ·simp only [h,ne_eq,not_true_eq_false,decide_false,Bool.false_eq_true,if_false];exact ih
  ·simp only [ne_eq,h,not_false_eq_true,decide_true,if_true,List.map_cons];rw [ih]
theorem drop_reps {K:PySem.W.Frag} {B:Addr->Prop} {H:Hp} {q:Key}:∀ {kvs:List (Key×V)} {ds:List D},Reps K B H ds (kvs.map (·.2))->Reps K B H (dDropV (kvs.map (·.1)) ds q) ((dropK kvs q).map (·.2))
 | [],ds,r=>by simp [dDropV,dropK,Reps]
 | (k,v)::kvs,ds,r=>by
  cases ds with
  | nil=>simp [Reps] at r
  | cons d ds =>
   simp only [List.map_cons,Reps] at r
   obtain ⟨v',r',e,h1,h2⟩:=r
   cases e
   have ih:=drop_reps (q:=q) h2
   unfold dropK at ih ⊢
   simp only [List.map_cons,List.filter_cons,dDropV]
   by_cases h:k=q
   ·simp only [h,ne_eq,not_true_eq_false,decide_false,Bool.false_eq_true,if_false,if_true];exact ih
   ·simp only [ne_eq,h,not_false_eq_true,decide_true,if_true,if_false,List.map_cons,Reps]
    exact ⟨_,_,rfl,h1,ih⟩
section
variable {X:Cx} {E:XK} {e:Expr} {fe:Fn} {fr:Rm} {x:Str} {pos:Pos}
def sDPop (j:Nat) (fk:Fn):Sm:=fun δ=>match δ[j]? with
 | some (.own (.dic ks ds))=>(fk δ).bind fun k=>match keyD k with
  | some q=>(match dGet ks ds q with
   | some _=>.ok (.nx (δ.set j (.own (.dic (dDropK ks q) (dDropV ks ds q)))))
   | none=>.bad)
  | none=>.bad
 | _=>.bad
theorem xs_dpop (j:Nat) {px apos cpos:Pos} (he:PE X e (tX X.K E .W fe)) (hN:X.N[j]? = some x:=by rfl) (hv:Vis X.env.scope x:=by first | exact Or.inl rfl | exact Or.inr (Or.inl rfl) | exact Or.inr (Or.inr rfl)) (hd:(x == ("__debug__":Str))=false:=by decide) (hcd:(x == ("__classdict__":Str))=false:=by decide)
  (h:M1 X (.Name x px) "pop" apos e cpos:=by exact ⟨rfl,rfl,rfl,rfl⟩) (hs:swapsWith (.Call (.Attribute (.Name x px) "pop" apos) [e] [] cpos) none pos.line X.env=pure false:=by rfl) :
  PS X (.Expr (.Call (.Attribute (.Name x px) "pop" apos) [e] [] cpos) pos) (tS X.K E fr (sDPop j fe)) :=
 (ps_expr (pe_dpop1 (pv j hN hv hd hcd) he h) hs).imp fun D σ H q=>by
 obtain ⟨c,δ,hK,ab,q⟩:=q
 unfold sDPop at q
 cases e0:δ[j]? with
 | none=>rw [e0] at q;exact q.elim
 | some s =>
  rw [e0] at q
  cases s with
  | un=>exact q.elim
  | val d=>exact q.elim
  | own dd =>
   cases dd <;> first | exact q.elim | skip
   rename_i ks ds
   obtain ⟨p,o,g1,g2,g3,kvs,rfl,rfl,g4⟩:=ab.own j _ e0
   refine ⟨.ref p,g1,p,rfl,.inl ⟨kvs,.inl g2⟩,c,δ,hK,ab,(Res.bind q).imp fun dk _ k2 y H2 e2 r2=>?_⟩
   have r2':Rep c.K c.B H2 dk y:=r2
   cases ek:keyD dk with
   | none=>simp only [ek] at k2;exact k2.elim
   | some q' =>
    simp only [ek] at k2
    have hv':=dGet_val (q:=q') (g4.same e2)
    cases eg:dGet (kvs.map (·.1)) ds q' with
    | none=>simp only [eg] at k2;exact k2.elim
    | some d' =>
     simp only [eg] at k2 hv'
     obtain ⟨w',z1,z2⟩:=hv'
     refine ⟨kvs,q',w',e2 _ _ g2,keyD_rep ek r2',z1,k2 σ _ ((ab.grow e2).mut e0 g1 ⟨_,rfl,drop_keys,drop_reps (g4.same e2)⟩)⟩
end
end DL
namespace DL
open PySem PySem.Spec PyProof.Rows L2
section
variable {X:Cx} {E:XK} {m:Md} {e:Expr} {fe:Fn} {pos:Pos}
end
end DL
namespace DL
open PySem PySem.Spec PyProof.Rows L2
section
variable {X:Cx} {E:XK} {e:Expr} {fe:Fn} {fr:Rm} {x:Str} {p pos pos':Pos} {op:Operator} {g:D->D->Ou D}
def gAddI:D->D->Ou D
 | .int i,.int j=>.ok (.int (i + j))
 | _,_=>.bad
def gSubI:D->D->Ou D
 | .int i,.int j=>.ok (.int (i - j))
 | _,_=>.bad
end
end DL
namespace DL
open PySem PySem.Spec PyProof.Rows L2
section
variable {X:Cx} {E:XK} {e:Expr} {fe:Fn} {p p2 pos pos2:Pos}
end
end DL
namespace DL
open PySem PySem.Spec PyProof.Rows L2
section
variable {X:Cx} {E:XK} {fr:Rm} {x:Str} {pos:Pos}
end
end DL
namespace DL
open PySem PySem.Spec PyProof.Rows L2
section
variable {X:Cx}
inductive EqRow (A:Around) (s:Shared) (v:Value):List Value->List Bool->Prop
 | nil:EqRow A s v [] []
 | cons {u:Value} {b:Bool} {us:List Value} {bs:List Bool}:SeqAt.EqAt A s u v b->EqRow A s v us bs->EqRow A s v (u::us) (b::bs)
theorem EqRow.fn {A:Around} {s:Shared} {v:Value} {us:List Value} {bs:List Bool} (h:EqRow A s v us bs):∃ f:Value->Bool,(∀ u∈us,SeqAt.EqAt A s u v (f u))/\us.any f=bs.any id:=by
 classical
 refine ⟨fun u=>decide (∃ j:Nat,us[j]? = some u/\bs[j]? = some true),?_,?_⟩
 ·intro u hu
  show SeqAt.EqAt A s u v (decide (∃ j:Nat,us[j]? = some u/\bs[j]? = some true))
  by_cases hc:∃ j:Nat,us[j]? = some u/\bs[j]? = some true
  ·rw [decide_eq_true hc]
   obtain ⟨j,h1,h2⟩:=hc
   induction h generalizing j with
   | nil=>simp at h1
   | cons e t ih =>
    cases j with
    | zero=>simp at h1 h2;subst h1;subst h2;exact e
    | succ j =>
     refine ih ?_ j (by simpa using h1) (by simpa using h2)
     exact List.mem_of_getElem? (by simpa using h1)
  ·rw [decide_eq_false hc]
   obtain ⟨j,hj⟩:=List.getElem?_of_mem hu
   have hf:∀ j:Nat,us[j]? = some u->bs[j]?≠some true:=fun j h1 h2=>hc ⟨j,h1,h2⟩
   clear hc
   induction h generalizing j with
   | nil=>simp at hj
   | @cons u0 b us bs e t ih =>
    cases j with
    | zero =>
     simp at hj
     subst hj
     have:=hf 0 rfl
     have hb:b=false:=by
      cases b with
      | false=>rfl
      | true=>exact absurd rfl this
     subst hb
     exact e
    | succ j =>
     have hj':us[j]? = some u:=by simpa using hj
     exact ih (List.mem_of_getElem? hj') j hj' fun i h1=>by
      have:=hf (i + 1) (by simpa using h1)
      simpa using this
 ·rw [Bool.eq_iff_iff]
  simp only [List.any_eq_true,decide_eq_true_eq,id]
  constructor
  ·rintro ⟨u,_,j,_,h2⟩
   exact ⟨true,List.mem_of_getElem? h2,rfl⟩
  ·rintro ⟨b,hb,rfl⟩
   obtain ⟨j,hj⟩:=List.getElem?_of_mem hb
   have hl:us.length=bs.length:=by
    clear hb hj
    induction h with
    | nil=>rfl
    | cons _ _ ih=>simp [ih]
   have hj2:j < us.length:=by
    have:=(List.getElem?_eq_some_iff.mp hj).1
    lia
   exact ⟨us[j],List.getElem_mem hj2,j,List.getElem?_eq_getElem hj2,hj⟩
end
end DL
namespace DL
open PySem PySem.Spec PyProof.Rows L2
section
variable {X:Cx} {E:XK} {pos p2:Pos}
end
end DL
namespace DL
open PySem PySem.Spec PyProof.Rows L2
section
variable {X:Cx} {E:XK} {a b:Expr} {fa fb:Fn} {pos:Pos}
end
end DL
namespace DL
open PySem PySem.Spec PyProof.Rows L2
section
variable {X:Cx}
end
end DL
namespace DL
open PySem PySem.Spec PyProof.Rows L2
section
variable {X:Cx}
def cMulB (i j:Int):Bool:=decide (i.natAbs < 2 ^ 2000/\j.natAbs < 2 ^ 2000)
def gMulB:=gI cMulB fun i j=>.int (i * j)
end
end DL
namespace DL
open PySem PySem.Spec PyProof.Rows L2
def slW:Option Sl->Sl
 | some (.val d)=>.val d
 | some (.own d)=>.val d
 | _=>.un
section
variable {c:Cn} {σ:St} {δ:DS} {H1 H':Hp}
theorem Abs.ask {ix:List Nat} {d:D} {x:V} (a:Abs c σ δ H1) (e:Same H1 H') (r:Rep c.K (Av c σ δ) H1 d x) :
  Abs { K:=c.K,B:=fun _=>True,H₀:=H1,G:=[] } (some x::ix.map fun i=>(σ[i]?).join) (.val d::ix.map fun i=>slW δ[i]?) H':=by
 have no:∀ (i:Nat) (z:D),(Sl.val d::ix.map fun i=>slW δ[i]?)[i]? = some (Sl.own z)->False:=fun i z h=>by
  cases i with
  | zero=>cases h
  | succ i =>
   rw [List.getElem?_cons_succ,List.getElem?_map] at h
   cases e:ix[i]? with
   | none=>rw [e] at h;cases h
   | some j =>
    rw [e] at h
    have h':slW δ[j]? = Sl.own z:=Option.some.inj h
    unfold slW at h'
    split at h' <;> cases h'
 have nown:∀ q,¬ Own (some x::ix.map fun i=>(σ[i]?).join) (.val d::ix.map fun i=>slW δ[i]?) q:=fun q ⟨i,z,h,_⟩=>no i z h
 refine ⟨e,fun _ _=>trivial,by simp,fun i d' h=>?_,fun i z h=>(no i z h).elim,fun d v h=>(nomatch h),fun i j di dj q h=>(no i di h).elim,fun i q hP=>(nomatch hP)⟩
 cases i with
 | zero =>
  have hd:d=d':=by cases h;rfl
  subst hd
  exact ⟨x,rfl,(r.same e).weak fun q _=>⟨trivial,nown q⟩⟩
 | succ i =>
  rw [List.getElem?_cons_succ,List.getElem?_map] at h
  cases ej:ix[i]? with
  | none=>rw [ej] at h;cases h
  | some j =>
   rw [ej] at h
   have h':slW δ[j]? = Sl.val d':=Option.some.inj h
   have key:∃ v,σ[j]? = some (some v)/\Rep c.K c.B H1 d' v:=by
    unfold slW at h'
    split at h'
    ·rename_i z hz
     cases h'
     obtain ⟨v,z1,z2⟩:=a.val j d' hz
     exact ⟨v,z1,z2.weak fun _ w=>w.1⟩
    ·rename_i z hz
     cases h'
     obtain ⟨p,o,z1,z2,z3,z4⟩:=a.own j d' hz
     exact ⟨.ref p,z1,(z4.weak fun _ w=>w.1).rep z2 z3.2⟩
    ·cases h'
   obtain ⟨v,z1,z2⟩:=key
   refine ⟨v,?_,(z2.same e).weak fun q _=>⟨trivial,nown q⟩⟩
   rw [List.getElem?_cons_succ,List.getElem?_map,ej]
   show some ((σ[j]?).join)=_
   rw [z1];rfl
end
section
variable {X:Cx} {iter elt tg:Expr} {ifs:List Expr} {scope:Scope} {N':List Str} {ix:List Nat} {pos:Pos} {gc:DS->Ou Bool} {fe fl:Fn}
theorem xg0 {x:Str} (hN:X.N.Nodup) (hi:X.N[0]? = some x:=by rfl) (hx:Loc X.env.scope x:=by first | exact Or.inl rfl | exact Or.inr rfl) (hf:X.fn x=true\/X.env.scope.names.lookup x=some .local:=by first | exact .inl rfl | exact .inr rfl):PG X (.Name x pos) (gName 0):=pg_name hN hi hx hf
end
end DL
namespace DL
open PySem PySem.Spec PyProof.Rows L2
section
variable {X:Cx} {E:XK} {p pos:Pos}
end
end DL
namespace DL
open PySem PySem.Spec PyProof.Rows L2
section
variable {X:Cx} {E:XK} {pos p2:Pos}
theorem fm_congr {α β:Type} {f g:α->Option β}:∀ {l:List α},(∀ x∈l,f x=g x)->l.filterMap f=l.filterMap g
 | [],_=>rfl
 | x::l,h=>by
  rw [List.filterMap_cons,List.filterMap_cons,h x List.mem_cons_self,fm_congr fun y hy=>h y (List.mem_cons_of_mem _ hy)]
end
section
open HT
variable {prog:Program} {w:World} {A:Around} {E:Value->Shared->Prop} {s:Shared}
end
section
variable {X:Cx} {E:XK} {pos p2:Pos} {e:Expr} {fe:Fn} {m:Md}
end
end DL
namespace Tim
open PySem PyProof.Rows
section
variable {α:Type}
structure Ord (lt:α->α->Bool):Prop where
 irr:∀ a,lt a a=false
 tr:∀ {a b c},lt a b=true->lt b c=true->lt a c=true
 neg:∀ {a b c},lt a b=false->lt b c=false->lt a c=false
def insB (lt:α->α->Bool) (x:α):List α->List α
 | []=>[x]
 | y::r=>if lt y x=true then y::insB lt x r else x::y::r
def srt (lt:α->α->Bool):List α->List α
 | []=>[]
 | x::r=>insB lt x (srt lt r)
end
def plt (a b:Int×Int):Bool:=if a.1=b.1 then decide (a.2 < b.2) else decide (a.1 < b.1)
end Tim
namespace DL
open PySem PySem.Spec PyProof.Rows L2
def pairD (p:Int×Int):D:=.tup [.int p.1,.int p.2]
end DL
namespace DL
open PySem PySem.Spec PyProof.Rows L2
end DL
namespace DL
open PySem PySem.Spec PyProof.Rows L2
end DL
namespace Tim
open PySem PyProof.Rows
section
variable {α:Type}
end
section
variable {prog:Program} {w:World} {A:Around} {E:Value->Shared->Prop} {s:Shared}
def TupAt (h:Heap) (v:Value) (p:Int×Int):Prop:=∃ a t u,v=.ref a/\IsTup h a #[.int p.1 t,.int p.2 u]
def TupsAt (h:Heap):List Value->List (Int×Int)->Prop
 | [],[]=>True
 | v::vs,p::ps=>TupAt h v p/\TupsAt h vs ps
 | _,_=>False
theorem TupsAt.keep {h h':Heap} (k:∀ b o,h.get? b=some o->h'.get? b=some o):∀ {vs:List Value} {ps:List (Int×Int)},TupsAt h vs ps->TupsAt h' vs ps
 | [],[],_=>trivial
 | [],_::_,t=>t.elim
 | _::_,[],t=>t.elim
 | x::vs,p::ps,t=>by
  obtain ⟨⟨a,t1,u,rfl,o,ho,hc,n,hd⟩,t2⟩:=t
  exact ⟨⟨a,t1,u,rfl,o,k _ _ ho,hc,n,hd⟩,TupsAt.keep k t2⟩
end
end Tim
namespace DL
open PySem PySem.Spec PyProof.Rows L2
section
variable {X:Cx} {E:XK} {m:Md} {a b e o i:Expr} {fa fb fe fo fi:Fn} {pos p:Pos} {fr:Rm} {x:Str}
end
end DL
namespace DL
open PySem PySem.Spec PyProof.Rows L2
section
variable {X:Cx} {E:XK} {pos:Pos}
end
end DL
namespace Tim
open PySem PyProof.Rows
section
variable {prog:Program} {w:World} {A:Around} {E:Value->Shared->Prop} {R:Result->Shared->Prop} {I S:Addr} {fp wr:List Addr} {n:Nat} {P:Nat->Value->Prop} {St:Nat->Heap->Prop} {h₀:Heap} {bt:Nat->Nat->Bool}
end
end Tim
namespace DL
open PySem PySem.Spec PyProof.Rows L2
section
variable {X:Cx} {E:XK} {m:Md} {a b e o i:Expr} {fa fb fe fo fi:Fn} {pos p:Pos} {fr:Rm} {x:Str}
theorem eq_pair (p q:Int×Int):eqD 3 (pairD p) (pairD q)=some (decide (p=q)):=by
 obtain ⟨a,b⟩:=p
 obtain ⟨c,d⟩:=q
 simp only [Prod.mk.injEq,Bool.decide_and]
 simp [pairD,eqD,eqF,rk,its,eqT,zipO,toV,eqV]
 by_cases h1:a=c <;> by_cases h2:b=d <;> simp [h1,h2]
end
end DL
namespace DL
open PySem PySem.Spec PyProof.Rows L2
section
variable {X:Cx} {E:XK} {tg:Expr} {e:Expr} {fl:Fn} {F:Sm} {fr:Rm} {p pos:Pos}
end
end DL
namespace PySem
theorem lk_list_keys:typeLookup (.type "list") "keys" = pure none:=by rw [typeLookup_type,builtinLookup_eq_fast];kernel_rfl
theorem keys_miss_list {prog:Program} {w:World} {A:Around} {E:Value->Shared->Prop} {s:Shared} {a:Addr} {o:Obj} {xs:Array Value} {k:Nat} {Q:Option Value->Shared->Prop}
  (hx:s.heap.get? a=some o) (hc:o.cls=.type "list") (hdat:o.data=.seq xs k) (hd:o.dict=none) (hA:A.handled=none)
  (h:∀ h' tk,(∀ b ob,s.heap.get? b=some ob->h'.get? b=some ob)->Q none { s with heap:=h',toks:=tk }) :
  wpAny (model prog w) A (getAttr? (.ref a) "keys") Q E s:=by
 obtain ⟨c,dct,dat,sl⟩:=o
 simp only at hc hdat hd
 subst hc hdat hd
 obtain ⟨hp,g,d,tk,os⟩:=s
 have hT:∀ tk',(⟨hp,g,d,tk',os⟩:Shared).TypeIs (.ref a) "list":=fun _=>⟨_,hx,rfl⟩
 have f1:=sub_AttributeError
 have f3:=F.slot_list_getattribute.lookup
 have f4:=F.slot_list_getattribute.bind (.ref a)
 have f5:=am_list_getattr_none
 unfold getAttr? getAttrBy? getAttrBy
 repeat (any_goals (first | assumption | exact hT _ | ((with_reducible show wpAny _ _ (call (Value.builtin "list.__getattribute__") _ _) _ _ _);refine call_meets F.slot_list_getattribute (hT _) am_entry_list_getattribute (F.args_list_getattribute_2 _ _) (meets_getattribute_miss_list a xs k sl "keys" _ lk_list_keys (by decide +kernel) (by decide +kernel)) ⟨hx,hA,fun h' tk' e hx'=>?_⟩) | wp_step))
 obtain ⟨t',u',he⟩:=hx'.there
 show wpAny _ _ (getattributeRaised _ _ _ _ _ _ _) _ _ _
 unfold getattributeRaised
 repeat (any_goals (first | assumption | wp_step))
 exact h _ _ hx'.keeps
end PySem
namespace PySem
namespace F
theorem entry_upd_loop:entryFor table "dict.update.loop" = some Builtin.«dict.update.loop»:=entryFor_of_tree (by kernel_rfl)
theorem plain_upd_loop:plainId "dict.update.loop" = true:=by decide +kernel
end F
section
variable {prog:Program} {w:World} {K:Type} [DecidableEq K] {knd:KeyKind prog w K} {A:Around} {E:Value->Shared->Prop} {s:Shared}
theorem pairItems_tuple {b:Addr} {items:Array Value} {Q:List Value->Shared->Prop} (ht:s.heap.IsTuple b items) (h:Q items.toList s):wpAny (model prog w) A (Builtin.Dict.pairItems (.ref b)) Q E s:=by
 obtain ⟨o,ho,hc,n,hd⟩:=id ht
 unfold Builtin.Dict.pairItems
 refine wpAny_bind (wpAny_typeOf ⟨o,ho,hc⟩ ?_)
 rw [if_pos (by decide)]
 refine wpAny_bind (wpAny_seqItems ho hd ?_)
 exact wpAny_pure h
def PairsAt (knd:KeyKind prog w K) (d I:Addr) (items:Array Value) (more:List (K×Value)) (h:Heap):Prop :=
 ∀ (j:Nat) (kv:K×Value),more[j]? = some kv->∃ b key,items[j]? = some (.ref b)/\b≠d/\b≠I/\h.IsTuple b #[key,kv.2]/\knd.is kv.1 key=true
theorem upd_loop {I l d:Addr} {items:Array Value} {more:List (K×Value)} (hdI:d≠I) (hlI:l≠I) (hld:l≠d) (hlen:more.length=items.size) (hsz:more.length<=sizeLine) (hnd:(more.map (·.1)).Nodup) {A:Around} (hh:A.handled=none) {R:Result->Shared->Prop} :
  ∀ (k i:Nat) (s:Shared),items.size - i=k->i<=items.size->s.heap.IsListIter I l i->s.heap.IsList l items->s.heap.DictOf knd d (more.take i)->PairsAt knd d I items more s.heap ->
   (∀ h' tk,h'.DictOf knd d more->(∀ b o,b≠I->b≠d->s.heap.get? b=some o->h'.get? b=some o)->R (.ok (.ret .none)) { s with heap:=h',toks:=tk }) ->
   codeAny (model prog w) A (.builtin "dict.update.loop" ⟨[.ref d,.ref I,rawInt i,.none],[]⟩) R s:=by
 intro k
 induction k with
 | zero =>
  intro i s hk hi hit hl hd hp hR
  have hin:i=items.size:=by omega
  subst hin
  refine codeAny_builtin F.entry_upd_loop ?_
  rw [Around.under_plainId F.plain_upd_loop _]
  show wpAny _ A.in1 (pyNext (.ref I) >>= _) _ _ s
  refine wpAny_bind (wpAny_pyNext_list_end hh hit hl (by simp) fun h' he=>?_)
  show wpAny _ _ (Builtin.Dict.addKeywords d [] >>= _) _ _ _
  refine wpAny_bind (wpAny_pure (wpAny_pure ?_))
  rw [List.take_of_length_le (by omega)] at hd
  exact hR h' s.toks (hd.extBut he hdI) fun b o hb _ e=>he b o hb e
 | succ k ih =>
  intro i s hk hi hit hl hd hp hR
  have hlt:i < items.size:=by omega
  have hml:i < more.length:=by omega
  obtain ⟨b,key,hb,hbd,hbI,hbt,hkey⟩:=hp i more[i] (List.getElem?_eq_getElem hml)
  refine codeAny_builtin F.entry_upd_loop ?_
  rw [Around.under_plainId F.plain_upd_loop _]
  show wpAny _ A.in1 (pyNext (.ref I) >>= _) _ _ s
  refine wpAny_bind (wpAny_pyNext_list_item hit hl hb fun h1 hit1 hs1=>?_)
  refine wpAny_bind (wpAny_holding (wpAny_bind (wpAny_tryCatch (pairItems_tuple (hbt.extBut hs1.extBut hbI) ?_))))
  refine wpAny_holding (wpAny_dictSet_pairs hkey (hd.extBut hs1.extBut hdI) (fun h2 hd2 hs2=>?_) (by rw [List.length_take];omega))
  have hst:stored (more.take i) more[i].1 more[i].2=more.take (i + 1):=by
   have hnot:¬ ((more.take i).any fun kv=>decide (kv.1=more[i].1))=true:=by
    rw [List.any_eq_true]
    rintro ⟨kv,hkv,he⟩
    obtain ⟨j,hj,rfl⟩:=List.getElem_of_mem hkv
    rw [List.length_take] at hj
    rw [List.getElem_take] at he
    have hij:j < i:=by omega
    have:=List.pairwise_iff_getElem.mp hnd j i (by rw [List.length_map];omega) (by rw [List.length_map];omega) hij
    simp only [List.getElem_map] at this
    exact this (of_decide_eq_true he)
   unfold stored
   rw [if_neg hnot,List.take_add_one,List.getElem?_eq_getElem hml]
   rfl
  rw [hst] at hd2
  refine wpAny_pure ⟨plainId_quiet F.plain_upd_loop _,?_⟩
  have keep:∀ c o,c≠I->c≠d->s.heap.get? c=some o->h2.get? c=some o:=fun c o h1' h2' e=>hs2.extBut c o h2' (hs1.extBut c o h1' e)
  refine ih (i + 1) _ (by omega) (by omega) ?_ ?_ hd2 ?_ fun h' tk hd' hk'=>?_
  ·obtain ⟨oi,ho,hr⟩:=hit1
   exact ⟨oi,hs2.extBut I oi (Ne.symm hdI) ho,hr⟩
  ·obtain ⟨ol,ho,hr⟩:=hl
   exact ⟨ol,keep l ol hlI hld ho,hr⟩
  ·intro j kv hj
   obtain ⟨b',key',g1,g2,g3,g4,g5⟩:=hp j kv hj
   obtain ⟨ob,ho,hr⟩:=g4
   exact ⟨b',key',g1,g2,g3,⟨ob,keep b' ob g3 g2 ho,hr⟩,g5⟩
  ·exact hR h' tk hd' fun c o h1' h2' e=>hk' c o h1' h2' (keep c o h1' h2' e)
end
end PySem
namespace PySem
section
variable {prog:Program} {w:World} {K:Type} [DecidableEq K] {knd:KeyKind prog w K} {A:Around} {E:Value->Shared->Prop} {s:Shared}
theorem call_dict_pairs {l:Addr} {o:Obj} {items:Array Value} {n:Nat} {more:List (K×Value)} {Q:Value->Shared->Prop} (ho:s.heap.get? l=some o) (hc:o.cls=.type "list") (hdat:o.data=.seq items n) (hdn:o.dict=none) (hA:A.handled=none)
  (hlen:more.length=items.size) (hsz:more.length<=sizeLine) (hnd:(more.map (·.1)).Nodup)
  (hp:∀ (j:Nat) (kv:K×Value),more[j]? = some kv->∃ b key,items[j]? = some (.ref b)/\s.heap.IsTuple b #[key,kv.2]/\knd.is kv.1 key=true)
  (h:∀ h' tk,h'.DictOf knd s.heap.objs.size more->(∀ b ob,s.heap.get? b=some ob->h'.get? b=some ob)->Q (.ref s.heap.objs.size) { s with heap:=h',toks:=tk }) :
  wpAny (model prog w) A (call (.type "dict") [.ref l]) Q E s:=by
 refine callType_codes (Q₁:=fun obj s₁=>obj=.ref s.heap.objs.size/\s₁={ s with heap:=s.heap.push { cls:=.type "dict",data:=.dict #[] } }) F.kt_called_dict (F.kt_typeCall_dict_1 _) F.entry_dict_init (kt_code_dict_new _ ⟨rfl,rfl⟩) ?_
 rintro obj s₁ ⟨rfl,rfl⟩
 have hnew:(s.heap.push { cls:=.type "dict",data:=.dict #[] }).DictOf knd s.heap.objs.size []:=Heap.DictOf.new s.heap
 have ho':(s.heap.push { cls:=.type "dict",data:=.dict #[] }).get? l=some o:=Heap.get?_push_of_some _ ho
 refine ⟨hnew.typeIs,F.args_dict_init_2 _ _,?_⟩
 unfold Builtin.«dict.__init__»
 refine wpAny_bind ?_
 unfold Builtin.Dict.selfAndRest
 refine wpAny_bind (wpAny_notOrdered_dict hnew.typeIs ?_)
 show wpAny _ _ (pure (s.heap.objs.size,[Value.ref l])) _ _ _
 refine wpAny_pure ?_
 show wpAny _ _ (Builtin.Dict.updateFrom "dict.__init__" s.heap.objs.size (.ref l) [] .none) _ _ _
 unfold Builtin.Dict.updateFrom
 refine wpAny_bind (wpAny_typeOf (T:="list") ⟨o,ho',hc⟩ ?_)
 rw [if_pos (by decide)]
 refine wpAny_bind (keys_miss_list ho' hc hdat hdn (by exact hA) fun h1 tk hk=>?_)
 rw [if_pos (show (none:Option Value).isNone=true from rfl)]
 refine wpAny_bind (wpAny_rule ?_)
 have hl1:h1.IsList l items:=⟨o,hk l o ho',hc,n,hdat⟩
 refine wpAny_bind (wpAny_pyIter_list hl1 ?_)
 have hsl:l < s.heap.objs.size:=Heap.lt_size ho
 have hd1:h1.DictOf knd s.heap.objs.size []:=by
  obtain ⟨od,es,ep,g,r⟩:=hnew
  exact ⟨od,es,ep,hk _ _ g,r⟩
 have hds:s.heap.objs.size < h1.objs.size:=by
  obtain ⟨od,es,ep,g,r⟩:=hd1
  exact Heap.lt_size g
 refine wpAny_pure ⟨plainId_quiet F.plain_upd_loop _,?_⟩
 refine upd_loop (I:=h1.objs.size) (l:=l) (d:=s.heap.objs.size) (items:=items) (more:=more) (Nat.ne_of_lt hds) (Nat.ne_of_lt (Nat.lt_trans hsl hds)) (Nat.ne_of_lt hsl) hlen hsz hnd (by exact hA) items.size 0 _ rfl (Nat.zero_le _) ⟨_,Heap.get?_push_size _ rfl,rfl,rfl⟩ ⟨o,Heap.get?_push_of_some _ (hk l o ho'),hc,n,hdat⟩ (by rw [List.take_zero];exact hd1.push _) (fun j kv hj=>?_) fun h' tk' hd' hk'=>?_
 ·obtain ⟨b,key,g1,⟨ob,hob,hr⟩,g3⟩:=hp j kv hj
  have hbs:=Heap.lt_size hob
  exact ⟨b,key,g1,Nat.ne_of_lt hbs,Nat.ne_of_lt (Nat.lt_trans hbs hds),⟨ob,Heap.get?_push_of_some _ (hk b ob (Heap.get?_push_of_some _ hob)),hr⟩,g3⟩
 ·refine ⟨rfl,h h' tk' hd' fun b ob hob=>?_⟩
  have hbs:=Heap.lt_size hob
  exact hk' b ob (Nat.ne_of_lt (Nat.lt_trans hbs hds)) (Nat.ne_of_lt hbs) (Heap.get?_push_of_some _ (hk b ob (Heap.get?_push_of_some _ hob)))
end
end PySem
namespace DL
open PySem PySem.Spec PyProof.Rows L2
section
variable {X:Cx} {E:XK} {m:Md} {e:Expr} {fe:Fn} {p pos:Pos} {x:Str}
theorem call_dictP (hc:X.calm=true):CallR X (.type "dict") (fun xs H Q=>∃ (p:Addr) (vs:List V) (kvs:List (Key×V)),xs=[.ref p]/\SqL X.K H p vs/\vs.length=kvs.length/\(∀ (i:Nat) (kv:Key×V),kvs[i]? = some kv->∃ b,vs[i]? = some (.ref b)/\SqT X.K H b [kV kv.1,kv.2])/\(kvs.map (·.1)).Nodup /\
  ∀ l,H l=none->Q (.ref l) (upd H l (.dK kvs))):=by
 intro pins s σ H xs us Q I r h
 obtain ⟨p,vs,kvs,rfl,hq,hlen,hp,hnd,q⟩:=h
 obtain ⟨u,rfl,rx⟩:=vals1 r
 obtain rfl:u=Value.ref p:=rx
 obtain ⟨its,rv,⟨o,n,ho,hcl,hdn,hdat⟩,hz⟩:=I.list hq
 have hl:=rv.length
 obtain ⟨more,rel,hmore⟩:∃ more:List (Key×Value),KV kvs more/\∀ (j:Nat) (kv:Key×Value),more[j]? = some kv->∃ b key,its[j]? = some (.ref b)/\s.heap.IsTuple b #[key,kv.2]/\(mixKind X.prog X.w).is kv.1 key=true:=by
  have gen:∀ (kvs:List (Key×V)) (n:Nat),(∀ (i:Nat) (kv:Key×V),kvs[i]? = some kv->∃ b,vs[n + i]? = some (.ref b)/\SqT X.K H b [kV kv.1,kv.2])->∃ more:List (Key×Value),KV kvs more/\∀ (j:Nat) (kv:Key×Value),more[j]? = some kv->∃ b key,its[n + j]? = some (.ref b)/\s.heap.IsTuple b #[key,kv.2]/\(mixKind X.prog X.w).is kv.1 key=true:=by
   intro kvs
   induction kvs with
   | nil=>intro n _;exact ⟨[],.nil,fun j kv hj=>by simp at hj⟩
   | cons kv r ih =>
    intro n hp
    obtain ⟨b,hb,ht⟩:=hp 0 kv rfl
    obtain ⟨more,rel,hm⟩:=ih (n + 1) fun i kv hi=>by
     have:=hp (i + 1) kv (by simpa using hi)
     rwa [show n + (i + 1)=n + 1 + i by omega] at this
    obtain ⟨u,hu,ru⟩:=rv.get hb
    obtain rfl:u=Value.ref b:=ru
    obtain ⟨tis,tv,hT,_⟩:=I.tuple ht
    obtain ⟨key,t2,rfl,rk,tv2⟩:∃ key t2,tis=key::t2/\RelV (kV kv.1) key/\Vals [kv.2] t2:=by
     cases tv with
     | cons a b=>exact ⟨_,_,rfl,a,b⟩
    obtain ⟨val,rfl,rval⟩:=vals1 tv2
    refine ⟨(kv.1,val)::more,.cons ⟨rfl,rval⟩ rel,fun j kv' hj=>?_⟩
    cases j with
    | zero =>
     cases hj
     exact ⟨b,key,hu,hT,kV_is rk⟩
    | succ j =>
     obtain ⟨b',key',g1,g2,g3⟩:=hm j kv' (by simpa using hj)
     exact ⟨b',key',by rw [show n + (j + 1)=n + 1 + j by omega];exact g1,g2,g3⟩
  obtain ⟨more,rel,hm⟩:=gen kvs 0 fun i kv hi=>by rw [Nat.zero_add];exact hp i kv hi
  exact ⟨more,rel,fun j kv hj=>by have:=hm j kv hj;rwa [Nat.zero_add] at this⟩
 have hml:kvs.length=more.length:=rel.length
 have hkeys:more.map (·.1)=kvs.map (·.1):=by
  clear hmore hml hp hnd hlen q
  induction rel with
  | nil=>rfl
  | cons a b ih=>simp only [List.map_cons,ih,a.1]
 refine call_dict_pairs (knd:=mixKind X.prog X.w) (items:=its.toArray) (more:=more) ho hcl hdat hdn (I.ok.hd hc) (by rw [List.size_toArray];omega) (by omega) (by rw [hkeys];exact hnd) (fun j kv hj=>?_) fun h' tk hd hk=>?_
 ·obtain ⟨b,key,g1,g2,g3⟩:=hmore j kv hj
  exact ⟨b,key,by simpa using g1,g2,g3⟩
 ·exact ⟨.ref s.heap.objs.size,_,I.laid (a:=s.heap.objs.size) (o:=.dK kvs) (t':=tk) hk (Nat.le_refl _) (dk_new (by omega) (beq_eq_false_iff_ne.mpr (Ne.symm (Nat.ne_of_lt I.big))) rel hd),rfl,q _ (I.hok.fresh (Nat.le_refl _))⟩
def pairK:D->Option (Key×D)
 | .tup [k,v]=>(keyD k).map fun q=>(q,v)
 | _=>none
def pairsK:List D->Option (List (Key×D))
 | []=>some []
 | d::ds=>match pairK d,pairsK ds with
  | some p,some ps=>some (p::ps)
  | _,_=>none
def gDictP:D->Ou D
 | .lst ds=>(match pairsK ds with
  | some ps=>if (ps.map (·.1)).Nodup then .ok (.dic (ps.map (·.1)) (ps.map (·.2))) else .bad
  | none=>.bad)
 | _=>.bad
theorem pairs_rep {K:PySem.W.Frag} {B:Addr->Prop} {H:Hp}:∀ {ds:List D} {ps:List (Key×D)} {vs:List V},pairsK ds=some ps->Reps K B H ds vs->∃ kvs:List (Key×V),kvs.map (·.1)=ps.map (·.1)/\Reps K B H (ps.map (·.2)) (kvs.map (·.2))/\vs.length=kvs.length/\∀ (i:Nat) (kv:Key×V),kvs[i]? = some kv->∃ b,vs[i]? = some (.ref b)/\SqT K H b [kV kv.1,kv.2]
 | [],ps,vs,hp,r=>by
  simp only [pairsK,Option.some.injEq] at hp
  subst hp
  simp only [Reps] at r
  subst r
  exact ⟨[],rfl,by simp [Reps],rfl,fun i kv h=>by simp at h⟩
 | d::ds,ps,vs,hp,r=>by
  simp only [pairsK] at hp
  simp only [Reps] at r
  obtain ⟨v,r',rfl,h1,h2⟩:=r
  cases e1:pairK d with
  | none=>rw [e1] at hp;cases hp
  | some p =>
   cases e2:pairsK ds with
   | none=>rw [e1,e2] at hp;cases hp
   | some ps' =>
    rw [e1,e2] at hp
    cases hp
    obtain ⟨kvs,g1,g2,g3,g4⟩:=pairs_rep e2 h2
    obtain ⟨k,dv,rfl,ek⟩:∃ k dv,d=.tup [k,dv]/\(keyD k).map (fun q=>(q,dv))=some p:=by
     unfold pairK at e1
     split at e1
     ·exact ⟨_,_,rfl,e1⟩
     ·cases e1
    cases ek':keyD k with
    | none=>rw [ek'] at ek;cases ek
    | some q =>
     rw [ek'] at ek
     cases ek
     simp only [Rep] at h1
     obtain ⟨b,ys,rfl,hs,hr⟩:=h1
     simp only [Reps] at hr
     obtain ⟨y1,r1,rfl,hy1,y2,r2,rfl,hy2,rfl⟩:=hr
     have hk:=keyD_rep ek' hy1
     subst hk
     refine ⟨(q,y2)::kvs,by simp [g1],?_,by simp [g3],fun i kv hi=>?_⟩
     ·simp only [List.map_cons,Reps]
      exact ⟨y2,kvs.map (·.2),rfl,hy2,g2⟩
     ·cases i with
      | zero=>cases hi;exact ⟨b,rfl,hs⟩
      | succ i=>simpa using g4 i kv (by simpa using hi)
theorem xdictP {fe:Fn} (hm:X.mg "dict" = none) (ha:PE X e (tX X.K E .S fe)) (hc:X.calm=true:=by rfl) (hg:Gl X "dict":=by rfl) (he:starEach [e] X.env=(false,eval e X.env)::starEach [] X.env:=by rfl) (hpl:(backTo pos (starEach ([]:List Expr) X.env)).any (·.1)=false:=by rfl) :
  PE X (.Call (.Name "dict" p) [e] [] pos) (tX X.K E .F (f1 gDictP fe)) :=
 (pe_callTy (call_dictP hc) hg hm (by decide +kernel) (pa_cons ha pa_nil he) (by decide) (by decide) he hpl).imp fun σ H Q q=>by
 obtain ⟨c,δ,hK,ab,q⟩:=q
 refine ⟨c,δ,hK,ab,(Res.bind q).imp fun d hd0 k v H1 e1 r1=>?_⟩
 have r1':Rep c.K (Av c σ δ) H1 d v:=r1
 cases d <;> first | exact k.elim | skip
 rename_i ds
 simp only [Rep] at r1'
 obtain ⟨a,vs,rfl,_,h1,h2⟩:=r1'
 simp only [gDictP] at k
 cases ep:pairsK ds with
 | none=>rw [ep] at k;exact k.elim
 | some ps =>
  rw [ep] at k
  by_cases hn:(ps.map (·.1)).Nodup
  ·simp only [if_pos hn] at k
   obtain ⟨kvs,g1,g2,g3,g4⟩:=pairs_rep ep h2
   refine ⟨a,vs,kvs,rfl,.of h1,g3,fun i kv hi=>by rw [← hK];exact g4 i kv hi,by rw [g1];exact hn,fun l hl=>k (.ref l) _ (e1.trans (same_new hl _)) ?_⟩
   have:=dict_new (c:=c) (σ:=σ) (δ:=δ) e1 hl g2
   rw [g1] at this
   exact this
  ·simp only [if_neg hn] at k
   exact k.elim
end
end DL
namespace Tim
open PySem PyProof.Rows
section
variable {prog:Program} {w:World} {A:Around} {E:Value->Shared->Prop} {s:Shared} {α:Type}
end
end Tim
namespace Tim
open PySem PyProof.Rows
section
variable {prog:Program} {w:World} {A:Around} {E:Value->Shared->Prop} {s:Shared}
def NmAt (h:Heap) (v:Value) (x:Str):Prop:=∃ a o xs n t,v=.ref a/\h.get? a=some o/\o.cls=.type "tuple"/\o.data=.seq xs n/\xs[0]? = some (.str x t)
theorem NmAt.keep {h h':Heap} {v:Value} {x:Str} (k:∀ b o,h.get? b=some o->h'.get? b=some o) (n:NmAt h v x):NmAt h' v x:=by
 obtain ⟨a,o,xs,n,t,rfl,ho,r⟩:=n
 exact ⟨a,o,xs,n,t,rfl,k _ _ ho,r⟩
end
end Tim
namespace DL
open PySem PySem.Spec PyProof.Rows L2
section
variable {X:Cx} {E:XK} {m:Md} {e:Expr} {fe:Fn} {p pos:Pos} {x:Str}
end
end DL
namespace Tim
open PySem PyProof.Rows
section
variable {α β:Type}
end
section
variable {prog:Program} {w:World} {A:Around} {E:Value->Shared->Prop} {s:Shared}
end
end Tim
namespace DL
open PySem PySem.Spec PyProof.Rows L2
section
variable {X:Cx} {E:XK} {m:Md} {e:Expr} {fe:Fn} {p pos:Pos} {x:Str}
end
end DL
namespace DL
open PySem PySem.Spec PyProof.Rows L2
section
variable {X:Cx} {E:XK} {p px pos apos cpos:Pos} {x:Str}
end
end DL
namespace DL
open PySem PySem.Spec PyProof.Rows L2
section
variable {X:Cx} {E:XK} {fr:Rm} {x y:Str} {pos:Pos} {ga:DS->Ou Bool} {fe:Fn}
end
end DL
namespace DL
open PySem PySem.Spec PyProof.Rows L2
section
variable {K:PySem.W.Frag} {B:Addr->Prop} {H:Hp}
end
section
variable {X:Cx} {E:XK} {m:Md} {e o:Expr} {fe fo:Fn} {pos p:Pos} {fr:Rm} {x:Str} {es:List Expr} {fs:List Fn}
def sExt (i:Nat) (f:Fn):Sm:=fun δ=>match δ[i]? with
 | some (.own (.lst ds))=>(f δ).bind fun d=>(match d with
  | .lst es=>if ds.length + es.length<=sizeLine then .ok (.nx (δ.set i (.own (.lst (ds++es))))) else .bad
  | _=>.bad)
 | _=>.bad
theorem xs_ext (i:Nat) {px apos cpos:Pos} (he:PE X e (tX X.K E .S fe)) (hN:X.N[i]? = some x:=by rfl) (hv:Vis X.env.scope x:=by first | exact Or.inl rfl | exact Or.inr (Or.inl rfl) | exact Or.inr (Or.inr rfl)) (hd:(x == ("__debug__":Str))=false:=by decide) (hcd:(x == ("__classdict__":Str))=false:=by decide)
  (hst:starEach [e] X.env=(false,eval e X.env)::starEach [] X.env:=by rfl) (hs:swapsWith (.Call (.Attribute (.Name x px) "extend" apos) [e] [] cpos) none pos.line X.env=pure false:=by rfl) (hb:attributeBase (.Name x px) "extend" X.env (eval (.Name x px) X.env)=eval (.Name x px) X.env:=by rfl) (h1:(apos.endLine == cpos.line)=true:=by rfl)
  (h2:(backTo cpos (starEach ([]:List Expr) X.env)).any (·.1)=false:=by rfl)
  (hfew:((backTo cpos (starEach [e] X.env)).all (fun x=>!x.1) && (backToKw cpos (keywordEach [] X.env)).all (fun x=>x.1.isSome) && decide (([e]:List Expr).length + ([]:List Keyword).length + (if ([]:List Keyword).isEmpty then 0 else 1) < 30))=true:=by rfl) :
  PS X (.Expr (.Call (.Attribute (.Name x px) "extend" apos) [e] [] cpos) pos) (tS X.K E fr (sExt i fe)) :=
 (ps_expr (pe_bm PySem.F.plainAttrs_list PySem.F.slot_list_extend PySem.F.type_list_extend mt_extend (pv i hN hv hd hcd) (pa_cons he pa_nil hst) hb hfew h1 hst h2) hs).imp fun D σ H q=>by
 obtain ⟨c,δ,hK,ab,q⟩:=q
 unfold sExt at q
 cases e0:δ[i]? with
 | none=>rw [e0] at q;exact q.elim
 | some s =>
  rw [e0] at q
  cases s with
  | un=>exact q.elim
  | val d=>exact q.elim
  | own d =>
   cases d <;> first | exact q.elim | skip
   rename_i ds
   obtain ⟨p,o,g1,g2,g3,xs,rfl,g4⟩:=ab.own i _ e0
   refine ⟨.ref p,g1,.inl ⟨rfl,xs,.of g2⟩,c,δ,hK,ab,(Res.bind q).imp fun d _ k v H1 e1 r1=>?_⟩
   obtain ⟨es,rfl⟩:∃ es,d=.lst es:=by
    cases d <;> first | exact k.elim | exact ⟨_,rfl⟩
   have r1':Rep c.K (Av c σ δ) H1 (.lst es) v:=r1
   simp only [Rep] at r1'
   obtain ⟨b,zs,rfl,_,hb1,hb2⟩:=r1'
   by_cases hl:ds.length + es.length<=sizeLine
   ·simp only [if_pos hl] at k
    have z2:=e1 _ _ g2
    exact ⟨p,b,xs,zs,rfl,rfl,z2,hb1,by rw [g4.length,hb2.length];exact hl,k σ _ ((ab.grow e1).mut e0 g1 ⟨_,rfl,Reps.append (g4.same e1) hb2⟩)⟩
   ·simp only [if_neg hl] at k
    exact k.elim
end
end DL
namespace DL
open PySem PySem.Spec PyProof.Rows L2
section
variable {X:Cx} {E:XK} {fr:Bool} {x:Str} {pos:Pos} {F:Sm}
end
end DL
namespace Bt
theorem b2 (a b:Nat) (ha:a < 2) (hb:b < 2):(a ||| b)=(a ^^^ b) + (a &&& b):=by
 have h1:a=0\/a=1:=by lia
 have h2:b=0\/b=1:=by lia
 rcases h1 with rfl | rfl <;> rcases h2 with rfl | rfl <;> rfl
theorem or_xor_and:∀ (x y:Nat),(x ||| y)=(x ^^^ y) + (x &&& y):=by
 intro x
 induction x using Nat.strongRecOn with
 | _ x ih =>
  intro y
  by_cases hx:x=0
  ·subst hx;simp
  ·have h:=ih (x / 2) (by lia) (y / 2)
   have e1:(x ||| y) / 2=x / 2 ||| y / 2:=Nat.or_div_two
   have e2:(x ^^^ y) / 2=x / 2 ^^^ y / 2:=Nat.xor_div_two
   have e3:(x &&& y) / 2=x / 2 &&& y / 2:=Nat.and_div_two
   have m1:(x ||| y) % 2=x % 2 ||| y % 2:=Nat.or_mod_two_pow (n:=1)
   have m2:(x ^^^ y) % 2=x % 2 ^^^ y % 2:=Nat.xor_mod_two_pow (n:=1)
   have m3:(x &&& y) % 2=x % 2 &&& y % 2:=Nat.and_mod_two_pow (n:=1)
   rw [← e1,← e2,← e3] at h
   have b:=b2 (x % 2) (y % 2) (by lia) (by lia)
   rw [← m1,← m2,← m3] at b
   lia
theorem xor_zero_eq {a b:Nat} (h:a ^^^ b=0):a=b:=by
 refine Nat.eq_of_testBit_eq fun i=>?_
 have:(a ^^^ b).testBit i=false:=by rw [h];simp
 rw [Nat.testBit_xor] at this
 simpa using this
def bits (z:Nat):Nat:=if z=0 then 0 else z.log2 + 1
theorem lt_bits (z:Nat):z < 2 ^ bits z:=by
 unfold bits
 by_cases h:z=0
 ·rw [if_pos h,h];simp
 ·rw [if_neg h];exact Nat.lt_log2_self
theorem bits_le {z k:Nat} (h:z < 2 ^ k):bits z<=k:=by
 unfold bits
 by_cases h0:z=0
 ·rw [if_pos h0];lia
 ·rw [if_neg h0]
  have:=(Nat.log2_lt h0).mpr h
  lia
theorem div_same {f l:Nat}:f / 2 ^ bits (f ^^^ l)=l / 2 ^ bits (f ^^^ l):=by
 refine xor_zero_eq ?_
 rw [← Nat.xor_div_two_pow]
 exact Nat.div_eq_of_lt (lt_bits _)
theorem half {f l:Nat} (h:f<=l) (hz:f ^^^ l≠0):∃ m q,bits (f ^^^ l)=m + 1/\f / 2 ^ (m + 1)=q/\f < q * 2 ^ (m + 1) + 2 ^ m/\q * 2 ^ (m + 1) + 2 ^ m<=l:=by
 have hb:bits (f ^^^ l)=(f ^^^ l).log2 + 1:=by unfold bits;rw [if_neg hz]
 refine ⟨(f ^^^ l).log2,f / 2 ^ ((f ^^^ l).log2 + 1),hb,rfl,?_⟩
 have hs:=div_same (f:=f) (l:=l)
 rw [hb] at hs
 generalize hm:(f ^^^ l).log2=m at hs
 have hne:f / 2 ^ m≠l / 2 ^ m:=by
  intro e
  have:(f ^^^ l) / 2 ^ m=0:=by rw [Nat.xor_div_two_pow,e];simp
  have h1:2 ^ m<=f ^^^ l:=by rw [← hm];exact Nat.log2_self_le hz
  have:=Nat.div_pos h1 (Nat.two_pow_pos m)
  lia
 have hle:f / 2 ^ m<=l / 2 ^ m:=Nat.div_le_div_right h
 rw [Nat.pow_succ,← Nat.div_div_eq_div_mul,← Nat.div_div_eq_div_mul] at hs
 have e1:f / 2 ^ m=2 * (f / 2 ^ m / 2):=by lia
 have e2:l / 2 ^ m=2 * (f / 2 ^ m / 2) + 1:=by lia
 have p:=Nat.two_pow_pos m
 rw [Nat.pow_succ,← Nat.div_div_eq_div_mul]
 generalize f / 2 ^ m / 2=q at e1 e2
 have ea:q * (2 ^ m * 2)=(2 * q) * 2 ^ m:=by rw [Nat.mul_comm (2 ^ m) 2,← Nat.mul_assoc,Nat.mul_comm q 2]
 have h1:f < (f / 2 ^ m + 1) * 2 ^ m:=by
  have:=Nat.lt_succ_self (f / 2 ^ m)
  exact (Nat.div_lt_iff_lt_mul p).mp this
 have h2:(l / 2 ^ m) * 2 ^ m<=l:=Nat.div_mul_le_self l _
 rw [e1,Nat.add_mul,Nat.one_mul] at h1
 rw [e2,Nat.add_mul,Nat.one_mul] at h2
 lia
theorem block {f n:Nat} (hf:f < 2 ^ 30) (hn:n<=30):f / 2 ^ n * 2 ^ n + 2 ^ n<=2 ^ 30:=by
 have e:2 ^ 30=2 ^ (30 - n) * 2 ^ n:=by rw [← Nat.pow_add];congr 1;lia
 have h:f / 2 ^ n < 2 ^ (30 - n):=by
  rw [Nat.div_lt_iff_lt_mul (Nat.two_pow_pos n),← e];exact hf
 have h2:(f / 2 ^ n + 1) * 2 ^ n<=2 ^ (30 - n) * 2 ^ n:=Nat.mul_le_mul_right _ h
 rw [Nat.add_mul,Nat.one_mul,← e] at h2
 exact h2
end Bt
namespace DL
open PySem L2
section
variable {F G:Sm} {δ:DS} {fa fb fc:Fn} {g g':D->D->Ou D} {ga gb:DS->Ou Bool}
@[simp] theorem e_seq:sSeq F G δ=(F δ).bind fun r=>match r with
 | .nx δ'=>G δ'
 | r=>.ok r:=rfl
@[simp] theorem e_next:sNext δ=.ok (.nx δ):=rfl
@[simp] theorem e_if:sIf ga F G δ=(ga δ).bind fun b=>if b=true then F δ else G δ:=rfl
@[simp] theorem e_ret:sRet fa δ=(fa δ).bind fun d=>.ok (.rt d):=rfl
@[simp] theorem e_drop:sDrop fa δ=(fa δ).bind fun _=>.ok (.nx δ):=rfl
@[simp] theorem e_set {i:Nat}:sSet i fa δ=(fa δ).bind fun d=>.ok (.nx (δ.set i (.val d))):=rfl
@[simp] theorem e_break:sBreak δ=.ok (.bk δ):=rfl
@[simp] theorem e_cont:sCont δ=.ok (.ct δ):=rfl
@[simp] theorem e_f2:f2 g fa fb δ=(fa δ).bind fun x=>(fb δ).bind fun y=>g x y:=rfl
@[simp] theorem e_f1 {h:D->Ou D}:f1 h fa δ=(fa δ).bind h:=rfl
@[simp] theorem e_c {d:D}:fC d δ=.ok d:=rfl
@[simp] theorem e_asB:fAsB fa δ=(fa δ).bind asB:=rfl
@[simp] theorem e_tru:fTru fa δ=(fa δ).bind truD:=rfl
@[simp] theorem e_notT:fNotT ga δ=(ga δ).bind fun b=>.ok (!b):=rfl
@[simp] theorem e_andT:fAndT ga gb δ=(ga δ).bind fun b=>if b=true then gb δ else .ok false:=rfl
@[simp] theorem e_orT:fOrT ga gb δ=(ga δ).bind fun b=>if b=true then .ok true else gb δ:=rfl
@[simp] theorem e_andV:fAndV fa fb δ=(fa δ).bind fun x=>(asB x).bind fun b=>if b=true then fb δ else .ok (.bl false):=rfl
@[simp] theorem e_orV:fOrV fa fb δ=(fa δ).bind fun x=>(asB x).bind fun b=>if b=true then .ok (.bl true) else fb δ:=rfl
@[simp] theorem e_notV:fNotV fa δ=(fa δ).bind fun x=>(asB x).bind fun b=>.ok (.bl (!b)):=rfl
@[simp] theorem e_ife:fIfE ga fa fb δ=(ga δ).bind fun b=>if b=true then fa δ else fb δ:=rfl
@[simp] theorem e_chn:fChn g g' fa fb fc δ=(fa δ).bind fun x=>(fb δ).bind fun y=>(g x y).bind fun z=>(asB z).bind fun k=>if k=true then (fc δ).bind fun w=>g' y w else .ok (.bl false):=rfl
@[simp] theorem e_tup {fs:List Fn}:fTup fs δ=(fArgs fs δ).bind fun ds=>.ok (.tup ds):=rfl
@[simp] theorem e_lst {fs:List Fn}:fLst fs δ=(fArgs fs δ).bind fun ds=>.ok (.lst ds):=rfl
@[simp] theorem e_call {mm:List D->Ou D} {fs:List Fn}:fCall mm fs δ=(fArgs fs δ).bind mm:=rfl
@[simp] theorem e_args0:fArgs [] δ=.ok []:=rfl
@[simp] theorem e_args {f:Fn} {fs:List Fn}:fArgs (f::fs) δ=(f δ).bind fun d=>(fArgs fs δ).bind fun ds=>.ok (d::ds):=rfl
@[simp] theorem e_meth {tb:MTab} {fo:Fn} {fs:List Fn}:fMeth tb fo fs δ=(fo δ).bind fun d=>match tbM tb d with
 | some mm=>(fArgs fs δ).bind fun ds=>mm (d::ds)
 | none=>.bad:=rfl
@[simp] theorem e_make0 {c:PySem.Str}:fMake0 c δ=.ok (.obj c):=rfl
@[simp] theorem tbM_head {c:PySem.Str} {f:List D->Ou D} {tb:MTab}:tbM ((c,f)::tb) (.obj c)=some f:=by simp [tbM]
theorem tbM_tail {c c':PySem.Str} {f:List D->Ou D} {tb:MTab} (h:(c' == c)=false):tbM ((c',f)::tb) (.obj c)=tbM tb (.obj c):=by simp [tbM,h]
@[simp] theorem e_listL {ds:List D}:gListOf (.lst ds)=.ok (.lst ds):=rfl
@[simp] theorem e_listF {ds:List D}:gListOf (.frl ds)=.ok (.lst ds):=rfl
@[simp] theorem e_listT {ds:List D}:gListOf (.tup ds)=.ok (.lst ds):=rfl
@[simp] theorem e_isBl {d:D} {k:Bool}:gIsB d (.bl k)=.ok (.bl (isBl k d)):=rfl
@[simp] theorem e_notBl {d:D} {k:Bool}:gNotB d (.bl k)=.ok (.bl (!isBl k d)):=rfl
@[simp] theorem e_isBl2 {k k':Bool}:isBl k (.bl k')=(k' == k):=rfl
@[simp] theorem e_isNn:gIsN .non=.ok (.bl true):=rfl
@[simp] theorem e_notNn:gNotN .non=.ok (.bl false):=rfl
@[simp] theorem e_sown {i:Nat}:sOwn i fa δ=(fa δ).bind fun d=>.ok (.nx (δ.set i (.own d))):=rfl
@[simp] theorem e_asBb {b:Bool}:asB (.bl b)=.ok b:=rfl
@[simp] theorem e_truB {b:Bool}:truD (.bl b)=.ok b:=rfl
@[simp] theorem e_up:fUp fa δ=(fa δ).bind fun d=>if imm d=true then .ok d else .bad:=rfl
@[simp] theorem e_imm_i {i:Int}:imm (.int i)=true:=rfl
@[simp] theorem e_imm_b {i:Bool}:imm (.bl i)=true:=rfl
@[simp] theorem e_imm_s {i:Str}:imm (.str i)=true:=rfl
@[simp] theorem e_imm_n:imm .non=true:=rfl
@[simp] theorem e_imm_t {ds:List D}:imm (.tup ds)=imms ds:=by simp [imm]
@[simp] theorem e_imms0:imms []=true:=by simp [imms]
@[simp] theorem e_imms {d:D} {ds:List D}:imms (d::ds)=(imm d && imms ds):=by simp [imms]
@[simp] theorem e_add {i j:Int}:gAdd (.int i) (.int j)=.ok (.int (i + j)):=rfl
@[simp] theorem e_sub {i j:Int}:gSub (.int i) (.int j)=.ok (.int (i - j)):=rfl
@[simp] theorem e_mul {i j:Int}:gMul (.int i) (.int j)=if cMul i j=true then .ok (.int (i * j)) else .bad:=rfl
@[simp] theorem e_div {i j:Int}:gDiv (.int i) (.int j)=if cDiv i j=true then .ok (.int (i / j)) else .bad:=rfl
@[simp] theorem e_mod {i j:Int}:gMod (.int i) (.int j)=if cMod i j=true then .ok (.int (i % j)) else .bad:=rfl
@[simp] theorem e_pow {i j:Int}:gPow (.int i) (.int j)=if cPow i j=true then .ok (.int (i ^ j.toNat)) else .bad:=rfl
@[simp] theorem e_shl {i j:Int}:gShl (.int i) (.int j)=if cPow i j=true then .ok (.int (i * 2 ^ j.toNat)) else .bad:=rfl
@[simp] theorem e_shr {i j:Int}:gShr (.int i) (.int j)=if cShr i j=true then .ok (.int (i / 2 ^ j.toNat)) else .bad:=rfl
@[simp] theorem e_xor {i j:Int}:gXor (.int i) (.int j)=.ok (.int (Builtin.bitXor i j)):=rfl
@[simp] theorem e_and {i j:Int}:gAnd (.int i) (.int j)=.ok (.int (Builtin.bitAnd i j)):=rfl
@[simp] theorem e_lt {i j:Int}:gLt (.int i) (.int j)=.ok (.bl (decide (i < j))):=rfl
@[simp] theorem e_le {i j:Int}:gLe (.int i) (.int j)=.ok (.bl (decide (i<=j))):=rfl
@[simp] theorem e_gt {i j:Int}:gGt (.int i) (.int j)=.ok (.bl (decide (j < i))):=rfl
@[simp] theorem e_ge {i j:Int}:gGe (.int i) (.int j)=.ok (.bl (decide (j<=i))):=rfl
theorem gEq_eq {x y:D}:gEq x y=match eqF (eqF (eqF (eqD 57))) x y with
 | some b=>.ok (.bl b)
 | none=>.bad:=rfl
theorem gNe_eq {x y:D}:gNe x y=match eqF (eqF (eqF (eqD 57))) x y with
 | some b=>.ok (.bl (!b))
 | none=>.bad:=rfl
@[simp] theorem e_eqI {i j:Int}:gEq (.int i) (.int j)=.ok (.bl (decide (i=j))):=rfl
@[simp] theorem e_eqB {i j:Bool}:gEq (.bl i) (.bl j)=.ok (.bl (decide (i=j))):=rfl
@[simp] theorem e_neI {i j:Int}:gNe (.int i) (.int j)=.ok (.bl (!decide (i=j))):=rfl
@[simp] theorem e_neg {i:Int}:gNeg (.int i)=.ok (.int (-i)):=rfl
@[simp] theorem e_min {i j:Int}:gMin [.int i,.int j]=.ok (.int (if j < i then j else i)):=rfl
@[simp] theorem e_max {i j:Int}:gMax [.int i,.int j]=.ok (.int (if j > i then j else i)):=rfl
@[simp] theorem e_lenL {ds:List D}:gLen [.lst ds]=.ok (.int (ds.length:Nat)):=rfl
@[simp] theorem e_lenF {ds:List D}:gLen [.frl ds]=.ok (.int (ds.length:Nat)):=rfl
@[simp] theorem e_lenT {ds:List D}:gLen [.tup ds]=.ok (.int (ds.length:Nat)):=rfl
@[simp] theorem e_ixT {ds:List D} {i:Int}:gIx (.tup ds) (.int i)=match atI ds i with
 | some d=>.ok d
 | none=>.bad:=rfl
@[simp] theorem e_ixL {ds:List D} {i:Int}:gIx (.lst ds) (.int i)=match atI ds i with
 | some d=>.ok d
 | none=>.bad:=rfl
@[simp] theorem e_ixF {ds:List D} {i:Int}:gIx (.frl ds) (.int i)=match atI ds i with
 | some d=>.ok d
 | none=>.bad:=rfl
@[simp] theorem e_isI {i:Int} {T:String}:gIs T (.int i)=.ok (.bl (isT "int" T)):=rfl
@[simp] theorem e_isB {i:Bool} {T:String}:gIs T (.bl i)=.ok (.bl (isT "bool" T)):=rfl
@[simp] theorem e_isS {i:Str} {T:String}:gIs T (.str i)=.ok (.bl (isT "str" T)):=rfl
@[simp] theorem e_isN {T:String}:gIs T .non=.ok (.bl (isT "NoneType" T)):=rfl
@[simp] theorem e_isT {ds:List D} {T:String}:gIs T (.tup ds)=.ok (.bl (isT "tuple" T)):=rfl
@[simp] theorem e_isL {ds:List D} {T:String}:gIs T (.lst ds)=.ok (.bl (isT "list" T)):=rfl
@[simp] theorem e_isF {ds:List D} {T:String}:gIs T (.frl ds)=.ok (.bl (isT "list" T)):=rfl
@[simp] theorem e_run {n:Nat} {ds:List D}:runD false n F ds=(F (startD n ds)).bind fun r=>match r with
 | .rt d=>.ok d
 | .nx _=>.ok .non
 | _=>.bad:=by unfold runD;rfl
@[simp] theorem e_runF {n:Nat} {ds:List D}:runD true n F ds=(F (startD n ds)).bind fun r=>match r with
 | .rt d=>.ok d
 | _=>.bad:=by
 unfold runD
 congr 1
 funext r
 cases r <;> rfl
@[simp] theorem bind_bind {α β γ:Type} {o:Ou α} {f:α->Ou β} {h:β->Ou γ}:(o.bind f).bind h=o.bind fun a=>(f a).bind h:=by
 cases o <;> rfl
@[simp] theorem ite_bl {p:Prop} [Decidable p] {q:Bool}:(if p then Ou.ok (D.bl q) else Ou.ok (D.bl false))=.ok (.bl (decide p && q)):=by
 by_cases h:p <;> simp [h]
@[simp] theorem ite_bl' {p:Prop} [Decidable p] {q:Bool}:(if p then Ou.ok (D.bl true) else Ou.ok (D.bl q))=.ok (.bl (decide p || q)):=by
 by_cases h:p <;> simp [h]
@[simp] theorem ite_b {p:Prop} [Decidable p] {q:Bool}:(if p then Ou.ok q else Ou.ok false)=.ok (decide p && q):=by
 by_cases h:p <;> simp [h]
@[simp] theorem ite_b' {p:Prop} [Decidable p] {q:Bool}:(if p then Ou.ok true else Ou.ok q)=.ok (decide p || q):=by
 by_cases h:p <;> simp [h]
@[simp] theorem cDiv_ok {i j:Int} (h:0 < j) (h2:j < 2 ^ 64):cDiv i j=true:=by simp [cDiv];lia
@[simp] theorem cMod_ok {i j:Int} (h:0 < j):cMod i j=true:=by simp [cMod];lia
@[simp] theorem cMul_l {i j:Int} (h:-(2 ^ 64) < i) (h2:i < 2 ^ 64):cMul i j=true:=by simp [cMul];lia
@[simp] theorem cMul_r {i j:Int} (h:-(2 ^ 64) < j) (h2:j < 2 ^ 64):cMul i j=true:=by simp [cMul];lia
theorem at_0 {α:Type} {x:α} {r:List α}:atI (x::r) 0=some x:=by
 unfold atI ixN
 simp
theorem at_nat {α:Type} {xs:List α} {k:Nat} (h:k < xs.length):atI xs (k:Int)=some xs[k]:=by
 unfold atI ixN
 have h1:(0:Int)<=(k:Int):=by lia
 have h2:(k:Int) < (xs.length:Int):=by lia
 simp [h1,h2,h]
theorem at_1 {α:Type} {x y:α} {r:List α}:atI (x::y::r) 1=some y:=at_nat (xs:=x::y::r) (k:=1) (by simp)
theorem at_2 {α:Type} {x y z:α} {r:List α}:atI (x::y::z::r) 2=some z:=at_nat (xs:=x::y::z::r) (k:=2) (by simp)
theorem at_3 {α:Type} {x y z u:α} {r:List α}:atI (x::y::z::u::r) 3=some u:=at_nat (xs:=x::y::z::u::r) (k:=3) (by simp)
theorem at_4 {α:Type} {x y z u v:α} {r:List α}:atI (x::y::z::u::v::r) 4=some v:=at_nat (xs:=x::y::z::u::v::r) (k:=4) (by simp)
def Goes (Inv:DS->Prop) (o:Ou Fl):Prop:=∃ δ2,(o=.ok (.nx δ2)\/o=.ok (.ct δ2))/\Inv δ2
theorem Goes.nx {Inv:DS->Prop} {δ:DS} (h:Inv δ):Goes Inv (.ok (.nx δ)):=⟨δ,.inl rfl,h⟩
theorem Goes.eq {Inv:DS->Prop} {o:Ou Fl} {δ2:DS} (e:o=.ok (.nx δ2)) (h:Inv δ2):Goes Inv o:=⟨δ2,.inl e,h⟩
theorem Goes.ct {Inv:DS->Prop} {δ:DS} (h:Inv δ):Goes Inv (.ok (.ct δ)):=⟨δ,.inr rfl,h⟩
theorem forL_goesN {g:D->DS->Ou DS} {body:Sm} (Inv:Nat->DS->Prop):∀ (items:List D) (n:Nat) (_:∀ i d,items[i]? = some d->∀ δ,Inv (n + i) δ->Goes (Inv (n + i + 1)) ((g d δ).bind body)) (δ:DS),Inv n δ->∃ δ',forL g body items δ=.ok (.nx δ')/\Inv (n + items.length) δ'
 | [],n,_,δ,h=>⟨δ,rfl,h⟩
 | d::r,n,hs,δ,h=>by
  obtain ⟨δ2,h1,h2⟩:=hs 0 d rfl δ h
  obtain ⟨δ',h3,h4⟩:=forL_goesN Inv r (n + 1) (fun i d hd δ hi=>by
   have e:n + 1 + i=n + (i + 1):=by lia
   rw [e] at hi ⊢
   exact hs (i + 1) d (by simpa using hd) δ hi) δ2 h2
  refine ⟨δ',?_,by
   rw [List.length_cons]
   have e:n + (r.length + 1)=n + 1 + r.length:=by lia
   rw [e];exact h4⟩
  cases e:g d δ with
  | ok δ1 =>
   simp only [forL,e,bind_ok] at h1 ⊢
   rcases h1 with h1 | h1 <;> rw [h1] <;> exact h3
  | ex z=>rw [e] at h1;rcases h1 with h1 | h1 <;> cases h1
  | bad=>rw [e] at h1;rcases h1 with h1 | h1 <;> cases h1
theorem for_of {fl:Fn} {g:D->DS->Ou DS} {body:Sm} {δ:DS} {ds:List D} (h:fl δ=.ok (.lst ds)):sFor fl g body δ=forL g body ds δ:=by
 simp only [sFor,h,bind_ok]
theorem cut_len (xs:List D) (lo hi:Option Int):(cutD xs lo hi).length<=xs.length:=by
 unfold cutD
 rw [List.length_take,List.length_drop]
 lia
@[simp] theorem e_nm {i:Nat} {d:D} {δ:DS}:gNm i d δ=.ok (δ.set i (.val d)):=rfl
theorem rng1 {g:D->DS->Ou DS} {F:Sm} {fs:List Fn} {δ:DS} {j:Int} (h:fArgs fs δ=.ok [.int j]) (hj:rOk j=true):sRng fs g F δ=forL g F (rng 0 j.toNat) δ:=by
 simp only [sRng,h,bind_ok,hj,if_true]
end
end DL
namespace DL
open PySem L2
section
@[simp] theorem e_eqS {x y:Str}:gEq (.str x) (.str y)=.ok (.bl (decide (x=y))):=by
 simp [gEq_eq,eqF,rk,toV,eqV];rfl
@[simp] theorem e_neS {x y:Str}:gNe (.str x) (.str y)=.ok (.bl (!decide (x=y))):=by
 simp [gNe_eq,eqF,rk,toV,eqV];rfl
end
end DL
namespace DL
open PySem L2
section
@[simp high] theorem e_min' {i j:Int}:gMin [.int i,.int j]=.ok (.int (min i j)):=by
 rw [e_min];congr 2;by_cases h:j < i <;> simp [h] <;> lia
@[simp high] theorem e_max' {i j:Int}:gMax [.int i,.int j]=.ok (.int (max i j)):=by
 rw [e_max];congr 2;by_cases h:j > i <;> simp [h] <;> lia
@[simp] theorem e_addI {i j:Int}:gAddI (.int i) (.int j)=.ok (.int (i + j)):=rfl
@[simp] theorem e_subI {i j:Int}:gSubI (.int i) (.int j)=.ok (.int (i - j)):=rfl
end
end DL
namespace DL
open PySem L2
theorem at_map {ns:List Int} {k:Nat} (h:k < ns.length):atI (ns.map D.int) (k:Int)=some (.int ns[k]):=by
 rw [at_nat (by simpa using h)];simp
end DL
namespace DL
open PySem L2
inductive Row2 {α:Type} (R:D->α->Prop):List D->List α->Prop
 | nil:Row2 R [] []
 | cons {d:D} {x:α} {ds:List D} {xs:List α}:R d x->Row2 R ds xs->Row2 R (d::ds) (x::xs)
section
variable {α:Type} {R:D->α->Prop}
theorem Row2.len {ds:List D} {xs:List α} (h:Row2 R ds xs):ds.length=xs.length:=by
 induction h with
 | nil=>rfl
 | cons _ _ ih=>simp [ih]
theorem Row2.drop {ds:List D} {xs:List α} (h:Row2 R ds xs):∀ n,Row2 R (ds.drop n) (xs.drop n):=by
 induction h with
 | nil=>intro n;simpa using Row2.nil
 | cons a t ih =>
  intro n
  cases n with
  | zero=>exact .cons a t
  | succ n=>exact ih n
theorem Row2.take {ds:List D} {xs:List α} (h:Row2 R ds xs):∀ n,Row2 R (ds.take n) (xs.take n):=by
 induction h with
 | nil=>intro n;simpa using Row2.nil
 | cons a t ih =>
  intro n
  cases n with
  | zero=>exact .nil
  | succ n=>exact .cons a (ih n)
theorem Row2.get {ds:List D} {xs:List α} (h:Row2 R ds xs) {k:Nat} {d:D} (e:ds[k]? = some d):∃ x,xs[k]? = some x/\R d x:=by
 induction h generalizing k with
 | nil=>simp at e
 | @cons d' x ds xs a t ih =>
  cases k with
  | zero=>simp at e;subst e;exact ⟨x,rfl,a⟩
  | succ k=>obtain ⟨x,h1,h2⟩:=ih (by simpa using e);exact ⟨x,by simpa using h1,h2⟩
end
theorem cut_map (ns:List Int) (lo hi:Option Int):∃ ms:List Int,cutD (ns.map D.int) lo hi=ms.map D.int/\ms.length<=ns.length:=by
 refine ⟨(ns.drop (HT.sIx ns.length 0 lo)).take (HT.sIx ns.length ns.length hi - HT.sIx ns.length 0 lo),?_,?_⟩
 ·unfold cutD
  rw [List.length_map,List.map_take,List.map_drop]
 ·rw [List.length_take,List.length_drop];lia
end DL
namespace DL
open PySem L2
theorem For.useP {g:D->DS->Ou DS} {body:Sm} {items:List D} {δ:DS} {α:Type} {k:Fl->Ou α} (P:Ou α->Prop) (Inv:Nat->DS->Prop) (h0:Inv 0 δ) (hs:∀ i d,items[i]? = some d->i < items.length->∀ δ,Inv i δ->Goes (Inv (i + 1)) ((g d δ).bind body))
  (hd:∀ δ,Inv items.length δ->P (k (.nx δ))):P ((forL g body items δ).bind k):=by
 obtain ⟨δ',e,q⟩:=forL_goesN Inv items 0 (fun i d hd δ hi=>by
  rw [Nat.zero_add] at hi ⊢
  exact hs i d hd (List.getElem?_eq_some_iff.mp hd).1 δ hi) δ h0
 rw [e]
 rw [Nat.zero_add] at q
 exact hd δ' q
theorem Rng.useP {g:D->DS->Ou DS} {body:Sm} {fs:List Fn} {δ:DS} {j:Int} {α:Type} {k:Fl->Ou α} (P:Ou α->Prop) (h:fArgs fs δ=.ok [.int j]) (hj:rOk j=true) (Inv:Nat->DS->Prop) (h0:Inv 0 δ)
  (hs:∀ n:Nat,(n:Int) < j->∀ δ,Inv n δ->Goes (Inv (n + 1)) ((g (.int (n:Int)) δ).bind body)) (hd:∀ δ,Inv j.toNat δ->P (k (.nx δ))):P ((sRng fs g body δ).bind k):=by
 rw [rng1 h hj]
 refine For.useP P Inv h0 (fun i d hm hi δ hI=>?_) (by rw [rng_len];exact hd)
 obtain ⟨h1,rfl⟩:=rng_get hm
 have e:(0:Int) + (i:Int)=(i:Int):=by lia
 rw [e]
 exact hs i (by lia) δ hI
theorem snoc {α:Type}:∀ {xs:List α},xs≠[]->∃ r x,xs=r++[x]
 | [],h=>absurd rfl h
 | [x],_=>⟨[],x,rfl⟩
 | x::y::r,_=>by
  obtain ⟨r',z,e⟩:=snoc (xs:=y::r) (by simp)
  exact ⟨x::r',z,by rw [e];rfl⟩
end DL
namespace DL
open PySem L2
theorem zipO_mono {f f':D->D->Option Bool} (hf:∀ x y b,f x y=some b->f' x y=some b):∀ {xs ys:List D} {bs:List Bool},zipO f xs ys=some bs->zipO f' xs ys=some bs
 | [],_,_,h=>by simpa [zipO] using h
 | x::xs,[],_,h=>by simpa [zipO] using h
 | x::xs,y::ys,bs,h=>by
  simp only [zipO] at h ⊢
  cases e:f x y with
  | none=>rw [e] at h;cases h
  | some b =>
   rw [e] at h
   rw [hf x y b e]
   cases e2:zipO f xs ys with
   | none=>rw [e2] at h;cases h
   | some bs'=>rw [e2] at h;rw [zipO_mono hf e2];exact h
theorem eqF_mono {f f':D->D->Option Bool} (hf:∀ x y b,f x y=some b->f' x y=some b) {x y:D} {b:Bool} (h:eqF f x y=some b):eqF f' x y=some b:=by
 unfold eqF at h ⊢
 split at h <;> try exact h
 ·unfold eqT at h ⊢
  cases e:zipO f (its x) (its y) with
  | none=>rw [e] at h;cases h
  | some bs=>rw [e] at h;rw [zipO_mono hf e];exact h
 ·unfold eqL at h ⊢
  by_cases hl:(its x).length=(its y).length
  ·rw [if_pos hl] at h ⊢
   cases e:zipO f (its x) (its y) with
   | none=>rw [e] at h;cases h
   | some bs=>rw [e] at h;rw [zipO_mono hf e];exact h
  ·rw [if_neg hl] at h ⊢;exact h
theorem eqD_mono1:∀ (n:Nat) {x y:D} {b:Bool},eqD n x y=some b->eqD (n + 1) x y=some b
 | 0,_,_,_,h=>nomatch h
 | n + 1,_,_,_,h=>eqF_mono (f:=eqD n) (fun _ _ _ z=>eqD_mono1 n z) h
theorem eqD_mono {n m:Nat} (h:n<=m) {x y:D} {b:Bool} (e:eqD n x y=some b):eqD m x y=some b:=by
 induction h with
 | refl=>exact e
 | step _ ih=>exact eqD_mono1 _ ih
def Self (n:Nat) (x:D):Prop:=eqD n x x=some true
theorem Self.mono {n m:Nat} {x:D} (h:Self n x) (hm:n<=m):Self m x:=eqD_mono hm h
theorem Self.int (i:Int):Self 1 (.int i):=by show eqF _ _ _=_;simp [eqF,rk,toV,eqV]
theorem Self.str (i:Str):Self 1 (.str i):=by show eqF _ _ _=_;simp [eqF,rk,toV,eqV]
theorem Self.bl (i:Bool):Self 1 (.bl i):=by show eqF _ _ _=_;simp [eqF,rk,toV,eqV]
theorem Self.non:Self 1 .non:=rfl
theorem zip_self {n:Nat}:∀ {xs:List D},(∀ x∈xs,Self n x)->zipO (eqD n) xs xs=some (xs.map fun _=>true)
 | [],_=>rfl
 | x::xs,h=>by
  have h1:eqD n x x=some true:=h x List.mem_cons_self
  simp [zipO,h1,zip_self fun y hy=>h y (List.mem_cons_of_mem _ hy)]
theorem Self.tup {n:Nat} {xs:List D} (h:∀ x∈xs,Self n x):Self (n + 1) (.tup xs):=by
 show eqF (eqD n) _ _=_
 simp [eqF,rk,its,eqT,zip_self h]
theorem Self.lst {n:Nat} {xs:List D} (h:∀ x∈xs,Self n x):Self (n + 1) (.lst xs):=by
 show eqF (eqD n) _ _=_
 simp [eqF,rk,its,eqL,zip_self h]
theorem Self.eq {n:Nat} {x:D} (h:Self n x) (hn:n<=60):gEq x x=.ok (.bl true):=by
 have e:eqD 60 x x=some true:=eqD_mono hn h
 unfold gEq
 rw [e]
theorem Self.ne {n:Nat} {x:D} (h:Self n x) (hn:n<=60):gNe x x=.ok (.bl false):=by
 have e:eqD 60 x x=some true:=eqD_mono hn h
 unfold gNe
 rw [e];rfl
end DL
namespace DL
open PySem L2
theorem mod_lt (c:Int) {m:Int} (h:0 < m):0<=c % m/\c % m < m:=⟨Int.emod_nonneg _ (by lia),Int.emod_lt_of_pos _ h⟩
end DL
namespace DL
open PySem L2
@[simp] theorem e_mulB {i j:Int}:gMulB (.int i) (.int j)=if cMulB i j=true then .ok (.int (i * j)) else .bad:=rfl
end DL
namespace DL
theorem len1 {α:Type} {P:List α->Prop} (h:∀ a,P [a]):∀ us,us.length=1->P us
 | [a],_=>h a
theorem len2 {α:Type} {P:List α->Prop} (h:∀ a b,P [a,b]):∀ us,us.length=2->P us
 | [a,b],_=>h a b
theorem len3 {α:Type} {P:List α->Prop} (h:∀ a b c,P [a,b,c]):∀ us,us.length=3->P us
 | [a,b,c],_=>h a b c
theorem len4 {α:Type} {P:List α->Prop} (h:∀ a b c d,P [a,b,c,d]):∀ us,us.length=4->P us
 | [a,b,c,d],_=>h a b c d
theorem len5 {α:Type} {P:List α->Prop} (h:∀ a b c d e,P [a,b,c,d,e]):∀ us,us.length=5->P us
 | [a,b,c,d,e],_=>h a b c d e
end DL
namespace DL
section
variable {ga:DS->Ou Bool} {fa:Fn} {F G:Sm} {δ:DS} {b:Bool} {d:D} {i:Nat} {j w:Int}
theorem if_no (h:ga δ=.ok b) (hb:b=false):sSeq (sIf ga F sNext) G δ=G δ:=by
 subst hb
 show ((ga δ).bind _).bind _=_
 rw [h];rfl
theorem if_ret (h:ga δ=.ok b) (hb:b=true) (hd:fa δ=.ok d):sSeq (sIf ga (sSeq (sRet fa) sNext) sNext) G δ=.ok (.rt d):=by
 subst hb
 show ((ga δ).bind _).bind _=_
 rw [h]
 show (((fa δ).bind _).bind _).bind _=_
 rw [hd];rfl
theorem set_to (hd:fa δ=.ok d):sSeq (sSet i fa) G δ=G (δ.set i (.val d)):=by
 show ((fa δ).bind _).bind _=_
 rw [hd];rfl
theorem ret_is (hd:fa δ=.ok d):sSeq (sRet fa) G δ=.ok (.rt d):=by
 show ((fa δ).bind _).bind _=_
 rw [hd];rfl
theorem seq_nx {δ':DS} (h:F δ=.ok (.nx δ')):sSeq F G δ=G δ':=by
 show (F δ).bind _=_
 rw [h];rfl
theorem forL_nx {g:D->DS->Ou DS} {x:D} {xs:List D} {δ1 δ2:DS} (h1:g x δ=.ok δ1) (h2:F δ1=.ok (.nx δ2)):forL g F (x::xs) δ=forL g F xs δ2:=by
 conv=>lhs;unfold forL
 rw [h1]
 show (F δ1).bind _=_
 rw [h2];rfl
theorem run_rt {n:Nat} {ds:List D} (h:F (startD n ds)=.ok (.rt d)):runD false n F ds=.ok d:=by
 unfold runD
 rw [h];rfl
end
end DL
namespace Bt
theorem bits_le_iff {x y n:Nat}:bits (x ^^^ y)<=n ↔ x / 2 ^ n=y / 2 ^ n:=by
 constructor
 ·intro h
  have e:=div_same (f:=x) (l:=y)
  obtain ⟨d,rfl⟩:=Nat.exists_eq_add_of_le h
  rw [Nat.pow_add,← Nat.div_div_eq_div_mul,← Nat.div_div_eq_div_mul,e]
 ·intro h
  refine bits_le ?_
  have:(x ^^^ y) / 2 ^ n=0:=by rw [Nat.xor_div_two_pow,h];simp
  have p:=Nat.two_pow_pos n
  exact (Nat.div_eq_zero_iff_lt p).mp this
theorem div_up {x y m n:Nat} (h:x / 2 ^ m=y / 2 ^ m) (hmn:m<=n):x / 2 ^ n=y / 2 ^ n:=by
 obtain ⟨d,rfl⟩:=Nat.exists_eq_add_of_le hmn
 rw [Nat.pow_add,← Nat.div_div_eq_div_mul,← Nat.div_div_eq_div_mul,h]
theorem in_block {x q i:Nat}:x / 2 ^ i=q ↔ q * 2 ^ i<=x/\x < q * 2 ^ i + 2 ^ i:=by
 have p:=Nat.two_pow_pos i
 rw [Nat.div_eq_iff p]
 have e:q * 2 ^ i + 2 ^ i - 1 + 1=q * 2 ^ i + 2 ^ i:=by lia
 constructor
 ·rintro ⟨h1,h2⟩;exact ⟨h1,by lia⟩
 ·rintro ⟨h1,h2⟩;exact ⟨h1,by lia⟩
theorem bits_blocks {q i r j x y a c:Nat} (hd:q * 2 ^ i + 2 ^ i<=r * 2 ^ j) (hx:x / 2 ^ i=q) (ha:a / 2 ^ i=q) (hy:y / 2 ^ j=r) (hc:c / 2 ^ j=r):bits (x ^^^ y)=bits (a ^^^ c):=by
 have key:∀ u v,u / 2 ^ i=q->v / 2 ^ j=r->∀ m,u / 2 ^ m=v / 2 ^ m->i<=m/\j<=m:=by
  intro u v hu hv m h
  have h1:=in_block.mp hu
  have h2:=in_block.mp hv
  constructor
  ·refine Nat.le_of_not_lt fun hm=>?_
   have:=div_up h (Nat.le_of_lt hm)
   rw [hu] at this
   have:=in_block.mp this.symm
   lia
  ·refine Nat.le_of_not_lt fun hm=>?_
   have:=div_up h (Nat.le_of_lt hm)
   rw [hv] at this
   have:=in_block.mp this
   lia
 have one:∀ u v u' v',u / 2 ^ i=q->v / 2 ^ j=r->u' / 2 ^ i=q->v' / 2 ^ j=r->bits (u ^^^ v)<=bits (u' ^^^ v'):=by
  intro u v u' v' hu hv hu' hv'
  have h:=bits_le_iff.mp (Nat.le_refl (bits (u' ^^^ v')))
  obtain ⟨h1,h2⟩:=key u' v' hu' hv' _ h
  refine bits_le_iff.mpr ?_
  rw [div_up (hu.trans hu'.symm) h1,div_up (hv.trans hv'.symm) h2]
  exact h
 exact Nat.le_antisymm (one x y a c hx hy ha hc) (one a c x y ha hc hx hy)
theorem bits_pos {x y:Nat} (h:x < y):0 < bits (x ^^^ y):=by
 refine Nat.pos_of_ne_zero fun e=>?_
 have:=bits_le_iff.mp (Nat.le_of_eq e)
 simp at this
 lia
theorem halves {q i r j n Q:Nat} (hd:q * 2 ^ i + 2 ^ i<=r * 2 ^ j) (hn:bits ((q * 2 ^ i) ^^^ (r * 2 ^ j))=n + 1) (hQ:q * 2 ^ i / 2 ^ (n + 1)=Q) :
  Q * 2 ^ (n + 1)<=q * 2 ^ i/\q * 2 ^ i + 2 ^ i<=Q * 2 ^ (n + 1) + 2 ^ n/\Q * 2 ^ (n + 1) + 2 ^ n<=r * 2 ^ j/\r * 2 ^ j + 2 ^ j<=Q * 2 ^ (n + 1) + 2 ^ (n + 1):=by
 have pi:=Nat.two_pow_pos i
 have pj:=Nat.two_pow_pos j
 have pn:=Nat.two_pow_pos n
 have hlt:q * 2 ^ i < r * 2 ^ j:=by lia
 have hz:(q * 2 ^ i) ^^^ (r * 2 ^ j)≠0:=fun e=>by
  have:=xor_zero_eq e
  lia
 obtain ⟨m,Q',h1,h2,h3,h4⟩:=half (Nat.le_of_lt hlt) hz
 obtain rfl:m=n:=by lia
 obtain rfl:Q'=Q:=by rw [← h2,← hQ]
 have pr:∀ x y,x / 2 ^ i=q->y / 2 ^ j=r->x < Q' * 2 ^ (m + 1) + 2 ^ m/\Q' * 2 ^ (m + 1) + 2 ^ m<=y/\y < Q' * 2 ^ (m + 1) + 2 ^ (m + 1):=by
  intro x y hx hy
  have e:=bits_blocks hd hx (Nat.mul_div_cancel q pi) hy (Nat.mul_div_cancel r pj)
  have b1:=in_block.mp hx
  have b2:=in_block.mp hy
  have hxy:x < y:=by lia
  have hz2:x ^^^ y≠0:=fun e=>by
   have:=xor_zero_eq e
   lia
  obtain ⟨m',Q2,g1,g2,g3,g4⟩:=half (Nat.le_of_lt hxy) hz2
  obtain rfl:m'=m:=by lia
  have hb:x / 2 ^ (m' + 1)=y / 2 ^ (m' + 1):=bits_le_iff.mp (Nat.le_of_eq g1)
  have hi:i<=m' + 1:=by
   refine Nat.le_of_not_lt fun hm=>?_
   have:=div_up hb (Nat.le_of_lt hm)
   rw [hx] at this
   have:=in_block.mp this.symm
   lia
  have hQ2:Q2=Q':=by
   rw [← g2,← h2]
   exact div_up (hx.trans (Nat.mul_div_cancel q pi).symm) hi
  subst hQ2
  rw [hb] at g2
  have:=in_block.mp g2
  exact ⟨g3,g4,this.2⟩
 have f1:(q * 2 ^ i + 2 ^ i - 1) / 2 ^ i=q:=in_block.mpr ⟨by lia,by lia⟩
 have f2:(r * 2 ^ j) / 2 ^ j=r:=Nat.mul_div_cancel r pj
 have f3:(r * 2 ^ j + 2 ^ j - 1) / 2 ^ j=r:=in_block.mpr ⟨by lia,by lia⟩
 have a1:=pr _ _ f1 f2
 have a2:=pr _ _ f1 f3
 have a3:=in_block.mp h2
 lia
end Bt
namespace Tr
open DL
abbrev all:Nat:=1073741824
inductive T
 | lf (a:Nat) (d:D)
 | nd (q k:Nat) (l r:T)
namespace T
def q:T->Nat
 | lf a _=>a
 | nd q _ _ _=>q
def e:T->Nat
 | lf _ _=>0
 | nd _ k _ _=>k + 1
def lo (t:T):Nat:=t.q * 2 ^ t.e
def sz (t:T):Nat:=2 ^ t.e
def ds:T->List (Nat×D)
 | lf a d=>[(a,d)]
 | nd _ _ l r=>l.ds++r.ds
end T
inductive Good:T->Prop
 | lf {a:Nat} {d:D}:a < all->Good (.lf a d)
 | nd {q k:Nat} {l r:T}:Good l->Good r->q * 2 ^ (k + 1)<=l.lo->l.lo + l.sz<=q * 2 ^ (k + 1) + 2 ^ k->q * 2 ^ (k + 1) + 2 ^ k<=r.lo->r.lo + r.sz<=q * 2 ^ (k + 1) + 2 ^ (k + 1)->q * 2 ^ (k + 1) + 2 ^ (k + 1)<=all->Good (.nd q k l r)
def mk (l r:T):T:=.nd (l.lo / 2 ^ Bt.bits (l.lo ^^^ r.lo)) (Bt.bits (l.lo ^^^ r.lo) - 1) l r
theorem sz_pos (t:T):0 < t.sz:=Nat.two_pow_pos _
theorem Good.up {t:T} (h:Good t):t.lo + t.sz<=all:=by
 cases h with
 | lf h=>simp [T.lo,T.sz,T.q,T.e];lia
 | nd _ _ _ _ _ _ h=>exact h
theorem mk_good {l r:T} (hl:Good l) (hr:Good r) (hd:l.lo + l.sz<=r.lo):Good (mk l r):=by
 have pl:=sz_pos l
 have pr:=sz_pos r
 have ul:=hl.up
 have ur:=hr.up
 have hpos:0 < Bt.bits (l.lo ^^^ r.lo):=Bt.bits_pos (by lia)
 obtain ⟨m,hm⟩:∃ m,Bt.bits (l.lo ^^^ r.lo)=m + 1:=⟨Bt.bits (l.lo ^^^ r.lo) - 1,by lia⟩
 have hh:=Bt.halves (q:=l.q) (i:=l.e) (r:=r.q) (j:=r.e) (n:=m) hd hm rfl
 have h30:(2:Nat) ^ 30=all:=by decide
 have hm30:m + 1<=30:=by
  rw [← hm]
  exact Bt.bits_le (Nat.xor_lt_two_pow (by rw [h30];lia) (by rw [h30];lia))
 have hb:=Bt.block (f:=l.lo) (n:=m + 1) (by rw [h30];lia) hm30
 rw [h30] at hb
 unfold mk
 rw [hm]
 exact .nd hl hr hh.1 hh.2.1 hh.2.2.1 hh.2.2.2 hb
theorem mk_same {q k:Nat} {l r:T} (h:Good (.nd q k l r)):mk l r=.nd q k l r:=by
 cases h with
 | nd hl hr h1 h2 h3 h4 h5 =>
  have pl:=sz_pos l
  have pr:=sz_pos r
  have pk:=Nat.two_pow_pos k
  have e2:2 ^ (k + 1)=2 ^ k * 2:=Nat.pow_succ ..
  have b1:l.lo / 2 ^ (k + 1)=q:=Bt.in_block.mpr ⟨h1,by lia⟩
  have b2:r.lo / 2 ^ (k + 1)=q:=Bt.in_block.mpr ⟨by lia,by lia⟩
  have ek:q * 2 ^ (k + 1)=2 * q * 2 ^ k:=by rw [e2,Nat.mul_comm (2 ^ k) 2,← Nat.mul_assoc,Nat.mul_comm q 2]
  have b3:l.lo / 2 ^ k=2 * q:=Bt.in_block.mpr ⟨by lia,by lia⟩
  have b4:r.lo / 2 ^ k=2 * q + 1:=Bt.in_block.mpr ⟨by rw [Nat.add_mul];lia,by rw [Nat.add_mul];lia⟩
  have c1:Bt.bits (l.lo ^^^ r.lo)<=k + 1:=Bt.bits_le_iff.mpr (b1.trans b2.symm)
  have c2:¬ Bt.bits (l.lo ^^^ r.lo)<=k:=fun z=>by
   have:=Bt.bits_le_iff.mp z
   lia
  have c3:Bt.bits (l.lo ^^^ r.lo)=k + 1:=by lia
  unfold mk
  rw [c3,b1]
  rfl
theorem times_in {t:T} (h:Good t):∀ p∈t.ds,t.lo<=p.1/\p.1 < t.lo + t.sz:=by
 induction h with
 | lf h=>intro p hp;simp [T.ds] at hp;subst hp;simp [T.lo,T.sz,T.q,T.e]
 | @nd q k l r hl hr h1 h2 h3 h4 h5 ihl ihr =>
  intro p hp
  have pk:=Nat.two_pow_pos k
  have e2:2 ^ (k + 1)=2 ^ k * 2:=Nat.pow_succ ..
  show q * 2 ^ (k + 1)<=p.1/\p.1 < q * 2 ^ (k + 1) + 2 ^ (k + 1)
  rcases List.mem_append.mp hp with hp | hp
  ·have:=ihl p hp;lia
  ·have:=ihr p hp;lia
theorem ds_sorted {t:T} (h:Good t):t.ds.Pairwise (fun a b=>a.1 < b.1):=by
 induction h with
 | lf h=>simp [T.ds]
 | nd hl hr h1 h2 h3 h4 h5 ihl ihr =>
  unfold T.ds
  rw [List.pairwise_append]
  refine ⟨ihl,ihr,fun a ha b hb=>?_⟩
  have:=times_in hl a ha
  have:=times_in hr b hb
  lia
theorem ds_ne:∀ t:T,t.ds≠[]
 | .lf a d=>by simp [T.ds]
 | .nd q k l r=>by
  have:=ds_ne l
  simp [T.ds,this]
def insK (a:Nat) (d:D):List (Nat×D)->List (Nat×D)
 | []=>[(a,d)]
 | p::r=>if a < p.1 then (a,d)::p::r else p::insK a d r
theorem insK_front {a:Nat} {d:D}:∀ {r:List (Nat×D)},(∀ p∈r,a < p.1)->insK a d r=(a,d)::r
 | [],_=>rfl
 | p::r,h=>by simp [insK,h p List.mem_cons_self]
theorem insK_back {a:Nat} {d:D}:∀ {r:List (Nat×D)},(∀ p∈r,p.1 < a)->insK a d r=r++[(a,d)]
 | [],_=>rfl
 | p::r,h=>by
  have h1:=h p List.mem_cons_self
  simp only [insK,List.cons_append]
  rw [if_neg (by lia),insK_back fun p hp=>h p (List.mem_cons_of_mem _ hp)]
theorem insK_left {a:Nat} {d:D}:∀ {l r:List (Nat×D)},(∀ p∈r,a < p.1)->insK a d (l++r)=insK a d l++r
 | [],r,h=>by rw [List.nil_append,insK_front h];rfl
 | p::l,r,h=>by
  simp only [List.cons_append,insK]
  by_cases hc:a < p.1
  ·rw [if_pos hc,if_pos hc];rfl
  ·rw [if_neg hc,if_neg hc,insK_left h];rfl
theorem insK_right {a:Nat} {d:D}:∀ {l r:List (Nat×D)},(∀ p∈l,p.1 < a)->insK a d (l++r)=l++insK a d r
 | [],r,h=>rfl
 | p::l,r,h=>by
  have h1:=h p List.mem_cons_self
  simp only [List.cons_append,insK]
  rw [if_neg (by lia),insK_right fun p hp=>h p (List.mem_cons_of_mem _ hp)]
def put (a:Nat) (d:D):T->Option T
 | .lf b e=>if a < b then some (mk (.lf a d) (.lf b e)) else if b < a then some (mk (.lf b e) (.lf a d)) else none
 | .nd q k l r=>if a < q * 2 ^ (k + 1) then some (mk (.lf a d) (.nd q k l r)) else if q * 2 ^ (k + 1) + 2 ^ (k + 1)<=a then some (mk (.nd q k l r) (.lf a d))
  else if a < q * 2 ^ (k + 1) + 2 ^ k then (put a d l).map fun l'=>mk l' r else (put a d r).map fun r'=>mk l r'
def Within (t:T) (Q n:Nat):Prop:=Q * 2 ^ n<=t.lo/\t.lo + t.sz<=Q * 2 ^ n + 2 ^ n
theorem mk_within {l r:T} {Q n:Nat} (hd:l.lo + l.sz<=r.lo) (hl:Within l Q n) (hr:Within r Q n):Within (mk l r) Q n:=by
 have pl:=sz_pos l
 have pr:=sz_pos r
 obtain ⟨l1,l2⟩:=hl
 obtain ⟨r1,r2⟩:=hr
 have b1:l.lo / 2 ^ n=Q:=Bt.in_block.mpr ⟨l1,by lia⟩
 have b2:r.lo / 2 ^ n=Q:=Bt.in_block.mpr ⟨by lia,by lia⟩
 have hb:Bt.bits (l.lo ^^^ r.lo)<=n:=Bt.bits_le_iff.mpr (b1.trans b2.symm)
 have hpos:0 < Bt.bits (l.lo ^^^ r.lo):=Bt.bits_pos (by lia)
 show Q * 2 ^ n<=l.lo / 2 ^ Bt.bits (l.lo ^^^ r.lo) * 2 ^ (Bt.bits (l.lo ^^^ r.lo) - 1 + 1)/\l.lo / 2 ^ Bt.bits (l.lo ^^^ r.lo) * 2 ^ (Bt.bits (l.lo ^^^ r.lo) - 1 + 1) + 2 ^ (Bt.bits (l.lo ^^^ r.lo) - 1 + 1)<=Q * 2 ^ n + 2 ^ n
 have e:Bt.bits (l.lo ^^^ r.lo) - 1 + 1=Bt.bits (l.lo ^^^ r.lo):=by lia
 rw [e]
 generalize Bt.bits (l.lo ^^^ r.lo)=m at *
 obtain ⟨c,rfl⟩:=Nat.exists_eq_add_of_le hb
 have hq:l.lo / 2 ^ m / 2 ^ c=Q:=by rw [Nat.div_div_eq_div_mul,← Nat.pow_add];exact b1
 have hw:=Bt.in_block.mp hq
 have e1:Q * 2 ^ (m + c)=Q * 2 ^ c * 2 ^ m:=by rw [Nat.pow_add,Nat.mul_comm (2 ^ m),Nat.mul_assoc]
 have e2:2 ^ (m + c)=2 ^ c * 2 ^ m:=by rw [Nat.pow_add,Nat.mul_comm]
 have g1:Q * 2 ^ c * 2 ^ m<=l.lo / 2 ^ m * 2 ^ m:=Nat.mul_le_mul_right _ hw.1
 have g2:(l.lo / 2 ^ m + 1) * 2 ^ m<=(Q * 2 ^ c + 2 ^ c) * 2 ^ m:=Nat.mul_le_mul_right _ hw.2
 rw [Nat.add_mul,Nat.add_mul,Nat.one_mul] at g2
 rw [e1,e2]
 exact ⟨g1,g2⟩
structure PutOk (a:Nat) (d:D) (t t':T):Prop where
 eq:put a d t=some t'
 good:Good t'
 ds:t'.ds=insK a d t.ds
 win:∀ Q n,Within t Q n->a / 2 ^ n=Q->Within t' Q n
theorem lf_within {a:Nat} {d:D} {Q n:Nat} (h:a / 2 ^ n=Q):Within (.lf a d) Q n:=by
 have:=Bt.in_block.mp h
 simp only [Within,T.lo,T.sz,T.q,T.e,Nat.pow_zero,Nat.mul_one]
 lia
theorem put_ok {a:Nat} {d:D} (ha:a < all) {t:T} (h:Good t) (hn:∀ p∈t.ds,p.1≠a):∃ t',PutOk a d t t':=by
 have gl:Good (.lf a d):=.lf ha
 have la:(T.lf a d).lo=a:=by simp [T.lo,T.q,T.e]
 have sa:(T.lf a d).sz=1:=rfl
 induction h with
 | @lf b e hb =>
  have hne:b≠a:=hn (b,e) (by simp [T.ds])
  have lb:(T.lf b e).lo=b:=by simp [T.lo,T.q,T.e]
  have sb:(T.lf b e).sz=1:=rfl
  have gb:Good (.lf b e):=.lf hb
  by_cases h1:a < b
  ·have hd:(T.lf a d).lo + (T.lf a d).sz<=(T.lf b e).lo:=by lia
   exact ⟨mk (.lf a d) (.lf b e),by simp [put,h1],mk_good gl gb hd,by simp [mk,T.ds,insK,h1],fun Q n w1 w2=>mk_within hd (lf_within w2) w1⟩
  ·have h2:b < a:=by lia
   have hd:(T.lf b e).lo + (T.lf b e).sz<=(T.lf a d).lo:=by lia
   exact ⟨mk (.lf b e) (.lf a d),by simp [put,h1,h2],mk_good gb gl hd,by simp [mk,T.ds,insK,h1],fun Q n w1 w2=>mk_within hd w1 (lf_within w2)⟩
 | @nd q k l r hl hr h1 h2 h3 h4 h5 ihl ihr =>
  have G:Good (.nd q k l r):=.nd hl hr h1 h2 h3 h4 h5
  have tin:=times_in G
  have L:(T.nd q k l r).lo=q * 2 ^ (k + 1):=rfl
  have S:(T.nd q k l r).sz=2 ^ (k + 1):=rfl
  have pk:=Nat.two_pow_pos k
  have e2:2 ^ (k + 1)=2 ^ k * 2:=Nat.pow_succ ..
  by_cases c1:a < q * 2 ^ (k + 1)
  ·have hd:(T.lf a d).lo + (T.lf a d).sz<=(T.nd q k l r).lo:=by lia
   refine ⟨mk (.lf a d) (.nd q k l r),by simp [put,c1],mk_good gl G hd,?_,fun Q n w1 w2=>mk_within hd (lf_within w2) w1⟩
   rw [insK_front fun p hp=>by have:=tin p hp;lia]
   rfl
  ·by_cases c2:q * 2 ^ (k + 1) + 2 ^ (k + 1)<=a
   ·have hd:(T.nd q k l r).lo + (T.nd q k l r).sz<=(T.lf a d).lo:=by lia
    refine ⟨mk (.nd q k l r) (.lf a d),by simp [put,c1,c2],mk_good G gl hd,?_,fun Q n w1 w2=>mk_within hd w1 (lf_within w2)⟩
    rw [insK_back fun p hp=>by have:=tin p hp;lia]
    rfl
   ·have ek:q * 2 ^ (k + 1)=2 * q * 2 ^ k:=by rw [e2,Nat.mul_comm (2 ^ k) 2,← Nat.mul_assoc,Nat.mul_comm q 2]
    by_cases c3:a < q * 2 ^ (k + 1) + 2 ^ k
    ·obtain ⟨l',P⟩:=ihl fun p hp=>hn p (List.mem_append_left _ hp)
     have wl:Within l' (2 * q) k:=P.win (2 * q) k ⟨by lia,by lia⟩ (Bt.in_block.mpr ⟨by lia,by lia⟩)
     have G':Good (.nd q k l' r):=.nd P.good hr (by have:=wl.1;lia) (by have:=wl.2;lia) h3 h4 h5
     have em:=mk_same G'
     refine ⟨.nd q k l' r,?_,G',?_,fun Q n w1 _=>w1⟩
     ·simp [put,c1,c2,c3,P.eq,em]
     ·show l'.ds++r.ds=insK a d (l.ds++r.ds)
      rw [insK_left fun p hp=>by have:=times_in hr p hp;lia,P.ds]
    ·obtain ⟨r',P⟩:=ihr fun p hp=>hn p (List.mem_append_right _ hp)
     have eb:(2 * q + 1) * 2 ^ k=q * 2 ^ (k + 1) + 2 ^ k:=by rw [Nat.add_mul,Nat.one_mul,ek]
     have wr:Within r' (2 * q + 1) k:=P.win (2 * q + 1) k ⟨by lia,by lia⟩ (Bt.in_block.mpr ⟨by lia,by lia⟩)
     have G':Good (.nd q k l r'):=.nd hl P.good h1 h2 (by have:=wr.1;lia) (by have:=wr.2;lia) h5
     have em:=mk_same G'
     refine ⟨.nd q k l r',?_,G',?_,fun Q n w1 _=>w1⟩
     ·simp [put,c1,c2,c3,P.eq,em]
     ·show l.ds++r'.ds=insK a d (l.ds++r.ds)
      rw [insK_right fun p hp=>by have:=times_in hl p hp;lia,P.ds]
theorem put_new {a:Nat} {d:D}:∀ t:T,put a d t≠none->Good t->∀ p∈t.ds,p.1≠a
 | .lf b e,h,_=>fun p hp z=>by
  simp [T.ds] at hp
  subst hp
  simp at z
  subst z
  simp [put] at h
 | .nd q k l r,h,G=>fun p hp z=>by
  have tin:=times_in G p hp
  have L:(T.nd q k l r).lo=q * 2 ^ (k + 1):=rfl
  have S:(T.nd q k l r).sz=2 ^ (k + 1):=rfl
  cases G with
  | nd hl hr h1 h2 h3 h4 h5 =>
   have n1:¬ a < q * 2 ^ (k + 1):=by lia
   have n2:¬ q * 2 ^ (k + 1) + 2 ^ (k + 1)<=a:=by lia
   simp only [put,if_neg n1,if_neg n2] at h
   rcases List.mem_append.mp hp with hp | hp
   ·have:=times_in hl p hp
    rw [if_pos (by lia)] at h
    exact put_new l (fun z=>h (by rw [z];rfl)) hl p hp z
   ·have:=times_in hr p hp
    rw [if_neg (by lia)] at h
    exact put_new r (fun z=>h (by rw [z];rfl)) hr p hp z
end Tr
namespace Tr
open DL
instance (t:T) (Q n:Nat):Decidable (Within t Q n):=by unfold Within;infer_instance
def insT (Q n:Nat):T->Option T
 | .lf a d=>if Within (.lf a d) Q n then some (.lf a d) else none
 | .nd q k l r=>if Within (.nd q k l r) Q n then some (.nd q k l r)
  else if q * 2 ^ (k + 1)<=Q * 2 ^ n/\Q * 2 ^ n + 2 ^ n<=q * 2 ^ (k + 1) + 2 ^ k then insT Q n l
  else if q * 2 ^ (k + 1) + 2 ^ k<=Q * 2 ^ n/\Q * 2 ^ n + 2 ^ n<=q * 2 ^ (k + 1) + 2 ^ (k + 1) then insT Q n r else none
def dsO:Option T->List (Nat×D)
 | some t=>t.ds
 | none=>[]
theorem filter_all {P:Nat×D->Bool} {l:List (Nat×D)} (h:∀ p∈l,P p=true):l.filter P=l:=List.filter_eq_self.mpr h
theorem filter_none {P:Nat×D->Bool} {l:List (Nat×D)} (h:∀ p∈l,P p=false):l.filter P=[]:=List.filter_eq_nil_iff.mpr fun p hp=>by simp [h p hp]
theorem insT_ok {Q n:Nat} {t:T} (h:Good t):dsO (insT Q n t)=t.ds.filter (fun p=>decide (p.1 / 2 ^ n=Q))/\∀ s,insT Q n t=some s->Good s/\s.e<=t.e:=by
 induction h with
 | @lf a d ha =>
  unfold insT
  by_cases hw:Within (.lf a d) Q n
  ·rw [if_pos hw]
   have hb:a / 2 ^ n=Q:=by
    obtain ⟨h1,h2⟩:=hw
    simp only [T.lo,T.sz,T.q,T.e,Nat.pow_zero,Nat.mul_one] at h1 h2
    exact Bt.in_block.mpr ⟨h1,by lia⟩
   exact ⟨by simp [dsO,T.ds,hb],fun s hs=>by cases hs;exact ⟨.lf ha,Nat.le_refl _⟩⟩
  ·rw [if_neg hw]
   have hb:¬ a / 2 ^ n=Q:=fun z=>hw (lf_within z)
   exact ⟨by simp [dsO,T.ds,hb],fun s hs=>by cases hs⟩
 | @nd q k l r hl hr h1 h2 h3 h4 h5 ihl ihr =>
  have G:Good (.nd q k l r):=.nd hl hr h1 h2 h3 h4 h5
  have tin:=times_in G
  have L:(T.nd q k l r).lo=q * 2 ^ (k + 1):=rfl
  have S:(T.nd q k l r).sz=2 ^ (k + 1):=rfl
  have pk:=Nat.two_pow_pos k
  have pn:=Nat.two_pow_pos n
  have e2:2 ^ (k + 1)=2 ^ k * 2:=Nat.pow_succ ..
  have el:l.e<=k:=by
   refine Nat.le_of_not_lt fun z=>?_
   have:=Nat.pow_lt_pow_right (a:=2) (by decide) z
   have:l.sz=2 ^ l.e:=rfl
   lia
  have er:r.e<=k:=by
   refine Nat.le_of_not_lt fun z=>?_
   have:=Nat.pow_lt_pow_right (a:=2) (by decide) z
   have:r.sz=2 ^ r.e:=rfl
   lia
  have ek:q * 2 ^ (k + 1)=2 * q * 2 ^ k:=by rw [e2,Nat.mul_comm (2 ^ k) 2,← Nat.mul_assoc,Nat.mul_comm q 2]
  unfold insT
  by_cases hw:Within (.nd q k l r) Q n
  ·rw [if_pos hw]
   refine ⟨?_,fun s hs=>by cases hs;exact ⟨G,Nat.le_refl _⟩⟩
   refine (filter_all fun p hp=>?_).symm
   have:=tin p hp
   obtain ⟨w1,w2⟩:=hw
   exact decide_eq_true (Bt.in_block.mpr ⟨by lia,by lia⟩)
  ·rw [if_neg hw]
   by_cases c1:q * 2 ^ (k + 1)<=Q * 2 ^ n/\Q * 2 ^ n + 2 ^ n<=q * 2 ^ (k + 1) + 2 ^ k
   ·rw [if_pos c1]
    refine ⟨?_,fun s hs=>?_⟩
    ·rw [ihl.1]
     show _=(l.ds++r.ds).filter _
     rw [List.filter_append,filter_none (l:=r.ds) fun p hp=>?_,List.append_nil]
     have:=times_in hr p hp
     refine decide_eq_false fun z=>?_
     have:=Bt.in_block.mp z
     lia
    ·have:=ihl.2 s hs
     exact ⟨this.1,by show s.e<=k + 1;lia⟩
   ·rw [if_neg c1]
    by_cases c2:q * 2 ^ (k + 1) + 2 ^ k<=Q * 2 ^ n/\Q * 2 ^ n + 2 ^ n<=q * 2 ^ (k + 1) + 2 ^ (k + 1)
    ·rw [if_pos c2]
     refine ⟨?_,fun s hs=>?_⟩
     ·rw [ihr.1]
      show _=(l.ds++r.ds).filter _
      rw [List.filter_append,filter_none (l:=l.ds) fun p hp=>?_,List.nil_append]
      have:=times_in hl p hp
      refine decide_eq_false fun z=>?_
      have:=Bt.in_block.mp z
      lia
     ·have:=ihr.2 s hs
      exact ⟨this.1,by show s.e<=k + 1;lia⟩
    ·rw [if_neg c2]
     refine ⟨(filter_none fun p hp=>decide_eq_false fun z=>?_).symm,fun s hs=>by cases hs⟩
     have ht:=tin p hp
     have hp1:p.1 / 2 ^ (k + 1)=q:=Bt.in_block.mpr ⟨by lia,by lia⟩
     rcases Nat.lt_or_ge k n with hk | hk
     ·
      apply hw
      obtain ⟨c,rfl⟩:=Nat.exists_eq_add_of_le (show k + 1<=n from hk)
      have hq:q / 2 ^ c=Q:=by rw [← hp1,Nat.div_div_eq_div_mul,← Nat.pow_add];exact z
      have w:=Bt.in_block.mp hq
      have e3:Q * 2 ^ (k + 1 + c)=Q * 2 ^ c * 2 ^ (k + 1):=by rw [Nat.pow_add,Nat.mul_comm (2 ^ (k + 1)),Nat.mul_assoc]
      have e4:2 ^ (k + 1 + c)=2 ^ c * 2 ^ (k + 1):=by rw [Nat.pow_add,Nat.mul_comm]
      have g1:Q * 2 ^ c * 2 ^ (k + 1)<=q * 2 ^ (k + 1):=Nat.mul_le_mul_right _ w.1
      have g2:(q + 1) * 2 ^ (k + 1)<=(Q * 2 ^ c + 2 ^ c) * 2 ^ (k + 1):=Nat.mul_le_mul_right _ w.2
      rw [Nat.add_mul,Nat.add_mul,Nat.one_mul] at g2
      refine ⟨?_,?_⟩
      ·rw [e3,L];exact g1
      ·rw [e3,e4,L,S];exact g2
     ·
      obtain ⟨c,rfl⟩:=Nat.exists_eq_add_of_le hk
      have fit:∀ w,p.1 / 2 ^ (n + c)=w->w * 2 ^ (n + c)<=Q * 2 ^ n/\Q * 2 ^ n + 2 ^ n<=w * 2 ^ (n + c) + 2 ^ (n + c):=fun w hw'=>by
       have hq:Q / 2 ^ c=w:=by rw [← z,Nat.div_div_eq_div_mul,← Nat.pow_add];exact hw'
       have v:=Bt.in_block.mp hq
       have e3:w * 2 ^ (n + c)=w * 2 ^ c * 2 ^ n:=by rw [Nat.pow_add,Nat.mul_comm (2 ^ n),Nat.mul_assoc]
       have e4:2 ^ (n + c)=2 ^ c * 2 ^ n:=by rw [Nat.pow_add,Nat.mul_comm]
       have g1:w * 2 ^ c * 2 ^ n<=Q * 2 ^ n:=Nat.mul_le_mul_right _ v.1
       have g2:(Q + 1) * 2 ^ n<=(w * 2 ^ c + 2 ^ c) * 2 ^ n:=Nat.mul_le_mul_right _ v.2
       rw [Nat.add_mul,Nat.add_mul,Nat.one_mul] at g2
       rw [e3,e4]
       exact ⟨g1,g2⟩
      by_cases hm:p.1 < q * 2 ^ (n + c + 1) + 2 ^ (n + c)
      ·have f:=fit (2 * q) (Bt.in_block.mpr ⟨by lia,by lia⟩)
       exact c1 ⟨by lia,by lia⟩
      ·have eb:(2 * q + 1) * 2 ^ (n + c)=q * 2 ^ (n + c + 1) + 2 ^ (n + c):=by rw [Nat.add_mul,Nat.one_mul,ek]
       have f:=fit (2 * q + 1) (Bt.in_block.mpr ⟨by lia,by lia⟩)
       exact c2 ⟨by lia,by lia⟩
end Tr
namespace Tr
open DL
section
variable {τ:Type} (en:τ->D) (lone:Nat->D->τ) (join:τ->τ->τ)
def tv:T->τ
 | .lf a d=>lone a d
 | .nd _ _ l r=>join (tv l) (tv r)
def enc:T->D
 | .lf a d=>.tup [.int (a:Int),.int 1,en (lone a d),d]
 | .nd q k l r=>.tup [.int ((q * 2 ^ (k + 1):Nat):Int),.int ((2 ^ (k + 1):Nat):Int),en (join (tv lone join l) (tv lone join r)),enc l,enc r]
def encO:Option T->D
 | some t=>enc en lone join t
 | none=>.non
theorem enc_form:∀ t:T,∃ r,enc en lone join t=.tup (.int (t.lo:Int)::.int (t.sz:Int)::en (tv lone join t)::r)
 | .lf a d=>⟨[d],by simp [enc,tv,T.lo,T.sz,T.q,T.e]⟩
 | .nd q k l r=>⟨_,rfl⟩
theorem enc_mk {l r:T} (h:l.lo < r.lo):enc en lone join (mk l r)=.tup [.int ((l.lo / 2 ^ Bt.bits (l.lo ^^^ r.lo) * 2 ^ Bt.bits (l.lo ^^^ r.lo):Nat):Int),.int ((2 ^ Bt.bits (l.lo ^^^ r.lo):Nat):Int),en (join (tv lone join l) (tv lone join r)),enc en lone join l,enc en lone join r]:=by
 have hp:=Bt.bits_pos h
 have e:Bt.bits (l.lo ^^^ r.lo) - 1 + 1=Bt.bits (l.lo ^^^ r.lo):=by lia
 show D.tup [.int ((l.lo / 2 ^ Bt.bits (l.lo ^^^ r.lo) * 2 ^ (Bt.bits (l.lo ^^^ r.lo) - 1 + 1):Nat):Int),.int ((2 ^ (Bt.bits (l.lo ^^^ r.lo) - 1 + 1):Nat):Int),_,_,_]=_
 rw [e]
theorem self_enc {m:Nat} (he:∀ x,Self m (en x)):∀ t:T,Good t->(∀ p∈t.ds,Self m p.2)->Self (m + t.e + 1) (enc en lone join t)
 | .lf a d,_,h=>by
  refine Self.tup fun x hx=>?_
  simp only [List.mem_cons,List.not_mem_nil,or_false] at hx
  have hm:1<=m\/m=0:=by lia
  have hd:=h (a,d) (by simp [T.ds])
  have h1:1<=m:=by
   rcases hm with h | h
   ·exact h
   ·subst h;exact nomatch hd
  rcases hx with rfl | rfl | rfl | rfl
  ·exact (Self.int _).mono h1
  ·exact (Self.int _).mono h1
  ·exact he _
  ·exact hd
 | .nd q k l r,G,h=>by
  cases G with
  | nd hl hr h1 h2 h3 h4 h5 =>
   have pk:=Nat.two_pow_pos k
   have el:l.e<=k:=by
    refine Nat.le_of_not_lt fun z=>?_
    have:=Nat.pow_lt_pow_right (a:=2) (by decide) z
    have:l.sz=2 ^ l.e:=rfl
    lia
   have er:r.e<=k:=by
    refine Nat.le_of_not_lt fun z=>?_
    have:=Nat.pow_lt_pow_right (a:=2) (by decide) z
    have:r.sz=2 ^ r.e:=rfl
    have:2 ^ (k + 1)=2 ^ k * 2:=Nat.pow_succ ..
    lia
   have i1:=self_enc he l hl fun p hp=>h p (List.mem_append_left _ hp)
   have i2:=self_enc he r hr fun p hp=>h p (List.mem_append_right _ hp)
   show Self (m + (k + 1) + 1) _
   refine Self.tup fun x hx=>?_
   simp only [List.mem_cons,List.not_mem_nil,or_false] at hx
   rcases hx with rfl | rfl | rfl | rfl | rfl
   ·exact (Self.int _).mono (by lia)
   ·exact (Self.int _).mono (by lia)
   ·exact (he _).mono (by lia)
   ·exact i1.mono (by lia)
   ·exact i2.mono (by lia)
theorem depth {t:T} (h:Good t):t.e<=30:=by
 refine Nat.le_of_not_lt fun z=>?_
 have u:=h.up
 have:(2:Nat) ^ 31<=2 ^ t.e:=Nat.pow_le_pow_right (by decide) z
 have h31:(2:Nat) ^ 31=2147483648:=by decide
 have:t.sz=2 ^ t.e:=rfl
 have:all=1073741824:=rfl
 lia
theorem sub_e {q k:Nat} {l r:T} (G:Good (.nd q k l r)):Good l/\Good r/\l.e<=k/\r.e<=k/\l.lo + l.sz<=r.lo:=by
 cases G with
 | nd hl hr h1 h2 h3 h4 h5 =>
  have pk:=Nat.two_pow_pos k
  refine ⟨hl,hr,?_,?_,by lia⟩
  ·refine Nat.le_of_not_lt fun z=>?_
   have:=Nat.pow_lt_pow_right (a:=2) (by decide) z
   have:l.sz=2 ^ l.e:=rfl
   lia
  ·refine Nat.le_of_not_lt fun z=>?_
   have:=Nat.pow_lt_pow_right (a:=2) (by decide) z
   have:r.sz=2 ^ r.e:=rfl
   have:2 ^ (k + 1)=2 ^ k * 2:=Nat.pow_succ ..
   lia
end
end Tr
namespace Tr
open DL PySem
theorem insK_perm {a:Nat} {d:D}:∀ l:List (Nat×D),(insK a d l).Perm ((a,d)::l)
 | []=>.refl _
 | p::l=>by
  simp only [insK]
  split
  ·exact .refl _
  ·exact ((insK_perm l).cons p).trans (.swap ..)
def bkeys (al:List (Nat×D)):List L2.Key:=al.map fun p=>.inl (p.1:Int)
def dict (al:List (Nat×D)):D:=.dic (bkeys al) (al.map (·.2))
theorem key_inj {a b:Nat}:((.inl (a:Int):L2.Key)=.inl (b:Int)) ↔ a=b:=by
 constructor
 ·intro h;injection h;lia
 ·intro h;rw [h]
theorem dGet_none:∀ {al:List (Nat×D)} {a:Nat},(∀ p∈al,p.1≠a)->dGet (bkeys al) (al.map (·.2)) (.inl (a:Int))=none
 | [],_,_=>rfl
 | p::al,a,h=>by
  have h1:¬ ((.inl (p.1:Int):L2.Key)=.inl (a:Int)):=fun z=>h p List.mem_cons_self (key_inj.mp z)
  simp only [bkeys,List.map_cons,dGet]
  rw [if_neg h1]
  exact dGet_none fun p hp=>h p (List.mem_cons_of_mem _ hp)
theorem dGet_some:∀ {al:List (Nat×D)} {p:Nat×D},(al.map (·.1)).Nodup->p∈al->dGet (bkeys al) (al.map (·.2)) (.inl (p.1:Int))=some p.2
 | x::al,p,hn,hp=>by
  simp only [bkeys,List.map_cons,dGet]
  rw [List.map_cons,List.nodup_cons] at hn
  rcases List.mem_cons.mp hp with rfl | hp
  ·rw [if_pos rfl]
  ·have:¬ ((.inl (x.1:Int):L2.Key)=.inl (p.1:Int)):=fun z=>hn.1 (by rw [key_inj.mp z];exact List.mem_map_of_mem hp)
   rw [if_neg this]
   exact dGet_some hn.2 hp
theorem keys_any {al:List (Nat×D)} {a:Nat}:((bkeys al).any fun k=>decide (k=.inl (a:Int)))=decide (∃ p∈al,p.1=a):=by
 rw [Bool.eq_iff_iff]
 simp only [List.any_eq_true,decide_eq_true_eq,bkeys,List.mem_map]
 constructor
 ·rintro ⟨k,⟨p,hp,rfl⟩,h⟩
  exact ⟨p,hp,key_inj.mp h⟩
 ·rintro ⟨p,hp,h⟩
  exact ⟨_,⟨p,hp,rfl⟩,by rw [h]⟩
theorem dict_in (neg:Bool) (al:List (Nat×D)) (a:Nat) (h:∀ p∈al,p.1≠a):gDIn neg (.int (a:Int)) (dict al)=.ok (.bl neg):=by
 have e:=dGet_none h
 simp only [gDIn,dict,keyD,bkeys,List.length_map]
 simp only [bkeys] at e
 rw [e]
 cases neg <;> simp
theorem dict_in' (neg:Bool) {al:List (Nat×D)} {p:Nat×D} (hn:(al.map (·.1)).Nodup) (hp:p∈al):gDIn neg (.int (p.1:Int)) (dict al)=.ok (.bl (!neg)):=by
 have e:=dGet_some hn hp
 simp only [gDIn,dict,keyD,bkeys,List.length_map]
 simp only [bkeys] at e
 rw [e]
 cases neg <;> simp
theorem dict_ix {al:List (Nat×D)} {p:Nat×D} (hn:(al.map (·.1)).Nodup) (hp:p∈al):gDIx (dict al) (.int (p.1:Int))=.ok p.2:=by
 have e:=dGet_some hn hp
 simp only [gDIx,dict,keyD]
 rw [e]
theorem dict_put {al:List (Nat×D)} {a:Nat} {d:D} (h:∀ p∈al,p.1≠a):D.dic (dPutK (bkeys al) (.inl (a:Int))) (dPutV (bkeys al) (al.map (·.2)) (.inl (a:Int)) d)=dict (al++[(a,d)]):=by
 have hf:((bkeys al).any fun k=>decide (k=.inl (a:Int)))=false:=by
  rw [keys_any]
  exact decide_eq_false fun ⟨p,hp,z⟩=>h p hp z
 have e1:dPutK (bkeys al) (.inl (a:Int))=bkeys (al++[(a,d)]):=by
  unfold dPutK
  rw [hf]
  simp [bkeys]
 have e2:dPutV (bkeys al) (al.map (·.2)) (.inl (a:Int)) d=(al++[(a,d)]).map (·.2):=by
  unfold dPutV
  rw [hf]
  simp
 rw [e1,e2]
 rfl
structure Book (al:List (Nat×D)) (o:Option T):Prop where
 good:match o with | some t=>Good t | none=>True
 perm:(dsO o).Perm al
theorem Book.sorted {al:List (Nat×D)} {o:Option T} (b:Book al o):(dsO o).Pairwise (fun x y=>x.1 < y.1):=by
 cases o with
 | none=>exact .nil
 | some t=>exact ds_sorted b.good
theorem Book.nodup {al:List (Nat×D)} {o:Option T} (b:Book al o):(al.map (·.1)).Nodup:=by
 have h1:((dsO o).map (·.1)).Nodup:=by
  rw [List.Nodup,List.pairwise_map]
  exact b.sorted.imp fun h=>Nat.ne_of_lt h
 exact (b.perm.map (·.1)).nodup_iff.mp h1
theorem Book.sortB {al:List (Nat×D)} {o:Option T} (b:Book al o) (hl:al.length < 128):gSortDB (dict al)=.ok (.lst (((dsO o).map fun p=>(p.1:Int)).map D.int)):=by
 have e:bkeys al=(al.map fun p=>(p.1:Int)).map Sum.inl:=by simp [bkeys]
 have hk:=keysI_map (al.map fun p=>(p.1:Int))
 have hs:(dsO o).map (fun p=>(p.1:Int))=isort (al.map fun p=>(p.1:Int)):=by
  refine isort_uniq (b.perm.map _) ?_
  rw [List.pairwise_map]
  exact b.sorted.imp fun h=>by lia
 simp only [gSortDB,dict]
 rw [e,hk,hs]
 simp [hl]
theorem Book.put {al:List (Nat×D)} {o:Option T} (b:Book al o) {a:Nat} {d:D} {t:T} (hg:Good t) (hd:t.ds=insK a d (dsO o)):Book (al++[(a,d)]) (some t):=by
 refine ⟨hg,?_⟩
 show t.ds.Perm _
 rw [hd]
 exact (insK_perm _).trans ((b.perm.cons _).trans (List.perm_append_singleton ..).symm)
theorem Book.none_at {al:List (Nat×D)} {o:Option T} (b:Book al o) {a:Nat} (h:∀ p∈al,p.1≠a):∀ p∈dsO o,p.1≠a:=fun p hp=>h p (b.perm.mem_iff.mp hp)
end Tr
namespace Tr
open DL
theorem first_in {t:T} (h:Good t):∃ p r,t.ds=p::r/\t.lo<=p.1:=by
 cases e:t.ds with
 | nil=>exact absurd e (ds_ne t)
 | cons p r=>exact ⟨p,r,rfl,(times_in h p (by rw [e];exact List.mem_cons_self)).1⟩
theorem split_at {m:Nat}:∀ {a b a' b':List (Nat×D)},a++b=a'++b'->(∀ p∈a,p.1 < m)->(∀ p∈b,m<=p.1)->(∀ p∈a',p.1 < m)->(∀ p∈b',m<=p.1)->a=a'/\b=b'
 | [],b,[],b',h,_,_,_,_=>⟨rfl,by simpa using h⟩
 | [],b,x::a',b',h,_,hb,ha',_=>by
  have:x∈b:=by
   have h':b=x::(a'++b'):=by simpa using h
   rw [h'];exact List.mem_cons_self
  have:=hb x this
  have:=ha' x List.mem_cons_self
  lia
 | x::a,b,[],b',h,ha,_,_,hb'=>by
  have:x∈b':=by
   have h':x::(a++b)=b':=by simpa using h
   rw [← h'];exact List.mem_cons_self
  have:=hb' x this
  have:=ha x List.mem_cons_self
  lia
 | x::a,b,y::a',b',h,ha,hb,ha',hb'=>by
  have h1:x=y/\a++b=a'++b':=by simpa using h
  obtain ⟨rfl,h2⟩:=h1
  obtain ⟨e1,e2⟩:=split_at h2 (fun p hp=>ha p (List.mem_cons_of_mem _ hp)) hb (fun p hp=>ha' p (List.mem_cons_of_mem _ hp)) hb'
  exact ⟨by rw [e1],e2⟩
theorem stretch_told {q k q' k' x y:Nat} (h1:q * 2 ^ (k + 1)<=x) (h2:x < q * 2 ^ (k + 1) + 2 ^ k) (h3:q * 2 ^ (k + 1) + 2 ^ k<=y) (h4:y < q * 2 ^ (k + 1) + 2 ^ (k + 1))
  (g1:q' * 2 ^ (k' + 1)<=x) (g2:x < q' * 2 ^ (k' + 1) + 2 ^ k') (g3:q' * 2 ^ (k' + 1) + 2 ^ k'<=y) (g4:y < q' * 2 ^ (k' + 1) + 2 ^ (k' + 1)):q=q'/\k=k':=by
 have one:∀ {q k x y:Nat},q * 2 ^ (k + 1)<=x->x < q * 2 ^ (k + 1) + 2 ^ k->q * 2 ^ (k + 1) + 2 ^ k<=y->y < q * 2 ^ (k + 1) + 2 ^ (k + 1)->Bt.bits (x ^^^ y)=k + 1/\x / 2 ^ (k + 1)=q:=by
  intro q k x y h1 h2 h3 h4
  have pk:=Nat.two_pow_pos k
  have e2:2 ^ (k + 1)=2 ^ k * 2:=Nat.pow_succ ..
  have ek:q * 2 ^ (k + 1)=2 * q * 2 ^ k:=by rw [e2,Nat.mul_comm (2 ^ k) 2,← Nat.mul_assoc,Nat.mul_comm q 2]
  have b1:x / 2 ^ (k + 1)=q:=Bt.in_block.mpr ⟨h1,by lia⟩
  have b2:y / 2 ^ (k + 1)=q:=Bt.in_block.mpr ⟨by lia,h4⟩
  have b3:x / 2 ^ k=2 * q:=Bt.in_block.mpr ⟨by lia,by lia⟩
  have b4:y / 2 ^ k=2 * q + 1:=Bt.in_block.mpr ⟨by rw [Nat.add_mul];lia,by rw [Nat.add_mul];lia⟩
  have c1:Bt.bits (x ^^^ y)<=k + 1:=Bt.bits_le_iff.mpr (b1.trans b2.symm)
  have c2:¬ Bt.bits (x ^^^ y)<=k:=fun z=>by
   have:=Bt.bits_le_iff.mp z
   lia
  exact ⟨by lia,b1⟩
 obtain ⟨a1,a2⟩:=one h1 h2 h3 h4
 obtain ⟨a3,a4⟩:=one g1 g2 g3 g4
 obtain rfl:k=k':=by lia
 exact ⟨by rw [← a2,← a4],rfl⟩
theorem one_tree:∀ {t t':T},Good t->Good t'->t.ds=t'.ds->t=t'
 | .lf a d,.lf b e,_,_,h=>by
  simp [T.ds] at h
  rw [h.1,h.2]
 | .lf a d,.nd q k l r,_,G',h=>by
  have hl:(T.nd q k l r).ds.length=1:=by rw [← h];rfl
  have e:(T.nd q k l r).ds=l.ds++r.ds:=rfl
  rw [e,List.length_append] at hl
  have:=List.length_pos_iff.mpr (ds_ne l)
  have:=List.length_pos_iff.mpr (ds_ne r)
  lia
 | .nd q k l r,.lf b e,G,_,h=>by
  have hl:(T.nd q k l r).ds.length=1:=by rw [h];rfl
  have e:(T.nd q k l r).ds=l.ds++r.ds:=rfl
  rw [e,List.length_append] at hl
  have:=List.length_pos_iff.mpr (ds_ne l)
  have:=List.length_pos_iff.mpr (ds_ne r)
  lia
 | .nd q k l r,.nd q' k' l' r',G,G',h=>by
  cases G with
  | nd hl hr h1 h2 h3 h4 h5 =>
   cases G' with
   | nd hl' hr' h1' h2' h3' h4' h5' =>
    have h:l.ds++r.ds=l'.ds++r'.ds:=h
    obtain ⟨x,rx,ex,_⟩:=first_in hl
    obtain ⟨x',rx',ex',_⟩:=first_in hl'
    have hx:x=x':=by
     rw [ex,ex'] at h
     simp only [List.cons_append,List.cons.injEq] at h
     exact h.1
    obtain ⟨ry,y,ey⟩:=snoc (ds_ne r)
    obtain ⟨ry',y',ey'⟩:=snoc (ds_ne r')
    have hy:y=y':=by
     rw [ey,ey',← List.append_assoc,← List.append_assoc] at h
     have:=(List.append_inj' h rfl).2
     simpa using this
    subst hx hy
    have a1:=times_in hl x (by rw [ex];exact List.mem_cons_self)
    have a2:=times_in hl' x (by rw [ex'];exact List.mem_cons_self)
    have b1:=times_in hr y (by rw [ey];simp)
    have b2:=times_in hr' y (by rw [ey'];simp)
    obtain ⟨rfl,rfl⟩:=stretch_told (q:=q) (k:=k) (q':=q') (k':=k') (x:=x.1) (y:=y.1) (by lia) (by lia) (by lia) (by lia) (by lia) (by lia) (by lia) (by lia)
    obtain ⟨e1,e2⟩:=split_at (m:=q * 2 ^ (k + 1) + 2 ^ k) h (fun p hp=>by have:=times_in hl p hp;lia) (fun p hp=>by have:=times_in hr p hp;lia) (fun p hp=>by have:=times_in hl' p hp;lia) (fun p hp=>by have:=times_in hr' p hp;lia)
    rw [one_tree hl hl' e1,one_tree hr hr' e2]
end Tr
namespace Tr
open DL
def left2:Option T->Option T->Option T
 | none,r=>r
 | l,none=>l
 | some l,some r=>some (mk l r)
def out (a:Nat):T->Option (Option T)
 | .lf b _=>if a=b then some none else none
 | .nd q k l r=>if a < q * 2 ^ (k + 1)\/q * 2 ^ (k + 1) + 2 ^ (k + 1)<=a then none
  else if a < q * 2 ^ (k + 1) + 2 ^ k then (out a l).map fun l'=>left2 l' (some r) else (out a r).map fun r'=>left2 (some l) r'
def but (a:Nat) (l:List (Nat×D)):List (Nat×D):=l.filter fun p=>decide (p.1≠a)
theorem but_same {a:Nat} {l:List (Nat×D)} (h:∀ p∈l,p.1≠a):but a l=l:=List.filter_eq_self.mpr fun p hp=>by simpa using h p hp
structure OutOk (a:Nat) (t:T) (o:Option T):Prop where
 eq:out a t=some o
 good:∀ s,o=some s->Good s
 ds:dsO o=but a t.ds
 win:∀ s,o=some s->∀ Q n,Within t Q n->Within s Q n
theorem out_ok {a:Nat} {t:T} (h:Good t) (hin:∃ p∈t.ds,p.1=a):∃ o,OutOk a t o:=by
 induction h with
 | @lf b e hb =>
  obtain ⟨p,hp,rfl⟩:=hin
  simp [T.ds] at hp
  subst hp
  exact ⟨none,by simp [out],fun s hs=>(nomatch hs),by simp [dsO,but,T.ds],fun s hs=>(nomatch hs)⟩
 | @nd q k l r hl hr h1 h2 h3 h4 h5 ihl ihr =>
  obtain ⟨p,hp,rfl⟩:=hin
  have G:Good (.nd q k l r):=.nd hl hr h1 h2 h3 h4 h5
  have tp:=times_in G p hp
  have L:(T.nd q k l r).lo=q * 2 ^ (k + 1):=rfl
  have S:(T.nd q k l r).sz=2 ^ (k + 1):=rfl
  have pk:=Nat.two_pow_pos k
  have e2:2 ^ (k + 1)=2 ^ k * 2:=Nat.pow_succ ..
  have ek:q * 2 ^ (k + 1)=2 * q * 2 ^ k:=by rw [e2,Nat.mul_comm (2 ^ k) 2,← Nat.mul_assoc,Nat.mul_comm q 2]
  have eb:(2 * q + 1) * 2 ^ k=q * 2 ^ (k + 1) + 2 ^ k:=by rw [Nat.add_mul,Nat.one_mul,ek]
  have hstr:¬ (p.1 < q * 2 ^ (k + 1)\/q * 2 ^ (k + 1) + 2 ^ (k + 1)<=p.1):=by lia
  by_cases c:p.1 < q * 2 ^ (k + 1) + 2 ^ k
  ·have hpl:p∈l.ds:=by
    rcases List.mem_append.mp hp with z | z
    ·exact z
    ·have:=times_in hr p z;lia
   obtain ⟨o,O⟩:=ihl ⟨p,hpl,rfl⟩
   have hbr:but p.1 r.ds=r.ds:=but_same fun x hx=>by have:=times_in hr x hx;lia
   have hds:but p.1 (T.nd q k l r).ds=dsO o++r.ds:=by
    show but p.1 (l.ds++r.ds)=_
    rw [O.ds,← hbr]
    simp [but]
   cases o with
   | none =>
    refine ⟨some r,by simp [out,hstr,c,O.eq,left2],fun s hs=>by cases hs;exact hr,?_,fun s hs Q n w=>?_⟩
    ·rw [hds];rfl
    ·cases hs;exact ⟨by have:=w.1;lia,by have:=w.2;lia⟩
   | some l' =>
    have wl:Within l' (2 * q) k:=O.win l' rfl (2 * q) k ⟨by lia,by lia⟩
    have G':Good (.nd q k l' r):=.nd (O.good l' rfl) hr (by have:=wl.1;lia) (by have:=wl.2;lia) h3 h4 h5
    have em:=mk_same G'
    refine ⟨some (.nd q k l' r),by simp [out,hstr,c,O.eq,left2,em],fun s hs=>by cases hs;exact G',?_,fun s hs Q n w=>by cases hs;exact w⟩
    rw [hds];rfl
  ·have hpr:p∈r.ds:=by
    rcases List.mem_append.mp hp with z | z
    ·have:=times_in hl p z;lia
    ·exact z
   obtain ⟨o,O⟩:=ihr ⟨p,hpr,rfl⟩
   have hbl:but p.1 l.ds=l.ds:=but_same fun x hx=>by have:=times_in hl x hx;lia
   have hds:but p.1 (T.nd q k l r).ds=l.ds++dsO o:=by
    show but p.1 (l.ds++r.ds)=_
    rw [O.ds]
    conv=>rhs;rw [← hbl]
    simp [but]
   cases o with
   | none =>
    refine ⟨some l,by simp [out,hstr,c,O.eq,left2],fun s hs=>by cases hs;exact hl,?_,fun s hs Q n w=>?_⟩
    ·rw [hds];simp [dsO]
    ·cases hs;exact ⟨by have:=w.1;lia,by have:=w.2;lia⟩
   | some r' =>
    have wr:Within r' (2 * q + 1) k:=O.win r' rfl (2 * q + 1) k ⟨by lia,by lia⟩
    have G':Good (.nd q k l r'):=.nd hl (O.good r' rfl) h1 h2 (by have:=wr.1;lia) (by have:=wr.2;lia) h5
    have em:=mk_same G'
    refine ⟨some (.nd q k l r'),by simp [out,hstr,c,O.eq,left2,em],fun s hs=>by cases hs;exact G',?_,fun s hs Q n w=>by cases hs;exact w⟩
    rw [hds];rfl
end Tr
namespace DL
open PySem PySem.Spec PyProof.Rows L2
section
variable {X:Cx}
def pairI:D->Option (Int×Int)
 | .tup [.int a,.int b]=>some (a,b)
 | _=>none
def gLtP (x y:D):Ou D:=match pairI x,pairI y with
 | some p,some q=>.ok (.bl (Tim.plt p q))
 | _,_=>.bad
end
@[simp] theorem e_ltP {a b c d:Int}:gLtP (.tup [.int a,.int b]) (.tup [.int c,.int d])=.ok (.bl (Tim.plt (a,b) (c,d))):=rfl
end DL
namespace DL
open PySem PySem.Spec PyProof.Rows L2
section
variable {X:Cx} {elt tg:Expr} {ifs:List Expr} {scope:Scope} {N':List Str} {k:Nat} {ix:List Nat} {pos:Pos} {g:D->DS->Ou DS} {gc:DS->Ou Bool} {fe fl fl2 fl3:Fn} {a b c:Expr} {p:Pos}
end
end DL
namespace Sx
open PySem
def lcg (m i:Nat):Nat:=(i * 5 + 1) % m
def itr (m:Nat):Nat->Nat->Nat
 | 0,i=>i
 | n + 1,i=>itr m n (lcg m i)
def orb (m:Nat):Nat->Nat->List Nat
 | 0,_=>[]
 | n + 1,i=>i::orb m n (lcg m i)
theorem orb_get (m:Nat):∀ (n i j:Nat),j∈orb m n i->∃ a,a < n/\itr m a i=j
 | 0,i,j,h=>by cases h
 | n + 1,i,j,h=>by
  rcases List.mem_cons.mp h with rfl | h
  ·exact ⟨0,by omega,rfl⟩
  ·obtain ⟨a,h1,h2⟩:=orb_get m n (lcg m i) j h
   exact ⟨a + 1,by omega,h2⟩
theorem itr_add (m:Nat):∀ (a b i:Nat),itr m (a + b) i=itr m b (itr m a i)
 | 0,b,i=>by rw [Nat.zero_add];rfl
 | a + 1,b,i=>by
  rw [show a + 1 + b=(a + b) + 1 by omega]
  exact itr_add m a b (lcg m i)
def Sz (m:Nat):Prop:=m∈[8,16,32,64,128,256,512]
theorem orb_all {m:Nat} (h:Sz m):(∀ j,j < m->j∈orb m m 0)/\itr m m 0=0:=by
 have key:∀ m∈[8,16,32,64,128,256,512],((List.range m).all fun j=>(orb m m 0).contains j)=true/\itr m m 0=0:=by decide +kernel
 obtain ⟨h1,h2⟩:=key m h
 refine ⟨fun j hj=>?_,h2⟩
 have:=List.all_eq_true.mp h1 j (List.mem_range.mpr hj)
 simpa using this
theorem reach {m:Nat} (h:Sz m) {i j:Nat} (hi:i < m) (hj:j < m):∃ n,n < m/\itr m n i=j:=by
 obtain ⟨h1,h2⟩:=orb_all h
 obtain ⟨a,ha,ea⟩:=orb_get m m 0 i (h1 i hi)
 obtain ⟨b,hb,eb⟩:=orb_get m m 0 j (h1 j hj)
 by_cases q:a<=b
 ·refine ⟨b - a,by omega,?_⟩
  rw [← ea,← itr_add,show a + (b - a)=b by omega,eb]
 ·refine ⟨m - a + b,by omega,?_⟩
  rw [← ea,← itr_add,show a + (m - a + b)=m + b by omega,itr_add,h2,eb]
def vis (mask:Nat):Nat->Nat->Nat->Nat×Nat
 | 0,i,p=>(i,p)
 | n + 1,i,p=>vis mask n (SetTable.leap mask i p).1 (SetTable.leap mask i p).2
theorem vis_add (mask:Nat):∀ (a b i p:Nat),vis mask (a + b) i p=vis mask b (vis mask a i p).1 (vis mask a i p).2
 | 0,b,i,p=>by rw [Nat.zero_add];rfl
 | a + 1,b,i,p=>by
  rw [show a + 1 + b=(a + b) + 1 by omega]
  exact vis_add mask a b _ _
theorem vis_p (mask:Nat):∀ (n i p:Nat),(vis mask n i p).2=p / 32 ^ n
 | 0,i,p=>by simp [vis]
 | n + 1,i,p=>by
  show (vis mask n _ (p / 32)).2=_
  rw [vis_p mask n,Nat.div_div_eq_div_mul,Nat.pow_succ,Nat.mul_comm]
theorem vis_lt (mask:Nat):∀ (n i p:Nat),i < mask + 1->(vis mask n i p).1 < mask + 1
 | 0,i,p,h=>h
 | n + 1,i,p,_=>vis_lt mask n _ _ (Nat.mod_lt _ (by omega))
theorem vis_0 (mask:Nat):∀ (n i:Nat),(vis mask n i 0).1=itr (mask + 1) n i
 | 0,i=>rfl
 | n + 1,i=>by
  show (vis mask n ((i * 5 + 1 + 0 / 32) % (mask + 1)) (0 / 32)).1=_
  rw [show (0:Nat) / 32=0 by decide]
  exact vis_0 mask n _
theorem met {mask i p j:Nat} (hs:Sz (mask + 1)) (hi:i < mask + 1) (hp:p < 2 ^ 64) (hj:j < mask + 1):∃ n,n < SetTable.turns mask/\(vis mask n i p).1=j:=by
 have h13:(vis mask 13 i p).2=0:=by
  rw [vis_p]
  exact Nat.div_eq_of_lt (Nat.lt_trans hp (by decide))
 obtain ⟨n,hn,e⟩:=reach hs (vis_lt mask 13 i p hi) hj
 refine ⟨13 + n,by unfold SetTable.turns;omega,?_⟩
 rw [vis_add,h13,vis_0,e]
theorem bits_lt (h:Int):SetTable.bits h < 2 ^ 64:=by
 unfold SetTable.bits
 have h1:=Int.emod_nonneg h (show (2 ^ 64:Int)≠0 by decide)
 have h2:=Int.emod_lt_of_pos h (show (0:Int) < 2 ^ 64 by decide)
 omega
theorem runEnd_le {mask i:Nat} (h:i<=mask):i<=SetTable.runEnd mask i/\SetTable.runEnd mask i<=mask/\SetTable.runEnd mask i<=i + 9:=by
 unfold SetTable.runEnd
 split <;> omega
theorem free_some {mask:Nat} {owner:Array (Option Nat)}:∀ {n i p j:Nat},i<=mask->SetTable.layClean.free mask owner n i p=some j->j<=mask/\(owner.getD j (some 0)).isNone=true
 | 0,i,p,j,_,h=>by cases h
 | n + 1,i,p,j,hi,h=>by
  rw [SetTable.layClean.free] at h
  split at h
  ·rename_i k hk
   cases h
   have h1:=List.find?_some hk
   have h2:=List.mem_range.mp (List.mem_of_find?_eq_some hk)
   have:=runEnd_le hi
   exact ⟨by omega,h1⟩
  ·have hl:(SetTable.leap mask i p).1<=mask:=Nat.le_of_lt_succ (Nat.mod_lt _ (by omega))
   exact free_some hl h
theorem free_none {mask:Nat} {owner:Array (Option Nat)}:∀ {n i p:Nat},i<=mask->SetTable.layClean.free mask owner n i p=none->∀ t,t < n->(owner.getD (vis mask t i p).1 (some 0)).isNone=false
 | 0,i,p,_,_,t,ht=>by omega
 | n + 1,i,p,hi,h,t,ht=>by
  rw [SetTable.layClean.free] at h
  split at h
  ·cases h
  ·rename_i hk
   have hl:(SetTable.leap mask i p).1<=mask:=Nat.le_of_lt_succ (Nat.mod_lt _ (by omega))
   cases t with
   | zero =>
    have:=runEnd_le hi
    have:=List.find?_eq_none.mp hk 0 (List.mem_range.mpr (by omega))
    exact Bool.eq_false_iff.mpr this
   | succ t=>exact free_none hl h t (by omega)
theorem free_ok {mask:Nat} {owner:Array (Option Nat)} {i p:Nat} (hs:Sz (mask + 1)) (hi:i<=mask) (hp:p < 2 ^ 64) (he:∃ j,j<=mask/\(owner.getD j (some 0)).isNone=true) :
  ∃ j,SetTable.layClean.free mask owner (SetTable.turns mask) i p=some j/\j<=mask/\(owner.getD j (some 0)).isNone=true:=by
 cases e:SetTable.layClean.free mask owner (SetTable.turns mask) i p with
 | some j=>exact ⟨j,rfl,free_some hi e⟩
 | none =>
  obtain ⟨j,hj,hn⟩:=he
  obtain ⟨t,ht,et⟩:=met hs (Nat.lt_succ_of_le hi) hp (Nat.lt_succ_of_le hj)
  have:=free_none hi e t ht
  rw [et,hn] at this
  cases this
theorem fm_congr {α β:Type} {f g:α->Option β}:∀ {l:List α},(∀ a∈l,f a=g a)->l.filterMap f=l.filterMap g
 | [],_=>rfl
 | a::l,h=>by
  rw [List.filterMap_cons,List.filterMap_cons,h a List.mem_cons_self,fm_congr fun b hb=>h b (List.mem_cons_of_mem _ hb)]
def live (m:Nat) (owner:Array (Option Nat)):List (Nat×Nat):=(List.range m).filterMap fun j=>(owner.getD j none).map (j,·)
theorem live_set {m j k:Nat} {owner:Array (Option Nat)} (hm:owner.size=m) (hj:j < m) (hn:owner.getD j none=none):(live m (owner.setIfInBounds j (some k))).Perm ((j,k)::live m owner):=by
 have hr:List.range m=List.range j++j::(List.range (m - j - 1)).map (· + (j + 1)):=by
  apply List.ext_getElem
  ·simp;omega
  ·intro a h1 h2
   simp at h1
   by_cases q:a < j
   ·simp [List.getElem_append_left,q]
   ·by_cases q2:a=j
    ·subst q2;simp [List.getElem_append_right]
    ·rw [List.getElem_append_right (by simp;omega)]
     simp
     obtain ⟨b,rfl⟩:∃ b,a=j + 1 + b:=⟨a - j - 1,by omega⟩
     simp [show j + 1 + b - j=b + 1 by omega]
     omega
 have ne:∀ a,a≠j->(owner.setIfInBounds j (some k)).getD a none=owner.getD a none:=fun a ha=>by
  simp only [Array.getD_eq_getD_getElem?]
  rw [Array.getElem?_setIfInBounds_ne (fun z=>ha z.symm)]
 have eq:(owner.setIfInBounds j (some k)).getD j none=some k:=by
  simp only [Array.getD_eq_getD_getElem?]
  rw [Array.getElem?_setIfInBounds_self_of_lt (by omega)];rfl
 unfold live
 rw [hr,List.filterMap_append,List.filterMap_append,List.filterMap_cons,List.filterMap_cons,eq,hn]
 have e1:(List.range j).filterMap (fun a=>((owner.setIfInBounds j (some k)).getD a none).map (a,·))=(List.range j).filterMap (fun a=>(owner.getD a none).map (a,·)) :=
  fm_congr fun a ha=>by rw [ne a (by have:=List.mem_range.mp ha;omega)]
 have e2:((List.range (m - j - 1)).map (· + (j + 1))).filterMap (fun a=>((owner.setIfInBounds j (some k)).getD a none).map (a,·))=((List.range (m - j - 1)).map (· + (j + 1))).filterMap (fun a=>(owner.getD a none).map (a,·)) :=
  fm_congr fun a ha=>by
   obtain ⟨b,_,rfl⟩:=List.mem_map.mp ha
   rw [ne _ (by omega)]
 rw [e1,e2]
 exact List.perm_middle
theorem live_none (m:Nat) {owner:Array (Option Nat)} (h:∀ j,owner.getD j none=none):live m owner=[]:=by
 unfold live
 refine List.filterMap_eq_nil_iff.mpr fun j _=>?_
 rw [h j];rfl
theorem live_len {m:Nat} {owner:Array (Option Nat)} (h:(live m owner).length < m):∃ j,j < m/\owner.getD j none=none:=by
 refine Classical.byContradiction fun q=>?_
 have hall:∀ j,j < m->∃ k,owner.getD j none=some k:=fun j hj=>by
  cases e:owner.getD j none with
  | none=>exact (q ⟨j,hj,e⟩).elim
  | some k=>exact ⟨k,rfl⟩
 have:(live m owner).map (·.1)=List.range m:=by
  unfold live
  have:∀ l:List Nat,(∀ j∈l,j < m)->(l.filterMap fun j=>(owner.getD j none).map (j,·)).map (·.1)=l:=by
   intro l
   induction l with
   | nil=>intro _;rfl
   | cons a l ih =>
    intro hl
    obtain ⟨k,hk⟩:=hall a (hl a List.mem_cons_self)
    rw [List.filterMap_cons,hk]
    show a::_=_
    rw [ih fun j hj=>hl j (List.mem_cons_of_mem _ hj)]
  exact this _ fun j hj=>List.mem_range.mp hj
 have:=congrArg List.length this
 rw [List.length_map,List.length_range] at this
 omega
theorem getD_two {owner:Array (Option Nat)} {j:Nat} (h:j < owner.size):owner.getD j none=none ↔ (owner.getD j (some 0)).isNone=true:=by
 simp only [Array.getD_eq_getD_getElem?,Array.getElem?_eq_getElem h,Option.getD_some]
 cases owner[j] <;> simp
def layStep (mask:Nat) (acc:Option (Array (Option Nat)×Nat)) (h:Int):Option (Array (Option Nat)×Nat):=do
 let (owner,k) ← acc
 let j ← SetTable.layClean.free mask owner (SetTable.turns mask) (SetTable.bits h % (mask + 1)) (SetTable.bits h)
 pure (owner.setIfInBounds j (some k),k + 1)
theorem lay_fold {mask:Nat} (hs:Sz (mask + 1)):∀ (hashes:List Int) (owner:Array (Option Nat)) (k:Nat),owner.size=mask + 1->((live (mask + 1) owner).map (·.2)).Perm (List.range k)->k + hashes.length<=mask ->
  ∃ owner',hashes.foldl (layStep mask) (some (owner,k))=some (owner',k + hashes.length)/\owner'.size=mask + 1/\((live (mask + 1) owner').map (·.2)).Perm (List.range (k + hashes.length))
 | [],owner,k,h1,h2,_=>⟨owner,rfl,h1,h2⟩
 | h::hashes,owner,k,h1,h2,hl=>by
  rw [List.length_cons] at hl
  have hlen:(live (mask + 1) owner).length=k:=by
   have:=h2.length_eq
   rwa [List.length_map,List.length_range] at this
  obtain ⟨j0,hj0,e0⟩:=live_len (m:=mask + 1) (owner:=owner) (by omega)
  obtain ⟨j,ej,hj,hn⟩:=free_ok (owner:=owner) (i:=SetTable.bits h % (mask + 1)) (p:=SetTable.bits h) hs (Nat.le_of_lt_succ (Nat.mod_lt _ (by omega))) (bits_lt h) ⟨j0,by omega,(getD_two (by omega)).mp e0⟩
  have hn':=(getD_two (owner:=owner) (j:=j) (by omega)).mpr hn
  have hp:=live_set (k:=k) h1 (by omega) hn'
  have hp2:((live (mask + 1) (owner.setIfInBounds j (some k))).map (·.2)).Perm (List.range (k + 1)):=by
   refine (hp.map (·.2)).trans ?_
   rw [List.map_cons,List.range_succ]
   exact (List.Perm.cons k h2).trans (List.perm_append_singleton k _).symm
  obtain ⟨o',q1,q2,q3⟩:=lay_fold hs hashes (owner.setIfInBounds j (some k)) (k + 1) (by rw [Array.size_setIfInBounds];exact h1) hp2 (by omega)
  refine ⟨o',?_,q2,?_⟩
  ·rw [List.foldl_cons]
   have e:layStep mask (some (owner,k)) h=some (owner.setIfInBounds j (some k),k + 1):=by
    unfold layStep
    simp only [Option.bind_eq_bind,Option.bind_some,ej,Option.pure_def]
   rw [e,q1,List.length_cons]
   congr 2
   omega
  ·rw [List.length_cons,show k + (hashes.length + 1)=k + 1 + hashes.length by omega];exact q3
theorem lay_ok {mask:Nat} (hs:Sz (mask + 1)) {hashes:Array Int} (hl:hashes.size<=mask):∃ owner,SetTable.layClean mask hashes=some owner/\owner.size=mask + 1/\((live (mask + 1) owner).map (·.2)).Perm (List.range hashes.size):=by
 have h0:live (mask + 1) (Array.replicate (mask + 1) none)=[]:=live_none _ fun j=>by
  simp only [Array.getD_eq_getD_getElem?,Array.getElem?_replicate]
  split <;> rfl
 obtain ⟨o,q1,q2,q3⟩:=lay_fold hs hashes.toList (Array.replicate (mask + 1) none) 0 (by simp) (by rw [h0];simp) (by simpa using hl)
 refine ⟨o,?_,q2,by simpa using q3⟩
 unfold SetTable.layClean
 rw [← Array.foldl_toList]
 have e:hashes.toList.foldl (layStep mask) (some (Array.replicate (mask + 1) none,0))=some (o,0 + hashes.toList.length):=q1
 show (hashes.toList.foldl (layStep mask) (some (Array.replicate (mask + 1) none,0))).map (·.1)=some o
 rw [e];rfl
theorem live_rising (m:Nat) (owner:Array (Option Nat)):((live m owner).map (·.1)).Pairwise (· < ·):=by
 unfold live
 rw [List.pairwise_map]
 rw [List.pairwise_filterMap]
 refine List.pairwise_lt_range.imp fun {a b} h x hx y hy=>?_
 cases e:owner.getD a none with
 | none=>rw [e] at hx;cases hx
 | some k =>
  rw [e] at hx
  cases e2:owner.getD b none with
  | none=>rw [e2] at hy;cases hy
  | some k2 =>
   rw [e2] at hy
   cases hx
   cases hy
   exact h
theorem live_le {m:Nat} {owner:Array (Option Nat)}:∀ j∈(live m owner).map (·.1),j < m:=fun j hj=>by
 obtain ⟨p,hp,rfl⟩:=List.mem_map.mp hj
 unfold live at hp
 obtain ⟨a,ha,e⟩:=List.mem_filterMap.mp hp
 cases e2:owner.getD a none with
 | none=>rw [e2] at e;cases e
 | some k=>rw [e2] at e;cases e;exact List.mem_range.mp ha
structure Tb (t:SetTable) (n:Nat):Prop where
 sz:Sz (t.mask + 1)
 len:t.place.size=n
 rise:t.place.toList.Pairwise (· < ·)
 le:∀ j∈t.place.toList,j<=t.mask
 dum:t.dummies=#[]
 pl:t.plain=true
theorem laid_ok {mask finger moves:Nat} {led:Bool} {hashes:Array Int} (hs:Sz (mask + 1)) (hl:hashes.size<=mask):∃ t order,SetTable.laid mask finger moves led true hashes=some (t,order)/\Tb t hashes.size/\t.mask=mask/\t.led=led/\order.toList.Perm (List.range hashes.size):=by
 obtain ⟨o,e,h1,h2⟩:=lay_ok hs hl
 refine ⟨_,_,by unfold SetTable.laid;rw [e];rfl,⟨hs,?_,?_,?_,rfl,rfl⟩,rfl,rfl,?_⟩
 ·have:=h2.length_eq
  rw [List.length_map,List.length_range] at this
  show ((live (mask + 1) o).map (·.1)).toArray.size=_
  simpa using this
 ·show ((live (mask + 1) o).map (·.1)).toArray.toList.Pairwise _
  rw [List.toList_toArray]
  exact live_rising _ _
 ·intro j hj
  have hj:j∈((live (mask + 1) o).map (·.1)).toArray.toList:=hj
  rw [List.toList_toArray] at hj
  have:=live_le j hj
  show j<=mask
  omega
 ·show ((live (mask + 1) o).map (·.2)).toArray.toList.Perm _
  rw [List.toList_toArray]
  exact h2
theorem below_go {xs:Array Nat} {j:Nat} (hr:xs.toList.Pairwise (· < ·)):∀ (fuel lo hi:Nat),lo<=hi->hi<=xs.size->hi - lo<=fuel->(∀ i (h:i < xs.size),i < lo->xs[i] < j)->(∀ i (h:i < xs.size),hi<=i->j<=xs[i]) ->
  SetTable.below.go xs j fuel lo hi<=xs.size/\(∀ i (h:i < xs.size),i < SetTable.below.go xs j fuel lo hi->xs[i] < j)/\(∀ i (h:i < xs.size),SetTable.below.go xs j fuel lo hi<=i->j<=xs[i])
 | 0,lo,hi,h1,h2,h3,h4,h5=>by
  have:lo=hi:=by omega
  subst this
  exact ⟨h2,h4,h5⟩
 | fuel + 1,lo,hi,h1,h2,h3,h4,h5=>by
  rw [SetTable.below.go]
  split
  ·rename_i hlt
   have hm:(lo + hi) / 2 < xs.size:=by omega
   have up:∀ a b (ha:a < xs.size) (hb:b < xs.size),a<=b->xs[a]<=xs[b]:=fun a b ha hb hab=>by
    rcases Nat.lt_or_eq_of_le hab with q | q
    ·have:=List.pairwise_iff_getElem.mp hr a b (by simpa using ha) (by simpa using hb) q
     simp only [Array.getElem_toList] at this
     omega
    ·subst q;exact Nat.le_refl _
   have eg:xs.getD ((lo + hi) / 2) j=xs[(lo + hi) / 2]:=by
    simp only [Array.getD_eq_getD_getElem?,Array.getElem?_eq_getElem hm,Option.getD_some]
   simp only [eg]
   split
   ·rename_i hc
    exact below_go hr fuel _ hi (by omega) h2 (by omega) (fun i hi' hlo=>by
     have:=up i ((lo + hi) / 2) hi' hm (by omega)
     omega) h5
   ·rename_i hc
    exact below_go hr fuel lo _ (by omega) (by omega) (by omega) h4 (fun i hi' hlo=>by
     have:=up ((lo + hi) / 2) i hm hi' hlo
     omega)
  ·have:lo=hi:=by omega
   subst this
   exact ⟨h2,h4,h5⟩
theorem below_ok {xs:Array Nat} (hr:xs.toList.Pairwise (· < ·)) (j:Nat):SetTable.below xs j<=xs.size/\(∀ i (h:i < xs.size),i < SetTable.below xs j->xs[i] < j)/\(∀ i (h:i < xs.size),SetTable.below xs j<=i->j<=xs[i]) :=
 below_go hr xs.size 0 xs.size (by omega) (Nat.le_refl _) (by omega) (fun _ _ h=>by omega) (fun i h1 h2=>by omega)
theorem slot_out {t:SetTable} {n j:Nat} (T:Tb t n) (h:j ∉ t.place.toList):t.slot j=.empty:=by
 unfold SetTable.slot
 have e1:(t.place[SetTable.below t.place j]? == some j)=false:=by
  rw [beq_eq_false_iff_ne]
  intro q
  exact h (Array.mem_toList_iff.mpr (Array.mem_of_getElem? q))
 have e2:SetTable.has t.dummies j=false:=by
  rw [T.dum];rfl
 simp only [e1,e2,Bool.false_eq_true,if_false]
theorem slot_in {t:SetTable} {n j:Nat} (T:Tb t n) (h:j∈t.place.toList):∃ i,t.slot j=.live i:=by
 obtain ⟨h1,h2,h3⟩:=below_ok T.rise j
 obtain ⟨a,ha,ea⟩:=List.getElem_of_mem h
 have ha':a < t.place.size:=by simpa using ha
 have ea':t.place[a]=j:=by simpa using ea
 have hge:SetTable.below t.place j<=a:=Nat.le_of_not_lt fun q=>by have:=h2 a ha' q;omega
 have hlt:SetTable.below t.place j < t.place.size:=by omega
 have hj:=h3 _ hlt (Nat.le_refl _)
 have e:t.place[SetTable.below t.place j]=j:=by
  rcases Nat.lt_or_eq_of_le hge with q | q
  ·have:=List.pairwise_iff_getElem.mp T.rise _ a (by simpa using hlt) (by simpa using ha') q
   simp only [Array.getElem_toList] at this
   omega
  ·simp only [q];exact ea'
 refine ⟨SetTable.below t.place j,?_⟩
 unfold SetTable.slot
 have e1:(t.place[SetTable.below t.place j]? == some j)=true:=by
  rw [Array.getElem?_eq_getElem hlt,e];simp
 simp only [e1,if_true]
def pb (mask i p a:Nat):SetTable.Probe:={ j:=i + a,more:=SetTable.runEnd mask i - i - a,i:=i,perturb:=p,dummy:=none }
theorem adv_run {t:SetTable} {i p a:Nat} (h:a < SetTable.runEnd t.mask i - i):t.advance (pb t.mask i p a)=pb t.mask i p (a + 1):=by
 unfold SetTable.advance pb
 simp only []
 rw [if_pos (by omega)]
 simp only [SetTable.Probe.mk.injEq,and_true,true_and]
 omega
theorem adv_leap {t:SetTable} {i p a:Nat} (h:a=SetTable.runEnd t.mask i - i):t.advance (pb t.mask i p a)=pb t.mask (SetTable.leap t.mask i p).1 (SetTable.leap t.mask i p).2 0:=by
 unfold SetTable.advance pb
 simp only []
 rw [if_neg (by omega)]
 rfl
section
variable {t:SetTable} {n:Nat} {hashAt:Nat->Int} {h:Int}
theorem go_live (T:Tb t n) (hh:∀ i,(hashAt i == h)=false) {p:SetTable.Probe} {fuel:Nat} (hp:p.j∈t.place.toList):SetTable.probe.go t hashAt h (fuel + 1) p=SetTable.probe.go t hashAt h fuel (t.advance p):=by
 obtain ⟨i,e⟩:=slot_in T hp
 rw [SetTable.probe.go,e]
 simp only [hh i,Bool.false_eq_true,if_false]
theorem go_empty (T:Tb t n) {p:SetTable.Probe} {fuel:Nat} (hp:p.j ∉ t.place.toList):SetTable.probe.go t hashAt h (fuel + 1) p=some (.empty p.j p.dummy):=by
 rw [SetTable.probe.go,slot_out T hp]
theorem go_run (T:Tb t n) (hh:∀ i,(hashAt i == h)=false) {i p:Nat} (hi:i<=t.mask):∀ (d a fuel:Nat),a + d=SetTable.runEnd t.mask i - i ->
  (∃ j,SetTable.probe.go t hashAt h (fuel + (d + 1)) (pb t.mask i p a)=some (.empty j none)/\j<=t.mask/\j ∉ t.place.toList) \/
   ((a=0->i∈t.place.toList)/\SetTable.probe.go t hashAt h (fuel + (d + 1)) (pb t.mask i p a)=SetTable.probe.go t hashAt h fuel (pb t.mask (SetTable.leap t.mask i p).1 (SetTable.leap t.mask i p).2 0))
 | 0,a,fuel,ha=>by
  have r:=runEnd_le hi
  by_cases q:i + a∈t.place.toList
  ·right
   refine ⟨fun z=>by rw [z] at q;exact q,?_⟩
   rw [go_live T hh (p:=pb t.mask i p a) q,adv_leap (by omega)]
  ·left
   exact ⟨i + a,go_empty T (p:=pb t.mask i p a) q,by omega,q⟩
 | d + 1,a,fuel,ha=>by
  have r:=runEnd_le hi
  by_cases q:i + a∈t.place.toList
  ·rw [show fuel + (d + 1 + 1)=(fuel + (d + 1)) + 1 by omega,go_live T hh (p:=pb t.mask i p a) q,adv_run (by omega)]
   rcases go_run T hh hi d (a + 1) fuel (by omega) with w | w
   ·exact .inl w
   ·exact .inr ⟨fun z=>by rw [z] at q;exact q,w.2⟩
  ·left
   exact ⟨i + a,go_empty T (p:=pb t.mask i p a) q,by omega,q⟩
theorem go_all (T:Tb t n) (hh:∀ i,(hashAt i == h)=false):∀ (m i p fuel:Nat),i<=t.mask->10 * m<=fuel ->
  (∃ j,SetTable.probe.go t hashAt h fuel (pb t.mask i p 0)=some (.empty j none)/\j<=t.mask/\j ∉ t.place.toList)\/∀ a,a < m->(vis t.mask a i p).1∈t.place.toList
 | 0,i,p,fuel,_,_=>.inr fun a ha=>by omega
 | m + 1,i,p,fuel,hi,hf=>by
  have r:=runEnd_le hi
  have hl:(SetTable.leap t.mask i p).1<=t.mask:=Nat.le_of_lt_succ (Nat.mod_lt _ (by omega))
  obtain ⟨f',ef⟩:∃ f',fuel=f' + (SetTable.runEnd t.mask i - i + 1):=⟨fuel - (SetTable.runEnd t.mask i - i + 1),by omega⟩
  rcases go_run T hh hi (p:=p) (SetTable.runEnd t.mask i - i) 0 f' (by omega) with w | ⟨w1,w2⟩
  ·left;rw [ef];exact w
  ·rw [ef,w2]
   rcases go_all T hh m _ _ f' hl (by omega) with v | v
   ·exact .inl v
   ·refine .inr fun a ha=>?_
    cases a with
    | zero=>exact w1 rfl
    | succ a=>exact v a (by omega)
end
theorem sub_len:∀ (r l:List Nat),r.Nodup->(∀ x∈r,x∈l)->r.length<=l.length
 | [],l,_,_=>Nat.zero_le _
 | x::r,l,hn,h=>by
  rw [List.nodup_cons] at hn
  have hx:=h x List.mem_cons_self
  have:=sub_len r (l.erase x) hn.2 fun y hy=>by
   have hne:y≠x:=fun z=>hn.1 (by rw [← z];exact hy)
   exact (List.mem_erase_of_ne hne).mpr (h y (List.mem_cons_of_mem _ hy))
  rw [List.length_erase_of_mem hx] at this
  have:=List.length_pos_of_mem hx
  rw [List.length_cons];omega
theorem free_slot {t:SetTable} {n:Nat} (T:Tb t n) (hn:n<=t.mask) (h:Int):∃ j,t.freeSlot h=some (j,false)/\j<=t.mask/\j ∉ t.place.toList:=by
 obtain ⟨j0,hj0,e0⟩:∃ j,j < t.mask + 1/\j ∉ t.place.toList:=by
  refine Classical.byContradiction fun q=>?_
  have:=sub_len (List.range (t.mask + 1)) t.place.toList List.nodup_range fun x hx=>Classical.byContradiction fun w=>q ⟨x,List.mem_range.mp hx,w⟩
  rw [List.length_range,Array.length_toList,T.len] at this
  omega
 have hi:SetTable.bits h % (t.mask + 1)<=t.mask:=Nat.le_of_lt_succ (Nat.mod_lt _ (by omega))
 have hh:∀ i:Nat,((fun _=>h + 1:Nat->Int) i == h)=false:=fun i=>by
  rw [beq_eq_false_iff_ne]
  show h + 1≠h
  omega
 have hst:t.probeStart h=pb t.mask (SetTable.bits h % (t.mask + 1)) (SetTable.bits h) 0:=rfl
 rcases go_all T hh (SetTable.turns t.mask) (SetTable.bits h % (t.mask + 1)) (SetTable.bits h) (10 * SetTable.turns t.mask) hi (Nat.le_refl _) with ⟨j,e,h1,h2⟩ | w
 ·refine ⟨j,?_,h1,h2⟩
  unfold SetTable.freeSlot SetTable.probe
  rw [hst,e];rfl
 ·obtain ⟨a,ha,ea⟩:=met T.sz (Nat.lt_succ_of_le hi) (bits_lt h) hj0
  exact (e0 (ea ▸ w a ha)).elim
theorem ins_list {α:Type} (xs:Array α) {p:Nat} (x:α):(SetTable.insertAt xs p x).toList=xs.toList.take p++x::xs.toList.drop p:=by
 unfold SetTable.insertAt
 rw [Array.toList_append,Array.toList_push,Array.toList_extract,Array.toList_extract]
 simp [List.extract_eq_take_drop,List.take_of_length_le]
theorem put_ok {t:SetTable} {n j:Nat} (T:Tb t n) (hj:j<=t.mask) (hn:j ∉ t.place.toList):Tb (t.put j).1 (n + 1)/\(t.put j).1.mask=t.mask/\(t.put j).1.led=t.led:=by
 obtain ⟨h1,h2,h3⟩:=below_ok T.rise j
 have hd:SetTable.has t.dummies j=false:=by rw [T.dum];rfl
 refine ⟨⟨T.sz,?_,?_,?_,?_,T.pl⟩,rfl,rfl⟩
 ·show (SetTable.insertAt t.place (SetTable.below t.place j) j).size=_
  rw [← Array.length_toList,ins_list,List.length_append,List.length_cons,List.length_take,List.length_drop,Array.length_toList,T.len]
  rw [T.len] at h1
  omega
 ·show (SetTable.insertAt t.place (SetTable.below t.place j) j).toList.Pairwise _
  rw [ins_list,List.pairwise_append,List.pairwise_cons]
  refine ⟨T.rise.sublist (List.take_sublist _ _),⟨fun b hb=>?_,T.rise.sublist (List.drop_sublist _ _)⟩,fun a ha b hb=>?_⟩
  ·obtain ⟨k,hk,ek⟩:=List.getElem_of_mem hb
   rw [List.length_drop,Array.length_toList] at hk
   rw [List.getElem_drop,Array.getElem_toList] at ek
   have:=h3 (SetTable.below t.place j + k) (by omega) (by omega)
   rw [ek] at this
   exact Nat.lt_of_le_of_ne this fun z=>hn (z ▸ List.mem_of_mem_drop hb)
  ·obtain ⟨k,hk,ek⟩:=List.getElem_of_mem ha
   rw [List.length_take,Array.length_toList] at hk
   rw [List.getElem_take,Array.getElem_toList] at ek
   have hlt:=h2 k (by omega) (by omega)
   rw [ek] at hlt
   rcases List.mem_cons.mp hb with rfl | hb
   ·exact hlt
   ·obtain ⟨k2,hk2,ek2⟩:=List.getElem_of_mem hb
    rw [List.length_drop,Array.length_toList] at hk2
    rw [List.getElem_drop,Array.getElem_toList] at ek2
    have:=h3 (SetTable.below t.place j + k2) (by omega) (by omega)
    rw [ek2] at this
    omega
 ·intro b hb
  have hb:b∈(SetTable.insertAt t.place (SetTable.below t.place j) j).toList:=hb
  rw [ins_list] at hb
  rcases List.mem_append.mp hb with hb | hb
  ·exact T.le b (List.mem_of_mem_take hb)
  ·rcases List.mem_cons.mp hb with rfl | hb
   ·exact hj
   ·exact T.le b (List.mem_of_mem_drop hb)
 ·show (if SetTable.has t.dummies j=true then _ else t.dummies)=_
  rw [hd];exact T.dum
theorem ins_perm {α:Type} (xs:Array α) (p:Nat) (x:α):(SetTable.insertAt xs p x).toList.Perm (xs.toList++[x]):=by
 rw [ins_list]
 refine List.perm_middle.trans ?_
 rw [List.take_append_drop]
 exact (List.perm_append_singleton x _).symm
theorem fits_ok {t:SetTable} {n:Nat} (T:Tb t n) (hn:n<=t.mask):t.fits n=true:=by
 unfold SetTable.fits SetTable.fill
 rw [T.len,T.dum]
 simp [hn]
theorem lay_new {t:SetTable} {es:Array (Int×Value)} (T:Tb t es.size) (hn:es.size + 1<=t.mask) (h:Int) (x:Value):∃ es' t',layNew t es h x=(es',t',false,false)/\Tb t' (es.size + 1)/\es'.size=es.size + 1/\es'.toList.Perm (es.toList++[(h,x)])/\t'.mask=t.mask/\t'.led=t.led:=by
 obtain ⟨j,e,h1,h2⟩:=free_slot T (by omega) h
 obtain ⟨T',m',l'⟩:=put_ok T h1 h2
 have hp:=ins_perm es (t.put j).2 (h,x)
 have hs:(SetTable.insertAt es (t.put j).2 (h,x)).size=es.size + 1:=by
  have:=hp.length_eq
  rw [Array.length_toList,List.length_append,Array.length_toList] at this
  exact this
 have hf:=fits_ok T' (by rw [m'];exact hn)
 refine ⟨SetTable.insertAt es (t.put j).2 (h,x),(t.put j).1,?_,T',hs,hp,m',l'⟩
 unfold layNew
 rw [e]
 simp only [hs,hf,SetTable.orStandIn,if_true,Bool.not_true]
theorem above_ok:∀ n:Nat,n < 512->SetTable.sizeAbove n∈[8,16,32,64,128,256,512]/\n < SetTable.sizeAbove n:=by decide +kernel
theorem range_fm {α:Type}:∀ l:List α,(List.range l.length).filterMap (l[·]?)=l
 | []=>rfl
 | a::l=>by
  rw [List.length_cons,List.range_succ_eq_map,List.filterMap_cons]
  show a::_=_
  rw [List.filterMap_map]
  congr 1
  exact range_fm l
theorem order_perm {α:Type} {es:Array α} {order:Array Nat} (h:order.toList.Perm (List.range es.size)):(order.filterMap (es[·]?)).toList.Perm es.toList/\(order.filterMap (es[·]?)).size=es.size:=by
 have e:(List.range es.size).filterMap (es[·]?)=es.toList:=by
  have:=range_fm es.toList
  rw [Array.length_toList] at this
  refine Eq.trans (fm_congr fun a _=>?_) this
  rw [Array.getElem?_toList]
 have p:(order.filterMap (es[·]?)).toList.Perm es.toList:=by
  rw [Array.toList_filterMap]
  have:=h.filterMap (es[·]?)
  rwa [e] at this
 exact ⟨p,by have:=p.length_eq;rwa [Array.length_toList,Array.length_toList] at this⟩
theorem relay_ok {t:SetTable} {es:Array (Int×Value)} {wanted:Nat} (pl:t.plain=true) (hw:wanted < 512) (hn:es.size<=wanted):∃ t' order,t.relaid (es.map (·.1)) wanted=some (t',order)/\Tb t' es.size/\wanted<=t'.mask/\t'.led=t.led/\(order.filterMap (es[·]?)).toList.Perm es.toList/\(order.filterMap (es[·]?)).size=es.size/\order.toList.Perm (List.range es.size):=by
 obtain ⟨h1,h2⟩:=above_ok wanted hw
 have hs:Sz (SetTable.sizeAbove wanted - 1 + 1):=by
  rw [show SetTable.sizeAbove wanted - 1 + 1=SetTable.sizeAbove wanted by omega];exact h1
 obtain ⟨t',order,e,T,m',l',p⟩:=laid_ok (mask:=SetTable.sizeAbove wanted - 1) (finger:=t.finger) (moves:=t.movedTo (SetTable.sizeAbove wanted - 1)) (led:=t.led) (hashes:=es.map (·.1)) hs (by rw [Array.size_map];omega)
 rw [Array.size_map] at T p
 have hp:=order_perm p
 refine ⟨t',order,?_,T,by omega,l',hp.1,hp.2,p⟩
 unfold SetTable.relaid
 rw [pl,e]
theorem relay_all {t:SetTable} {es:Array (Int×Value)} {wanted:Nat} (pl:t.plain=true) (hw:wanted < 512) (hn:es.size<=wanted):∃ es' t',relayAll t es wanted=(es',t',false)/\Tb t' es.size/\es'.size=es.size/\es'.toList.Perm es.toList/\wanted<=t'.mask/\t'.led=t.led:=by
 obtain ⟨t',order,e,T,m',l',p1,p2,p3⟩:=relay_ok pl hw hn
 refine ⟨order.filterMap (es[·]?),t',?_,T,p2,p1,m',l'⟩
 unfold relayAll
 rw [e]
 have hc:coversAll order es.size=true:=by
  unfold coversAll
  rw [List.isPerm_iff]
  exact p3
 have hf:=fits_ok T (by omega)
 simp only [p2,hc,hf,Bool.and_self,if_true]
end Sx
namespace Sx
open PySem PyProof.Rows
def byT (w:World):Bool:=w.params.followText "set-order"
def kOf (e:Int×Value):Int:=match e.2 with
 | .int k _=>k
 | _=>0
structure SetI (w:World) (h:Heap) (a:Addr) (es:Array (Int×Value)) (t:SetTable) (ep:Nat):Prop where
 obj:∃ o,h.get? a=some o/\o.ExactSet/\o.data=.set es ep t
 tb:Tb t es.size
 room:es.size * 5 < t.mask * 3
 led:t.led=!byT w
 ent:∀ e∈es.toList,∃ k tk,e=(hashInt k,Value.int k tk)
 nd:(es.toList.map kOf).Nodup
section
variable {prog:Program} {w:World} {A:Around} {E:Value->Shared->Prop} {s:Shared} {a:Addr} {es:Array (Int×Value)} {t:SetTable} {ep:Nat}
theorem mask_ge {t:SetTable} {n:Nat} (T:Tb t n):7<=t.mask:=by
 have:=T.sz
 unfold Sz at this
 simp at this
 omega
theorem SetI.elems {h:Heap} (S:SetI w h a es t ep):ElemsOf (intKind prog w) es.toList:=fun e he=>by
 obtain ⟨k,tk,rfl⟩:=S.ent e he
 exact ⟨⟨k,by show Value.isInt k (.int k tk)=true;simp [Value.isInt],rfl⟩,rfl⟩
theorem SetI.fits {h:Heap} (S:SetI w h a es t ep):t.fits es.size=true:=fits_ok S.tb (by have:=S.room;omega)
theorem isInt_iff {k k':Int} {tk:Tok}:Value.isInt k (.int k' tk)=decide (k'=k):=by
 by_cases h:k'=k
 ·subst h;simp [Value.isInt]
 ·simp [Value.isInt,h]
theorem SetI.has {h:Heap} (S:SetI w h a es t ep) {e:Int×Value} (he:e∈es.toList) (k:Int):(intKind prog w).is k e.2=decide (kOf e=k):=by
 obtain ⟨k',tk,rfl⟩:=S.ent e he
 exact isInt_iff (tk:=tk)
theorem store_at {h:Heap} {o:Obj} {es es':Array (Int×Value)} {t t':SetTable} (ho:h.get? a=some o) (hd:o.data=.set es ep t):(h.update a (Obj.putSet es' t')).get? a=some { o with data:=.set es' (ep + 1) t' }:=by
 have e:=putSet_of es' t' hd
 rw [Heap.get?_update_self _ ho (by rw [e];rfl),e]
theorem add_new {k:Int} {tk:Tok} {Q:Bool->Shared->Prop} (S:SetI w s.heap a es t ep) (hn:es.size < 126) (hk:k ∉ es.toList.map kOf)
  (h:∀ es' t' ep' h',Heap.SameBut a s.heap h'->SetI w h' a es' t' ep'->es'.size=es.size + 1->es'.toList.Perm (es.toList++[(hashInt k,Value.int k tk)])->Q true { s with heap:=h' }) :
  wpAny (model prog w) A (setAddHashed a (.int k tk) (hashInt k)) Q E s:=by
 obtain ⟨o,ho,hex,hd⟩:=S.obj
 have hf:=S.fits
 have hel:=S.elems (prog:=prog)
 have hsb:es.size < scanBound:=Nat.lt_trans hn (by decide)
 have hm:=mask_ge S.tb
 have hr:=S.room
 unfold setAddHashed setAddHashedIn
 refine wpAny_holding (wpAny_bind (wpAny_setState_of ho hd hf ?_))
 dsimp only
 rw [byScan_of rfl hsb hel]
 simp only [↓reduceIte]
 unfold setAddByScan
 refine wpAny_bind (wpAny_bind (wpAny_rule (wpAny_bind (wpAny_setScan_of (k:=k) (knd:=intKind prog w) (by show Value.isInt k (.int k tk)=true;rw [isInt_iff];simp) ho hd hf hel ?_))))
 have hnone:es.toList.findIdx? (fun e=>(intKind prog w).is k e.2)=none:=by
  rw [List.findIdx?_eq_none_iff]
  intro e he
  rw [S.has he,decide_eq_false]
  exact fun z=>hk (List.mem_map.mpr ⟨e,he,z⟩)
 rw [hnone]
 dsimp only
 obtain ⟨es1,t1,e1,T1,s1,p1,m1,l1⟩:=lay_new S.tb (by omega) (hashInt k) (.int k tk)
 rw [e1]
 dsimp only
 refine wpAny_bind (show wpAny _ _ (pure ():Sem Unit) _ _ _ from wpAny_pure ?_)
 have hent:∀ l:List (Int×Value),l.Perm (es.toList++[(hashInt k,Value.int k tk)])->(∀ e∈l,∃ k tk,e=(hashInt k,Value.int k tk))/\(l.map kOf).Nodup:=fun l hl=>by
  refine ⟨fun e he=>?_,?_⟩
  ·rcases List.mem_append.mp (hl.mem_iff.mp he) with q | q
   ·exact S.ent e q
   ·simp at q;exact ⟨k,tk,q⟩
  ·refine ((hl.map kOf).nodup_iff).mpr ?_
   rw [List.map_append,List.nodup_append]
   refine ⟨S.nd,by simp,fun x hx y hy=>?_⟩
   have:y=k:=by simpa [kOf] using hy
   subst this
   exact fun z=>hk (z ▸ hx)
 rw [if_pos T1.pl,hashByValue_scannable 8 rfl]
 refine wpAny_bind (wpAny_pure ?_)
 have epl:(if plainKind (Value.int k tk)=true then t1 else { t1 with plain:=false })=t1:=rfl
 rw [epl]
 have hz1:es1.size<=sizeLine:=by rw [s1];exact fits_of_scanBound (Nat.lt_of_le_of_lt (show es.size + 1<=126 by omega) (by decide))
 refine wpAny_bind (wpAny_storeSet_of ho hd ?_ hz1)
 have ho1:(s.heap.update a (Obj.putSet es1 t1)).get? a=some { o with data:=.set es1 (ep + 1) t1 }:=store_at ho hd
 by_cases hfull:t1.tooFull=true
 ·have h3:4 * es1.size < 512:=by rw [s1];omega
  obtain ⟨es2,t2,e2,T2,s2,p2,m2,l2⟩:=relay_all (t:=t1) (es:=es1) (wanted:=SetTable.grown es1.size) T1.pl (by unfold SetTable.grown;split <;> omega) (by unfold SetTable.grown;split <;> omega)
  rw [hfull,e2]
  simp only [Bool.not_false,Bool.true_and,if_true]
  refine wpAny_bind (show wpAny _ _ (pure ():Sem Unit) _ _ _ from wpAny_pure ?_)
  refine wpAny_bind (wpAny_storeSet_of ho1 rfl ?_ (by rw [s2];exact hz1))
  refine wpAny_pure (wpAny_pure ?_)
  have hp:=p2.trans p1
  obtain ⟨q1,q2⟩:=hent _ hp
  have hg:es1.size * 4<=t2.mask:=by
   unfold SetTable.grown at m2
   split at m2 <;> omega
  refine h es2 t2 (ep + 1 + 1) _ ((Heap.SameBut.update s.heap a _).trans (Heap.SameBut.update _ a _)) ⟨⟨{ o with data:=.set es2 (ep + 1 + 1) t2 },?_,hex,rfl⟩,by rw [s2];exact T2,by rw [s2,s1] at *;omega,by rw [l2,l1];exact S.led,q1,q2⟩ (by rw [s2,s1]) hp
  exact store_at (o:={ o with data:=.set es1 (ep + 1) t1 }) ho1 rfl
 ·have hfull:t1.tooFull=false:=by simpa using hfull
  rw [hfull]
  simp only [Bool.and_false,Bool.false_eq_true,if_false]
  refine wpAny_pure (wpAny_pure ?_)
  obtain ⟨q1,q2⟩:=hent _ p1
  have hfl:es1.size * 5 < t1.mask * 3:=by
   unfold SetTable.tooFull SetTable.fill at hfull
   rw [T1.len,T1.dum] at hfull
   simp at hfull
   rw [s1]
   omega
  exact h es1 t1 (ep + 1) _ (Heap.SameBut.update s.heap a _) ⟨⟨_,ho1,hex,rfl⟩,by rw [s1];exact T1,hfl,by rw [l1];exact S.led,q1,q2⟩ s1 p1
theorem add_old {k:Int} {tk:Tok} {Q:Bool->Shared->Prop} (S:SetI w s.heap a es t ep) (hn:es.size < 126) (hk:k∈es.toList.map kOf) (h:Q false s) :
  wpAny (model prog w) A (setAddHashed a (.int k tk) (hashInt k)) Q E s:=by
 obtain ⟨o,ho,hex,hd⟩:=S.obj
 have hf:=S.fits
 have hel:=S.elems (prog:=prog)
 have hsb:es.size < scanBound:=Nat.lt_trans hn (by decide)
 unfold setAddHashed setAddHashedIn
 refine wpAny_holding (wpAny_bind (wpAny_setState_of ho hd hf ?_))
 dsimp only
 rw [byScan_of rfl hsb hel]
 simp only [↓reduceIte]
 unfold setAddByScan
 refine wpAny_bind (wpAny_bind (wpAny_rule (wpAny_bind (wpAny_setScan_of (k:=k) (knd:=intKind prog w) (by show Value.isInt k (.int k tk)=true;rw [isInt_iff];simp) ho hd hf hel ?_))))
 obtain ⟨e,he,ek⟩:=List.mem_map.mp hk
 cases hr:es.toList.findIdx? (fun e=>(intKind prog w).is k e.2) with
 | none =>
  have:=List.findIdx?_eq_none_iff.mp hr e he
  rw [S.has he,decide_eq_true ek] at this
  cases this
 | some j =>
  dsimp only
  exact wpAny_pure (wpAny_pure h)
theorem fresh_tb (led:Bool) (f m:Nat):Tb (.fresh f m led) 0:=⟨by show (8:Nat)∈_;decide,rfl,.nil,fun j hj=>(nomatch hj),rfl,rfl⟩
theorem new_set {Q:Value->Shared->Prop} (h:∀ ob:Obj,SetI w (s.heap.push ob) s.heap.objs.size #[] (.fresh 0 0 (!byT w)) 0->Q (.ref s.heap.objs.size) { s with heap:=s.heap.push ob }):wpAny (model prog w) A (newSet (.type "set")) Q E s:=by
 unfold newSet setsByText
 refine wpAny_bind (wpAny_bind (wpAny_askSetting (wpAny_pure ?_)))
 dsimp only
 simp only [newObj]
 refine wpAny_bind (wpAny_alloc (wpAny_pure (h _ ⟨⟨_,Heap.get?_push_size _ rfl,⟨rfl,rfl,rfl⟩,rfl⟩,fresh_tb _ _ _,by show 0 * 5 < 7 * 3;decide,rfl,fun e he=>by simp at he,by simp⟩)))
theorem room_for {more:Nat} {Q:Unit->Shared->Prop} (S:SetI w s.heap a es t ep) (hn:es.size + more < 128)
  (h:∀ es' t' ep' h',Heap.SameBut a s.heap h'->SetI w h' a es' t' ep'->es'.toList.Perm es.toList->(es.size + more) * 5 < t'.mask * 3->Q () { s with heap:=h' }):wpAny (model prog w) A (setRoomFor a more) Q E s:=by
 obtain ⟨o,ho,hex,hd⟩:=S.obj
 have hf:=S.fits
 unfold setRoomFor
 refine wpAny_bind (wpAny_setState_of ho hd hf ?_)
 dsimp only
 cases hr:t.roomFor more with
 | none =>
  dsimp only
  have e:s={ s with heap:=s.heap }:=by cases s;rfl
  rw [e]
  refine wpAny_pure (h es t ep s.heap (Heap.SameBut.refl a s.heap) S (.refl _) ?_)
  unfold SetTable.roomFor SetTable.fill at hr
  rw [S.tb.len,S.tb.dum] at hr
  split at hr
  ·cases hr
  ·rename_i q
   simp at q
   omega
 | some wanted =>
  dsimp only
  have hw:wanted=(es.size + more) * 2:=by
   unfold SetTable.roomFor at hr
   split at hr
   ·cases hr;rw [S.tb.len]
   ·cases hr
  unfold setRelay
  refine wpAny_bind (wpAny_setState_of ho hd hf ?_)
  dsimp only
  obtain ⟨t',order,e1,T1,m1,l1,p1,s1,_⟩:=relay_ok (t:=t) (es:=es) (wanted:=wanted) S.tb.pl (by omega) (by omega)
  have hab:=(above_ok wanted (by omega)).1
  have hmg:=mask_ge T1
  have hz:¬ SetTable.sizeAbove wanted > sizeLine:=by
   have:SetTable.sizeAbove wanted<=512:=by simp at hab;omega
   have:(512:Nat)<=sizeLine:=by decide
   omega
  rw [if_neg hz,e1]
  have hz2:(order.filterMap (es[·]?)).size<=sizeLine:=by rw [s1];exact fits_of_scanBound (Nat.lt_of_le_of_lt (show es.size<=128 by omega) (by decide))
  refine wpAny_bind ?_
  have hb:((order.filterMap (es[·]?)).size != es.size)=false:=by rw [s1];simp
  show wpAny _ _ (if ((order.filterMap (es[·]?)).size != es.size)=true then unsupported "internal:set-table-lost-an-element" else pure (order.filterMap (es[·]?),t')) _ _ _
  rw [hb,if_neg (by decide)]
  refine wpAny_pure ?_
  dsimp only
  refine wpAny_storeSet_of ho hd ?_ hz2
  refine h _ t' (ep + 1) _ (Heap.SameBut.update s.heap a _) ⟨⟨_,store_at ho hd,hex,rfl⟩,by rw [s1];exact T1,by rw [s1];omega,by rw [l1];exact S.led,fun e he=>S.ent e (p1.mem_iff.mp he),((p1.map kOf).nodup_iff).mpr S.nd⟩ p1 (by omega)
theorem SetI.but {h h':Heap} {b:Addr} (S:SetI w h a es t ep) (hs:Heap.SameBut b h h') (hne:a≠b):SetI w h' a es t ep:=by
 obtain ⟨o,ho,hex,hd⟩:=S.obj
 exact ⟨⟨o,(hs.2 a hne).trans ho,hex,hd⟩,S.tb,S.room,S.led,S.ent,S.nd⟩
theorem SetI.kept {h h':Heap} (S:SetI w h a es t ep) (hk:∀ b o,h.get? b=some o->h'.get? b=some o):SetI w h' a es t ep:=by
 obtain ⟨o,ho,hex,hd⟩:=S.obj
 exact ⟨⟨o,hk _ _ ho,hex,hd⟩,S.tb,S.room,S.led,S.ent,S.nd⟩
def keysE (es:Array (Int×Value)):List Int:=es.toList.map kOf
theorem pick_go {α:Type} (next:Nat->Nat):∀ (fuel k:Nat) (left:List α) (out:Array α),fuel=left.length->(pickOrder.go next fuel k left out).toList.Perm (out.toList++left)
 | 0,k,left,out,h=>by
  have:left=[]:=List.length_eq_zero_iff.mp h.symm
  subst this
  rw [pickOrder.go];simp
 | fuel + 1,k,left,out,h=>by
  have hlt:next k % left.length < left.length:=Nat.mod_lt _ (by omega)
  rw [pickOrder.go,List.getElem?_eq_getElem hlt]
  dsimp only
  refine (pick_go next fuel (k + 1) _ _ (by rw [List.length_eraseIdx_of_lt hlt];omega)).trans ?_
  rw [Array.toList_push,List.append_assoc]
  refine List.Perm.append_left _ ?_
  rw [List.singleton_append]
  rw [List.eraseIdx_eq_take_drop_succ]
  refine List.perm_middle.symm.trans (.of_eq ?_)
  rw [List.getElem_cons_drop,List.take_append_drop]
theorem pick_perm {α:Type} (next:Nat->Nat) (xs:Array α):(pickOrder next xs).toList.Perm xs.toList:=by
 have:=pick_go next xs.size 0 xs.toList #[] (by simp)
 rw [Array.toList_empty,List.nil_append] at this
 exact this
theorem walk_set {Q:Array (Int×Value)->Shared->Prop} (S:SetI w s.heap a es t ep) (h:∀ es',es'.toList.Perm es.toList->Q es' s):wpAny (model prog w) A (setWalk a) Q E s:=by
 obtain ⟨o,ho,hex,hd⟩:=S.obj
 unfold setWalk
 refine wpAny_bind (wpAny_setState_of ho hd S.fits ?_)
 dsimp only
 unfold setsByText
 refine wpAny_bind (wpAny_bind (wpAny_askSetting (wpAny_pure ?_)))
 dsimp only
 cases hb:byT w with
 | true =>
  have:(model prog w).w.params.followText "set-order" = true:=hb
  rw [this,if_pos rfl]
  exact wpAny_bind (wpAny_askSetting (wpAny_pure (h _ (pick_perm _ _))))
 | false =>
  have:(model prog w).w.params.followText "set-order" = false:=hb
  rw [this,if_neg (by decide)]
  have hl:t.led=true:=by rw [S.led,hb];rfl
  show wpAny _ _ (if (!t.plain && decide (es.size > 1))=true then _ else _) _ _ _
  rw [S.tb.pl]
  simp only [Bool.not_true,Bool.false_and,Bool.false_eq_true,if_false]
  refine wpAny_bind ?_
  show wpAny _ _ (if (!t.led && decide (es.size > 1))=true then unsupported "set:maker-not-led" else pure ()) _ _ _
  rw [hl]
  simp only [Bool.not_true,Bool.false_and,Bool.false_eq_true,if_false]
  exact wpAny_pure (wpAny_pure (h es (.refl _)))
theorem forA {α:Type} {f:α->Unit->Sem (ForInStep Unit)} {xs:Array α} {Q:Unit->Shared->Prop} (h:wpAny (model prog w) A (forIn xs.toList () f) Q E s):wpAny (model prog w) A (forIn xs () f) Q E s:=by
 rw [← Array.forIn_toList];exact h
variable {b:Addr} {eo:Array (Int×Value)} {to:SetTable} {epo:Nat}
theorem merge_loop {each:Sem Unit} (hea:∀ (s':Shared) (Q':Unit->Shared->Prop),SetI w s'.heap b eo to epo->Q' () s'->wpAny (model prog w) A each Q' E s') (hne:a≠b):∀ (l:List (Int×Value)) (s:Shared) (es:Array (Int×Value)) (t:SetTable) (ep:Nat) (Q:Unit->Shared->Prop),SetI w s.heap a es t ep->SetI w s.heap b eo to epo->(∀ e∈l,e∈eo.toList)->es.size + l.length < 126 ->
  (∀ es' t' ep' h',Heap.SameBut a s.heap h'->SetI w h' a es' t' ep'->(∀ k,k∈keysE es' ↔ k∈keysE es\/k∈l.map kOf)->es'.size<=es.size + l.length->Q () { s with heap:=h' }) ->
  wpAny (model prog w) A (forIn l () fun (x:Int×Value) _=>do
   let _ ← holding [x.2] (setAddHashed a x.2 x.1)
   each
   let r ← setState b
   if (r.2.1 != epo)=true then do
    unsupported "set.changed-during-merge"
    pure (ForInStep.yield ())
   else pure (ForInStep.yield ())) Q E s
 | [],s,es,t,ep,Q,S,O,_,_,h=>by
  rw [List.forIn_nil]
  have e:s={ s with heap:=s.heap }:=by cases s;rfl
  rw [e]
  exact wpAny_pure (h es t ep s.heap (Heap.SameBut.refl a s.heap) S (fun k=>by simp) (by simp))
 | x::l,s,es,t,ep,Q,S,O,hl,hn,h=>by
  obtain ⟨k,tk,rfl⟩:=O.ent x (hl x List.mem_cons_self)
  rw [List.length_cons] at hn
  rw [List.forIn_cons]
  have tail:∀ (s1:Shared) (Q1:ForInStep Unit->Shared->Prop),SetI w s1.heap b eo to epo->Q1 (.yield ()) s1->wpAny (model prog w) A (do
    each
    let r ← setState b
    if (r.2.1 != epo)=true then do
     unsupported "set.changed-during-merge"
     pure (ForInStep.yield ())
    else pure (ForInStep.yield ())) Q1 E s1:=fun s1 Q1 O1 q1=>by
   obtain ⟨o,ho,hex,hd⟩:=O1.obj
   refine wpAny_bind (hea s1 _ O1 (wpAny_bind (wpAny_setState_of ho hd O1.fits ?_)))
   dsimp only
   have:(epo != epo)=false:=by simp
   rw [this]
   simp only [Bool.false_eq_true,if_false]
   exact wpAny_pure q1
  refine wpAny_bind (wpAny_bind (wpAny_holding ?_))
  by_cases hk:k∈keysE es
  ·refine add_old S (by omega) hk ?_
   refine tail _ _ O ?_
   dsimp only
   refine merge_loop hea hne l s es t ep Q S O (fun e he=>hl e (List.mem_cons_of_mem _ he)) (by omega) fun es' t' ep' h' q1 q2 q3 q4=>h es' t' ep' h' q1 q2 (fun k'=>?_) (by rw [List.length_cons];omega)
   rw [q3 k',List.map_cons,List.mem_cons]
   constructor
   ·rintro (z | z)
    ·exact .inl z
    ·exact .inr (.inr z)
   ·rintro (z | z | z)
    ·exact .inl z
    ·left
     have:k'=k:=z
     rw [this];exact hk
    ·exact .inr z
  ·refine add_new S (by omega) hk fun es1 t1 ep1 h1 b1 S1 z1 p1=>?_
   have O1:SetI w h1 b eo to epo:=O.but b1 (fun z=>hne z.symm)
   refine tail _ _ O1 ?_
   dsimp only
   refine merge_loop hea hne l { s with heap:=h1 } es1 t1 ep1 Q S1 O1 (fun e he=>hl e (List.mem_cons_of_mem _ he)) (by omega) fun es' t' ep' h' q1 q2 q3 q4=>h es' t' ep' h' (b1.trans q1) q2 (fun k'=>?_) (by rw [List.length_cons];omega)
   have hk1:k'∈keysE es1 ↔ k'∈keysE es\/k'=k:=by
    unfold keysE
    rw [(p1.map kOf).mem_iff,List.map_append,List.mem_append]
    constructor
    ·rintro (z | z)
     ·exact .inl z
     ·right;simpa [kOf] using z
    ·rintro (z | z)
     ·exact .inl z
     ·right;simpa [kOf] using z
   rw [q3 k',hk1,List.map_cons,List.mem_cons]
   constructor
   ·rintro ((z | z) | z)
    ·exact .inl z
    ·exact .inr (.inl z)
    ·exact .inr (.inr z)
   ·rintro (z | z | z)
    ·exact .inl (.inl z)
    ·exact .inl (.inr z)
    ·exact .inr z
theorem keys_perm {xs ys:Array (Int×Value)} (h:xs.toList.Perm ys.toList) (k:Int):k∈keysE xs ↔ k∈keysE ys:=(h.map kOf).mem_iff
theorem size_perm {xs ys:Array (Int×Value)} (h:xs.toList.Perm ys.toList):xs.size=ys.size:=by
 have:=h.length_eq
 rwa [Array.length_toList,Array.length_toList] at this
theorem merge_ok {each:Sem Unit} {Q:Unit->Shared->Prop} (S:SetI w s.heap a es t ep) (O:SetI w s.heap b eo to epo) (hne:a≠b) (hn:es.size + eo.size < 126) (hea:∀ (s':Shared) (Q':Unit->Shared->Prop),SetI w s'.heap b eo to epo->Q' () s'->wpAny (model prog w) A each Q' E s')
  (h:∀ es' t' ep' h',Heap.SameBut a s.heap h'->SetI w h' a es' t' ep'->(∀ k,k∈keysE es' ↔ k∈keysE es\/k∈keysE eo)->es'.size<=es.size + eo.size->Q () { s with heap:=h' }) :
  wpAny (model prog w) A (setMerge a b each) Q E s:=by
 obtain ⟨o,ho,hex,hd⟩:=O.obj
 have hab:(a == b)=false:=by rw [beq_eq_false_iff_ne];exact hne
 unfold setMerge
 rw [hab]
 simp only [Bool.false_eq_true,if_false]
 refine wpAny_bind (wpAny_setState_of ho hd O.fits ?_)
 dsimp only
 by_cases he:eo.isEmpty=true
 ·rw [if_pos he]
  have h0:eo=#[]:=Array.isEmpty_iff.mp he
  have e:s={ s with heap:=s.heap }:=by cases s;rfl
  rw [e]
  exact wpAny_pure (h es t ep s.heap (Heap.SameBut.refl a s.heap) S (fun k=>by rw [h0];simp [keysE]) (by omega))
 ·rw [if_neg he]
  refine wpAny_bind (room_for S (by omega) fun es1 t1 ep1 h1 b1 S1 p1 r1=>?_)
  have O1:SetI w h1 b eo to epo:=O.but b1 (fun z=>hne z.symm)
  have hk1:=keys_perm p1
  have hz1:=size_perm p1
  obtain ⟨oa,hoa,hexa,hda⟩:=S1.obj
  refine wpAny_bind (wpAny_setState_of hoa hda S1.fits ?_)
  dsimp only
  have hfill:t1.fill=es1.size:=by
   unfold SetTable.fill
   rw [S1.tb.len,S1.tb.dum];rfl
  have hled:(t1.led && to.led)=!byT w:=by rw [S1.led,O.led,Bool.and_self]
  have hpl:(t1.plain && to.plain)=true:=by rw [S1.tb.pl,O.tb.pl];rfl
  have hzo:eo.size<=sizeLine:=fits_of_scanBound (Nat.lt_of_le_of_lt (show eo.size<=126 by omega) (by decide))
  unfold SetTable.road
  by_cases hf0:es1.size=0
  ·have hf:(t1.fill != 0)=false:=by rw [hfill,hf0];rfl
   have hke:∀ k,k ∉ keysE es:=fun k hk=>by
    have hk':=(hk1 k).mpr hk
    have hl:es1.toList=[]:=List.length_eq_zero_iff.mp (by rw [Array.length_toList];exact hf0)
    unfold keysE at hk'
    rw [hl] at hk'
    cases hk'
   rw [hf]
   simp only [Bool.false_eq_true,if_false]
   by_cases hsame:(t1.mask == to.mask && to.dummies.isEmpty)=true
   ·rw [if_pos hsame]
    dsimp only
    refine wpAny_storeSet_of hoa hda ?_ hzo
    refine h eo _ (ep1 + 1) _ (b1.trans (Heap.SameBut.update h1 a _)) ⟨⟨_,store_at hoa hda,hexa,rfl⟩,⟨O.tb.sz,O.tb.len,O.tb.rise,O.tb.le,O.tb.dum,hpl⟩,O.room,hled,O.ent,O.nd⟩ (fun k=>?_) (by omega)
    constructor
    ·exact fun z=>.inr z
    ·rintro (z | z)
     ·exact (hke k z).elim
     ·exact z
   ·rw [if_neg hsame]
    dsimp only
    have hroom:eo.size * 5 < t1.mask * 3:=by omega
    obtain ⟨t',order,e1,T1,m1,l1,p2⟩:=laid_ok (mask:=t1.mask) (finger:=t1.finger) (moves:=t1.moves) (led:=t1.led && to.led) (hashes:=eo.map (·.1)) S1.tb.sz (by rw [Array.size_map];omega)
    rw [Array.size_map] at T1 p2
    obtain ⟨p3,s3⟩:=order_perm p2
    rw [hpl,e1]
    have hb:((order.filterMap (eo[·]?)).size != eo.size)=false:=by rw [s3];simp
    refine wpAny_bind ?_
    show wpAny _ _ (if ((order.filterMap (eo[·]?)).size != eo.size)=true then unsupported "internal:set-table-lost-an-element" else pure (order.filterMap (eo[·]?),t')) _ _ _
    rw [hb,if_neg (by decide)]
    refine wpAny_pure ?_
    dsimp only
    refine wpAny_storeSet_of hoa hda ?_ (by rw [s3];exact hzo)
    refine h _ t' (ep1 + 1) _ (b1.trans (Heap.SameBut.update h1 a _)) ⟨⟨_,store_at hoa hda,hexa,rfl⟩,by rw [s3];exact T1,by rw [s3,m1];exact hroom,by rw [l1];exact hled,fun e he=>O.ent e (p3.mem_iff.mp he),((p3.map kOf).nodup_iff).mpr O.nd⟩ (fun k=>?_) (by rw [s3];omega)
    rw [keys_perm p3]
    constructor
    ·exact fun z=>.inr z
    ·rintro (z | z)
     ·exact (hke k z).elim
     ·exact z
  ·have hf:(t1.fill != 0)=true:=by rw [hfill];simpa using hf0
   rw [hf]
   simp only [if_true]
   obtain ⟨o2,ho2,hex2,hd2⟩:=O1.obj
   refine wpAny_bind ?_
   unfold setWalkUnseen
   refine wpAny_bind (wpAny_setState_of ho2 hd2 O1.fits ?_)
   dsimp only
   unfold setsByText
   refine wpAny_bind (wpAny_bind (wpAny_askSetting (wpAny_pure ?_)))
   have hc:((model prog w).w.params.followText "set-order" || (to.led && to.plain) || decide (eo.size<=1))=true:=by
    have e2:(model prog w).w.params.followText "set-order" = byT w:=rfl
    rw [e2,O.led,O.tb.pl]
    cases byT w <;> rfl
   dsimp only
   rw [hc,if_pos rfl]
   refine walk_set O1 fun ew pw=>?_
   refine wpAny_bind (forA ?_)
   refine merge_loop hea hne ew.toList _ es1 t1 ep1 _ S1 O1 (fun e he=>pw.mem_iff.mp he) (by rw [Array.length_toList,size_perm pw];omega) fun es' t' ep' h' q1 q2 q3 q4=>wpAny_pure (h es' t' ep' h' (b1.trans q1) q2 (fun k=>?_) (by rw [Array.length_toList,size_perm pw] at q4;omega))
   rw [q3 k,hk1 k]
   have:=keys_perm pw k
   unfold keysE at this ⊢
   rw [this]
end
end Sx
namespace Sx
open PySem PyProof.Rows
structure DcI (h:Heap) (d:Addr) (dent:Array DictEntry) (ep:Nat) (ns:List Int):Prop where
 obj:∃ o,h.get? d=some o/\o.cls=.type "dict"/\o.data=.dict dent ep
 len:dent.size=ns.length
 ent:∀ i (hi:i < ns.length),∃ e tk,dent[i]? = some e/\e.key=.int ns[i] tk/\e.hash=hashInt ns[i]
 nd:ns.Nodup
section
variable {prog:Program} {w:World} {A:Around} {E:Value->Shared->Prop} {s:Shared} {a d:Addr} {dent:Array DictEntry} {epd:Nat} {ns:List Int}
theorem DcI.but {h h':Heap} (D:DcI h d dent epd ns) (hs:Heap.SameBut a h h') (hne:d≠a):DcI h' d dent epd ns:=by
 obtain ⟨o,ho,hc,hd⟩:=D.obj
 exact ⟨⟨o,(hs.2 d hne).trans ho,hc,hd⟩,D.len,D.ent,D.nd⟩
theorem DcI.kept {h h':Heap} (D:DcI h d dent epd ns) (hk:∀ b o,h.get? b=some o->h'.get? b=some o):DcI h' d dent epd ns:=by
 obtain ⟨o,ho,hc,hd⟩:=D.obj
 exact ⟨⟨o,hk _ _ ho,hc,hd⟩,D.len,D.ent,D.nd⟩
def fromBody (id:String) (a d:Addr) (epoch:Nat):Nat->PUnit->Sem (ForInStep PUnit):=fun i _=>do
 let es ← dictEntries d
 match es[i]? with
 | some e=>do
  let _ ← holding [e.key] (setAddHashed a e.key e.hash)
  let x ← dictEpoch d
  if (x != epoch)=true then do
   unsupported (toString id++toString ":changed-during-callback")
   pure (ForInStep.yield PUnit.unit)
  else pure (ForInStep.yield PUnit.unit)
 | x=>do
  unsupported "internal:set-from-dict"
  pure (ForInStep.yield PUnit.unit)
theorem from_loop {id:String} (hne:d≠a):∀ (m j:Nat) (s:Shared) (es:Array (Int×Value)) (t:SetTable) (ep:Nat) (Q:PUnit->Shared->Prop),SetI w s.heap a es t ep->DcI s.heap d dent epd ns->j + m=ns.length->ns.length < 126->es.size=j->(∀ k,k∈keysE es ↔ k∈ns.take j) ->
  (∀ es' t' ep' h',Heap.SameBut a s.heap h'->SetI w h' a es' t' ep'->(∀ k,k∈keysE es' ↔ k∈ns)->es'.size=ns.length->Q () { s with heap:=h' }) ->
  wpAny (model prog w) A (forIn (List.range' j m) PUnit.unit (fromBody id a d epd)) Q E s
 | 0,j,s,es,t,ep,Q,S,D,hj,_,hz,hk,h=>by
  rw [show List.range' j 0=[] from rfl,List.forIn_nil]
  have e:s={ s with heap:=s.heap }:=by cases s;rfl
  rw [e]
  refine wpAny_pure (h es t ep s.heap (Heap.SameBut.refl a s.heap) S (fun k=>?_) (by omega))
  rw [hk k,List.take_of_length_le (by omega)]
 | m + 1,j,s,es,t,ep,Q,S,D,hj,hn,hz,hk,h=>by
  obtain ⟨o,ho,hc,hd⟩:=D.obj
  have hjl:j < ns.length:=by omega
  obtain ⟨e,tk,he,hkey,hh⟩:=D.ent j hjl
  rw [List.range'_succ,List.forIn_cons]
  refine wpAny_bind ?_
  unfold fromBody
  refine wpAny_bind (wpAny_dictEntries ho hd ?_)
  rw [he]
  dsimp only
  rw [hkey,hh]
  have hnew:ns[j] ∉ keysE es:=fun z=>by
   have z:=(hk _).mp z
   obtain ⟨i,hi,ei⟩:=List.getElem_of_mem z
   rw [List.length_take] at hi
   rw [List.getElem_take] at ei
   have:=(List.getElem_inj D.nd).mp ei
   omega
  refine wpAny_bind (wpAny_holding (add_new S (by omega) hnew fun es1 t1 ep1 h1 b1 S1 z1 p1=>?_))
  have D1:=D.but b1 hne
  obtain ⟨o1,ho1,_,hd1⟩:=D1.obj
  refine wpAny_bind (wpAny_dictEpoch ho1 hd1 ?_)
  have:(epd != epd)=false:=by simp
  rw [this]
  simp only [Bool.false_eq_true,if_false]
  refine wpAny_pure ?_
  dsimp only
  refine from_loop hne m (j + 1) { s with heap:=h1 } es1 t1 ep1 Q S1 D1 (by omega) hn (by omega) (fun k=>?_) fun es' t' ep' h' q1 q2 q3 q4=>h es' t' ep' h' (b1.trans q1) q2 q3 q4
  have:k∈keysE es1 ↔ k∈keysE es\/k=ns[j]:=by
   unfold keysE
   rw [(p1.map kOf).mem_iff,List.map_append,List.mem_append]
   constructor
   ·rintro (z | z)
    ·exact .inl z
    ·right;simpa [kOf] using z
   ·rintro (z | z)
    ·exact .inl z
    ·right;simpa [kOf] using z
  rw [this,hk k,List.take_succ,List.getElem?_eq_getElem hjl,List.mem_append]
  simp
theorem update_dict {id:String} {es:Array (Int×Value)} {t:SetTable} {ep:Nat} {Q:Unit->Shared->Prop} (hne:d≠a) (hsm:(d == sysModules)=false) (S:SetI w s.heap a es t ep) (h0:es.size=0) (D:DcI s.heap d dent epd ns) (hn:ns.length < 126)
  (h:∀ es' t' ep' h',Heap.SameBut a s.heap h'->SetI w h' a es' t' ep'->(∀ k,k∈keysE es' ↔ k∈ns)->es'.size=ns.length->Q () { s with heap:=h' }) :
  wpAny (model prog w) A (Builtin.Frozenset.updateFrom id a (.ref d)) Q E s:=by
 obtain ⟨o,ho,hc,hd⟩:=D.obj
 have hT:s.TypeIs (.ref d) "dict":=⟨o,ho,hc⟩
 unfold Builtin.Frozenset.updateFrom Builtin.Frozenset.isAnySet
 refine wpAny_bind ?_
 refine wpAny_bind (wpAny_isInstance hT F.sub_dict_set ?_)
 show wpAny _ _ (isInstance (.ref d) (.type "frozenset")) _ _ _
 refine wpAny_isInstance hT F.sub_dict_frozenset ?_
 simp only [Bool.false_eq_true,if_false]
 refine wpAny_bind (wpAny_typeOf hT ?_)
 have e1:(Value.type "dict" == Value.type "dict")=true:=by decide
 rw [e1,if_pos rfl]
 refine wpAny_bind (wpAny_rule ?_)
 refine wpAny_bind (show wpAny _ _ (pure d:Sem Addr) _ _ _ from wpAny_pure ?_)
 rw [hsm]
 simp only [Bool.false_eq_true,if_false]
 refine wpAny_bind (wpAny_dictEpoch ho hd (wpAny_bind (wpAny_dictEntries ho hd ?_)))
 refine wpAny_bind (room_for S (by rw [D.len,h0];omega) fun es1 t1 ep1 h1 b1 S1 p1 _=>?_)
 have D1:=D.but b1 hne
 obtain ⟨o1,ho1,_,hd1⟩:=D1.obj
 refine wpAny_bind (wpAny_dictEntries ho1 hd1 ?_)
 refine wpAny_bind ?_
 rw [Std.Legacy.Range.forIn_eq_forIn_range']
 have hz1:es1.size=0:=by rw [size_perm p1,h0]
 have hsz:Std.Legacy.Range.size [:dent.size]=ns.length:=by simp [Std.Legacy.Range.size,D.len]
 rw [hsz]
 refine from_loop (id:=id) hne ns.length 0 { s with heap:=h1 } es1 t1 ep1 _ S1 D1 (by omega) hn hz1 (fun k=>?_) fun es' t' ep' h' q1 q2 q3 q4=>wpAny_pure (h es' t' ep' h' (b1.trans q1) q2 q3 q4)
 have hl:es1.toList=[]:=List.length_eq_zero_iff.mp (by rw [Array.length_toList];exact hz1)
 unfold keysE
 rw [hl];simp
theorem new_code (x:Value) {Q₁:Value->Shared->Prop} (h:∀ ob:Obj,SetI w (s.heap.push ob) s.heap.objs.size #[] (.fresh 0 0 (!byT w)) 0->Q₁ (.ref s.heap.objs.size) { s with heap:=s.heap.push ob }) :
  codeAny (model prog w) A (.call (.builtin "set.__new__") ⟨[.type "set",x],[]⟩) (wants Q₁ E) s:=by
 refine codeAny_of_tree (show wpAny _ A.in1 (do checkBuiltinCall "set.__new__" ⟨[.type "set",x],[]⟩;again (.builtin "set.__new__" ⟨[.type "set",x],[]⟩)) _ _ s from wpAny_bind (wpAny_of_eq (F.newCall_set_1 x) (wpAny_pure ⟨plainId_quiet F.plain_set_new _,codeAny_builtin F.entry_set_new ?_⟩)))
 rw [Around.under_plainId F.plain_set_new _]
 unfold Builtin.«set.__new__» Builtin.Frozenset.newClass
 have hsub:=sub_set_self
 generalize hN:newSet=N
 obtain ⟨hp,g,dr,tk,os⟩:=s
 dsimp only
 wp_walk
 subst hN
 exact new_set fun ob S=>wpAny_pure (h ob S)
theorem used_no {Q:Bool->Shared->Prop} {es:Array (Int×Value)} {t:SetTable} {ep:Nat} (S:SetI w s.heap a es t ep) (h0:es.size=0) (h:Q false s):wpAny (model prog w) A (setUsed a) Q E s:=by
 obtain ⟨o,ho,hex,hd⟩:=S.obj
 unfold setUsed
 refine wpAny_bind (wpAny_setState_of ho hd S.fits (wpAny_pure ?_))
 have:(t.fill != 0)=false:=by
  unfold SetTable.fill
  rw [S.tb.len,S.tb.dum,h0];rfl
 dsimp only
 rw [this];exact h
set_option maxHeartbeats 3200000 in
theorem call_set_dict {Q:Value->Shared->Prop} (hsm:(d == sysModules)=false) (D:DcI s.heap d dent epd ns) (hn:ns.length < 126)
  (h:∀ es t ep h',(∀ b o,s.heap.get? b=some o->h'.get? b=some o)->h'.objs.size=s.heap.objs.size + 1->SetI w h' s.heap.objs.size es t ep->(∀ k,k∈keysE es ↔ k∈ns)->es.size=ns.length->Q (.ref s.heap.objs.size) { s with heap:=h' }) :
  wpAny (model prog w) A (call (.type "set") [.ref d]) Q E s:=by
 obtain ⟨c,tl,hmro⟩:=F.called_set.mro
 obtain ⟨hmade,hsub,h1,h2,hct⟩:=And.intro F.called_set.made (And.intro F.called_set.sub (And.intro F.called_set.notType (And.intro F.called_set.canCreate (F.typeCall_set_1 (.ref d)))))
 refine wpAny_call (codeAny_of_tree (show wpAny _ _ (callAny (.type "set") _) _ _ _ from wpAny_pure ⟨Code.quiet_builtin _ (by decide +kernel),codeAny_builtin F.entry_type_call ?_⟩))
 rw [Around.under_plain (weight_type_call_type "set" [.ref d] []) rfl]
 repeat (any_goals (first | assumption | wp_step))
 refine codeAny_mono (new_code (w:=w) (.ref d) (E:=E) (Q₁:=fun obj s₁=>∃ ob:Obj,obj=.ref s.heap.objs.size/\s₁={ s with heap:=s.heap.push ob }/\SetI w (s.heap.push ob) s.heap.objs.size #[] (.fresh 0 0 (!byT w)) 0) fun ob S=>⟨ob,rfl,rfl,S⟩) fun r s₁ hr=>?_
 cases r with
 | error e=>exact hr
 | ok fl =>
  cases fl with
  | ret obj =>
   obtain ⟨ob,rfl,rfl,S⟩:=hr
   obtain ⟨o,ho,hex,hd⟩:=S.obj
   have hT:Shared.TypeIs { s with heap:=s.heap.push ob } (.ref s.heap.objs.size) "set":=⟨o,ho,hex.1⟩
   have hli:=F.called_set.init.lookup
   have hbi:=F.called_set.init.bind (.ref s.heap.objs.size)
   have D1:DcI (s.heap.push ob) d dent epd ns:=D.kept fun b o e=>Heap.get?_push_of_some _ e
   have hdl:d < s.heap.objs.size:=by
    obtain ⟨o,ho,_⟩:=D.obj
    exact Heap.lt_size ho
   repeat (any_goals (first | assumption | wp_step))
   refine codeAny_mono (codeAny_call_builtin (R:=wants (fun r s₂=>r=.none/\Q (.ref s.heap.objs.size) s₂) E) F.called_set.init.plain F.entry_set_init (check_set_init_1 hT ?_)) fun r₂ s₂ hr₂=>?_
   ·unfold Builtin.«set.__init__» noKeywords
    generalize hU:Builtin.Frozenset.updateFrom=U
    generalize hV:setUsed=V
    wp_walk
    subst hU hV
    refine used_no S rfl ?_
    simp only [Bool.false_eq_true,if_false]
    refine wpAny_bind (update_dict (Nat.ne_of_lt hdl) hsm S rfl D1 hn fun es t ep h' b1 S1 k1 z1=>wpAny_pure ⟨rfl,h es t ep h' (fun b o e=>?_) (by rw [b1.1,Heap.size_push]) S1 k1 z1⟩)
    rw [b1.2 b (Nat.ne_of_lt (Heap.lt_size e))]
    exact Heap.get?_push_of_some _ e
   ·cases r₂ with
    | error e=>exact hr₂
    | ok fl₂ =>
     cases fl₂ with
     | ret r =>
      obtain ⟨rfl,hq⟩:=hr₂
      repeat (any_goals (first | assumption | wp_step))
     | _=>exact hr₂.elim
  | _=>exact hr.elim
end
section
variable {prog:Program} {w:World} {A:Around} {E:Value->Shared->Prop} {s:Shared} {a b:Addr} {ea eb:Array (Int×Value)} {ta tb:SetTable} {epa epb:Nat}
theorem SetI.ty {es:Array (Int×Value)} {t:SetTable} {ep:Nat} (S:SetI w s.heap a es t ep):s.TypeIs (.ref a) "set":=by
 obtain ⟨o,ho,hex,_⟩:=S.obj
 exact ⟨o,ho,hex.1⟩
theorem any_set {Q:Bool->Shared->Prop} (hT:s.TypeIs (.ref a) "set") (h:Q true s):wpAny (model prog w) A (Builtin.Frozenset.isAnySet (.ref a)) Q E s:=by
 unfold Builtin.Frozenset.isAnySet
 refine wpAny_bind (wpAny_isInstance hT sub_set_self ?_)
 exact wpAny_pure h
theorem copy_ok {Q:Value->Shared->Prop} (S:SetI w s.heap a ea ta epa) (hn:ea.size < 126) (h:∀ es t ep h',(∀ b o,s.heap.get? b=some o->h'.get? b=some o)->h'.objs.size=s.heap.objs.size + 1->SetI w h' s.heap.objs.size es t ep->(∀ k,k∈keysE es ↔ k∈keysE ea)->es.size<=ea.size->Q (.ref s.heap.objs.size) { s with heap:=h' }) :
  wpAny (model prog w) A (Builtin.Frozenset.copyOf a) Q E s:=by
 obtain ⟨o,ho,hex,hd⟩:=S.obj
 unfold Builtin.Frozenset.copyOf Builtin.Frozenset.baseOf
 refine wpAny_bind (wpAny_bind (wpAny_isInstance S.ty sub_set_self (wpAny_pure ?_)))
 rw [if_pos rfl]
 refine wpAny_bind (new_set fun ob S1=>?_)
 refine wpAny_bind (show wpAny _ _ (pure s.heap.objs.size:Sem Addr) _ _ _ from wpAny_pure ?_)
 have S2:SetI w (s.heap.push ob) a ea ta epa:=S.kept fun b o e=>Heap.get?_push_of_some _ e
 refine wpAny_bind (merge_ok S1 S2 (fun z=>Nat.lt_irrefl _ (z ▸ Heap.lt_size ho)) (by simp;omega) (fun s' Q' _ q=>wpAny_pure q) fun es t ep h' b1 S3 k1 z1=>wpAny_pure (h es t ep h' (fun b o e=>?_) (by rw [b1.1,Heap.size_push]) S3 (fun k=>?_) (by simpa using z1)))
 ·rw [b1.2 b (Nat.ne_of_lt (Heap.lt_size e))]
  exact Heap.get?_push_of_some _ e
 ·rw [k1 k]
  simp [keysE]
theorem update_set {id:String} {Q:Unit->Shared->Prop} (S:SetI w s.heap a ea ta epa) (O:SetI w s.heap b eb tb epb) (hne:a≠b) (hn:ea.size + eb.size < 126)
  (h:∀ es' t' ep' h',Heap.SameBut a s.heap h'->SetI w h' a es' t' ep'->(∀ k,k∈keysE es' ↔ k∈keysE ea\/k∈keysE eb)->es'.size<=ea.size + eb.size->Q () { s with heap:=h' }) :
  wpAny (model prog w) A (Builtin.Frozenset.updateFrom id a (.ref b)) Q E s:=by
 obtain ⟨o,ho,hex,hd⟩:=O.obj
 unfold Builtin.Frozenset.updateFrom
 refine wpAny_bind (any_set O.ty ?_)
 simp only [if_true]
 refine wpAny_bind (show wpAny _ _ (pure b:Sem Addr) _ _ _ from wpAny_pure ?_)
 unfold Builtin.Frozenset.merge
 refine wpAny_bind (wpAny_setEpoch_of ho hd O.fits ?_)
 refine merge_ok S O hne hn (fun s' Q' O' q=>?_) h
 obtain ⟨o',ho',_,hd'⟩:=O'.obj
 unfold Builtin.Frozenset.unchanged
 refine wpAny_bind (wpAny_setEpoch_of ho' hd' O'.fits ?_)
 have:(epb != epb)=false:=by simp
 rw [this]
 exact wpAny_pure q
theorem entry_set_or:entryFor table "set.__or__" = some Builtin.«frozenset.__or__»:=entryFor_alias (id':="frozenset.__or__") (by kernel_rfl) rfl (by decide +kernel) (by kernel_rfl)
theorem or_sets {Q:Value->Shared->Prop} (S:SetI w s.heap a ea ta epa) (O:SetI w s.heap b eb tb epb) (hne:a≠b) (hn:ea.size + eb.size < 126)
  (h:∀ es t ep h',(∀ b o,s.heap.get? b=some o->h'.get? b=some o)->h'.objs.size=s.heap.objs.size + 1->SetI w h' s.heap.objs.size es t ep->(∀ k,k∈keysE es ↔ k∈keysE ea\/k∈keysE eb)->es.size<=ea.size + eb.size->Q (.ref s.heap.objs.size) { s with heap:=h' }) :
  wpAny (model prog w) A (binaryOp .BitOr (.ref a) (.ref b)) Q E s:=by
 refine wpAny_binaryOp_same (op:=.BitOr) (T:="set") S.ty O.ty F.fills_set_or F.slot_set_or (wpAny_call_entry F.slot_set_or S.ty entry_set_or ?_ (F.args_set_or_2 _ _))
 obtain ⟨oa,hoa,hexa,_⟩:=S.obj
 obtain ⟨ob,hob,hexb,_⟩:=O.obj
 unfold Builtin.«frozenset.__or__»
 wp_walk
 rw [hexa.1,sub_set_self]
 refine wpAny_pure (wpAny_pure ?_)
 show wpAny _ _ (Builtin.Frozenset.isAnySet (.ref b)) _ _ _
 refine any_set O.ty ?_
 simp only [Bool.not_true,Bool.false_eq_true,if_false]
 refine wpAny_bind (show wpAny _ _ (pure a:Sem Addr) _ _ _ from wpAny_pure (wpAny_bind ?_))
 show wpAny _ _ (do
  let result ← Builtin.Frozenset.copyOf a
  if (Value.ref b != Value.ref a)=true then do
   let z ← Builtin.Frozenset.addrOf result
   holding [result] (Builtin.Frozenset.updateFrom (toString "frozenset."++toString "__or__") z (.ref b))
   pure result
  else pure result) _ _ _
 refine wpAny_bind (copy_ok S (by omega) fun es t ep h' q1 q2 q3 q4 q5=>?_)
 have hba:(Value.ref b != Value.ref a)=true:=by
  rw [bne_iff_ne]
  exact fun z=>hne (Value.ref.inj z).symm
 rw [if_pos hba]
 have O1:SetI w h' b eb tb epb:=O.kept q1
 refine wpAny_bind (show wpAny _ _ (pure s.heap.objs.size:Sem Addr) _ _ _ from wpAny_pure (wpAny_bind (wpAny_holding ?_)))
 refine update_set (s:={ s with heap:=h' }) q3 O1 (fun z=>Nat.lt_irrefl _ (z ▸ Heap.lt_size hob)) (by omega) fun es2 t2 ep2 h2 b2 S2 k2 z2=>wpAny_pure (wpAny_pure ⟨_,rfl,by simp,h es2 t2 ep2 h2 (fun c o e=>?_) (by rw [b2.1];exact q2) S2 (fun k=>?_) (by omega)⟩)
 ·rw [b2.2 c (Nat.ne_of_lt (Heap.lt_size e))]
  exact q1 c o e
 ·rw [k2 k,q4 k]
end
end Sx
namespace Sx
open PySem PyProof.Rows
theorem slot_sit_next:Slot "set_iterator" "__next__" "set_iterator.__next__":=.of (owner:="set_iterator") (n:="__next__") (by rw [typeLookup_type,builtinLookup_eq_fast];kernel_rfl) (by decide +kernel) (by decide +kernel) (by decide +kernel) (by first | exact .inl (by decide +kernel) | exact .inr (by decide +kernel)) (by rw [isSubtype_type];kernel_rfl)
theorem entry_sit_next:entryFor table "set_iterator.__next__" = some Builtin.«set_iterator.__next__»:=entryFor_of_tree (by kernel_rfl)
theorem owner_sit:Manifest.owners.lookup (String.ofList ['r','o','t','a','r','e','t','i','_','t','e','s'].reverse)=some Manifest.sig_set_iterator:=by kernel_rfl
theorem args_sit_next (x:Value):argsOk "set_iterator.__next__" ⟨[x],[]⟩:=by
 unfold argsOk;rw [signature?_of (id:="set_iterator.__next__") (n:=['_','_','t','x','e','n','_','_']) (o:=['r','o','t','a','r','e','t','i','_','t','e','s']) (by kernel_rfl) owner_sit];kernel_rfl
theorem slot_sit_iter:Slot "set_iterator" "__iter__" "set_iterator.__iter__":=.of (owner:="set_iterator") (n:="__iter__") (by rw [typeLookup_type,builtinLookup_eq_fast];kernel_rfl) (by decide +kernel) (by decide +kernel) (by decide +kernel) (by first | exact .inl (by decide +kernel) | exact .inr (by decide +kernel)) (by rw [isSubtype_type];kernel_rfl)
theorem entry_sit_iter:entryFor table "set_iterator.__iter__" = some Builtin.«dict_keyiterator.__iter__»:=entryFor_alias (id':="dict_keyiterator.__iter__") (by kernel_rfl) rfl (by decide +kernel) (by kernel_rfl)
theorem args_sit_iter (x:Value):argsOk "set_iterator.__iter__" ⟨[x],[]⟩:=by
 unfold argsOk;rw [signature?_of (id:="set_iterator.__iter__") (n:=['_','_','r','e','t','i','_','_']) (o:=['r','o','t','a','r','e','t','i','_','t','e','s']) (by kernel_rfl) owner_sit];kernel_rfl
theorem entry_set_iter:entryFor table "set.__iter__" = some Builtin.«frozenset.__iter__»:=entryFor_alias (id':="frozenset.__iter__") (by kernel_rfl) rfl (by decide +kernel) (by kernel_rfl)
def wl (w:World) (a:Addr) (ep:Nat) (es:Array (Int×Value)):Array (Int×Value):=if byT w=true then pickOrder (w.params.setOrder a ep) es else es
theorem wl_perm (w:World) (a:Addr) (ep:Nat) (es:Array (Int×Value)):(wl w a ep es).toList.Perm es.toList:=by
 unfold wl
 split
 ·exact pick_perm _ _
 ·exact .refl _
def slotAt (w:World) (t:SetTable) (i:Nat):Nat:=if byT w=true then 0 else if i=0 then 0 else t.place.getD (i - 1) 0 + 1
theorem below_at {t:SetTable} {n i:Nat} (T:Tb t n) (hi:i<=n):SetTable.below t.place (if i=0 then 0 else t.place.getD (i - 1) 0 + 1)=i:=by
 generalize hs:(if i=0 then 0 else t.place.getD (i - 1) 0 + 1)=sl
 obtain ⟨h1,h2,h3⟩:=below_ok T.rise sl
 have up:∀ a b (ha:a < t.place.size) (hb:b < t.place.size),a < b->t.place[a] < t.place[b]:=fun a b ha hb hab=>by
  have:=List.pairwise_iff_getElem.mp T.rise a b (by simpa using ha) (by simpa using hb) hab
  simpa only [Array.getElem_toList] using this
 have hsz:=T.len
 rcases Nat.lt_trichotomy (SetTable.below t.place sl) i with q | q | q
 ·have hp:SetTable.below t.place sl < t.place.size:=by omega
  have hp1:i - 1 < t.place.size:=by omega
  have:=h3 _ hp (Nat.le_refl _)
  have e:sl=t.place[i - 1] + 1:=by
   rw [← hs,if_neg (by omega)]
   simp only [Array.getD_eq_getD_getElem?,Array.getElem?_eq_getElem hp1,Option.getD_some]
  rcases Nat.lt_or_eq_of_le (show SetTable.below t.place sl<=i - 1 by omega) with z | z
  ·have:=up _ _ hp hp1 z
   omega
  ·simp only [z] at this
   omega
 ·exact q
 ·have hp:i < t.place.size:=by omega
  have:=h2 i hp q
  by_cases z:i=0
  ·rw [if_pos z] at hs
   omega
  ·have hp1:i - 1 < t.place.size:=by omega
   have e:sl=t.place[i - 1] + 1:=by
    rw [← hs,if_neg z]
    simp only [Array.getD_eq_getD_getElem?,Array.getElem?_eq_getElem hp1,Option.getD_some]
   have:=up (i - 1) i hp1 hp (by omega)
   omega
section
variable {prog:Program} {w:World} {A:Around} {E:Value->Shared->Prop} {s:Shared} {a it:Addr} {es:Array (Int×Value)} {t:SetTable} {ep:Nat}
theorem next_slot {i:Nat} {Q:Option (Value×Nat)->Shared->Prop} (S:SetI w s.heap a es t ep) (hi:i<=es.size) (h:Q (((wl w a ep es)[i]?).map fun e=>(e.2,slotAt w t (i + 1))) s):wpAny (model prog w) A (setNext a (slotAt w t i) i ep) Q E s:=by
 obtain ⟨o,ho,hex,hd⟩:=S.obj
 unfold setNext
 refine wpAny_bind (wpAny_setState_of ho hd S.fits ?_)
 dsimp only
 unfold setsByText
 refine wpAny_bind (wpAny_bind (wpAny_askSetting (wpAny_pure ?_)))
 have eb:(model prog w).w.params.followText "set-order" = byT w:=rfl
 dsimp only
 rw [eb]
 cases hb:byT w with
 | true =>
  rw [if_pos rfl]
  have:(ep != ep)=false:=by simp
  rw [this]
  simp only [Bool.false_eq_true,if_false]
  unfold setWalk
  refine wpAny_bind (wpAny_bind (wpAny_setState_of ho hd S.fits ?_))
  dsimp only
  unfold setsByText
  refine wpAny_bind (wpAny_bind (wpAny_askSetting (wpAny_pure ?_)))
  dsimp only
  rw [eb,hb,if_pos rfl]
  refine wpAny_bind (wpAny_askSetting (wpAny_pure (wpAny_pure ?_)))
  have e1:slotAt w t i=slotAt w t (i + 1):=by unfold slotAt;rw [hb];rfl
  have e2:wl w a ep es=pickOrder (w.params.setOrder a ep) es:=by unfold wl;rw [hb];rfl
  rw [e2] at h
  rw [e1]
  exact h
 | false =>
  rw [if_neg (by decide)]
  have hl:t.led=true:=by rw [S.led,hb];rfl
  show wpAny _ _ (if (!t.plain && decide (es.size > 1))=true then _ else _) _ _ _
  rw [S.tb.pl]
  simp only [Bool.not_true,Bool.false_and,Bool.false_eq_true,if_false]
  refine wpAny_bind ?_
  show wpAny _ _ (if (!t.led && !es.isEmpty)=true then unsupported "set:maker-not-led" else pure ()) _ _ _
  rw [hl]
  simp only [Bool.not_true,Bool.false_and,Bool.false_eq_true,if_false]
  refine wpAny_pure (wpAny_pure ?_)
  have e1:slotAt w t i=if i=0 then 0 else t.place.getD (i - 1) 0 + 1:=by unfold slotAt;rw [hb];rfl
  have e2:wl w a ep es=es:=by unfold wl;rw [hb];rfl
  rw [e1,below_at S.tb hi]
  rw [e2] at h
  by_cases q:i < es.size
  ·have q2:i < t.place.size:=by rw [S.tb.len];exact q
   have e3:slotAt w t (i + 1)=t.place[i] + 1:=by
    unfold slotAt
    rw [hb]
    simp only [Bool.false_eq_true,if_false,Nat.add_sub_cancel,Nat.add_one_ne_zero]
    simp only [Array.getD_eq_getD_getElem?,Array.getElem?_eq_getElem q2,Option.getD_some]
   rw [Array.getElem?_eq_getElem q] at h ⊢
   rw [Array.getElem?_eq_getElem q2]
   rw [e3] at h
   exact h
  ·rw [Array.getElem?_eq_none (by omega)] at h ⊢
   exact h
def IsSit (h:Heap) (it u:Addr) (sl i n ep:Nat):Prop:=∃ o,h.get? it=some o/\o.cls=.type "set_iterator"/\o.data=.fields #[rawInt sl,rawInt i,.ref u,rawInt n,rawInt ep]
theorem iter_set {Q:Value->Shared->Prop} (S:SetI w s.heap a es t ep) (h:Q (.ref s.heap.objs.size) { s with heap:=s.heap.push { cls:=.type "set_iterator",data:=.fields #[rawInt 0,rawInt 0,.ref a,rawInt es.size,rawInt ep] } }):wpAny (model prog w) A (pyIter (.ref a)) Q E s:=by
 obtain ⟨o,ho,hex,hd⟩:=S.obj
 refine wpAny_pyIter_slot S.ty F.slot_set_iter (wpAny_call_entry F.slot_set_iter S.ty entry_set_iter ?_ (F.args_set_iter_1 _))
 unfold Builtin.«frozenset.__iter__»
 refine wpAny_bind (show wpAny _ _ (pure a:Sem Addr) _ _ _ from wpAny_pure ?_)
 unfold Builtin.Frozenset.sizeOf
 refine wpAny_bind (wpAny_bind (wpAny_setEntries_of ho hd S.fits (wpAny_pure ?_)))
 unfold setDrawn
 refine wpAny_bind (wpAny_bind (wpAny_setState_of ho hd S.fits ?_))
 dsimp only
 unfold setsByText
 refine wpAny_bind (wpAny_bind (wpAny_askSetting (wpAny_pure (wpAny_pure ?_))))
 have hdr:(!(model prog w).w.params.followText "set-order" && (!t.plain && decide (es.size > 1)))=false:=by
  rw [S.tb.pl];simp
 show wpAny _ _ (if (!(model prog w).w.params.followText "set-order" && (!t.plain && decide (es.size > 1)))=true then _ else _) _ _ _
 rw [hdr,if_neg (by decide)]
 refine wpAny_bind (wpAny_pure (wpAny_bind (wpAny_setEpoch_of ho hd S.fits ?_)))
 refine wpAny_bind (wpAny_newObj_type (wpAny_pure ⟨_,rfl,"set_iterator",_,⟨_,Heap.get?_push_size _ rfl,rfl⟩,slot_sit_next.lookup,?_⟩))
 exact h
theorem IsSit.ty {u:Addr} {sl i n ep:Nat} (x:IsSit s.heap it u sl i n ep):s.TypeIs (.ref it) "set_iterator":=by
 obtain ⟨o,h1,h2,_⟩:=x
 exact ⟨o,h1,h2⟩
theorem sit_item {i:Nat} {e:Int×Value} {Q:Option Value->Shared->Prop} (hit:IsSit s.heap it a (slotAt w t i) i es.size ep) (S:SetI w s.heap a es t ep) (hne:it≠a) (he:(wl w a ep es)[i]? = some e)
  (hQ:∀ h',Heap.SameBut it s.heap h'->IsSit h' it a (slotAt w t (i + 1)) (i + 1) es.size ep->Q (some e.2) { s with heap:=h' }):wpAny (model prog w) A (pyNext (.ref it)) Q E s:=by
 obtain ⟨o,ho,hc,hd⟩:=id hit
 obtain ⟨os,hos,hexs,hds⟩:=S.obj
 have hi:i<=es.size:=by
  have:=(Array.getElem?_eq_some_iff.mp he).1
  rw [size_perm (wl_perm w a ep es)] at this
  omega
 unfold pyNext
 refine wpAny_bind (wpAny_attempt (wpAny_callSpecial?_slot (name:=Str.ofString "__next__") hit.ty slot_sit_next (wpAny_call_entry slot_sit_next hit.ty entry_sit_next ?_ (args_sit_next _))))
 unfold Builtin.«set_iterator.__next__»
 refine wpAny_bind (show wpAny _ _ (pure (Value.ref it,([]:List Value))) _ _ _ from wpAny_pure ?_)
 refine wpAny_bind (wpAny_fieldsOf ho hd ?_)
 show wpAny _ _ (do
  if (((← setEntries a).size:Int) != (es.size:Int))=true then _ else _) _ _ _
 refine wpAny_bind (wpAny_setEntries_of hos hds S.fits ?_)
 have e0:((es.size:Int) != (es.size:Int))=false:=by simp
 rw [e0,if_neg (by decide)]
 show wpAny _ _ (setNext a ((slotAt w t i:Nat):Int).toNat ((i:Nat):Int).toNat ((ep:Nat):Int).toNat >>= _) _ _ _
 rw [Int.toNat_natCast,Int.toNat_natCast,Int.toNat_natCast]
 refine wpAny_bind (next_slot S hi ?_)
 rw [he]
 show wpAny _ _ (setField (.ref it) 0 (rawInt ((slotAt w t (i + 1):Nat):Int)) >>= fun _=>setField (.ref it) 1 (rawInt ((i:Int) + 1)) >>= fun _=>ret e.2) _ _ _
 refine wpAny_bind (wpAny_setField ho hd (by simp) ?_)
 have ho1:=Heap.get?_update_self (Obj.mapFields (·.setIfInBounds 0 (rawInt ((slotAt w t (i + 1):Nat):Int)))) ho (Obj.isFreed_of_fields (Obj.data_mapFields hd _))
 have hd1:=Obj.data_mapFields hd (·.setIfInBounds 0 (rawInt ((slotAt w t (i + 1):Nat):Int)))
 refine wpAny_bind (wpAny_setField ho1 hd1 (by simp) ?_)
 refine wpAny_pure ⟨_,rfl,wpAny_pure (hQ _ ((Heap.SameBut.update ..).trans (Heap.SameBut.update ..)) ⟨_,Heap.get?_update_self _ ho1 (Obj.isFreed_of_fields (Obj.data_mapFields hd1 _)),(Obj.cls_mapFields ..).trans ((Obj.cls_mapFields ..).trans hc),?_⟩)⟩
 rw [Obj.data_mapFields hd1]
 simp [rawInt]
theorem sit_end {Q:Option Value->Shared->Prop} (hh:A.handled=none) (hit:IsSit s.heap it a (slotAt w t es.size) es.size es.size ep) (S:SetI w s.heap a es t ep) (hQ:∀ h',Heap.ExtBut it s.heap h'->Q none { s with heap:=h' }):wpAny (model prog w) A (pyNext (.ref it)) Q E s:=by
 obtain ⟨o,ho,hc,hd⟩:=id hit
 obtain ⟨os,hos,hexs,hds⟩:=S.obj
 unfold pyNext
 refine wpAny_bind (wpAny_attempt (wpAny_callSpecial?_slot (name:=Str.ofString "__next__") hit.ty slot_sit_next (wpAny_call_entry slot_sit_next hit.ty entry_sit_next ?_ (args_sit_next _))))
 unfold Builtin.«set_iterator.__next__»
 refine wpAny_bind (show wpAny _ _ (pure (Value.ref it,([]:List Value))) _ _ _ from wpAny_pure ?_)
 refine wpAny_bind (wpAny_fieldsOf ho hd ?_)
 show wpAny _ _ (do
  if (((← setEntries a).size:Int) != (es.size:Int))=true then _ else _) _ _ _
 refine wpAny_bind (wpAny_setEntries_of hos hds S.fits ?_)
 have e0:((es.size:Int) != (es.size:Int))=false:=by simp
 rw [e0,if_neg (by decide)]
 show wpAny _ _ (setNext a ((slotAt w t es.size:Nat):Int).toNat ((es.size:Nat):Int).toNat ((ep:Nat):Int).toNat >>= _) _ _ _
 rw [Int.toNat_natCast,Int.toNat_natCast,Int.toNat_natCast]
 refine wpAny_bind (next_slot S (Nat.le_refl _) ?_)
 rw [Array.getElem?_eq_none (by rw [size_perm (wl_perm w a ep es)];exact Nat.le_refl _)]
 show wpAny _ _ (setField (.ref it) 2 .none >>= fun _=>newExc (.type "StopIteration") [] >>= raiseNew) _ _ _
 refine wpAny_bind (wpAny_setField ho hd (by simp) (wpAny_bind ?_))
 simp only [newExc,newTuple]
 refine wpAny_bind (wpAny_newObj_type (wpAny_bind (m:=firstArgMember _ _) (wpAny_of_eq (a:=Value.none) (by first | rfl | (simp only [firstArgMember];rfl)) (wpAny_newObj_type ?_ (by size_fits)))) (by size_fits))
 simp only [raiseNew]
 refine wpAny_bind (wpAny_handled ?_)
 rw [show A.in1.handled=none from hh]
 refine wpAny_bind (wpAny_pure (wpAny_throw ?_))
 refine wpAny_bind (wpAny_isInstance (b:=true) (T:="StopIteration") ⟨_,Heap.get?_push_size _ rfl,rfl⟩ isSubtype_stop (wpAny_pure ?_))
 exact hQ _ (((Heap.SameBut.update ..).extBut.push _).push _)
theorem SetI.at1 {h h':Heap} (S:SetI w h a es t ep) (hk:∀ o,h.get? a=some o->h'.get? a=some o):SetI w h' a es t ep:=by
 obtain ⟨o,ho,hex,hd⟩:=S.obj
 exact ⟨⟨o,hk _ ho,hex,hd⟩,S.tb,S.room,S.led,S.ent,S.nd⟩
theorem walks_set (hh:A.handled=none) (hne:it≠a):Walks prog w A it [it,a] [it] es.size (fun i v=>∃ e,(wl w a ep es)[i]? = some e/\v=e.2) (fun i h=>IsSit h it a (slotAt w t i) i es.size ep/\SetI w h a es t ep) where
 sub:=fun b hb=>by simp at hb;simp [hb]
 frame:=fun _ h h' st hk=>by
  obtain ⟨⟨o,h1,h2,h3⟩,S⟩:=st
  exact ⟨⟨o,hk it (by simp) o h1,h2,h3⟩,S.at1 fun o e=>hk a (by simp) o e⟩
 item:=fun i s Q E hi st hQ=>by
  have hlt:i < (wl w a ep es).size:=by rw [size_perm (wl_perm w a ep es)];exact hi
  refine sit_item st.1 st.2 hne (Array.getElem?_eq_getElem hlt) fun h' b1 st'=>?_
  exact hQ _ h' s.toks ⟨_,Array.getElem?_eq_getElem hlt,rfl⟩ ⟨st',st.2.but b1 (fun z=>hne z.symm)⟩ fun b o hb e=>b1.extBut b o (fun z=>hb (by simp [z])) e
 done:=fun s Q E st hQ=>sit_end hh st.1 st.2 fun h' he=>hQ h' s.toks fun b o hb e=>he b o (fun z=>hb (by simp [z])) e
 self:=fun i s Q E st hQ=>by
  refine wpAny_pyIter_slot st.1.ty slot_sit_iter (wpAny_call_entry slot_sit_iter st.1.ty entry_sit_iter (show wpAny _ _ (ret (.ref it)) _ _ s from ?_) (args_sit_iter _))
  exact wpAny_pure ⟨_,rfl,"set_iterator",_,st.1.ty,slot_sit_next.lookup,hQ⟩
theorem hint_set {Q:Bool->Shared->Prop} (S:SetI w s.heap a es t ep) (h:Q false s):wpAny (model prog w) A (Builtin.List.listLengthHint (.ref a)) Q E s:=by
 have hT:s.TypeIs (.ref a) "set":=S.ty
 unfold Builtin.List.listLengthHint
 refine wpAny_bind (wpAny_specialOf hT F.slot_set_len.lookup ?_)
 generalize hn:("set.__len__":String)=nm
 wp_delta
 rw [show splitId nm=some ("set","__len__") from hn ▸ (by decide +kernel)]
 subst hn
 refine wpAny_bind (wpAny_isInstance (b:=true) (T:="set") hT sub_set_self (wpAny_ite_split (fun z=>absurd z (by decide)) fun _=>wpAny_ite_split (fun _=>wpAny_bind (wpAny_typeOf hT (wpAny_pure h))) fun z=>absurd (by decide +kernel) z))
theorem src_set:PySem.W.KdlSrc prog w "set" a a es.size (fun i v=>∃ e,(wl w a ep es)[i]? = some e/\v=e.2) (fun h=>SetI w h a es t ep) where
 type:=fun _ S=>S.ty
 there:=fun h S=>by
  obtain ⟨o,ho,_⟩:=S.obj
  exact ⟨Heap.lt_size ho,Heap.lt_size ho⟩
 keep:=fun h h' S hk=>S.at1 fun o e=>hk a (.inl rfl) o e
 notList:=by decide
 notTuple:=by decide
 hint:=fun _ _ _ _ S h=>hint_set S h
 iter:=fun A s hh S=>by
  obtain ⟨o,ho,_⟩:=S.obj
  have hne:s.heap.objs.size≠a:=Nat.ne_of_gt (Heap.lt_size ho)
  refine ⟨{ cls:=.type "set_iterator",data:=.fields #[rawInt 0,rawInt 0,.ref a,rawInt es.size,rawInt ep] },_,fun E Q q=>iter_set S q,walks_set (t:=t) hh hne,⟨⟨_,Heap.get?_push_size _ rfl,rfl,?_⟩,S.kept fun b o e=>Heap.get?_push_of_some _ e⟩⟩
  have:slotAt w t 0=0:=by unfold slotAt;split <;> rfl
  rw [this];rfl
end
end Sx
namespace DL
open PySem PySem.Spec PyProof.Rows L2
def dd:List Int->List Int
 | []=>[]
 | k::r=>if k∈dd r then dd r else k::dd r
theorem dd_mem:∀ (l:List Int) (k:Int),k∈dd l ↔ k∈l
 | [],k=>Iff.rfl
 | x::r,k=>by
  unfold dd
  split
  ·rename_i h
   rw [dd_mem r k,List.mem_cons]
   constructor
   ·exact .inr
   ·rintro (rfl | z)
    ·exact (dd_mem r k).mp h
    ·exact z
  ·rw [List.mem_cons,List.mem_cons,dd_mem r k]
theorem dd_nodup:∀ l:List Int,(dd l).Nodup
 | []=>.nil
 | x::r=>by
  unfold dd
  split
  ·exact dd_nodup r
  ·rename_i h
   exact List.nodup_cons.mpr ⟨h,dd_nodup r⟩
theorem strict_of {l:List Int} (h1:l.Pairwise (·<=·)) (h2:l.Nodup):l.Pairwise (· < ·):=(h1.and h2).imp fun ⟨a,b⟩=>by omega
theorem strict_eq:∀ {a b:List Int},a.Pairwise (· < ·)->b.Pairwise (· < ·)->(∀ k,k∈a ↔ k∈b)->a=b
 | [],[],_,_,_=>rfl
 | [],y::b,_,_,h=>by have:=(h y).mpr List.mem_cons_self;cases this
 | x::a,[],_,_,h=>by have:=(h x).mp List.mem_cons_self;cases this
 | x::a,y::b,ha,hb,h=>by
  rw [List.pairwise_cons] at ha hb
  have exy:x=y:=by
   rcases List.mem_cons.mp ((h x).mp List.mem_cons_self) with z | z
   ·exact z
   ·rcases List.mem_cons.mp ((h y).mpr List.mem_cons_self) with z2 | z2
    ·exact z2.symm
    ·have h1:=hb.1 x z
     have h2:=ha.1 y z2
     omega
  subst exy
  rw [strict_eq ha.2 hb.2 fun k=>?_]
  constructor
  ·intro z
   rcases List.mem_cons.mp ((h k).mp (List.mem_cons_of_mem _ z)) with rfl | w
   ·exact absurd (ha.1 k z) (by omega)
   ·exact w
  ·intro z
   rcases List.mem_cons.mp ((h k).mpr (List.mem_cons_of_mem _ z)) with rfl | w
   ·exact absurd (hb.1 k z) (by omega)
   ·exact w
def uni (ks ls:List Int):List Int:=isort (dd (ks++ls))
theorem uni_strict (ks ls:List Int):(uni ks ls).Pairwise (· < ·):=strict_of (isort_sorted _) ((isort_perm _).nodup_iff.mpr (dd_nodup _))
theorem uni_mem (ks ls:List Int) (k:Int):k∈uni ks ls ↔ k∈ks\/k∈ls:=by
 unfold uni
 rw [(isort_perm _).mem_iff,dd_mem,List.mem_append]
def gUni (ns:List Int):D->Ou D
 | .dic ls _=>match keysI ls with
  | some ms=>if ns.length + ms.length < 126 then .ok (.lst ((uni ns ms).map D.int)) else .bad
  | none=>.bad
 | _=>.bad
def fSortU (fa fb:Fn):Fn:=fun δ=>(fa δ).bind fun x=>match x with
 | .dic ks _=>(match keysI ks with
  | some ns=>if ns.length < 126 then (fb δ).bind fun y=>gUni ns y else .bad
  | none=>.bad)
 | _=>.bad
def setP (w:World) (a:Addr) (ks:List Int):Heap->Prop:=fun h=>∃ es t ep,Sx.SetI w h a es t ep/\(∀ k,k∈Sx.keysE es ↔ k∈ks)/\es.size<=ks.length
section
variable {X:Cx} {E:XK} {a b:Expr} {fa fb:Fn} {p pos:Pos}
theorem setP_ok {h:Heap} {l:Addr} {ks:List Int} {P:Program} {H:Hp} (x:setP X.w l ks h):ObjOk P X.w H h l (.ext (setP X.w l ks)):=by
 refine ⟨x,?_,fun h1 h2 y hk=>?_⟩
 ·obtain ⟨es,t,ep,S,_⟩:=x
  obtain ⟨o,ho,_⟩:=S.obj
  exact ⟨o,ho⟩
 ·obtain ⟨es,t,ep,S,q1,q2⟩:=y
  exact ⟨es,t,ep,S.at1 hk,q1,q2⟩
theorem call_setD:CallR X (.type "set") (fun xs H Q=>∃ (q:Addr) (kvs:List (Key×V)) (ns:List Int),xs=[.ref q]/\Rd H q (.dK kvs)/\kvs.map (·.1)=ns.map Sum.inl/\ns.length < 126/\∀ l,H l=none->Q (.ref l) (upd H l (.ext (setP X.w l ns)))):=by
 intro pins s σ H xs us Q I r h
 obtain ⟨q,kvs,ns,rfl,hp,hks,h64,q1⟩:=h
 obtain ⟨u,rfl,rx⟩:=vals1 r
 obtain rfl:u=Value.ref q:=rx
 obtain ⟨hz,lo,vs,rel,dd⟩:=dk_rd I.hok hp
 have hlen:vs.length=ns.length:=by
  have h1:=rel.length
  have h2:=congrArg List.length hks
  simp only [List.length_map] at h2
  omega
 have hkey:vs.map (·.1)=ns.map Sum.inl:=by
  apply List.ext_getElem?
  intro i
  rw [← hks]
  cases e:vs[i]? with
  | none =>
   rw [List.getElem?_map,e]
   have:kvs.length<=i:=by
    have:=List.getElem?_eq_none_iff.mp e
    have:=rel.length
    omega
   rw [List.getElem?_eq_none (by rw [List.length_map];exact this)];rfl
  | some kx =>
   rw [List.getElem?_map,e]
   exact (kv_key rel (k:=kx.1) (x:=kx.2) e).symm
 obtain ⟨ep,o,es,g1,g2,g3,g4,g5,g6⟩:=dd.dictAt
 have D:Sx.DcI s.heap q es ep ns:=by
  refine ⟨⟨o,g1,g2.1,g3⟩,?_,fun i hi=>?_,?_⟩
  ·have:=g5.length
   rw [Array.length_toList] at this
   omega
  ·have hie:i < es.size:=by
    have:=g5.length
    rw [Array.length_toList] at this
    omega
   have hiv:i < vs.length:=by omega
   have hk1:(mixKind X.prog X.w).is vs[i].1 es[i].key=true:=(g5.get? (i:=i) (e:=es[i]) (k:=vs[i].1) (v:=vs[i].2) (by rw [Array.getElem?_toList,Array.getElem?_eq_getElem hie]) (List.getElem?_eq_getElem hiv)).1
   have hvi:vs[i].1=Sum.inl ns[i]:=by
    have:=congrArg (fun l=>l[i]?) hkey
    simpa [hiv,hi] using this
   rw [hvi] at hk1
   obtain ⟨tk,etk⟩:=keyIs_int (show keyIs (.inl ns[i]) es[i].key=true from hk1)
   obtain ⟨k',hk2,hh⟩:=g4 es[i] (by simp)
   have:k'=Sum.inl ns[i]:=(mixKind X.prog X.w).inj _ _ _ hk2 hk1
   subst this
   exact ⟨es[i],tk,Array.getElem?_eq_getElem hie,etk,hh⟩
  ·have:=g6
   rw [hkey] at this
   exact (List.pairwise_map.mp this).imp fun h e=>h (by rw [e])
 refine Sx.call_set_dict lo D h64 fun es' t' ep' h' kp sz S k1 z1=>?_
 have I1:Inv X pins σ (upd H s.heap.objs.size (.ext (setP X.w s.heap.objs.size ns))) { s with heap:=h',toks:=s.toks }:=I.laid kp (Nat.le_refl _) (setP_ok ⟨es',t',ep',S,k1,by omega⟩)
 exact ⟨.ref s.heap.objs.size,_,I1,rfl,q1 _ (I.hok.fresh (Nat.le_refl _))⟩
theorem or_setR:OpR X (binaryOp .BitOr) (fun x y H Q=>∃ (q1 q2:Addr) (ks ls:List Int),x=.ref q1/\y=.ref q2/\q1≠q2/\H q1=some (.ext (setP X.w q1 ks))/\H q2=some (.ext (setP X.w q2 ls))/\ks.length + ls.length < 126/\∀ l,H l=none->Q (.ref l) (upd H l (.ext (setP X.w l (ks++ls))))):=by
 intro pins s σ H x y v u Q I rx ry h
 obtain ⟨q1,q2,ks,ls,rfl,rfl,hne,h1,h2,hn,q⟩:=h
 obtain rfl:v=Value.ref q1:=rx
 obtain rfl:u=Value.ref q2:=ry
 obtain ⟨es,t,ep,S,k1,z1⟩:=(I.hok q1 _ h1).1
 obtain ⟨eo,to,epo,O,k2,z2⟩:=(I.hok q2 _ h2).1
 refine Sx.or_sets S O hne (by omega) fun es' t' ep' h' kp sz S' k3 z3=>?_
 have I1:Inv X pins σ (upd H s.heap.objs.size (.ext (setP X.w s.heap.objs.size (ks++ls)))) { s with heap:=h',toks:=s.toks }:=I.laid kp (Nat.le_refl _) (setP_ok ⟨es',t',ep',S',fun k=>by rw [k3,k1,k2,List.mem_append],by rw [List.length_append];omega⟩)
 exact ⟨.ref s.heap.objs.size,_,I1,rfl,q _ (I.hok.fresh (Nat.le_refl _))⟩
theorem call_sortedU (hc:X.calm=true):CallR X (.builtin "sorted") (fun xs H Q=>∃ (q:Addr) (ks ns:List Int),xs=[.ref q]/\H q=some (.ext (setP X.w q ks))/\ks.length < 128/\(ns.Pairwise (· < ·)/\∀ k,k∈ns ↔ k∈ks)/\∀ l,H l=none->Q (.ref l) (upd H l (.lst (ns.map V.int)))):=by
 intro pins s σ H xs us Q I r h
 obtain ⟨q,ks,ns,rfl,hp,h128,⟨hst,hmem⟩,qq⟩:=h
 obtain ⟨u,rfl,rx⟩:=vals1 r
 obtain rfl:u=Value.ref q:=rx
 obtain ⟨es,t,ep,S,k1,z1⟩:=(I.hok q _ hp).1
 refine Calls.call_function_entry kind_sorted plain_sorted entry_sorted (args_sorted1 _) ?_
 unfold Builtin.«sorted»
 refine wpAny_bind (m:=checkCount "sorted" 1 1 _) (wpAny_pure ?_)
 have hzl:(128:Nat)<=sizeLine:=by decide
 refine wpAny_bind (PySem.W.kdu_collect (Sx.src_set (prog:=X.prog) (w:=X.w) (a:=q) (es:=es) (t:=t) (ep:=ep)) (by exact I.ok.hd hc) S (by omega) fun h' tk acc hk hacc=>?_)
 have hpl:=Sx.wl_perm X.w q ep es
 have hal:acc.toList.length=es.size:=by rw [Array.length_toList];exact hacc.1
 have hI:IntsAre acc.toList ((Sx.wl X.w q ep es).toList.map Sx.kOf):=by
  refine ints_of (by rw [hal,List.length_map,hpl.length_eq,Array.length_toList]) fun j v hj=>?_
  obtain ⟨e,he,rfl⟩:=hacc.2 j v (by rw [← Array.getElem?_toList];exact hj)
  have hem:e∈es.toList:=hpl.mem_iff.mp (Array.mem_toList_iff.mpr (Array.mem_of_getElem? he))
  obtain ⟨k,tk,rfl⟩:=S.ent e hem
  refine ⟨k,?_,tk,rfl⟩
  rw [List.getElem?_map,Array.getElem?_toList,he];rfl
 refine wpAny_bind (wpAny_newList ?_ (by rw [hal];omega))
 have hoL:(h'.push { cls:=.type "list",data:=.seq acc.toList.toArray }).get? h'.objs.size=some (seqObj "list" acc.toList.toArray 0):=Heap.get?_push_size _ rfl
 refine wpAny_bind (wpAny_holding (wpAny_call_entry slot_list_sort ⟨_,hoL,rfl⟩ entry_list_sort (Tim.list_sort_tree hoL hI (by omega) fun out ns' a1 a2 a3=>⟨_,rfl,?_⟩) (args_list_sort _)))
 refine wpAny_pure ⟨_,rfl,?_⟩
 have hnd:ns'.Nodup:=by
  rw [a2.nodup_iff,(hpl.map Sx.kOf).nodup_iff]
  exact S.nd
 have e:ns'=ns:=strict_eq (strict_of a3 hnd) hst fun k=>by
  rw [a2.mem_iff,(hpl.map Sx.kOf).mem_iff,hmem k]
  exact k1 k
 subst e
 obtain ⟨c,hat2⟩:=sortedHeap_at (out:=out) hoL
 have I1:Inv X pins σ H { s with heap:=h',toks:=tk }:=I.kept hk
 have kp:∀ b o',h'.get? b=some o'->(sortedHeap (h'.push { cls:=.type "list",data:=.seq acc.toList.toArray }) h'.objs.size acc.toList out).get? b=some o':=fun b o' hb'=>by
  have hlt:=Heap.lt_size hb'
  rw [sortedHeap_old (Nat.ne_of_lt hlt) (by rw [size_push'];exact Nat.lt_succ_of_lt hlt)]
  exact Heap.get?_push_of_some _ hb'
 have hlen:ns'.length<=sizeLine:=by
  rw [a2.length_eq,List.length_map,Array.length_toList,Sx.size_perm hpl]
  omega
 exact ⟨.ref h'.objs.size,_,I1.laid (t':=tk) kp (Nat.le_refl _) (show ObjOk X.prog X.w _ _ _ (.lst _) from ⟨by rw [List.length_map];exact hlen,out.toList,c,ints_vals a1,hat2⟩),rfl,qq _ (I1.hok.fresh (Nat.le_refl _))⟩
theorem xsortU {p1 p2 p3 c1 c2 c3 bp:Pos} (hm:X.mg "sorted" = none) (hms:X.mg "set" = none) (ha:PE X a (tX X.K E .W fa)) (hb:PE X b (tX X.K E .W fb)) (hc:X.calm=true:=by rfl) (hg:Gl X "sorted":=by rfl) (hgs:Gl X "set":=by rfl)
  (ea:starEach [a] X.env=(false,eval a X.env)::starEach [] X.env:=by rfl) (eb:starEach [b] X.env=(false,eval b X.env)::starEach [] X.env:=by rfl) (e0:starEach ([]:List Expr) X.env=[]:=by rfl)
  (eo:starEach [.BinOp (.Call (.Name "set" p1) [a] [] c1) .BitOr (.Call (.Name "set" p2) [b] [] c2) bp] X.env=(false,eval (.BinOp (.Call (.Name "set" p1) [a] [] c1) .BitOr (.Call (.Name "set" p2) [b] [] c2) bp) X.env)::starEach [] X.env:=by rfl) :
  PE X (.Call (.Name "sorted" p3) [.BinOp (.Call (.Name "set" p1) [a] [] c1) .BitOr (.Call (.Name "set" p2) [b] [] c2) bp] [] c3) (tX X.K E .F (fSortU fa fb)):=by
 have hpl:∀ c:Pos,(backTo c (starEach ([]:List Expr) X.env)).any (·.1)=false:=fun c=>by rw [e0];rfl
 have h1:=pe_callTy (call_setD (X:=X)) hgs hms (by decide +kernel) (pa_cons ha pa_nil ea) (by decide) (by decide) ea (hpl c1) (p:=p1)
 have h2:=pe_callTy (call_setD (X:=X)) hgs hms (by decide +kernel) (pa_cons hb pa_nil eb) (by decide) (by decide) eb (hpl c2) (p:=p2)
 refine (pe_callB (call_sortedU hc) hg hm (by decide +kernel) (pa_cons (pe_op or_setR h1 h2) pa_nil eo) (by decide) (by decide) eo (hpl c3)).imp fun σ H Q q=>?_
 obtain ⟨c,δ,hK,ab,q⟩:=q
 refine ⟨c,δ,hK,ab,(Res.bind q).imp fun dx _ k x H1 s1 r1=>?_⟩
 have r1':Rep c.K c.B H1 dx x:=r1
 obtain ⟨ks,ds,rfl⟩:∃ ks ds,dx=.dic ks ds:=by
  cases dx <;> first | exact ⟨_,_,rfl⟩ | exact k.elim
 simp only [Rep] at r1'
 obtain ⟨q1,kvs,rfl,_,g1,rfl,_⟩:=r1'
 cases ei:keysI (kvs.map (·.1)) with
 | none=>simp only [ei] at k;exact k.elim
 | some ns =>
  simp only [ei] at k
  by_cases hn:ns.length < 126
  ·simp only [if_pos hn] at k
   refine ⟨q1,kvs,ns,rfl,g1,keysI_eq ei,hn,fun l1 hl1=>?_⟩
   have t1:Same H1 (upd H1 l1 (.ext (setP X.w l1 ns))):=same_new hl1 _
   refine ⟨c,δ,hK,(ab.grow s1).grow t1,(Res.bind k).imp fun dy _ k y H2 s2 r2=>?_⟩
   have r2':Rep c.K c.B H2 dy y:=r2
   obtain ⟨ls,es,rfl⟩:∃ ls es,dy=.dic ls es:=by
    cases dy <;> first | exact ⟨_,_,rfl⟩ | exact k.elim
   simp only [Rep] at r2'
   obtain ⟨q2,kvs2,rfl,_,g2,rfl,_⟩:=r2'
   unfold gUni at k
   cases ej:keysI (kvs2.map (·.1)) with
   | none=>simp only [ej] at k;exact k.elim
   | some ms =>
    simp only [ej] at k
    by_cases hnm:ns.length + ms.length < 126
    ·simp only [if_pos hnm] at k
     refine ⟨q2,kvs2,ms,rfl,g2,keysI_eq ej,by omega,fun l2 hl2=>?_⟩
     have t2:Same H2 (upd H2 l2 (.ext (setP X.w l2 ms))):=same_new hl2 _
     have a1:H2 l1=some (.ext (setP X.w l1 ns)):=s2 _ _ upd_same
     have hne:l1≠l2:=fun z=>by rw [z,hl2] at a1;cases a1
     refine ⟨l1,l2,ns,ms,rfl,rfl,hne,t2 _ _ a1,upd_same,hnm,fun l3 hl3=>?_⟩
     refine ⟨l3,ns++ms,uni ns ms,rfl,upd_same,by rw [List.length_append];omega,⟨uni_strict ns ms,fun k=>by rw [uni_mem,List.mem_append]⟩,fun l4 hl4=>?_⟩
     have t3:=same_new hl3 (.ext (setP X.w l3 (ns++ms)))
     have tt:=(((s1.trans t1).trans s2).trans t2).trans t3
     exact k (.ref l4) _ (tt.trans (same_new hl4 _)) ⟨l4,_,rfl,tt.free hl4,upd_same,_,rfl,ints_reps⟩
    ·simp only [if_neg hnm] at k;exact k.elim
  ·simp only [if_neg hn] at k;exact k.elim
end
end DL
namespace DL
open PySem PySem.Spec PyProof.Rows L2
def del (H:Hp) (p:Addr):Hp:=fun a=>if a=p then none else H a
theorem del_same {H:Hp} {p:Addr}:del H p p=none:=if_pos rfl
theorem del_ne {H:Hp} {p a:Addr} (h:a≠p):del H p a=H a:=if_neg h
theorem same_del (H:Hp) (p:Addr):Same (del H p) H:=fun a o h=>by
 by_cases e:a=p
 ·subst e;rw [del_same] at h;cases h
 ·rw [del_ne e] at h;exact h
theorem Abs.mutH {c:Cn} {σ:St} {δ:DS} {H H':Hp} {i:Nat} {ds ds':D} {p:Addr} {xs':HO} (a:Abs c σ δ H) (h:δ[i]? = some (Sl.own ds)) (hs:σ[i]? = some (some (V.ref p))) (sm:Same (del H p) H') (hp':H' p=some xs') (r:RepO c.K (Av c σ δ) H' ds' xs') :
  Abs c σ (δ.set i (.own ds')) H':=by
 have ow:Own σ δ p:=⟨i,ds,h,hs⟩
 have oi:∀ {q},Own σ (δ.set i (.own ds')) q->Own σ δ q:=fun {q} o=>by
  obtain ⟨j,es,h1,h2⟩:=o
  rcases get_set h1 with ⟨rfl,_,_⟩ | ⟨_,h1⟩
  ·exact ⟨j,ds,h,h2⟩
  ·exact ⟨j,es,h1,h2⟩
 have av:∀ q,Av c σ δ q->Av c σ (δ.set i (.own ds')) q:=fun q z=>⟨z.1,fun o=>z.2 (oi o)⟩
 have hne:∀ q,Av c σ δ q->q≠p:=fun q z e=>by subst e;exact z.2 ow
 obtain ⟨p',ys,g1,g2,g3,g4⟩:=a.own i ds h
 rw [hs] at g1;cases g1
 have go:∀ {q:Addr} {o:HO},q≠p->H q=some o->H' q=some o:=fun n e=>sm _ _ (by rw [del_ne n];exact e)
 have st:Stay c.K (Av c σ δ) H H':=⟨fun q ys z=>by
   rcases z with (z | ⟨o,z⟩) | z
   ·exact .inl (.inl (go (ne_of z g2 (g4.noT _)) z))
   ·exact .inl (.inr ⟨o,go (ne_of z g2 (g4.noF _ _)) z⟩)
   ·exact .inr z,fun q ys z=>by
   rcases z with ⟨o,z⟩ | z
   ·exact .inl ⟨o,go (ne_of z g2 (g4.noF _ _)) z⟩
   ·exact .inr z,fun q o z w=>go (hne q z) w⟩
 have up:∀ d v,Rep c.K (Av c σ δ) H d v->Rep c.K (Av c σ (δ.set i (.own ds'))) H' d v:=fun d v z=>Rep.mono (fun q _ w _=>av q w) st d v z
 have ups:∀ d v,RepO c.K (Av c σ δ) H d v->RepO c.K (Av c σ (δ.set i (.own ds'))) H' d v:=fun d v z=>RepO.mono (fun q _ w _=>av q w) st z
 refine ⟨fun b o z=>go (ne_of_none z g3.1) (a.same b o z),fun b z=>a.fr b ?_,by rw [List.length_set];exact a.len,fun j d' z=>?_,fun j es z=>?_,fun d' v' z=>up _ _ (a.gho d' v' z),fun j k dj dk q h1 h2 h3 h4=>?_,fun j q hP d' z=>?_⟩
 ·by_cases hb:b=p
  ·subst hb;rw [hp'] at z;cases z
  ·cases e:H b with
   | none=>rfl
   | some o=>rw [go hb e] at z;cases z
 ·rcases get_set z with ⟨_,w,_⟩ | ⟨ne,z⟩
  ·cases w
  ·obtain ⟨u,z1,z2⟩:=a.val j d' z
   exact ⟨u,z1,up _ _ z2⟩
 ·rcases get_set z with ⟨rfl,w,_⟩ | ⟨ne,z⟩
  ·cases w
   exact ⟨p,xs',hs,hp',g3,r.weak av⟩
  ·obtain ⟨q,zs,z1,z2,z3,z4⟩:=a.own j es z
   exact ⟨q,zs,z1,go (fun w=>ne (a.inj j i es ds p z h (by rw [← w];exact z1) hs)) z2,z3,ups _ _ z4⟩
 ·have gi:∀ {j:Nat} {dj:D},(δ.set i (.own ds'))[j]? = some (Sl.own dj)->∃ dj',δ[j]? = some (Sl.own dj'):=fun {j dj} z=>by
   rcases get_set z with ⟨rfl,_,_⟩ | ⟨_,z⟩
   ·exact ⟨ds,h⟩
   ·exact ⟨_,z⟩
  obtain ⟨dj',h1⟩:=gi h1
  obtain ⟨dk',h2⟩:=gi h2
  exact a.inj j k dj' dk' q h1 h2 h3 h4
 ·rcases get_set z with ⟨rfl,_,_⟩ | ⟨_,z⟩
  ·exact a.pin j q hP ds h
  ·exact a.pin j q hP d' z
def spM (K:PySem.W.Frag) (n j:Nat) (mm:List D->Ou D):Sp:=fun vs H Q _=>∃ (B:Addr->Prop) (ds:List D) (p:Addr) (o:HO) (dO:D),ds.length=n/\vs.length=n/\ds[j]? = some dO/\vs[j]? = some (V.ref p)/\H p=some o/\RepO K (fun a=>B a/\a≠p) H dO o /\
 (∀ (i:Nat) (d:D),i≠j->ds[i]? = some d->∃ v,vs[i]? = some v/\Rep K (fun a=>B a/\a≠p) H d v) /\
 Res K E0 (del H p) (mm ds) fun r=>∀ v H' dv dO' o',r=.tup [dv,dO']->Same (del H p) H'->Rep K (fun a=>(B a\/H a=none)/\a≠p) H' dv v->H' p=some o'->RepO K (fun a=>(B a\/H a=none)/\a≠p) H' dO' o'->Q v H'
structure DfM (P:Program) (w:World) (K:PySem.W.Frag) (mg:Str->Option Value) (base:Heap) (x:Str) (k:Nat) (ps:List Str) (j:Nat) (mm:List D->Ou D):Prop where
 ex:∃ f fd,FnOk P w K mg base CX0 k f fd ps (spM K ps.length j mm)/\Binds K fd ps []/\PySem.W.keepIn K (.ref f)=true/\mg x=some (.ref f)
def startM (j n:Nat) (ds:List D):DS:=match ds[j]? with
 | some d=>(startD n ds).set j (.own d)
 | none=>startD n ds
def runM (j n:Nat) (F:Sm) (ds:List D):Ou D:=(F (startM j n ds)).bind fun r=>match r with
 | .rt d=>.ok d
 | .nx δ=>(match δ[j]? with
  | some (.own dO)=>.ok (.tup [.non,dO])
  | _=>.bad)
 | _=>.bad
section
variable {P:Program} {w:World} {K:PySem.W.Frag} {mg:Str->Option Value} {base:Heap}
theorem DfM.mono {x:Str} {i k j:Nat} {ps:List Str} {mm:List D->Ou D} (h:DfM P w K mg base x i ps j mm) (hj:i<=k):DfM P w K mg base x k ps j mm:=by
 obtain ⟨f,fd,h1,h2⟩:=h.ex
 exact ⟨f,fd,h1.mono hj,h2⟩
theorem startD_at {n:Nat} {ds:List D} {i:Nat} {s:Sl} (h:(startD n ds)[i]? = some s):(∃ d,ds[i]? = some d/\s=.val d)\/s=.un:=by
 unfold startD at h
 rw [List.getElem?_append] at h
 split at h
 ·rw [List.getElem?_map] at h
  cases e:ds[i]? with
  | none=>rw [e] at h;cases h
  | some d=>rw [e] at h;exact .inl ⟨d,rfl,(Option.some.inj h).symm⟩
 ·rw [List.getElem?_replicate] at h
  split at h
  ·exact .inr (Option.some.inj h).symm
  ·cases h
theorem start_get {N:List Str} {vs:List V} {i:Nat} {v:V} (h:vs[i]? = some v):(L2.start N vs)[i]? = some (some v):=by
 unfold L2.start
 rw [List.getElem?_append_left (by rw [List.length_map];exact (List.getElem?_eq_some_iff.mp h).1),List.getElem?_map,h]
 rfl
theorem start_absM {N:List Str} {B:Addr->Prop} {H:Hp} {ds:List D} {vs:List V} {j:Nat} {p:Addr} {o:HO} {dO:D} (hv:vs.length=ds.length) (hl:ds.length<=N.length) (h1:ds[j]? = some dO) (h2:vs[j]? = some (V.ref p)) (h3:H p=some o) (h4:RepO K (fun a=>B a/\a≠p) H dO o)
  (h5:∀ (i:Nat) (d:D),i≠j->ds[i]? = some d->∃ v,vs[i]? = some v/\Rep K (fun a=>B a/\a≠p) H d v) :
  Abs { K:=K,B:=fun a=>B a\/H a=none\/a=p,H₀:=del H p,G:=[],P:=some (j,p) } (L2.start N vs) (startM j N.length ds) H:=by
 have em:startM j N.length ds=(startD N.length ds).set j (.own dO):=by unfold startM;rw [h1]
 rw [em]
 have hj:j < (startD N.length ds).length:=by
  have:=(List.getElem?_eq_some_iff.mp h1).1
  unfold startD
  rw [List.length_append,List.length_map];omega
 have hs:=start_get (N:=N) h2
 have one:∀ {i:Nat} {z:D},((startD N.length ds).set j (.own dO))[i]? = some (Sl.own z)->i=j/\z=dO:=fun {i z} h=>by
  rcases get_set h with ⟨e,z,_⟩ | ⟨_,h⟩
  ·cases z;exact ⟨e,rfl⟩
  ·rcases startD_at h with ⟨_,_,z⟩ | z <;> cases z
 have nown:∀ q,q≠p->¬ Own (L2.start N vs) ((startD N.length ds).set j (.own dO)) q:=fun q hq ⟨i,z,e1,e2⟩=>by
  obtain ⟨rfl,rfl⟩:=one e1
  rw [hs] at e2;cases e2;exact hq rfl
 have av:∀ a,B a/\a≠p->Av { K:=K,B:=fun a=>B a\/H a=none\/a=p,H₀:=del H p,G:=[],P:=some (j,p) } (L2.start N vs) ((startD N.length ds).set j (.own dO)) a:=fun a z=>⟨.inl z.1,nown a z.2⟩
 refine ⟨same_del H p,fun a z=>.inr (.inl z),?_,fun i d h=>?_,fun i z h=>?_,fun d v h=>(nomatch h),fun i k di dk q e1 e2 _ _=>(one e1).1.trans (one e2).1.symm,fun i q hP d h=>?_⟩
 ·rw [List.length_set]
  unfold startD L2.start
  simp [hv]
 ·rcases get_set h with ⟨_,z,_⟩ | ⟨ne,h⟩
  ·cases z
  ·rcases startD_at h with ⟨d',hd,z⟩ | z
   ·cases z
    obtain ⟨v,w1,w2⟩:=h5 i d ne hd
    exact ⟨v,start_get w1,w2.weak av⟩
   ·cases z
 ·obtain ⟨rfl,rfl⟩:=one h
  exact ⟨p,o,hs,h3,⟨del_same,.inr (.inr rfl)⟩,h4.weak av⟩
 ·cases hP
  exact hs
theorem dfM_of {N ps:List Str} {st:Stmt} {x:Str} {k j:Nat} {F:Sm} (S:Src K mg x st ps) (sc:FnScope N ps (defScope st)) (hn:ps.length<=N.length)
  (hbody:∀ (f:Addr) (cdv:Value) (A:Around) (outer:List Env) (s:Shared) (H:Hp) (E:XK),Room k (A.deeper (envOfC x (defScope st) s.heap.objs.size f cdv)) ->
   PSs (cxOf CX0 P w K mg base N x (defScope st) f cdv A outer s H E).nox (defBody st) (tS K E0 ⟨false,some j⟩ F)):DfM P w K mg base x (k + 1) ps j (runM j N.length F):=by
 obtain ⟨f,fd,Fn,b,hm⟩:=S.ex
 refine ⟨f,fd,Fn.ok sc (fun vs H Q E h=>?_) (fun cdv A outer s H vs Q E hr h=>⟨_,hbody f cdv A outer s H E hr,?_⟩),b,Fn.kp,hm⟩
 ·obtain ⟨B,ds,p,o,dO,_,hl,_⟩:=h
  exact hl
 ·obtain ⟨B,ds,p,o,dO,hl,hv,h1,h2,h3,h4,h5,h⟩:=h
  refine ⟨_,startM j N.length ds,rfl,⟨start_absM (hv.trans hl.symm) (by rw [hl];exact hn) h1 h2 h3 h4 h5,rfl⟩,(Res.bind h).imp fun z _ k=>?_⟩
  have wk:∀ a,(B a\/H a=none\/a=p)/\a≠p->(B a\/H a=none)/\a≠p:=fun a z=>⟨z.1.elim .inl fun w=>w.elim .inr fun w=>(z.2 w).elim,z.2⟩
  cases z with
  | rt d =>
   intro v H' sm r
   obtain ⟨dv,dO',o',rfl,r1,r2,r3⟩:=r
   exact k v H' dv dO' o' rfl sm (r1.weak wk) r2 (r3.weak wk)
  | nx δ =>
   intro σ' H' ab
   cases e:δ[j]? with
   | none=>simp only [e] at k;exact k.elim
   | some s =>
    simp only [e] at k
    cases s with
    | un=>exact k.elim
    | val d=>exact k.elim
    | own dO' =>
     obtain ⟨p',o',g1,g2,g3,g4⟩:=ab.own j dO' e
     have g5:=ab.pin j p rfl dO' e
     rw [g1] at g5;cases g5
     exact k .non H' .non dO' o' rfl ab.same (by simp [Rep]) g2 (g4.weak fun a z=>wk a ⟨z.1,fun w=>z.2 ⟨j,dO',e,by rw [w];exact g1⟩⟩)
  | bk δ=>exact k.elim
  | ct δ=>exact k.elim
end
section
variable {X:Cx} {E:XK} {e:Expr} {es:List Expr} {fe:Fn} {x:Str} {p pos:Pos} {ps:List Str} {k:Nat} {mm:List D->Ou D}
theorem AbsF.at {rm:Rm} {c:Cn} {σ:St} {δ:DS} {H:Hp} (a:AbsF rm c σ δ H) {j:Nat} (h:rm.pin=some j):∃ p,c.P=some (j,p):=by
 have:=a.pi
 rw [h] at this
 cases e:c.P with
 | none=>rw [e] at this;cases this
 | some z=>rw [e] at this;obtain ⟨i,p⟩:=z;simp at this;subst this;exact ⟨p,rfl⟩
def sRetM (j:Nat) (f:Fn):Sm:=fun δ=>(f δ).bind fun d=>match δ[j]? with
 | some (.own dO)=>.ok (.rt (.tup [d,dO]))
 | _=>.bad
theorem xs_retM (j:Nat) (h:PE X e (tX X.K E .S fe)):PS X (.Return (some e) pos) (tS X.K E ⟨false,some j⟩ (sRetM j fe)):=(ps_ret h).imp fun D σ H q=>by
 obtain ⟨c,δ,hK,ab,q⟩:=q
 refine ⟨c,δ,hK,ab,(Res.bind q).imp fun d _ k v H1 e1 r1=>?_⟩
 obtain ⟨p,hP⟩:=ab.at rfl
 cases ed:δ[j]? with
 | none=>rw [ed] at k;exact k.elim
 | some s =>
  rw [ed] at k
  cases s with
  | un=>exact k.elim
  | val d=>exact k.elim
  | own dO =>
   obtain ⟨p',o,g1,g2,g3,g4⟩:=ab.own j dO ed
   have g5:=ab.pin j p hP dO ed
   rw [g1] at g5;cases g5
   have wk:∀ a,Av c σ δ a->c.B a/\a≠p:=fun a z=>⟨z.1,fun w=>z.2 ⟨j,dO,ed,by rw [w];exact g1⟩⟩
   refine k v H1 (ab.same.trans e1) ?_
   unfold RtM
   rw [hP]
   exact ⟨d,dO,o,rfl,Rep.weak r1 wk,e1 _ _ g2,(g4.same e1).weak wk⟩
def fArgsM:List (Sum Fn Nat)->DS->Ou (List D)
 | [],_=>.ok []
 | .inl f::fs,δ=>(f δ).bind fun d=>(fArgsM fs δ).bind fun ds=>.ok (d::ds)
 | .inr i::fs,δ=>match δ[i]? with
  | some (.own d)=>(fArgsM fs δ).bind fun ds=>.ok (d::ds)
  | _=>.bad
def RepsM (c:Cn) (σ:St) (δ:DS) (H:Hp):List (Sum Fn Nat)->List D->List V->Prop
 | [],ds,vs=>ds=[]/\vs=[]
 | .inl _::fs,ds,vs=>∃ d r v s,ds=d::r/\vs=v::s/\Rep c.K (Av c σ δ) H d v/\RepsM c σ δ H fs r s
 | .inr i::fs,ds,vs=>∃ d r v s,ds=d::r/\vs=v::s/\(δ[i]? = some (Sl.own d)/\σ[i]? = some (some v))/\RepsM c σ δ H fs r s
def rIx:Sum Fn Nat->Option Nat
 | .inl _=>none
 | .inr i=>some i
theorem RepsM.get {c:Cn} {σ:St} {δ:DS} {H:Hp}:∀ {fs:List (Sum Fn Nat)} {ds:List D} {vs:List V},RepsM c σ δ H fs ds vs->ds.length=fs.length/\vs.length=fs.length/\∀ (i:Nat) (d:D),ds[i]? = some d->∃ v,vs[i]? = some v/\match (fs.map rIx)[i]? with
  | some none=>Rep c.K (Av c σ δ) H d v
  | some (some m)=>δ[m]? = some (Sl.own d)/\σ[m]? = some (some v)
  | none=>False
 | [],_,_,h=>by
  obtain ⟨rfl,rfl⟩:=h
  exact ⟨rfl,rfl,fun i d e=>by simp at e⟩
 | .inl f::fs,_,_,h=>by
  obtain ⟨d,r,v,s,rfl,rfl,h3,h4⟩:=h
  obtain ⟨l1,l2,g⟩:=RepsM.get h4
  refine ⟨by simp [l1],by simp [l2],fun i d' e=>?_⟩
  cases i with
  | zero=>simp at e;subst e;exact ⟨v,rfl,h3⟩
  | succ i=>simpa using g i d' (by simpa using e)
 | .inr m::fs,_,_,h=>by
  obtain ⟨d,r,v,s,rfl,rfl,h3,h4⟩:=h
  obtain ⟨l1,l2,g⟩:=RepsM.get h4
  refine ⟨by simp [l1],by simp [l2],fun i d' e=>?_⟩
  cases i with
  | zero=>simp at e;subst e;exact ⟨v,rfl,h3⟩
  | succ i=>simpa using g i d' (by simpa using e)
def tXM (K:PySem.W.Frag) (E:XK) (fs:List (Sum Fn Nat)):TA:=fun σ H Q=>∃ c δ,c.K=K/\Abs c σ δ H/\Res K E c.H₀ (fArgsM fs δ) fun ds=>∀ vs H',Same H H'->RepsM c σ δ H' fs ds vs->Q vs H'
variable {fs:List (Sum Fn Nat)}
theorem xm_nil:PA X [] (tXM X.K E []):=pa_nil.imp fun σ H Q q=>by
 obtain ⟨c,δ,hK,ab,q⟩:=q
 exact q [] H (Same.refl H) ⟨rfl,rfl⟩
theorem xm_cons (ha:PE X e (tX X.K E .S fe)) (hr:PA X es (tXM X.K E fs)) (hs:starEach (e::es) X.env=(false,eval e X.env)::starEach es X.env:=by rfl):PA X (e::es) (tXM X.K E (.inl fe::fs)):=(pa_cons ha hr hs).imp fun σ H Q q=>by
 obtain ⟨c,δ,hK,ab,q⟩:=q
 refine ⟨c,δ,hK,ab,(Res.bind q).imp fun d _ k v H1 e1 r1=>?_⟩
 refine ⟨c,δ,hK,ab.grow e1,(Res.bind k).imp fun ds _ k vs H2 e2 r2=>?_⟩
 exact k (v::vs) H2 (e1.trans e2) ⟨d,ds,v,vs,rfl,rfl,Rep.same r1 e2,r2⟩
theorem xm_own (i:Nat) {px:Pos} (hr:PA X es (tXM X.K E fs)) (hs:starEach (.Name x px::es) X.env=(false,eval (.Name x px) X.env)::starEach es X.env:=by rfl) (hN:X.N[i]? = some x:=by rfl) (hv:Vis X.env.scope x:=by first | exact Or.inl rfl | exact Or.inr (Or.inl rfl) | exact Or.inr (Or.inr rfl)) (hd:(x == ("__debug__":Str))=false:=by decide)
  (hcd:(x == ("__classdict__":Str))=false:=by decide):PA X (.Name x px::es) (tXM X.K E (.inr i::fs)):=(pa_cons (pv i hN hv hd hcd) hr hs).imp fun σ H Q q=>by
 obtain ⟨c,δ,hK,ab,q⟩:=q
 have q':Res X.K E c.H₀ (match δ[i]? with
  | some (.own d)=>(fArgsM fs δ).bind fun ds=>.ok (d::ds)
  | _=>.bad) fun ds=>∀ vs H',Same H H'->RepsM c σ δ H' (.inr i::fs) ds vs->Q vs H':=q
 cases e0:δ[i]? with
 | none=>rw [e0] at q';exact q'.elim
 | some s =>
  rw [e0] at q'
  cases s with
  | un=>exact q'.elim
  | val d=>exact q'.elim
  | own d =>
   obtain ⟨p,o,g1,g2,g3,g4⟩:=ab.own i d e0
   exact ⟨.ref p,g1,c,δ,hK,ab,(Res.bind q').imp fun ds _ k vs H2 e2 r2=>k (.ref p::vs) H2 e2 ⟨d,ds,.ref p,vs,rfl,rfl,⟨e0,g1⟩,r2⟩⟩
abbrev Fm:=DS->Ou (D×DS)
def tY (K:PySem.W.Frag) (E:XK) (f:Fm):TE:=fun σ H Q=>∃ c δ,c.K=K/\Abs c σ δ H/\Res K E c.H₀ (f δ) fun r=>∀ v H',Abs c σ r.2 H'->Rep c.K (Av c σ r.2) H' r.1 v->Q v H'
def fCallM (i:Nat) (mm:List D->Ou D) (fs:List (Sum Fn Nat)):Fm:=fun δ=>(fArgsM fs δ).bind fun ds=>(mm ds).bind fun r=>match r with
 | .tup [d,dO]=>.ok (d,δ.set i (.own dO))
 | _=>.bad
theorem xcallM (i:Nat) {j m:Nat} (h:DfM X.prog X.w X.K X.mg X.base x k ps j mm) (hr:Room k X.A) (ha:PA X (e::es) (tXM X.K E0 fs)) (hl:fs.length=ps.length:=by rfl) (hfs:fs.map rIx=List.replicate j none++some i::List.replicate m none:=by rfl) (hg:Gl X x:=by rfl) (hdb:(x == ("__debug__":Str))=false:=by decide)
  (he:starEach (e::es) X.env=(false,eval e X.env)::starEach es X.env:=by rfl) (hpl:(backTo pos (starEach es X.env)).any (·.1)=false:=by rfl):PE X (.Call (.Name x p) (e::es) [] pos) (tY X.K E0 (fCallM i mm fs)):=by
 obtain ⟨f,fd,h1,h2,h3,h4⟩:=h.ex
 refine (pe_call h1 hr hg h4 h3 h2 .nil pass0 ha hdb he hpl).imp fun σ H Q q=>?_
 obtain ⟨c,δ,hK,ab,q⟩:=q
 refine ⟨c,δ,hK,ab,(Res.bind q).imp fun ds hds k vs H1 e1 r1=>?_⟩
 obtain ⟨l1,l2,g⟩:=r1.get
 have hjl:j < ds.length:=by
  rw [l1]
  have:=congrArg List.length hfs
  simp at this;omega
 have atj:(fs.map rIx)[j]? = some (some i):=by
  rw [hfs,List.getElem?_append_right (by simp)];simp
 have ato:∀ n,n≠j->n < ds.length->(fs.map rIx)[n]? = some none:=fun n hn hlt=>by
  have hll:=congrArg List.length hfs
  simp at hll
  rw [hfs]
  by_cases hlt2:n < j
  ·rw [List.getElem?_append_left (by simpa using hlt2),List.getElem?_replicate,if_pos hlt2]
  ·obtain ⟨r,rfl⟩:∃ r,n=j + 1 + r:=⟨n - j - 1,by omega⟩
   rw [List.getElem?_append_right (by simp;omega)]
   have:j + 1 + r - (List.replicate j (none:Option Nat)).length=r + 1:=by simp;omega
   rw [this,List.getElem?_cons_succ,List.getElem?_replicate,if_pos (by omega)]
 obtain ⟨v0,w1,w2⟩:=g j ds[j] (List.getElem?_eq_getElem hjl)
 rw [atj] at w2
 obtain ⟨w2,w3⟩:=w2
 obtain ⟨p,o,g1,g2,g3,g4⟩:=ab.own i _ w2
 rw [w3] at g1;cases g1
 have ab1:=ab.grow e1
 have g2':=e1 _ _ g2
 have hne:∀ a,Av c σ δ a->a≠p:=fun a z w=>z.2 ⟨i,_,w2,by rw [w];exact w3⟩
 refine ⟨Av c σ δ,ds,p,o,ds[j],by rw [l1];exact hl,by rw [List.append_nil,l2];exact hl,List.getElem?_eq_getElem hjl,by rw [List.append_nil];exact w1,g2',?_,fun n d hn hd=>?_,?_⟩
 ·rw [← hK];exact (g4.same e1).weak fun a z=>⟨z,hne a z⟩
 ·obtain ⟨v,z1,z2⟩:=g n d hd
  rw [ato n hn (List.getElem?_eq_some_iff.mp hd).1] at z2
  refine ⟨v,by rw [List.append_nil];exact z1,?_⟩
  rw [← hK];exact Rep.weak z2 fun a z=>⟨z,hne a z⟩
 ·have smd:Same c.H₀ (del H1 p):=fun b u z=>by rw [del_ne (ne_of_none z g3.1)];exact (ab.same.trans e1) b u z
  refine (wish_mono (Res.bind k) smd).imp fun r _ k v H' dv dO' o' er sm rv hp' ro=>?_
  subst er
  rw [← hK] at rv ro
  have av:∀ a,(Av c σ δ a\/H1 a=none)/\a≠p->Av c σ δ a:=fun a z=>z.1.elim id fun w=>ab1.av_new w
  have ab2:=ab1.mutH w2 w3 sm hp' (ro.weak av)
  refine k v H' ab2 (Rep.weak rv fun a z=>⟨(av a z).1,fun ⟨n,es,z1,z2⟩=>(av a z).2 ?_⟩)
  rcases get_set z1 with ⟨rfl,_,_⟩ | ⟨_,z1⟩
  ·exact ⟨n,_,w2,z2⟩
  ·exact ⟨n,es,z1,z2⟩
variable {fy:Fm} {fr:Rm}
def sAsgM (f:Fm) (g:D->DS->Ou DS):Sm:=fun δ=>(f δ).bind fun r=>(g r.1 r.2).bind fun δ'=>.ok (.nx δ')
theorem xs_asgM {tg:Expr} {g:D->DS->Ou DS} (he:PE X e (tY X.K E fy)) (hg:PG X tg (tG X.K E g)) (hs:swapsWithSole [tg] e pos.line X.env=pure false:=by rfl) (hw:swappedStores [tg] e X.env=pure none:=by rfl) (h1:(assignEach [tg] X.env).map (·.2)=[assign tg X.env]:=by rfl):PS X (.Assign [tg] e pos) (tS X.K E fr (sAsgM fy g)):=(ps_asg he hg hs hw h1).imp fun D σ H q=>by
 obtain ⟨c,δ,hK,ab,q⟩:=q
 refine ⟨c,δ,hK,ab,(Res.bind q).imp fun r _ k v H1 ab1 r1=>?_⟩
 exact ⟨c,r.2,r.1,hK,ab1,r1,(Res.bind k).imp fun δ' _ k σ' H' _ ab'=>k σ' H' ab'⟩
end
end DL
namespace DL
open PySem PySem.Spec PyProof.Rows L2
def compW (gc:DS->Ou Bool) (fe:Fn) (γ:DS):List D->Ou (List D)
 | []=>.ok []
 | x::xs=>(gc (.val x::γ)).bind fun b=>if b=true then (fe (.val x::γ)).bind fun y=>if imm y=true then (compW gc fe γ xs).bind fun ys=>.ok (y::ys) else .bad else compW gc fe γ xs
def fCompW (fi:DS->Ou (List D)) (gc:DS->Ou Bool) (fe:Fn) (ix:List Nat):Fn:=fun δ=>(fi δ).bind fun ds=>if ds.length<=sizeLine then (compW gc fe (ix.map fun i=>slW δ[i]?) ds).bind fun ys=>.ok (.lst ys) else .bad
section
variable {c:Cn} {σ:St} {δ:DS} {H1 H':Hp}
theorem comp_coreW {K:PySem.W.Frag} {J:It} {ds:List DL.D} {gc:DS->Ou Bool} {fe:Fn} {ix:List Nat} {Q:VK} (hK:c.K=K) (ab:Abs c σ δ H1) (src:SrcI J c.K (Av c σ δ) H1 ds) (hl:ds.length<=sizeLine)
  (kq:Res K E0 c.H₀ (compW gc fe (ix.map fun i=>slW δ[i]?) ds) fun es=>∀ D xs H',H1 D=none->Same H1 H'->H' D=some (.lst xs)->Reps c.K (fun a=>Av c σ δ a/\a≠D) H' es xs->Q (.ref D) H') :
  ∀ D,H1 D=none->∃ W:Nat->Nat->St->List V->Hp->Prop,(∃ m,W 0 m (σin 1 ix σ) [] (upd H1 D (.lst []))) /\
   ∀ i m σ ys H,W i m σ ys H->H D=some (.lst ys)/\((J.stop i H/\Q (.ref D) H)\/(J.go i H/\ys.length < sizeLine/\∃ N:St->List V->Hp->Prop,(∀ σ' ys' H',N σ' ys' H'->∃ m',m' < m/\W (i + 1) m' σ' ys' H') /\
    ∀ x H',J.yld i H x H'->gName 0 x σ H' fun σ2 H2=>tT K E0 gc σ2 H2 fun b H3=>if b=true then tX K E0 .W fe σ2 H3 fun y H4=>H4 D=some (.lst ys)/\N σ2 (ys++[y]) (upd H4 D (.lst (ys++[y]))) else N σ2 ys H3)):=by
 intro D hD
 have kt:=kq
 generalize hγ:(ix.map fun i=>slW δ[i]?)=γ at kq
 let B':Addr->Prop:=fun q=>Av c σ δ q/\q≠D
 refine ⟨fun i m σ' ys H'=>(∃ s0,σ'=s0::ix.map fun j=>(σ[j]?).join)/\Same H1 H'/\H' D=some (.lst ys)/\∃ es,Reps c.K B' H' es ys/\m=ds.length - i/\i<=ds.length/\es.length<=i /\
  Res K E0 c.H₀ (compW gc fe γ (ds.drop i)) fun rest=>∀ xs H'',Same H1 H''->H'' D=some (.lst xs)->Reps c.K B' H'' (es++rest) xs->Q (.ref D) H'',
  ⟨ds.length,⟨none,rfl⟩,same_new hD _,upd_same,[],by simp [Reps],by simp,Nat.zero_le _,Nat.zero_le _,?_⟩,?_⟩
 ·exact kq.imp fun es _ z xs H'' e1 e2 e3=>z D xs H'' hD e1 e2 e3
 ·rintro i m σ' ys H' ⟨⟨s0,rfl⟩,hsm,hDy,es,hr,rfl,hi,hes,q⟩
  refine ⟨hDy,?_⟩
  by_cases hlt:i < ds.length
  ·refine .inr ⟨src.go i H' hsm hlt,?_,fun σ' ys' H'=>(∃ s0,σ'=s0::ix.map fun j=>(σ[j]?).join)/\Same H1 H'/\H' D=some (.lst ys')/\∃ es,Reps c.K B' H' es ys'/\ds.length - (i + 1)=ds.length - (i + 1)/\i + 1<=ds.length/\es.length<=i + 1 /\
    Res K E0 c.H₀ (compW gc fe γ (ds.drop (i + 1))) fun rest=>∀ xs H'',Same H1 H''->H'' D=some (.lst xs)->Reps c.K B' H'' (es++rest) xs->Q (.ref D) H'',fun σ' ys' H' n=>⟨ds.length - (i + 1),by lia,n⟩,fun x H2 y=>?_⟩
   ·have:=hr.length;lia
   have hd:ds[i]? = some ds[i]:=by simp [hlt]
   obtain ⟨rfl,rx⟩:=src.yld i H' x H2 _ hsm hd y
   rw [List.drop_eq_getElem_cons hlt] at q
   have A1:=ab.ask (ix:=ix) hsm rx
   rw [hγ] at A1
   refine ⟨{ K:=c.K,B:=fun _=>True,H₀:=H1,G:=[] },.val ds[i]::γ,hK,A1,(wish_mono (Res.bind q) ab.same).imp fun b _ k3 H4 e4=>?_⟩
   cases b with
   | false=>exact ⟨⟨_,rfl⟩,hsm.trans e4,e4 _ _ hDy,es,hr.same e4,rfl,hlt,by lia,k3⟩
   | true =>
    have hD4:=e4 _ _ hDy
    have A2:=ab.ask (ix:=ix) (hsm.trans e4) rx
    rw [hγ] at A2
    have k3':Res K E0 c.H₀ ((fe (.val ds[i]::γ)).bind fun y=>if imm y=true then (compW gc fe γ (ds.drop (i + 1))).bind fun ys=>.ok (y::ys) else .bad) _:=k3
    refine ⟨{ K:=c.K,B:=fun _=>True,H₀:=H1,G:=[] },.val ds[i]::γ,hK,A2,(wish_mono (Res.bind k3') ab.same).imp fun dy _ k4 y H5 e5 r5=>?_⟩
    by_cases him:imm dy=true
    rotate_left
    ·rw [if_neg him] at k4;exact k4.elim
    rw [if_pos him] at k4
    have hD5:=e5 _ _ hD4
    have r5':Rep c.K B' H5 dy y:=Rep.imm dy y him (show Rep c.K (fun _=>True) H5 dy y from r5)
    have st:Stay c.K B' H5 (upd H5 D (.lst (ys++[y]))):=⟨fun q ys z=>by
      rcases z with (z | ⟨o,z⟩) | z
      ·exact .inl (.inl (by rw [upd_ne (ne_of z hD5 (by intro w;cases w))];exact z))
      ·exact .inl (.inr ⟨o,by rw [upd_ne (ne_of z hD5 (by intro w;cases w))];exact z⟩)
      ·exact .inr z,fun q ys z=>by
      rcases z with ⟨o,z⟩ | z
      ·exact .inl ⟨o,by rw [upd_ne (ne_of z hD5 (by intro w;cases w))];exact z⟩
      ·exact .inr z,fun q o z w=>by rw [upd_ne z.2];exact w⟩
    have sm5:Same H1 (upd H5 D (.lst (ys++[y]))):=fun q o w=>by
     rw [upd_ne (ne_of_none w hD)]
     exact e5 _ _ (e4 _ _ (hsm _ _ w))
    refine ⟨hD5,⟨_,rfl⟩,sm5,upd_same,es++[dy],Reps.mono (fun _ _ w _=>w) st _ _ (Reps.append ((hr.same e4).same e5) (Reps.one r5')),rfl,hlt,by simp;lia,(Res.bind k4).imp fun rest _ k5 xs H'' s1 s2 s3=>k5 xs H'' s1 s2 ?_⟩
    rw [List.append_assoc] at s3
    exact s3
  ·have e:i=ds.length:=by lia
   subst e
   rw [List.drop_length] at q
   exact .inl ⟨src.stop H' hsm,q ys H' hsm hDy (by rw [List.append_nil];exact hr)⟩
end
section
variable {X:Cx} {iter elt tg:Expr} {ifs:List Expr} {scope:Scope} {N':List Str} {ix:List Nat} {pos:Pos} {gc:DS->Ou Bool} {fe fl:Fn}
theorem comp_readW {wi:TI} {fi:DS->Ou (List D)} {σ:St} {H:Hp} {Q:VK} (q:tX X.K E0 .F (fCompW fi gc fe ix) σ H Q)
  (hw:∀ (c:Cn) (δ:DS) (R:It->Hp->Prop),c.K=X.K->Abs c σ δ H->Res X.K E0 c.H₀ (fi δ) (fun ds=>∀ J H1,Same H H1->SrcI J c.K (Av c σ δ) H1 ds->R J H1)->wi σ H R) :
  tComp wi (gName 0) (tT X.K E0 gc) (tX X.K E0 .W fe) 1 ix σ H Q:=by
 obtain ⟨c,δ,hK,ab,q⟩:=q
 refine hw c δ _ hK ab ((Res.bind q).imp fun ds _ kq J H1 e1 src=>?_)
 by_cases hl:ds.length<=sizeLine
 ·rw [if_pos hl] at kq
  refine comp_coreW hK (ab.grow e1) src hl ((Res.bind kq).imp fun es _ z D xs H' hD e2 h1 h2=>z (.ref D) H' (e1.trans e2) ⟨D,_,rfl,e1.free hD,h1,xs,rfl,h2⟩)
 ·rw [if_neg hl] at kq
  exact kq.elim
theorem xcompW (S:CNames X scope N' 1 ix) (hi:PE X iter (tX X.K E0 .S fl))
  (hb:∀ C s2 H2 fp pins,PG (blk X N' scope C s2 H2 fp pins) tg (gName 0)/\PCs (blk X N' scope C s2 H2 fp pins) ifs (tT X.K E0 gc)/\PE (blk X N' scope C s2 H2 fp pins) elt (tX X.K E0 .W fe))
  (hc:X.calm=true:=by rfl) (hs:∀ x,foldedSetIterable iter X.env x=pure x:=by intro _;rfl):CompR X (.ListComp elt [⟨tg,iter,ifs,0⟩] scope pos) (tX X.K E0 .F (fCompW (fItems fl) gc fe ix)) :=
 (comp_r hc S (pi_list hi) hb hs).imp fun σ H Q q=>comp_readW q fun c δ R hK ab kq=>by
  refine ⟨c,δ,hK,ab,(Res.bind kq).imp fun d _ z v H1 e1 r1=>?_⟩
  have r1':Rep c.K (Av c σ δ) H1 d v:=r1
  cases d <;> first | exact z.elim | skip
  ·simp only [Rep] at r1'
   obtain ⟨p,xs,rfl,_,h1,h2⟩:=r1'
   exact ⟨p,rfl,⟨xs,by rw [← hK];exact .of h1⟩,by rw [← hK];exact z _ H1 e1 (srcL (.of h1) h2)⟩
  ·simp only [Rep] at r1'
   obtain ⟨p,xs,rfl,h1,h2⟩:=r1'
   exact ⟨p,rfl,⟨xs,by rw [← hK];exact h1.sq⟩,by rw [← hK];exact z _ H1 e1 (srcL h1.sq h2)⟩
end
end DL
set_option maxHeartbeats 4000000
namespace Pr
open PySem PySem.Spec PyProof.Rows L2 DL
def top (i : Nat) : Stmt := PySem.Challenge.pw_pastdesk_k20_rows_of_changes.main.body.getD i (.Pass ⟨0,0,0,0⟩)
abbrev s_last_time:Stmt:=top 6
abbrev s_holds:Stmt:=top 7
abbrev s_within:Stmt:=top 8
abbrev s_halves:Stmt:=top 9
abbrev s_least:Stmt:=top 10
abbrev s_stretch_of:Stmt:=top 12
abbrev s_total_of:Stmt:=top 13
abbrev s_is_leaf:Stmt:=top 14
abbrev s_parts:Stmt:=top 15
abbrev s_Kind__lone:Stmt:=inClass (top 24) 2
abbrev s_leaf:Stmt:=top 16
abbrev s_Kind__joined:Stmt:=inClass (top 24) 4
abbrev s_knot:Stmt:=top 17
abbrev s_beside:Stmt:=top 18
abbrev s_is_early:Stmt:=top 19
abbrev s_put_in:Stmt:=top 20
abbrev s_what_is_left:Stmt:=top 22
abbrev s_taken_out:Stmt:=top 21
abbrev s_deeds_of:Stmt:=top 26
abbrev s_one_step_down:Stmt:=top 28
abbrev s_inside:Stmt:=top 27
abbrev s_touched:Stmt:=top 29
abbrev s_parted:Stmt:=top 30
abbrev s__law_cell_at:Stmt:=top 32
abbrev s__law_time:Stmt:=top 33
abbrev s__law_tree:Stmt:=top 34
abbrev s__law_chain:Stmt:=top 35
abbrev s__law_change:Stmt:=top 36
abbrev s_law:Stmt:=top 37
def b_last_time:Sm:=(sSeq (sRet (f2 gSub (f2 gAdd (f2 gIx (fVar 0) (fC (.int 0))) (f2 gIx (fVar 0) (fC (.int 1)))) (fC (.int 1)))) sNext)
def m_last_time:List D->Ou D:=runD false 1 b_last_time
def b_holds:Sm:=(sSeq (sRet (fChn gLe gLe (f2 gIx (fVar 0) (fC (.int 0))) (fVar 1) (fCall (m_last_time) [(fVar 0)]))) sNext)
def m_holds:List D->Ou D:=runD false 2 b_holds
def b_within:Sm:=(sSeq (sRet (fAndV (fCall (m_holds) [(fVar 1),(f2 gIx (fVar 0) (fC (.int 0)))]) (fCall (m_holds) [(fVar 1),(fCall (m_last_time) [(fVar 0)])]))) sNext)
def m_within:List D->Ou D:=runD false 2 b_within
def b_halves:Sm:=(sSeq (sSet 1 (f2 gIx (fVarS 0) (fC (.int 0)))) (sSeq (sSet 2 (f2 gDiv (f2 gIx (fVar 0) (fC (.int 1))) (fC (.int 2)))) (sSeq (sRet (fTup [(fTup [(fVar 1),(fVar 2)]),(fTup [(f2 gAdd (fVar 1) (fVar 2)),(fVar 2)])])) sNext)))
def m_halves:List D->Ou D:=runD false 3 b_halves
def b_least:Sm:=(sSeq (sSet 2 (fCall gMin [(f2 gIx (fVar 0) (fC (.int 0))),(f2 gIx (fVar 1) (fC (.int 0)))])) (sSeq (sSet 3 (fCall gMax [(fCall (m_last_time) [(fVar 0)]),(fCall (m_last_time) [(fVar 1)])])) (sSeq (sSet 4 (f2 gShl (fC (.int 1)) (f1 gBits (f2 gXor (fVar 2) (fVar 3))))) (sSeq (sRet (fTup [(f2 gMul (f2 gDiv (fVar 2) (fVar 4)) (fVar 4)),(fVar 4)])) sNext))))
def m_least:List D->Ou D:=runD false 5 b_least
def b_stretch_of:Sm:=(sSeq (sRet (fTup [(f2 gIx (fVar 0) (fC (.int 0))),(f2 gIx (fVar 0) (fC (.int 1)))])) sNext)
def m_stretch_of:List D->Ou D:=runD false 1 b_stretch_of
def b_total_of:Sm:=(sSeq (sRet (f2 gIx (fVar 0) (fC (.int 2)))) sNext)
def m_total_of:List D->Ou D:=runD false 1 b_total_of
def b_is_leaf:Sm:=(sSeq (sRet (f2 gEq (f2 gIx (fVar 0) (fC (.int 1))) (fC (.int 1)))) sNext)
def m_is_leaf:List D->Ou D:=runD false 1 b_is_leaf
def b_parts:Sm:=(sSeq (sRet (fLst [(f2 gIx (fVarS 0) (fC (.int 3))),(f2 gIx (fVarS 0) (fC (.int 4)))])) sNext)
def m_parts:List D->Ou D:=runD false 1 b_parts
def b_Kind__lone:Sm:=(sSeq (sRet (fC (.int 1))) sNext)
def m_Kind__lone:List D->Ou D:=runD false 3 b_Kind__lone
def b_leaf:Sm:=(sSeq (sRet (fTup [(fVar 1),(fC (.int 1)),(fMeth [("Kind",m_Kind__lone)] (fVar 0) [(fVar 1),(fVar 2)]),(fVar 2)])) sNext)
def m_leaf:List D->Ou D:=runD false 3 b_leaf
def b_Kind__joined:Sm:=(sSeq (sRet (f2 gAdd (fVar 1) (fVar 2))) sNext)
def m_Kind__joined:List D->Ou D:=runD false 3 b_Kind__joined
def b_knot:Sm:=(sSeq (sSet 3 (fCall (m_least) [(fCall (m_stretch_of) [(fVarS 1)]),(fCall (m_stretch_of) [(fVarS 2)])])) (sSeq (sSet 4 (fMeth [("Kind",m_Kind__joined)] (fVarS 0) [(fCall (m_total_of) [(fVarS 1)]),(fCall (m_total_of) [(fVarS 2)])])) (sSeq (sRet (fTup [(f2 gIx (fVar 3) (fC (.int 0))),(f2 gIx (fVar 3) (fC (.int 1))),(fVar 4),(fVar 1),(fVar 2)])) sNext)))
def m_knot:List D->Ou D:=runD false 5 b_knot
def b_beside:Sm:=(sSeq (sIf (fAsB (f2 gLt (f2 gIx (fVar 2) (fC (.int 0))) (f2 gIx (fVar 1) (fC (.int 0))))) (sSeq (sRet (fCall (m_knot) [(fVar 0),(fVar 2),(fVar 1)])) sNext) sNext) (sSeq (sRet (fCall (m_knot) [(fVar 0),(fVar 1),(fVar 2)])) sNext))
def m_beside:List D->Ou D:=runD false 3 b_beside
def b_is_early:Sm:=(sSeq (sRet (fCall (m_holds) [(f2 gIx (fCall (m_halves) [(fCall (m_stretch_of) [(fVar 0)])]) (fC (.int 0))),(fVar 1)])) sNext)
def m_is_early:List D->Ou D:=runD false 2 b_is_early
def b_put_in (r_put_in:List D->Ou D):Sm:=(sSeq (sIf (fAsB (f1 gIsN (fVar 1))) (sSeq (sRet (fCall (m_leaf) [(fVar 0),(fVar 2),(fVar 3)])) sNext) sNext) (sSeq (sIf (fNotT (fTru (fCall (m_holds) [(fCall (m_stretch_of) [(fVar 1)]),(fVar 2)]))) (sSeq (sRet (fCall (m_beside) [(fVar 0),(fVar 1),(fCall (m_leaf) [(fVar 0),(fVar 2),(fVar 3)])])) sNext) sNext) (sSeq (sIf (fTru (fCall (m_is_leaf) [(fVar 1)])) (sSeq sBad sNext) sNext) (sSeq (sIf (fTru (fCall (m_is_early) [(fVar 1),(fVar 2)])) (sSeq (sRet (fCall (m_knot) [(fVar 0),(fCall (r_put_in) [(fVar 0),(f2 gIx (fVar 1) (fC (.int 3))),(fVar 2),(fVar 3)]),(f2 gIx (fVar 1) (fC (.int 4)))])) sNext) sNext) (sSeq (sRet (fCall (m_knot) [(fVar 0),(f2 gIx (fVar 1) (fC (.int 3))),(fCall (r_put_in) [(fVar 0),(f2 gIx (fVar 1) (fC (.int 4))),(fVar 2),(fVar 3)])])) sNext)))))
def m_put_in:Nat->List D->Ou D
 | 0,_=>.bad
 | n + 1,ds=>runD false 4 (b_put_in (m_put_in n)) ds
def b_what_is_left:Sm:=(sSeq (sIf (fAsB (f1 gIsN (fVar 1))) (sSeq (sRet (fVar 2)) sNext) sNext) (sSeq (sIf (fAsB (f1 gIsN (fVar 2))) (sSeq (sRet (fVar 1)) sNext) sNext) (sSeq (sRet (fCall (m_knot) [(fVar 0),(fVar 1),(fVar 2)])) sNext)))
def m_what_is_left:List D->Ou D:=runD false 3 b_what_is_left
def b_taken_out (r_taken_out:List D->Ou D):Sm:=(sSeq (sIf (fOrT (fAsB (f1 gIsN (fVar 1))) (fNotT (fTru (fCall (m_holds) [(fCall (m_stretch_of) [(fVar 1)]),(fVar 2)])))) (sSeq sBad sNext) sNext) (sSeq (sIf (fTru (fCall (m_is_leaf) [(fVar 1)])) (sSeq (sRet (fC .non)) sNext) sNext) (sSeq (sIf (fTru (fCall (m_is_early) [(fVar 1),(fVar 2)])) (sSeq (sRet (fCall (m_what_is_left) [(fVar 0),(fCall (r_taken_out) [(fVar 0),(f2 gIx (fVar 1) (fC (.int 3))),(fVar 2)]),(f2 gIx (fVar 1) (fC (.int 4)))])) sNext) sNext) (sSeq (sRet (fCall (m_what_is_left) [(fVar 0),(f2 gIx (fVar 1) (fC (.int 3))),(fCall (r_taken_out) [(fVar 0),(f2 gIx (fVar 1) (fC (.int 4))),(fVar 2)])])) sNext))))
def m_taken_out:Nat->List D->Ou D
 | 0,_=>.bad
 | n + 1,ds=>runD false 3 (b_taken_out (m_taken_out n)) ds
def b_deeds_of (r_deeds_of:List D->Ou D):Sm:=(sSeq (sIf (fAsB (f1 gIsN (fVar 0))) (sSeq (sRet (fLst [])) sNext) sNext) (sSeq (sIf (fTru (fCall (m_is_leaf) [(fVar 0)])) (sSeq (sRet (fLst [(fTup [(f2 gIx (fVarS 0) (fC (.int 0))),(f2 gIx (fVarS 0) (fC (.int 3)))])])) sNext) sNext) (sSeq (sRet (f2 gCat (fCall (r_deeds_of) [(f2 gIx (fVarS 0) (fC (.int 3)))]) (fCall (r_deeds_of) [(f2 gIx (fVarS 0) (fC (.int 4)))]))) sNext)))
def m_deeds_of:Nat->List D->Ou D
 | 0,_=>.bad
 | n + 1,ds=>runD true 1 (b_deeds_of (m_deeds_of n)) ds
def b_one_step_down:Sm:=(sSeq (sIf (fTru (fCall (m_is_leaf) [(fVar 0)])) (sSeq (sRet (fC .non)) sNext) sNext) (sSeq (sSet 2 (fCall (m_halves) [(fCall (m_stretch_of) [(fVarS 0)])])) (sSeq (sIf (fTru (fCall (m_within) [(fVar 1),(f2 gIx (fVar 2) (fC (.int 0)))])) (sSeq (sRet (f2 gIx (fVar 0) (fC (.int 3)))) sNext) sNext) (sSeq (sIf (fTru (fCall (m_within) [(fVar 1),(f2 gIx (fVar 2) (fC (.int 1)))])) (sSeq (sRet (f2 gIx (fVar 0) (fC (.int 4)))) sNext) sNext) (sSeq (sRet (fC .non)) sNext)))))
def m_one_step_down:List D->Ou D:=runD false 3 b_one_step_down
def b_inside:Sm:=(sSeq (sSet 2 (fVarS 0)) (sSeq (whileF (fAndT (fAsB (f1 gNotN (fVar 2))) (fNotT (fTru (fCall (m_within) [(fCall (m_stretch_of) [(fVar 2)]),(fVar 1)])))) (sSeq (sSet 2 (fCall (m_one_step_down) [(fVarS 2),(fVarS 1)])) sNext) 40) (sSeq (sRet (fVar 2)) sNext)))
def m_inside:List D->Ou D:=runD false 3 b_inside
def b_touched (r_touched:List D->Ou D):Sm:=(sSeq (sIf (fOrT (fAsB (f1 gIsN (fVar 1))) (fAsB (f2 gEq (fCall (m_inside) [(fVar 0),(fCall (m_stretch_of) [(fVar 1)])]) (fVar 1)))) (sSeq (sRet (fLst [])) sNext) sNext) (sSeq (sOwn 2 (fLst [(fCall (m_stretch_of) [(fVarS 1)])])) (sSeq (sIf (fNotT (fTru (fCall (m_is_leaf) [(fVar 1)]))) (sSeq (sFor (fCall (m_parts) [(fVarS 1)]) (gNm 3) (sSeq (sExt 2 (fCall (r_touched) [(fVarS 0),(fVarS 3)])) sNext)) sNext) sNext) (sSeq (sRetO 2) sNext))))
def m_touched:Nat->List D->Ou D
 | 0,_=>.bad
 | n + 1,ds=>runD true 4 (b_touched (m_touched n)) ds
def b_parted:Sm:=(sSeq (sSet 2 (f1 gDictP (fCall (m_deeds_of 64) [(fVarS 0)]))) (sSeq (sSet 3 (f1 gDictP (fCall (m_deeds_of 64) [(fVarS 1)]))) (sSeq (sRet (fComp (fItems (fSortU (fVar 2) (fVar 3))) (gNm 0) (fAsB (f2 gNe (fDGet1 (fVar 1) (fVar 0)) (fDGet1 (fVar 2) (fVar 0)))) (fVarS 0) 1 [2,3])) sNext)))
def m_parted:List D->Ou D:=runD true 4 b_parted
def b__law_cell_at:Sm:=(sSeq (sIf (fAsB (f2 gLt (fVar 1) (fCall gLen [(fVar 0)]))) (sSeq (sRet (f2 gIx (fVar 0) (fVar 1))) sNext) sNext) (sSeq (sRet (fC (.int 0))) sNext))
def m__law_cell_at:List D->Ou D:=runD false 2 b__law_cell_at
def b__law_time:Sm:=(sSeq (sSet 1 (f2 gDiv (fVar 0) (fC (.int 4)))) (sSeq (sIf (fAsB (f2 gEq (f2 gMod (fVar 0) (fC (.int 4))) (fC (.int 0)))) (sSeq (sRet (f2 gMod (fVar 1) (fC (.int 12)))) sNext) sNext) (sSeq (sIf (fAsB (f2 gEq (f2 gMod (fVar 0) (fC (.int 4))) (fC (.int 1)))) (sSeq (sRet (f2 gSub (fC (.int 1073741823)) (f2 gMod (fVar 1) (fC (.int 12))))) sNext) sNext) (sSeq (sRet (f2 gMod (fVar 1) (fC (.int 1073741824)))) sNext))))
def m__law_time:List D->Ou D:=runD false 2 b__law_time
def b__law_tree (r__law_tree:List D->Ou D):Sm:=(sSeq (sIf (fAsB (f2 gEq (fCall gLen [(fVar 0)]) (fC (.int 0)))) (sSeq (sRet (fC .non)) sNext) sNext) (sSeq (sSet 1 (f2 gIx (f2 gIx (fVarS 0) (fC (.int 0))) (fC (.int 0)))) (sSeq (sSet 2 (f2 gIx (f2 gIx (fVarS 0) (f1 gNeg (fC (.int 1)))) (fC (.int 0)))) (sSeq (sIf (fAsB (f2 gEq (fCall gLen [(fVar 0)]) (fC (.int 1)))) (sSeq (sRet (fTup [(fVar 1),(fC (.int 1)),(fC (.int 1)),(f2 gIx (f2 gIx (fVar 0) (fC (.int 0))) (fC (.int 1)))])) sNext) sNext) (sSeq (sSet 3 (f2 gShl (fC (.int 1)) (f1 gBits (f2 gXor (fVar 1) (fVar 2))))) (sSeq (sSet 4 (f2 gAdd (f2 gMul (f2 gDiv (fVar 1) (fVar 3)) (fVar 3)) (f2 gDiv (fVar 3) (fC (.int 2))))) (sSeq (sSet 5 (fCall (r__law_tree) [(fComp (fItems (fVarS 0)) (gNm 0) (fAsB (f2 gLt (f2 gIx (fVar 0) (fC (.int 0))) (fVar 1))) (fVarS 0) 1 [4])])) (sSeq (sSet 6 (fCall (r__law_tree) [(fComp (fItems (fVarS 0)) (gNm 0) (fAsB (f2 gGe (f2 gIx (fVar 0) (fC (.int 0))) (fVar 1))) (fVarS 0) 1 [4])])) (sSeq (sRet (fTup [(f2 gSub (fVar 4) (f2 gDiv (fVar 3) (fC (.int 2)))),(fVar 3),(fCall gLen [(fVar 0)]),(fVar 5),(fVar 6)])) sNext)))))))))
def m__law_tree:Nat->List D->Ou D
 | 0,_=>.bad
 | n + 1,ds=>runD false 7 (b__law_tree (m__law_tree n)) ds
def b__law_chain:Sm:=(sSeq (sIf (fOrT (fNotT (fTru (f1 (gIs "list") (fVar 0)))) (fOrT (fAsB (f2 gGt (fCall gLen [(fVar 0)]) (fC (.int 31)))) (fAsB (f2 gGt (fCall gLen [(fVar 0)]) (fVar 3))))) (sSeq (sRet (fC (.bl false))) sNext) sNext) (sSeq (sSet 5 (fC (.int 0))) (sSeq (sSet 6 (fC (.int 2147483648))) (sSeq (sFor (fVarS 0) (gNm 7) (sSeq (sIf (fOrT (fNotT (fTru (f1 (gIs "tuple") (fVar 7)))) (fOrT (fAsB (f2 gNe (fCall gLen [(fVar 7)]) (fC (.int 2)))) (fOrT (fTru (f1 (gIs "bool") (f2 gIx (fVar 7) (fC (.int 0))))) (fTru (f1 (gIs "bool") (f2 gIx (fVar 7) (fC (.int 1)))))))) (sSeq (sRet (fC (.bl false))) sNext) sNext) (sSeq (sIf (fOrT (fAsB (f2 gGe (f2 gIx (fVar 7) (fC (.int 1))) (fVar 6))) (fOrT (fAsB (f2 gLt (f2 gIx (fVar 7) (fC (.int 0))) (fVar 5))) (fAsB (f2 gGt (f2 gAdd (f2 gIx (fVar 7) (fC (.int 0))) (f2 gIx (fVar 7) (fC (.int 1)))) (f2 gAdd (fVar 5) (fVar 6)))))) (sSeq (sRet (fC (.bl false))) sNext) sNext) (sSeq (sSet 5 (f2 gIx (fVarS 7) (fC (.int 0)))) (sSeq (sSet 6 (f2 gIx (fVarS 7) (fC (.int 1)))) (sSeq (sIf (fOrT (fAsB (f2 gLt (fVar 2) (fVar 5))) (fAsB (f2 gGe (fVar 2) (f2 gAdd (fVar 5) (fVar 6))))) (sSeq (sRet (fC (.bl false))) sNext) sNext) sNext)))))) (sSeq (sIf (fTru (fVar 4)) (sSeq (sRet (fAndV (f2 gGt (fCall gLen [(fVar 0)]) (fC (.int 0))) (fAndV (f2 gEq (f2 gIx (fVar 0) (fC (.int 0))) (fTup [(f2 gIx (fVar 1) (fC (.int 0))),(f2 gIx (fVar 1) (fC (.int 1)))])) (f2 gEq (f2 gIx (fVar 0) (f1 gNeg (fC (.int 1)))) (fTup [(fVar 2),(fC (.int 1))]))))) sNext) sNext) (sSeq (sRet (fOrV (f2 gEq (fCall gLen [(fVar 0)]) (fC (.int 0))) (fAndV (f1 gNotN (fVar 1)) (f2 gEq (f2 gIx (fVar 0) (fC (.int 0))) (fTup [(f2 gIx (fVar 1) (fC (.int 0))),(f2 gIx (fVar 1) (fC (.int 1)))]))))) sNext))))))
def m__law_chain:List D->Ou D:=runD false 8 b__law_chain
def b__law_change:Sm:=(sSeq (sSet 4 (fCall (m__law_time) [(f2 gDiv (fVar 3) (fC (.int 3)))])) (sSeq (sIf (fAndT (fAsB (f2 gEq (f2 gMod (fVar 3) (fC (.int 3))) (fC (.int 0)))) (fAsB (f2 gGt (fCall gLen [(fVar 2)]) (fC (.int 0))))) (sSeq (sSet 4 (f2 gIx (f1 gSortDB (fVar 2)) (f2 gMod (f2 gDiv (fVar 3) (fC (.int 3))) (fCall gLen [(fVar 2)])))) sNext) sNext) (sSeq (sSet 5 (f2 (gDIn true) (fVar 4) (fVar 2))) (sSeq (sIf (fTru (fVar 5)) (sSeq (sDPut 2 (fVar 4) (fTup [(fC (.str "put")),(f2 gMod (f2 gDiv (fVar 3) (fC (.int 3))) (f2 gPow (fC (.int 10)) (fC (.int 31))))])) (sSeq (sSet 6 (fUp (fCall (m_put_in 64) [(fVar 0),(fVar 1),(fVar 4),(fIxD 2 (fVar 4))]))) sNext)) (sSeq (sDPop 2 (fVar 4)) (sSeq (sSet 6 (fCall (m_taken_out 64) [(fVarS 0),(fVarS 1),(fVarS 4)])) sNext))) (sSeq (sIf (fOrT (fAsB (f2 gNe (fVar 6) (fCall (m__law_tree 64) [(fCompW (fItems (f1 gSortDB (fVar 2))) fYes (fTup [(fVar 0),(f2 gDIx (fVar 1) (fVar 0))]) [2])]))) (fAsB (f2 gNe (fCall (m_parted) [(fVarS 1),(fVarS 6)]) (fLst [(fVarS 4)])))) (sSeq (sRetM 2 (fTup [(fC (.bl false)),(fVarS 6)])) sNext) sNext) (sSeq (sRetM 2 (fTup [(fUp (fCall (m__law_chain) [(fCall (m_touched 64) [(fVarS 1),(fVarS 6)]),(fVar 6),(fVar 4),(fCall gLen [(fVar 2)]),(fVar 5)])),(fVarS 6)])) sNext))))))
def m__law_change:List D->Ou D:=runM 2 7 b__law_change
def b_law:Sm:=(sSeq (sSet 1 (fMake0 "Kind")) (sSeq (sSet 2 (fCall (m__law_cell_at) [(fVarS 0),(fC (.int 0))])) (sSeq (sOwn 3 fDic0) (sSeq (sSet 4 (fC .non)) (sSeq (sRng [(f2 gMod (f2 gDiv (fVar 2) (fC (.int 3))) (fC (.int 31)))] (gNm 5) (sSeq (sSet 6 (f2 gShl (fC (.int 1)) (fVar 5))) (sSeq (sIf (fAsB (f2 gEq (f2 gMod (fVar 2) (fC (.int 3))) (fC (.int 2)))) (sSeq (sSet 6 (f2 gSub (fC (.int 1073741824)) (f2 gShl (fC (.int 1)) (fVar 5)))) sNext) sNext) (sSeq (sIf (fAsB (f2 gGt (f2 gMod (fVar 2) (fC (.int 3))) (fC (.int 0)))) (sSeq (sDPut 3 (fVar 6) (fTup [(fC (.str "add")),(fVarS 5)])) (sSeq (sSet 4 (fUp (fCall (m_put_in 64) [(fVar 1),(fVar 4),(fVar 6),(fIxD 3 (fVar 6))]))) sNext)) sNext) sNext)))) (sSeq (sFor (fSl (fVarS 0) (some (fC (.int 1))) (some (fC (.int 31)))) (gNm 7) (sSeq (sAsgM (fCallM 3 (m__law_change) [.inl (fVarS 1),.inl (fVarS 4),.inr 3,.inl (fVarS 7)]) (gNm2 8 4)) (sSeq (sIf (fNotT (fTru (fVar 8))) (sSeq (sRet (fC (.bl false))) sNext) sNext) sNext))) (sSeq (fun δ=>(sRet (fC (.bl true))) (thaw 3 δ)) sNext)))))))
def m_law:List D->Ou D:=runD false 9 b_law
section
variable {P:Program} {w:World} {K:PySem.W.Frag} {mg:Str->Option Value} {base:Heap}
theorem sc_last_time:FnScope ["stretch"] ["stretch"] (defScope s_last_time):=⟨rfl,rfl,rfl,by decide +kernel,rfl,by decide +kernel,by decide +kernel⟩
theorem df_last_time (S_last_time:Src K mg "last_time" s_last_time ["stretch"]):Df P w K mg base "last_time" 1 ["stretch"] false m_last_time:=df_of (N:=["stretch"]) (fr:=false) (F:=b_last_time) S_last_time sc_last_time (by decide) fun f cdv A outer s H E hr=>by
 have nd:=sc_last_time.nd
 exact (by refine xs_cons ?_ ?_;exact (xs_ret (xop od_sub (xop od_add (xix (xv 0) xint) (xix (xv 0) xint)) xint));exact xs_nil)
theorem sc_holds:FnScope ["stretch","number"] ["stretch","number"] (defScope s_holds):=⟨rfl,rfl,rfl,by decide +kernel,rfl,by decide +kernel,by decide +kernel⟩
theorem df_holds (S_holds:Src K mg "holds" s_holds ["stretch","number"]) (h_last_time:Df P w K mg base "last_time" 1 ["stretch"] false (m_last_time)):Df P w K mg base "holds" 2 ["stretch","number"] false m_holds:=df_of (N:=["stretch","number"]) (fr:=false) (F:=b_holds) S_holds sc_holds (by decide) fun f cdv A outer s H E hr=>by
 have nd:=sc_holds.nd
 exact (by refine xs_cons ?_ ?_;exact (xs_ret (xchn od_le od_le (xix (xv 0) xint) (xv 1) (xcall (h_last_time.mono (by omega)) hr (xa_cons (xv 0) xa_nil))));exact xs_nil)
theorem sc_within:FnScope ["one","other"] ["one","other"] (defScope s_within):=⟨rfl,rfl,rfl,by decide +kernel,rfl,by decide +kernel,by decide +kernel⟩
theorem df_within (S_within:Src K mg "within" s_within ["one","other"]) (h_holds:Df P w K mg base "holds" 2 ["stretch","number"] false (m_holds)) (h_last_time:Df P w K mg base "last_time" 1 ["stretch"] false (m_last_time)):Df P w K mg base "within" 3 ["one","other"] false m_within:=df_of (N:=["one","other"]) (fr:=false) (F:=b_within) S_within sc_within (by decide) fun f cdv A outer s H E hr=>by
 have nd:=sc_within.nd
 exact (by refine xs_cons ?_ ?_;exact (xs_ret (xand (xcall (h_holds.mono (by omega)) hr (xa_cons (xv 1) (xa_cons (xix (xv 0) xint) xa_nil))) (xone (xcall (h_holds.mono (by omega)) hr (xa_cons (xv 1) (xa_cons (xcall (h_last_time.mono (by omega)) hr (xa_cons (xv 0) xa_nil)) xa_nil))))));exact xs_nil)
theorem sc_halves:FnScope ["stretch","low","half"] ["stretch"] (defScope s_halves):=⟨rfl,rfl,rfl,by decide +kernel,rfl,by decide +kernel,by decide +kernel⟩
theorem df_halves (S_halves:Src K mg "halves" s_halves ["stretch"]):Df P w K mg base "halves" 1 ["stretch"] false m_halves:=df_of (N:=["stretch","low","half"]) (fr:=false) (F:=b_halves) S_halves sc_halves (by decide) fun f cdv A outer s H E hr=>by
 have nd:=sc_halves.nd
 exact (by refine xs_cons ?_ ?_;exact (xs_set 1 nd (xix (xvS 0) xint));exact (by refine xs_cons ?_ ?_;exact (xs_set 2 nd (xop od_div (xix (xv 0) xint) xint));exact (by refine xs_cons ?_ ?_;exact (xs_ret (xtup (xa_cons (xtup (xa_cons (xv 1) (xa_cons (xv 2) xa_nil))) (xa_cons (xtup (xa_cons (xop od_add (xv 1) (xv 2)) (xa_cons (xv 2) xa_nil))) xa_nil))));exact xs_nil)))
theorem sc_least:FnScope ["one","other","first","last","size"] ["one","other"] (defScope s_least):=⟨rfl,rfl,rfl,by decide +kernel,rfl,by decide +kernel,by decide +kernel⟩
theorem df_least (S_least:Src K mg "least" s_least ["one","other"]) (z_max:mg "max" = none) (z_min:mg "min" = none) (h_last_time:Df P w K mg base "last_time" 1 ["stretch"] false (m_last_time)):Df P w K mg base "least" 2 ["one","other"] false m_least:=df_of (N:=["one","other","first","last","size"]) (fr:=false) (F:=b_least) S_least sc_least (by decide) fun f cdv A outer s H E hr=>by
 have nd:=sc_least.nd
 exact (by refine xs_cons ?_ ?_;exact (xs_set 2 nd (xb cd_min z_min (xa_cons (xix (xv 0) xint) (xa_cons (xix (xv 1) xint) xa_nil))));exact (by refine xs_cons ?_ ?_;exact (xs_set 3 nd (xb cd_max z_max (xa_cons (xcall (h_last_time.mono (by omega)) hr (xa_cons (xv 0) xa_nil)) (xa_cons (xcall (h_last_time.mono (by omega)) hr (xa_cons (xv 1) xa_nil)) xa_nil))));exact (by refine xs_cons ?_ ?_;exact (xs_set 4 nd (xop od_shl xint (xbits (xop od_xor (xv 2) (xv 3)))));exact (by refine xs_cons ?_ ?_;exact (xs_ret (xtup (xa_cons (xop od_mul (xop od_div (xv 2) (xv 4)) (xv 4)) (xa_cons (xv 4) xa_nil))));exact xs_nil))))
theorem sc_stretch_of:FnScope ["tree"] ["tree"] (defScope s_stretch_of):=⟨rfl,rfl,rfl,by decide +kernel,rfl,by decide +kernel,by decide +kernel⟩
theorem df_stretch_of (S_stretch_of:Src K mg "stretch_of" s_stretch_of ["tree"]):Df P w K mg base "stretch_of" 1 ["tree"] false m_stretch_of:=df_of (N:=["tree"]) (fr:=false) (F:=b_stretch_of) S_stretch_of sc_stretch_of (by decide) fun f cdv A outer s H E hr=>by
 have nd:=sc_stretch_of.nd
 exact (by refine xs_cons ?_ ?_;exact (xs_ret (xtup (xa_cons (xix (xv 0) xint) (xa_cons (xix (xv 0) xint) xa_nil))));exact xs_nil)
theorem sc_total_of:FnScope ["tree"] ["tree"] (defScope s_total_of):=⟨rfl,rfl,rfl,by decide +kernel,rfl,by decide +kernel,by decide +kernel⟩
theorem df_total_of (S_total_of:Src K mg "total_of" s_total_of ["tree"]):Df P w K mg base "total_of" 1 ["tree"] false m_total_of:=df_of (N:=["tree"]) (fr:=false) (F:=b_total_of) S_total_of sc_total_of (by decide) fun f cdv A outer s H E hr=>by
 have nd:=sc_total_of.nd
 exact (by refine xs_cons ?_ ?_;exact (xs_ret (xix (xv 0) xint));exact xs_nil)
theorem sc_is_leaf:FnScope ["tree"] ["tree"] (defScope s_is_leaf):=⟨rfl,rfl,rfl,by decide +kernel,rfl,by decide +kernel,by decide +kernel⟩
theorem df_is_leaf (S_is_leaf:Src K mg "is_leaf" s_is_leaf ["tree"]):Df P w K mg base "is_leaf" 1 ["tree"] false m_is_leaf:=df_of (N:=["tree"]) (fr:=false) (F:=b_is_leaf) S_is_leaf sc_is_leaf (by decide) fun f cdv A outer s H E hr=>by
 have nd:=sc_is_leaf.nd
 exact (by refine xs_cons ?_ ?_;exact (xs_ret (xcmp (od_eq hr.units) (xix (xv 0) xint) xint (nomark _)));exact xs_nil)
theorem sc_parts:FnScope ["tree"] ["tree"] (defScope s_parts):=⟨rfl,rfl,rfl,by decide +kernel,rfl,by decide +kernel,by decide +kernel⟩
theorem df_parts (S_parts:Src K mg "parts" s_parts ["tree"]):Df P w K mg base "parts" 1 ["tree"] false m_parts:=df_of (N:=["tree"]) (fr:=false) (F:=b_parts) S_parts sc_parts (by decide) fun f cdv A outer s H E hr=>by
 have nd:=sc_parts.nd
 exact (by refine xs_cons ?_ ?_;exact (xs_ret (toW (m:=.F) (xlst (xa_cons (xix (xvS 0) xint) (xa_cons (xix (xvS 0) xint) xa_nil)))));exact xs_nil)
theorem sc_Kind__lone:FnScope ["self","at","deed"] ["self","at","deed"] (defScope s_Kind__lone):=⟨rfl,rfl,rfl,by decide +kernel,rfl,by decide +kernel,by decide +kernel⟩
theorem df_Kind__lone {f_Kind__lone:Addr} {fd_Kind__lone:FuncData} (S_Kind__lone:Fun K "lone" "Kind.lone" s_Kind__lone f_Kind__lone fd_Kind__lone):FnOk P w K mg base CX0 1 f_Kind__lone fd_Kind__lone ["self","at","deed"] (spD K false 3 m_Kind__lone):=fn_ofM S_Kind__lone sc_Kind__lone (by decide) fun f cdv A outer s H E hr=>by
 have nd:=sc_Kind__lone.nd
 exact (by refine xs_cons ?_ ?_;exact (xs_ret xint);exact xs_nil)
theorem sc_leaf:FnScope ["kind","at","deed"] ["kind","at","deed"] (defScope s_leaf):=⟨rfl,rfl,rfl,by decide +kernel,rfl,by decide +kernel,by decide +kernel⟩
theorem df_leaf (S_leaf:Src K mg "leaf" s_leaf ["kind","at","deed"]) (hm_Kind_lone:MDf P w K mg base "Kind" "lone" 1 ["self","at","deed"] false (m_Kind__lone)):Df P w K mg base "leaf" 2 ["kind","at","deed"] false m_leaf:=df_of (N:=["kind","at","deed"]) (fr:=false) (F:=b_leaf) S_leaf sc_leaf (by decide) fun f cdv A outer s H E hr=>by
 have nd:=sc_leaf.nd
 exact (by refine xs_cons ?_ ?_;exact (xs_ret (xtup (xa_cons (xv 1) (xa_cons xint (xa_cons (xmeth (MAll.cons (hm_Kind_lone.mono (by omega)) rfl MAll.nil) hr (xv 0) (xa_cons (xv 1) (xa_cons (xv 2) xa_nil))) (xa_cons (xv 2) xa_nil))))));exact xs_nil)
theorem sc_Kind__joined:FnScope ["self","one","other"] ["self","one","other"] (defScope s_Kind__joined):=⟨rfl,rfl,rfl,by decide +kernel,rfl,by decide +kernel,by decide +kernel⟩
theorem df_Kind__joined {f_Kind__joined:Addr} {fd_Kind__joined:FuncData} (S_Kind__joined:Fun K "joined" "Kind.joined" s_Kind__joined f_Kind__joined fd_Kind__joined):FnOk P w K mg base CX0 1 f_Kind__joined fd_Kind__joined ["self","one","other"] (spD K false 3 m_Kind__joined):=fn_ofM S_Kind__joined sc_Kind__joined (by decide) fun f cdv A outer s H E hr=>by
 have nd:=sc_Kind__joined.nd
 exact (by refine xs_cons ?_ ?_;exact (xs_ret (xop od_add (xv 1) (xv 2)));exact xs_nil)
theorem sc_knot:FnScope ["kind","left","right","stretch","total"] ["kind","left","right"] (defScope s_knot):=⟨rfl,rfl,rfl,by decide +kernel,rfl,by decide +kernel,by decide +kernel⟩
theorem df_knot (S_knot:Src K mg "knot" s_knot ["kind","left","right"]) (h_least:Df P w K mg base "least" 2 ["one","other"] false (m_least)) (h_stretch_of:Df P w K mg base "stretch_of" 1 ["tree"] false (m_stretch_of)) (h_total_of:Df P w K mg base "total_of" 1 ["tree"] false (m_total_of)) (hm_Kind_joined:MDf P w K mg base "Kind" "joined" 1 ["self","one","other"] false (m_Kind__joined)):Df P w K mg base "knot" 3 ["kind","left","right"] false m_knot:=df_of (N:=["kind","left","right","stretch","total"]) (fr:=false) (F:=b_knot) S_knot sc_knot (by decide) fun f cdv A outer s H E hr=>by
 have nd:=sc_knot.nd
 exact (by refine xs_cons ?_ ?_;exact (xs_set 3 nd (xcall (h_least.mono (by omega)) hr (xa_cons (xcall (h_stretch_of.mono (by omega)) hr (xa_cons (xvS 1) xa_nil)) (xa_cons (xcall (h_stretch_of.mono (by omega)) hr (xa_cons (xvS 2) xa_nil)) xa_nil))));exact (by refine xs_cons ?_ ?_;exact (xs_set 4 nd (xmeth (MAll.cons (hm_Kind_joined.mono (by omega)) rfl MAll.nil) hr (xvS 0) (xa_cons (xcall (h_total_of.mono (by omega)) hr (xa_cons (xvS 1) xa_nil)) (xa_cons (xcall (h_total_of.mono (by omega)) hr (xa_cons (xvS 2) xa_nil)) xa_nil))));exact (by refine xs_cons ?_ ?_;exact (xs_ret (xtup (xa_cons (xix (xv 3) xint) (xa_cons (xix (xv 3) xint) (xa_cons (xv 4) (xa_cons (xv 1) (xa_cons (xv 2) xa_nil)))))));exact xs_nil)))
theorem sc_beside:FnScope ["kind","tree","other"] ["kind","tree","other"] (defScope s_beside):=⟨rfl,rfl,rfl,by decide +kernel,rfl,by decide +kernel,by decide +kernel⟩
theorem df_beside (S_beside:Src K mg "beside" s_beside ["kind","tree","other"]) (h_knot:Df P w K mg base "knot" 3 ["kind","left","right"] false (m_knot)):Df P w K mg base "beside" 4 ["kind","tree","other"] false m_beside:=df_of (N:=["kind","tree","other"]) (fr:=false) (F:=b_beside) S_beside sc_beside (by decide) fun f cdv A outer s H E hr=>by
 have nd:=sc_beside.nd
 exact (by refine xs_cons ?_ ?_;exact (xs_if (xt_cmp od_lt (xix (xv 2) xint) (xix (xv 1) xint) (nomark _)) (by refine xs_cons ?_ ?_;exact (xs_ret (xcall (h_knot.mono (by omega)) hr (xa_cons (xv 0) (xa_cons (xv 2) (xa_cons (xv 1) xa_nil)))));exact xs_nil) xs_nil);exact (by refine xs_cons ?_ ?_;exact (xs_ret (xcall (h_knot.mono (by omega)) hr (xa_cons (xv 0) (xa_cons (xv 1) (xa_cons (xv 2) xa_nil)))));exact xs_nil))
theorem sc_is_early:FnScope ["tree","at"] ["tree","at"] (defScope s_is_early):=⟨rfl,rfl,rfl,by decide +kernel,rfl,by decide +kernel,by decide +kernel⟩
theorem df_is_early (S_is_early:Src K mg "is_early" s_is_early ["tree","at"]) (h_halves:Df P w K mg base "halves" 1 ["stretch"] false (m_halves)) (h_holds:Df P w K mg base "holds" 2 ["stretch","number"] false (m_holds)) (h_stretch_of:Df P w K mg base "stretch_of" 1 ["tree"] false (m_stretch_of)):Df P w K mg base "is_early" 3 ["tree","at"] false m_is_early:=df_of (N:=["tree","at"]) (fr:=false) (F:=b_is_early) S_is_early sc_is_early (by decide) fun f cdv A outer s H E hr=>by
 have nd:=sc_is_early.nd
 exact (by refine xs_cons ?_ ?_;exact (xs_ret (xcall (h_holds.mono (by omega)) hr (xa_cons (xix (xcall (h_halves.mono (by omega)) hr (xa_cons (xcall (h_stretch_of.mono (by omega)) hr (xa_cons (xv 0) xa_nil)) xa_nil)) xint) (xa_cons (xv 1) xa_nil))));exact xs_nil)
theorem sc_put_in:FnScope ["kind","tree","at","deed"] ["kind","tree","at","deed"] (defScope s_put_in):=⟨rfl,rfl,rfl,by decide +kernel,rfl,by decide +kernel,by decide +kernel⟩
theorem df_put_in (S_put_in:Src K mg "put_in" s_put_in ["kind","tree","at","deed"]) (h_beside:Df P w K mg base "beside" 4 ["kind","tree","other"] false (m_beside)) (h_holds:Df P w K mg base "holds" 2 ["stretch","number"] false (m_holds)) (h_is_early:Df P w K mg base "is_early" 3 ["tree","at"] false (m_is_early)) (h_is_leaf:Df P w K mg base "is_leaf" 1 ["tree"] false (m_is_leaf)) (h_knot:Df P w K mg base "knot" 3 ["kind","left","right"] false (m_knot)) (h_leaf:Df P w K mg base "leaf" 2 ["kind","at","deed"] false (m_leaf)) (h_stretch_of:Df P w K mg base "stretch_of" 1 ["tree"] false (m_stretch_of)):∀ n:Nat,Df P w K mg base "put_in" (5 + n) ["kind","tree","at","deed"] false (m_put_in n)
 | 0=>df_bad S_put_in
 | n + 1=>by
  have h_put_in:=df_put_in S_put_in h_beside h_holds h_is_early h_is_leaf h_knot h_leaf h_stretch_of n
  exact df_of (N:=["kind","tree","at","deed"]) (fr:=false) (F:=b_put_in (m_put_in n)) S_put_in sc_put_in (by decide) fun f cdv A outer s H E hr=>by
   have nd:=sc_put_in.nd
   replace hr:Room (5 + n) _:=hr
   exact (by refine xs_cons ?_ ?_;exact (xs_if (xt_isN (xv 1)) (by refine xs_cons ?_ ?_;exact (xs_ret (xcall (h_leaf.mono (by omega)) hr (xa_cons (xv 0) (xa_cons (xv 2) (xa_cons (xv 3) xa_nil)))));exact xs_nil) xs_nil);exact (by refine xs_cons ?_ ?_;exact (xs_if (xt_not (xt (xcall (h_holds.mono (by omega)) hr (xa_cons (xcall (h_stretch_of.mono (by omega)) hr (xa_cons (xv 1) xa_nil)) (xa_cons (xv 2) xa_nil))))) (by refine xs_cons ?_ ?_;exact (xs_ret (xcall (h_beside.mono (by omega)) hr (xa_cons (xv 0) (xa_cons (xv 1) (xa_cons (xcall (h_leaf.mono (by omega)) hr (xa_cons (xv 0) (xa_cons (xv 2) (xa_cons (xv 3) xa_nil)))) xa_nil)))));exact xs_nil) xs_nil);exact (by refine xs_cons ?_ ?_;exact (xs_if (xt (xcall (h_is_leaf.mono (by omega)) hr (xa_cons (xv 1) xa_nil))) (by refine xs_cons ?_ ?_;exact xs_raise;exact xs_nil) xs_nil);exact (by refine xs_cons ?_ ?_;exact (xs_if (xt (xcall (h_is_early.mono (by omega)) hr (xa_cons (xv 1) (xa_cons (xv 2) xa_nil)))) (by refine xs_cons ?_ ?_;exact (xs_ret (xcall (h_knot.mono (by omega)) hr (xa_cons (xv 0) (xa_cons (xcall (h_put_in.mono (by omega)) hr (xa_cons (xv 0) (xa_cons (xix (xv 1) xint) (xa_cons (xv 2) (xa_cons (xv 3) xa_nil))))) (xa_cons (xix (xv 1) xint) xa_nil)))));exact xs_nil) xs_nil);exact (by refine xs_cons ?_ ?_;exact (xs_ret (xcall (h_knot.mono (by omega)) hr (xa_cons (xv 0) (xa_cons (xix (xv 1) xint) (xa_cons (xcall (h_put_in.mono (by omega)) hr (xa_cons (xv 0) (xa_cons (xix (xv 1) xint) (xa_cons (xv 2) (xa_cons (xv 3) xa_nil))))) xa_nil)))));exact xs_nil)))))
theorem sc_what_is_left:FnScope ["kind","left","right"] ["kind","left","right"] (defScope s_what_is_left):=⟨rfl,rfl,rfl,by decide +kernel,rfl,by decide +kernel,by decide +kernel⟩
theorem df_what_is_left (S_what_is_left:Src K mg "what_is_left" s_what_is_left ["kind","left","right"]) (h_knot:Df P w K mg base "knot" 3 ["kind","left","right"] false (m_knot)):Df P w K mg base "what_is_left" 4 ["kind","left","right"] false m_what_is_left:=df_of (N:=["kind","left","right"]) (fr:=false) (F:=b_what_is_left) S_what_is_left sc_what_is_left (by decide) fun f cdv A outer s H E hr=>by
 have nd:=sc_what_is_left.nd
 exact (by refine xs_cons ?_ ?_;exact (xs_if (xt_isN (xv 1)) (by refine xs_cons ?_ ?_;exact (xs_ret (xv 2));exact xs_nil) xs_nil);exact (by refine xs_cons ?_ ?_;exact (xs_if (xt_isN (xv 2)) (by refine xs_cons ?_ ?_;exact (xs_ret (xv 1));exact xs_nil) xs_nil);exact (by refine xs_cons ?_ ?_;exact (xs_ret (xcall (h_knot.mono (by omega)) hr (xa_cons (xv 0) (xa_cons (xv 1) (xa_cons (xv 2) xa_nil)))));exact xs_nil)))
theorem sc_taken_out:FnScope ["kind","tree","at"] ["kind","tree","at"] (defScope s_taken_out):=⟨rfl,rfl,rfl,by decide +kernel,rfl,by decide +kernel,by decide +kernel⟩
theorem df_taken_out (S_taken_out:Src K mg "taken_out" s_taken_out ["kind","tree","at"]) (h_holds:Df P w K mg base "holds" 2 ["stretch","number"] false (m_holds)) (h_is_early:Df P w K mg base "is_early" 3 ["tree","at"] false (m_is_early)) (h_is_leaf:Df P w K mg base "is_leaf" 1 ["tree"] false (m_is_leaf)) (h_stretch_of:Df P w K mg base "stretch_of" 1 ["tree"] false (m_stretch_of)) (h_what_is_left:Df P w K mg base "what_is_left" 4 ["kind","left","right"] false (m_what_is_left)):∀ n:Nat,Df P w K mg base "taken_out" (5 + n) ["kind","tree","at"] false (m_taken_out n)
 | 0=>df_bad S_taken_out
 | n + 1=>by
  have h_taken_out:=df_taken_out S_taken_out h_holds h_is_early h_is_leaf h_stretch_of h_what_is_left n
  exact df_of (N:=["kind","tree","at"]) (fr:=false) (F:=b_taken_out (m_taken_out n)) S_taken_out sc_taken_out (by decide) fun f cdv A outer s H E hr=>by
   have nd:=sc_taken_out.nd
   replace hr:Room (5 + n) _:=hr
   exact (by refine xs_cons ?_ ?_;exact (xs_if (PW.pt (xw_or (xt_isN (xv 1)) (xw_or1 (xt_not (xt (xcall (h_holds.mono (by omega)) hr (xa_cons (xcall (h_stretch_of.mono (by omega)) hr (xa_cons (xv 1) xa_nil)) (xa_cons (xv 2) xa_nil)))))))) (by refine xs_cons ?_ ?_;exact xs_raise;exact xs_nil) xs_nil);exact (by refine xs_cons ?_ ?_;exact (xs_if (xt (xcall (h_is_leaf.mono (by omega)) hr (xa_cons (xv 1) xa_nil))) (by refine xs_cons ?_ ?_;exact (xs_ret xnon);exact xs_nil) xs_nil);exact (by refine xs_cons ?_ ?_;exact (xs_if (xt (xcall (h_is_early.mono (by omega)) hr (xa_cons (xv 1) (xa_cons (xv 2) xa_nil)))) (by refine xs_cons ?_ ?_;exact (xs_ret (xcall (h_what_is_left.mono (by omega)) hr (xa_cons (xv 0) (xa_cons (xcall (h_taken_out.mono (by omega)) hr (xa_cons (xv 0) (xa_cons (xix (xv 1) xint) (xa_cons (xv 2) xa_nil)))) (xa_cons (xix (xv 1) xint) xa_nil)))));exact xs_nil) xs_nil);exact (by refine xs_cons ?_ ?_;exact (xs_ret (xcall (h_what_is_left.mono (by omega)) hr (xa_cons (xv 0) (xa_cons (xix (xv 1) xint) (xa_cons (xcall (h_taken_out.mono (by omega)) hr (xa_cons (xv 0) (xa_cons (xix (xv 1) xint) (xa_cons (xv 2) xa_nil)))) xa_nil)))));exact xs_nil))))
theorem sc_deeds_of:FnScope ["tree"] ["tree"] (defScope s_deeds_of):=⟨rfl,rfl,rfl,by decide +kernel,rfl,by decide +kernel,by decide +kernel⟩
theorem df_deeds_of (S_deeds_of:Src K mg "deeds_of" s_deeds_of ["tree"]) (h_is_leaf:Df P w K mg base "is_leaf" 1 ["tree"] false (m_is_leaf)):∀ n:Nat,Df P w K mg base "deeds_of" (2 + n) ["tree"] true (m_deeds_of n)
 | 0=>df_bad S_deeds_of
 | n + 1=>by
  have h_deeds_of:=df_deeds_of S_deeds_of h_is_leaf n
  exact df_of (N:=["tree"]) (fr:=true) (F:=b_deeds_of (m_deeds_of n)) S_deeds_of sc_deeds_of (by decide) fun f cdv A outer s H E hr=>by
   have nd:=sc_deeds_of.nd
   replace hr:Room (2 + n) _:=hr
   exact (by refine xs_cons ?_ ?_;exact (xs_if (xt_isN (xv 0)) (by refine xs_cons ?_ ?_;exact (xs_retF (xlst xa_nil));exact xs_nil) xs_nil);exact (by refine xs_cons ?_ ?_;exact (xs_if (xt (xcall (h_is_leaf.mono (by omega)) hr (xa_cons (xv 0) xa_nil))) (by refine xs_cons ?_ ?_;exact (xs_retF (xlst (xa_cons (xtup (xa_cons (xix (xvS 0) xint) (xa_cons (xix (xvS 0) xint) xa_nil))) xa_nil)));exact xs_nil) xs_nil);exact (by refine xs_cons ?_ ?_;exact (xs_retF (xcat (toS (xcallF (h_deeds_of.mono (by omega)) hr (xa_cons (xix (xvS 0) xint) xa_nil))) (toS (xcallF (h_deeds_of.mono (by omega)) hr (xa_cons (xix (xvS 0) xint) xa_nil)))));exact xs_nil)))
theorem sc_one_step_down:FnScope ["tree","stretch","both"] ["tree","stretch"] (defScope s_one_step_down):=⟨rfl,rfl,rfl,by decide +kernel,rfl,by decide +kernel,by decide +kernel⟩
theorem df_one_step_down (S_one_step_down:Src K mg "one_step_down" s_one_step_down ["tree","stretch"]) (h_halves:Df P w K mg base "halves" 1 ["stretch"] false (m_halves)) (h_is_leaf:Df P w K mg base "is_leaf" 1 ["tree"] false (m_is_leaf)) (h_stretch_of:Df P w K mg base "stretch_of" 1 ["tree"] false (m_stretch_of)) (h_within:Df P w K mg base "within" 3 ["one","other"] false (m_within)):Df P w K mg base "one_step_down" 4 ["tree","stretch"] false m_one_step_down:=df_of (N:=["tree","stretch","both"]) (fr:=false) (F:=b_one_step_down) S_one_step_down sc_one_step_down (by decide) fun f cdv A outer s H E hr=>by
 have nd:=sc_one_step_down.nd
 exact (by refine xs_cons ?_ ?_;exact (xs_if (xt (xcall (h_is_leaf.mono (by omega)) hr (xa_cons (xv 0) xa_nil))) (by refine xs_cons ?_ ?_;exact (xs_ret xnon);exact xs_nil) xs_nil);exact (by refine xs_cons ?_ ?_;exact (xs_set 2 nd (xcall (h_halves.mono (by omega)) hr (xa_cons (xcall (h_stretch_of.mono (by omega)) hr (xa_cons (xvS 0) xa_nil)) xa_nil)));exact (by refine xs_cons ?_ ?_;exact (xs_if (xt (xcall (h_within.mono (by omega)) hr (xa_cons (xv 1) (xa_cons (xix (xv 2) xint) xa_nil)))) (by refine xs_cons ?_ ?_;exact (xs_ret (xix (xv 0) xint));exact xs_nil) xs_nil);exact (by refine xs_cons ?_ ?_;exact (xs_if (xt (xcall (h_within.mono (by omega)) hr (xa_cons (xv 1) (xa_cons (xix (xv 2) xint) xa_nil)))) (by refine xs_cons ?_ ?_;exact (xs_ret (xix (xv 0) xint));exact xs_nil) xs_nil);exact (by refine xs_cons ?_ ?_;exact (xs_ret xnon);exact xs_nil)))))
theorem sc_inside:FnScope ["tree","stretch","there"] ["tree","stretch"] (defScope s_inside):=⟨rfl,rfl,rfl,by decide +kernel,rfl,by decide +kernel,by decide +kernel⟩
theorem df_inside (S_inside:Src K mg "inside" s_inside ["tree","stretch"]) (h_one_step_down:Df P w K mg base "one_step_down" 4 ["tree","stretch"] false (m_one_step_down)) (h_stretch_of:Df P w K mg base "stretch_of" 1 ["tree"] false (m_stretch_of)) (h_within:Df P w K mg base "within" 3 ["one","other"] false (m_within)):Df P w K mg base "inside" 5 ["tree","stretch"] false m_inside:=df_of (N:=["tree","stretch","there"]) (fr:=false) (F:=b_inside) S_inside sc_inside (by decide) fun f cdv A outer s H E hr=>by
 have nd:=sc_inside.nd
 exact (by refine xs_cons ?_ ?_;exact (xs_set 2 nd (xvS 0));exact (by refine xs_cons ?_ ?_;exact (xs_while 40 PassesOwn.never (PW.pt (xw_and (xt_notN (xv 2)) (xw_and1 (xt_not (xt (xcall (h_within.mono (by omega)) hr (xa_cons (xcall (h_stretch_of.mono (by omega)) hr (xa_cons (xv 2) xa_nil)) (xa_cons (xv 1) xa_nil)))))))) (by refine xs_cons ?_ ?_;exact (xs_set 2 nd (xcall (h_one_step_down.mono (by omega)) hr (xa_cons (xvS 2) (xa_cons (xvS 1) xa_nil))));exact xs_nil));exact (by refine xs_cons ?_ ?_;exact (xs_ret (xv 2));exact xs_nil)))
theorem sc_touched:FnScope ["old","new","found","part"] ["old","new"] (defScope s_touched):=⟨rfl,rfl,rfl,by decide +kernel,rfl,by decide +kernel,by decide +kernel⟩
theorem df_touched (S_touched:Src K mg "touched" s_touched ["old","new"]) (h_inside:Df P w K mg base "inside" 5 ["tree","stretch"] false (m_inside)) (h_is_leaf:Df P w K mg base "is_leaf" 1 ["tree"] false (m_is_leaf)) (h_parts:Df P w K mg base "parts" 1 ["tree"] false (m_parts)) (h_stretch_of:Df P w K mg base "stretch_of" 1 ["tree"] false (m_stretch_of)):∀ n:Nat,Df P w K mg base "touched" (6 + n) ["old","new"] true (m_touched n)
 | 0=>df_bad S_touched
 | n + 1=>by
  have h_touched:=df_touched S_touched h_inside h_is_leaf h_parts h_stretch_of n
  exact df_of (N:=["old","new","found","part"]) (fr:=true) (F:=b_touched (m_touched n)) S_touched sc_touched (by decide) fun f cdv A outer s H E hr=>by
   have nd:=sc_touched.nd
   replace hr:Room (6 + n) _:=hr
   exact (by refine xs_cons ?_ ?_;exact (xs_if (PW.pt (xw_or (xt_isN (xv 1)) (xw_or1 (xt_cmp (od_eq hr.units) (xcall (h_inside.mono (by omega)) hr (xa_cons (xv 0) (xa_cons (xcall (h_stretch_of.mono (by omega)) hr (xa_cons (xv 1) xa_nil)) xa_nil))) (xv 1) (nomark _))))) (by refine xs_cons ?_ ?_;exact (xs_retF (xlst xa_nil));exact xs_nil) xs_nil);exact (by refine xs_cons ?_ ?_;exact (xs_own 2 nd (xlst (xa_cons (xcall (h_stretch_of.mono (by omega)) hr (xa_cons (xvS 1) xa_nil)) xa_nil)));exact (by refine xs_cons ?_ ?_;exact (xs_if (xt_not (xt (xcall (h_is_leaf.mono (by omega)) hr (xa_cons (xv 1) xa_nil)))) (by refine xs_cons ?_ ?_;exact (xs_for PassesOwn.never rfl (xcall (h_parts.mono (by omega)) hr (xa_cons (xvS 1) xa_nil)) (xg_name 3 nd) (by refine xs_cons ?_ ?_;exact (xs_ext 2 (toS (xcallF (h_touched.mono (by omega)) hr (xa_cons (xvS 0) (xa_cons (xvS 3) xa_nil)))));exact xs_nil));exact xs_nil) xs_nil);exact (by refine xs_cons ?_ ?_;exact (xs_retO 2);exact xs_nil))))
theorem sc_parted:FnScope ["old","new","before","behind"] ["old","new"] (defScope s_parted):=⟨rfl,rfl,rfl,by decide +kernel,rfl,by decide +kernel,by decide +kernel⟩
theorem df_parted (S_parted:Src K mg "parted" s_parted ["old","new"]) (z_dict:mg "dict" = none) (z_set:mg "set" = none) (z_sorted:mg "sorted" = none) (h_deeds_of:Df P w K mg base "deeds_of" 66 ["tree"] true (m_deeds_of 64)):Df P w K mg base "parted" 67 ["old","new"] true m_parted:=df_of (N:=["old","new","before","behind"]) (fr:=true) (F:=b_parted) S_parted sc_parted (by decide) fun f cdv A outer s H E hr=>by
 have nd:=sc_parted.nd
 exact (by refine xs_cons ?_ ?_;exact (xs_set 2 nd (toS (xdictP z_dict (toS (xcallF (h_deeds_of.mono (by omega)) hr (xa_cons (xvS 0) xa_nil))))));exact (by refine xs_cons ?_ ?_;exact (xs_set 3 nd (toS (xdictP z_dict (toS (xcallF (h_deeds_of.mono (by omega)) hr (xa_cons (xvS 1) xa_nil))))));exact (by refine xs_cons ?_ ?_;exact (xs_retF (by refine CompR.pe ?_;refine xcompL (N':=["at","before","behind"]) (k:=1) (ix:=[2,3]) (cnames _ ["old","new","before","behind"] ?_) ?_ fun _ _ _ _ _=>⟨?_,?_,?_⟩;exact (by first | decide +kernel | (change cnOk (defScope s_parted) _ _ _ _ _=true;decide +kernel));exact (toS (xsortU z_sorted z_set (xv 2) (xv 3)));exact (xg_name 0 (show (["at","before","behind"]:List Str).Nodup from by decide +kernel));exact (pcs_one (xt_cmp (od_ne hr.units) (xdget1 hr.units (xv 1) (xv 0)) (xdget1 hr.units (xv 2) (xv 0)) (nomark _)));exact (xvS 0)));exact xs_nil)))
theorem sc__law_cell_at:FnScope ["_law_script","_law_k"] ["_law_script","_law_k"] (defScope s__law_cell_at):=⟨rfl,rfl,rfl,by decide +kernel,rfl,by decide +kernel,by decide +kernel⟩
theorem df__law_cell_at (S__law_cell_at:Src K mg "_law_cell_at" s__law_cell_at ["_law_script","_law_k"]) (z_len:mg "len" = none):Df P w K mg base "_law_cell_at" 1 ["_law_script","_law_k"] false m__law_cell_at:=df_of (N:=["_law_script","_law_k"]) (fr:=false) (F:=b__law_cell_at) S__law_cell_at sc__law_cell_at (by decide) fun f cdv A outer s H E hr=>by
 have nd:=sc__law_cell_at.nd
 exact (by refine xs_cons ?_ ?_;exact (xs_if (xt_cmp od_lt (xv 1) (xb cd_len z_len (xa_cons (xv 0) xa_nil)) (nomark _)) (by refine xs_cons ?_ ?_;exact (xs_ret (xix (xv 0) (xv 1)));exact xs_nil) xs_nil);exact (by refine xs_cons ?_ ?_;exact (xs_ret xint);exact xs_nil))
theorem sc__law_time:FnScope ["_law_cell","_law_rest"] ["_law_cell"] (defScope s__law_time):=⟨rfl,rfl,rfl,by decide +kernel,rfl,by decide +kernel,by decide +kernel⟩
theorem df__law_time (S__law_time:Src K mg "_law_time" s__law_time ["_law_cell"]):Df P w K mg base "_law_time" 1 ["_law_cell"] false m__law_time:=df_of (N:=["_law_cell","_law_rest"]) (fr:=false) (F:=b__law_time) S__law_time sc__law_time (by decide) fun f cdv A outer s H E hr=>by
 have nd:=sc__law_time.nd
 exact (by refine xs_cons ?_ ?_;exact (xs_set 1 nd (xop od_div (xv 0) xint));exact (by refine xs_cons ?_ ?_;exact (xs_if (xt_cmp (od_eq hr.units) (xop od_mod (xv 0) xint) xint (nomark _)) (by refine xs_cons ?_ ?_;exact (xs_ret (xop od_mod (xv 1) xint));exact xs_nil) xs_nil);exact (by refine xs_cons ?_ ?_;exact (xs_if (xt_cmp (od_eq hr.units) (xop od_mod (xv 0) xint) xint (nomark _)) (by refine xs_cons ?_ ?_;exact (xs_ret (xop od_sub xint (xop od_mod (xv 1) xint)));exact xs_nil) xs_nil);exact (by refine xs_cons ?_ ?_;exact (xs_ret (xop od_mod (xv 1) xint));exact xs_nil))))
theorem sc__law_tree:FnScope ["_law_rows","_law_first","_law_last","_law_size","_law_half","_law_early","_law_late"] ["_law_rows"] (defScope s__law_tree):=⟨rfl,rfl,rfl,by decide +kernel,rfl,by decide +kernel,by decide +kernel⟩
theorem df__law_tree (S__law_tree:Src K mg "_law_tree" s__law_tree ["_law_rows"]) (z_len:mg "len" = none):∀ n:Nat,Df P w K mg base "_law_tree" (1 + n) ["_law_rows"] false (m__law_tree n)
 | 0=>df_bad S__law_tree
 | n + 1=>by
  have h__law_tree:=df__law_tree S__law_tree z_len n
  exact df_of (N:=["_law_rows","_law_first","_law_last","_law_size","_law_half","_law_early","_law_late"]) (fr:=false) (F:=b__law_tree (m__law_tree n)) S__law_tree sc__law_tree (by decide) fun f cdv A outer s H E hr=>by
   have nd:=sc__law_tree.nd
   replace hr:Room (1 + n) _:=hr
   exact (by refine xs_cons ?_ ?_;exact (xs_if (xt_cmp (od_eq hr.units) (xb cd_len z_len (xa_cons (xv 0) xa_nil)) xint (nomark _)) (by refine xs_cons ?_ ?_;exact (xs_ret xnon);exact xs_nil) xs_nil);exact (by refine xs_cons ?_ ?_;exact (xs_set 1 nd (xix (xix (xvS 0) xint) xint));exact (by refine xs_cons ?_ ?_;exact (xs_set 2 nd (xix (xix (xvS 0) (xneg xint)) xint));exact (by refine xs_cons ?_ ?_;exact (xs_if (xt_cmp (od_eq hr.units) (xb cd_len z_len (xa_cons (xv 0) xa_nil)) xint (nomark _)) (by refine xs_cons ?_ ?_;exact (xs_ret (xtup (xa_cons (xv 1) (xa_cons xint (xa_cons xint (xa_cons (xix (xix (xv 0) xint) xint) xa_nil))))));exact xs_nil) xs_nil);exact (by refine xs_cons ?_ ?_;exact (xs_set 3 nd (xop od_shl xint (xbits (xop od_xor (xv 1) (xv 2)))));exact (by refine xs_cons ?_ ?_;exact (xs_set 4 nd (xop od_add (xop od_mul (xop od_div (xv 1) (xv 3)) (xv 3)) (xop od_div (xv 3) xint)));exact (by refine xs_cons ?_ ?_;exact (xs_set 5 nd (xcall (h__law_tree.mono (by omega)) hr (xa_cons (toS (by refine CompR.pe ?_;refine xcompL (N':=["_law_row","_law_half"]) (k:=1) (ix:=[4]) (cnames _ ["_law_rows","_law_first","_law_last","_law_size","_law_half","_law_early","_law_late"] ?_) ?_ fun _ _ _ _ _=>⟨?_,?_,?_⟩;exact (by first | decide +kernel | (change cnOk (defScope s__law_tree) _ _ _ _ _=true;decide +kernel));exact (xvS 0);exact (xg_name 0 (show (["_law_row","_law_half"]:List Str).Nodup from by decide +kernel));exact (pcs_one (xt_cmp od_lt (xix (xv 0) xint) (xv 1) (nomark _)));exact (xvS 0))) xa_nil)));exact (by refine xs_cons ?_ ?_;exact (xs_set 6 nd (xcall (h__law_tree.mono (by omega)) hr (xa_cons (toS (by refine CompR.pe ?_;refine xcompL (N':=["_law_row","_law_half"]) (k:=1) (ix:=[4]) (cnames _ ["_law_rows","_law_first","_law_last","_law_size","_law_half","_law_early","_law_late"] ?_) ?_ fun _ _ _ _ _=>⟨?_,?_,?_⟩;exact (by first | decide +kernel | (change cnOk (defScope s__law_tree) _ _ _ _ _=true;decide +kernel));exact (xvS 0);exact (xg_name 0 (show (["_law_row","_law_half"]:List Str).Nodup from by decide +kernel));exact (pcs_one (xt_cmp od_ge (xix (xv 0) xint) (xv 1) (nomark _)));exact (xvS 0))) xa_nil)));exact (by refine xs_cons ?_ ?_;exact (xs_ret (xtup (xa_cons (xop od_sub (xv 4) (xop od_div (xv 3) xint)) (xa_cons (xv 3) (xa_cons (xb cd_len z_len (xa_cons (xv 0) xa_nil)) (xa_cons (xv 5) (xa_cons (xv 6) xa_nil)))))));exact xs_nil)))))))))
theorem sc__law_chain:FnScope ["_law_found","_law_tree_here","_law_time_here","_law_many","_law_put","_law_low","_law_size","_law_part"] ["_law_found","_law_tree_here","_law_time_here","_law_many","_law_put"] (defScope s__law_chain):=⟨rfl,rfl,rfl,by decide +kernel,rfl,by decide +kernel,by decide +kernel⟩
theorem df__law_chain (S__law_chain:Src K mg "_law_chain" s__law_chain ["_law_found","_law_tree_here","_law_time_here","_law_many","_law_put"]) (z_bool:mg "bool" = none) (z_isinstance:mg "isinstance" = none) (z_len:mg "len" = none) (z_list:mg "list" = none) (z_tuple:mg "tuple" = none):Df P w K mg base "_law_chain" 1 ["_law_found","_law_tree_here","_law_time_here","_law_many","_law_put"] false m__law_chain:=df_of (N:=["_law_found","_law_tree_here","_law_time_here","_law_many","_law_put","_law_low","_law_size","_law_part"]) (fr:=false) (F:=b__law_chain) S__law_chain sc__law_chain (by decide) fun f cdv A outer s H E hr=>by
 have nd:=sc__law_chain.nd
 exact (by refine xs_cons ?_ ?_;exact (xs_if (PW.pt (xw_or (xt_not (xt (xis z_isinstance z_list (xv 0)))) (xw_or (xt_cmp od_gt (xb cd_len z_len (xa_cons (xv 0) xa_nil)) xint (nomark _)) (xw_or1 (xt_cmp od_gt (xb cd_len z_len (xa_cons (xv 0) xa_nil)) (xv 3) (nomark _)))))) (by refine xs_cons ?_ ?_;exact (xs_ret xbl);exact xs_nil) xs_nil);exact (by refine xs_cons ?_ ?_;exact (xs_set 5 nd xint);exact (by refine xs_cons ?_ ?_;exact (xs_set 6 nd xint);exact (by refine xs_cons ?_ ?_;exact (xs_for PassesOwn.never rfl (xvS 0) (xg_name 7 nd) (by refine xs_cons ?_ ?_;exact (xs_if (PW.pt (xw_or (xt_not (xt (xis z_isinstance z_tuple (xv 7)))) (xw_or (xt_cmp (od_ne hr.units) (xb cd_len z_len (xa_cons (xv 7) xa_nil)) xint (nomark _)) (xw_or (xt (xis z_isinstance z_bool (xix (xv 7) xint))) (xw_or1 (xt (xis z_isinstance z_bool (xix (xv 7) xint)))))))) (by refine xs_cons ?_ ?_;exact (xs_ret xbl);exact xs_nil) xs_nil);exact (by refine xs_cons ?_ ?_;exact (xs_if (PW.pt (xw_or (xt_cmp od_ge (xix (xv 7) xint) (xv 6) (nomark _)) (xw_or (xt_cmp od_lt (xix (xv 7) xint) (xv 5) (nomark _)) (xw_or1 (xt_cmp od_gt (xop od_add (xix (xv 7) xint) (xix (xv 7) xint)) (xop od_add (xv 5) (xv 6)) (nomark _)))))) (by refine xs_cons ?_ ?_;exact (xs_ret xbl);exact xs_nil) xs_nil);exact (by refine xs_cons ?_ ?_;exact (xs_set 5 nd (xix (xvS 7) xint));exact (by refine xs_cons ?_ ?_;exact (xs_set 6 nd (xix (xvS 7) xint));exact (by refine xs_cons ?_ ?_;exact (xs_if (PW.pt (xw_or (xt_cmp od_lt (xv 2) (xv 5) (nomark _)) (xw_or1 (xt_cmp od_ge (xv 2) (xop od_add (xv 5) (xv 6)) (nomark _))))) (by refine xs_cons ?_ ?_;exact (xs_ret xbl);exact xs_nil) xs_nil);exact xs_nil))))));exact (by refine xs_cons ?_ ?_;exact (xs_if (xt (xv 4)) (by refine xs_cons ?_ ?_;exact (xs_ret (xand (xcmp od_gt (xb cd_len z_len (xa_cons (xv 0) xa_nil)) xint (nomark _)) (xand (xcmp (od_eq hr.units) (xix (xv 0) xint) (xtup (xa_cons (xix (xv 1) xint) (xa_cons (xix (xv 1) xint) xa_nil))) (nomark _)) (xone (xcmp (od_eq hr.units) (xix (xv 0) (xneg xint)) (xtup (xa_cons (xv 2) (xa_cons xint xa_nil))) (nomark _))))));exact xs_nil) xs_nil);exact (by refine xs_cons ?_ ?_;exact (xs_ret (xor (xcmp (od_eq hr.units) (xb cd_len z_len (xa_cons (xv 0) xa_nil)) xint (nomark _)) (xone (xand (xnotN (xv 1)) (xone (xcmp (od_eq hr.units) (xix (xv 0) xint) (xtup (xa_cons (xix (xv 1) xint) (xa_cons (xix (xv 1) xint) xa_nil))) (nomark _)))))));exact xs_nil))))))
theorem sc__law_change:FnScope ["_law_kind","_law_tree_here","_law_known","_law_cell","_law_time_here","_law_put","_law_new"] ["_law_kind","_law_tree_here","_law_known","_law_cell"] (defScope s__law_change):=⟨rfl,rfl,rfl,by decide +kernel,rfl,by decide +kernel,by decide +kernel⟩
theorem df__law_change (S__law_change:Src K mg "_law_change" s__law_change ["_law_kind","_law_tree_here","_law_known","_law_cell"]) (z_len:mg "len" = none) (z_sorted:mg "sorted" = none) (h__law_chain:Df P w K mg base "_law_chain" 1 ["_law_found","_law_tree_here","_law_time_here","_law_many","_law_put"] false (m__law_chain)) (h__law_time:Df P w K mg base "_law_time" 1 ["_law_cell"] false (m__law_time)) (h__law_tree:Df P w K mg base "_law_tree" 65 ["_law_rows"] false (m__law_tree 64)) (h_parted:Df P w K mg base "parted" 67 ["old","new"] true (m_parted)) (h_put_in:Df P w K mg base "put_in" 69 ["kind","tree","at","deed"] false (m_put_in 64)) (h_taken_out:Df P w K mg base "taken_out" 69 ["kind","tree","at"] false (m_taken_out 64)) (h_touched:Df P w K mg base "touched" 70 ["old","new"] true (m_touched 64)):DfM P w K mg base "_law_change" 71 ["_law_kind","_law_tree_here","_law_known","_law_cell"] 2 m__law_change:=dfM_of (N:=["_law_kind","_law_tree_here","_law_known","_law_cell","_law_time_here","_law_put","_law_new"]) (j:=2) (F:=b__law_change) S__law_change sc__law_change (by decide) fun f cdv A outer s H E hr=>by
 have nd:=sc__law_change.nd
 exact (by refine xs_cons ?_ ?_;exact (xs_set 4 nd (xcall (h__law_time.mono (by omega)) hr (xa_cons (xop od_div (xv 3) xint) xa_nil)));exact (by refine xs_cons ?_ ?_;exact (xs_if (PW.pt (xw_and (xt_cmp (od_eq hr.units) (xop od_mod (xv 3) xint) xint (nomark _)) (xw_and1 (xt_cmp od_gt (xb cd_len z_len (xa_cons (xv 2) xa_nil)) xint (nomark _))))) (by refine xs_cons ?_ ?_;exact (xs_set 4 nd (xix (toS (xsortDB z_sorted (xv 2))) (xop od_mod (xop od_div (xv 3) xint) (xb cd_len z_len (xa_cons (xv 2) xa_nil)))));exact xs_nil) xs_nil);exact (by refine xs_cons ?_ ?_;exact (xs_set 5 nd (xcmp (od_dnotin hr.units) (xv 4) (xv 2) (by rfl)));exact (by refine xs_cons ?_ ?_;exact (xs_if (xt (xv 5)) (by refine xs_cons ?_ ?_;exact (xs_dput 2 hr.units (xv 4) (xtup (xa_cons xstr (xa_cons (xop od_mod (xop od_div (xv 3) xint) (xop od_pow xint xint)) xa_nil))));exact (by refine xs_cons ?_ ?_;exact (xs_set 6 nd (toUp (xcall (h_put_in.mono (by omega)) hr (xa_cons (xv 0) (xa_cons (xv 1) (xa_cons (xv 4) (xa_cons (toW (xixOD 2 hr.units (xv 4))) xa_nil)))))));exact xs_nil)) (by refine xs_cons ?_ ?_;exact (xs_dpop 2 (xv 4));exact (by refine xs_cons ?_ ?_;exact (xs_set 6 nd (xcall (h_taken_out.mono (by omega)) hr (xa_cons (xvS 0) (xa_cons (xvS 1) (xa_cons (xvS 4) xa_nil)))));exact xs_nil)));exact (by refine xs_cons ?_ ?_;exact (xs_if (PW.pt (xw_or (xt_cmp (od_ne hr.units) (xv 6) (xcall (h__law_tree.mono (by omega)) hr (xa_cons (toW (m:=.F) (by refine CompR.pe ?_;refine xcompW (N':=["_law_at","_law_known"]) (ix:=[2]) (cnames _ ["_law_kind","_law_tree_here","_law_known","_law_cell","_law_time_here","_law_put","_law_new"] ?_) ?_ fun _ _ _ _ _=>⟨?_,?_,?_⟩;exact (by first | decide +kernel | (change cnOk (defScope s__law_change) _ _ _ _ _=true;decide +kernel));exact (toS (xsortDB z_sorted (xv 2)));exact (xg0 (show (["_law_at","_law_known"]:List Str).Nodup from by decide +kernel));exact xc_yes;exact (xtup (xa_cons (xv 0) (xa_cons (xdix hr.units (xv 1) (xv 0)) xa_nil))))) xa_nil)) (nomark _)) (xw_or1 (xt_cmp (od_ne hr.units) (toW (m:=.F) (xcallF (h_parted.mono (by omega)) hr (xa_cons (xvS 1) (xa_cons (xvS 6) xa_nil)))) (toW (m:=.F) (xlst (xa_cons (xvS 4) xa_nil))) (nomark _))))) (by refine xs_cons ?_ ?_;exact (xs_retM 2 (xtup (xa_cons xbl (xa_cons (xvS 6) xa_nil))));exact xs_nil) xs_nil);exact (by refine xs_cons ?_ ?_;exact (xs_retM 2 (xtup (xa_cons (toUp (xcall (h__law_chain.mono (by omega)) hr (xa_cons (toW (m:=.F) (xcallF (h_touched.mono (by omega)) hr (xa_cons (xvS 1) (xa_cons (xvS 6) xa_nil)))) (xa_cons (xv 6) (xa_cons (xv 4) (xa_cons (xb cd_len z_len (xa_cons (xv 2) xa_nil)) (xa_cons (xv 5) xa_nil))))))) (xa_cons (xvS 6) xa_nil))));exact xs_nil))))))
theorem sc_law:FnScope ["_law_script","_law_kind","_law_head","_law_known","_law_tree_here","_law_k","_law_time_here","_law_cell","_law_right"] ["_law_script"] (defScope s_law):=⟨rfl,rfl,rfl,by decide +kernel,rfl,by decide +kernel,by decide +kernel⟩
theorem fn_law {f:Addr} {fd:FuncData} (S_law:Fun K "law" "law" s_law f fd) (z_range:mg "range" = none) {C_Kind:Addr} (k_Kind:Mk0 K C_Kind/\PySem.W.nsIn K mainGlobals "Kind" = some (some (.ref C_Kind))/\mg "Kind" = some (.ref C_Kind)) (h__law_cell_at:Df P w K mg base "_law_cell_at" 1 ["_law_script","_law_k"] false (m__law_cell_at)) (h__law_change:DfM P w K mg base "_law_change" 71 ["_law_kind","_law_tree_here","_law_known","_law_cell"] 2 (m__law_change)) (h_put_in:Df P w K mg base "put_in" 69 ["kind","tree","at","deed"] false (m_put_in 64)):FnOk P w K mg base CX0 72 f fd ["_law_script"] (spD K false 1 m_law):=fn_ofD S_law sc_law (by decide) fun f cdv A outer s H E hr=>by
 have nd:=sc_law.nd
 exact (by refine xs_cons ?_ ?_;exact (xs_set 1 nd (xmake0 k_Kind.1 k_Kind.2.1 k_Kind.2.2));exact (by refine xs_cons ?_ ?_;exact (xs_set 2 nd (xcall (h__law_cell_at.mono (by omega)) hr (xa_cons (xvS 0) (xa_cons xint xa_nil))));exact (by refine xs_cons ?_ ?_;exact (xs_own 3 nd xdnew);exact (by refine xs_cons ?_ ?_;exact (xs_set 4 nd xnon);exact (by refine xs_cons ?_ ?_;exact (xs_rng1 PassesOwn.never rfl z_range (xa_cons (xop od_mod (xop od_div (xv 2) xint) xint) xa_nil) (xg_name 5 nd) (by refine xs_cons ?_ ?_;exact (xs_set 6 nd (xop od_shl xint (xv 5)));exact (by refine xs_cons ?_ ?_;exact (xs_if (xt_cmp (od_eq hr.units) (xop od_mod (xv 2) xint) xint (nomark _)) (by refine xs_cons ?_ ?_;exact (xs_set 6 nd (xop od_sub xint (xop od_shl xint (xv 5))));exact xs_nil) xs_nil);exact (by refine xs_cons ?_ ?_;exact (xs_if (xt_cmp od_gt (xop od_mod (xv 2) xint) xint (nomark _)) (by refine xs_cons ?_ ?_;exact (xs_dput 3 hr.units (xv 6) (xtup (xa_cons xstr (xa_cons (xvS 5) xa_nil))));exact (by refine xs_cons ?_ ?_;exact (xs_set 4 nd (toUp (xcall (h_put_in.mono (by omega)) hr (xa_cons (xv 1) (xa_cons (xv 4) (xa_cons (xv 6) (xa_cons (toW (xixOD 3 hr.units (xv 6))) xa_nil)))))));exact xs_nil)) xs_nil);exact xs_nil))));exact (by refine xs_cons ?_ ?_;exact (xs_for PassesOwn.never rfl (toS (xsl (xvS 0) (po_some' xint) (po_some' xint))) (xg_name 7 nd) (by refine xs_cons ?_ ?_;exact (xs_asgM (xcallM 3 (m:=1) (h__law_change.mono (by omega)) hr (xm_cons (xvS 1) (xm_cons (xvS 4) (xm_own 3 (xm_cons (xvS 7) xm_nil))))) (xg_2 8 4 nd));exact (by refine xs_cons ?_ ?_;exact (xs_if (xt_not (xt (xv 8))) (by refine xs_cons ?_ ?_;exact (xs_ret xbl);exact xs_nil) xs_nil);exact xs_nil)));exact (by refine xs_cons ?_ ?_;exact (xs_thaw 3 (xs_ret xbl));exact xs_nil)))))))
end
theorem all_mk {l:PySem.W.OpenLaw} {w:World} {K:PySem.W.Frag} {h:Heap} {mg:Str->Option Value} {fa:Addr} (X:K.In h) (G:h.Ns mainGlobals mg) (hfa:mg "law" = some (.ref fa)) {f0:Addr} {od0 an0:Option Addr} {sl0:Array (Option Value)} {oc0 kV0 dc0 pm0 cd0 ct0:Value} {f1:Addr} {od1 an1:Option Addr} {sl1:Array (Option Value)} {oc1 kV1 dc1 pm1 cd1 ct1:Value} {f2:Addr} {od2 an2:Option Addr} {sl2:Array (Option Value)} {oc2 kV2 dc2 pm2 cd2 ct2:Value} {f3:Addr} {od3 an3:Option Addr} {sl3:Array (Option Value)} {oc3 kV3 dc3 pm3 cd3 ct3:Value} {f4:Addr} {od4 an4:Option Addr} {sl4:Array (Option Value)} {oc4 kV4 dc4 pm4 cd4 ct4:Value} {f5:Addr} {od5 an5:Option Addr} {sl5:Array (Option Value)} {oc5 kV5 dc5 pm5 cd5 ct5:Value} {f6:Addr} {od6 an6:Option Addr} {sl6:Array (Option Value)} {oc6 kV6 dc6 pm6 cd6 ct6:Value} {f7:Addr} {od7 an7:Option Addr} {sl7:Array (Option Value)} {oc7 kV7 dc7 pm7 cd7 ct7:Value} {f8:Addr} {od8 an8:Option Addr} {sl8:Array (Option Value)} {oc8 kV8 dc8 pm8 cd8 ct8:Value} {f9:Addr} {od9 an9:Option Addr} {sl9:Array (Option Value)} {oc9 kV9 dc9 pm9 cd9 ct9:Value} {f10:Addr} {od10 an10:Option Addr} {sl10:Array (Option Value)} {oc10 kV10 dc10 pm10 cd10 ct10:Value} {f11:Addr} {od11 an11:Option Addr} {sl11:Array (Option Value)} {oc11 kV11 dc11 pm11 cd11 ct11:Value} {f12:Addr} {od12 an12:Option Addr} {sl12:Array (Option Value)} {oc12 kV12 dc12 pm12 cd12 ct12:Value} {f13:Addr} {od13 an13:Option Addr} {sl13:Array (Option Value)} {oc13 kV13 dc13 pm13 cd13 ct13:Value} {f14:Addr} {od14 an14:Option Addr} {sl14:Array (Option Value)} {oc14 kV14 dc14 pm14 cd14 ct14:Value} {f15:Addr} {od15 an15:Option Addr} {sl15:Array (Option Value)} {oc15 kV15 dc15 pm15 cd15 ct15:Value} {f16:Addr} {od16 an16:Option Addr} {sl16:Array (Option Value)} {oc16 kV16 dc16 pm16 cd16 ct16:Value} {f17:Addr} {od17 an17:Option Addr} {sl17:Array (Option Value)} {oc17 kV17 dc17 pm17 cd17 ct17:Value} {f18:Addr} {od18 an18:Option Addr} {sl18:Array (Option Value)} {oc18 kV18 dc18 pm18 cd18 ct18:Value} {f19:Addr} {od19 an19:Option Addr} {sl19:Array (Option Value)} {oc19 kV19 dc19 pm19 cd19 ct19:Value} {f20:Addr} {od20 an20:Option Addr} {sl20:Array (Option Value)} {oc20 kV20 dc20 pm20 cd20 ct20:Value} {f21:Addr} {od21 an21:Option Addr} {sl21:Array (Option Value)} {oc21 kV21 dc21 pm21 cd21 ct21:Value} {f22:Addr} {od22 an22:Option Addr} {sl22:Array (Option Value)} {oc22 kV22 dc22 pm22 cd22 ct22:Value} {f23:Addr} {od23 an23:Option Addr} {sl23:Array (Option Value)} {oc23 kV23 dc23 pm23 cd23 ct23:Value} {f24:Addr} {od24 an24:Option Addr} {sl24:Array (Option Value)} {oc24 kV24 dc24 pm24 cd24 ct24:Value} {f25:Addr} {od25 an25:Option Addr} {sl25:Array (Option Value)} {oc25 kV25 dc25 pm25 cd25 ct25:Value} {f26:Addr} {od26 an26:Option Addr} {sl26:Array (Option Value)} {oc26 kV26 dc26 pm26 cd26 ct26:Value} {f27:Addr} {od27 an27:Option Addr} {sl27:Array (Option Value)} {oc27 kV27 dc27 pm27 cd27 ct27:Value} {f28:Addr} {od28 an28:Option Addr} {sl28:Array (Option Value)} {oc28 kV28 dc28 pm28 cd28 ct28:Value} {C_Kind:Addr} (aC_Kind:PySem.W.nsIn K mainGlobals "Kind" = some (some (.ref C_Kind))) (a0:PySem.W.nsIn K mainGlobals "last_time" = some (some (.ref f0))) (l0:K.lookup f0=some ⟨oc0,od0,.func (PySem.W.fnOf "last_time" "last_time" (defArgs s_last_time) (defBody s_last_time) (defScope s_last_time) .none kV0 dc0 pm0 an0 cd0 ct0),sl0⟩) (c0:PySem.W.codeIn K cd0 "last_time" = true) (k0:PySem.W.keepIn K (.ref f0)=true) (a1:PySem.W.nsIn K mainGlobals "holds" = some (some (.ref f1))) (l1:K.lookup f1=some ⟨oc1,od1,.func (PySem.W.fnOf "holds" "holds" (defArgs s_holds) (defBody s_holds) (defScope s_holds) .none kV1 dc1 pm1 an1 cd1 ct1),sl1⟩) (c1:PySem.W.codeIn K cd1 "holds" = true) (k1:PySem.W.keepIn K (.ref f1)=true) (a2:PySem.W.nsIn K mainGlobals "within" = some (some (.ref f2))) (l2:K.lookup f2=some ⟨oc2,od2,.func (PySem.W.fnOf "within" "within" (defArgs s_within) (defBody s_within) (defScope s_within) .none kV2 dc2 pm2 an2 cd2 ct2),sl2⟩) (c2:PySem.W.codeIn K cd2 "within" = true) (k2:PySem.W.keepIn K (.ref f2)=true) (a3:PySem.W.nsIn K mainGlobals "halves" = some (some (.ref f3))) (l3:K.lookup f3=some ⟨oc3,od3,.func (PySem.W.fnOf "halves" "halves" (defArgs s_halves) (defBody s_halves) (defScope s_halves) .none kV3 dc3 pm3 an3 cd3 ct3),sl3⟩) (c3:PySem.W.codeIn K cd3 "halves" = true) (k3:PySem.W.keepIn K (.ref f3)=true) (a4:PySem.W.nsIn K mainGlobals "least" = some (some (.ref f4))) (l4:K.lookup f4=some ⟨oc4,od4,.func (PySem.W.fnOf "least" "least" (defArgs s_least) (defBody s_least) (defScope s_least) .none kV4 dc4 pm4 an4 cd4 ct4),sl4⟩) (c4:PySem.W.codeIn K cd4 "least" = true) (k4:PySem.W.keepIn K (.ref f4)=true) (a5:PySem.W.nsIn K mainGlobals "stretch_of" = some (some (.ref f5))) (l5:K.lookup f5=some ⟨oc5,od5,.func (PySem.W.fnOf "stretch_of" "stretch_of" (defArgs s_stretch_of) (defBody s_stretch_of) (defScope s_stretch_of) .none kV5 dc5 pm5 an5 cd5 ct5),sl5⟩) (c5:PySem.W.codeIn K cd5 "stretch_of" = true) (k5:PySem.W.keepIn K (.ref f5)=true) (a6:PySem.W.nsIn K mainGlobals "total_of" = some (some (.ref f6))) (l6:K.lookup f6=some ⟨oc6,od6,.func (PySem.W.fnOf "total_of" "total_of" (defArgs s_total_of) (defBody s_total_of) (defScope s_total_of) .none kV6 dc6 pm6 an6 cd6 ct6),sl6⟩) (c6:PySem.W.codeIn K cd6 "total_of" = true) (k6:PySem.W.keepIn K (.ref f6)=true) (a7:PySem.W.nsIn K mainGlobals "is_leaf" = some (some (.ref f7))) (l7:K.lookup f7=some ⟨oc7,od7,.func (PySem.W.fnOf "is_leaf" "is_leaf" (defArgs s_is_leaf) (defBody s_is_leaf) (defScope s_is_leaf) .none kV7 dc7 pm7 an7 cd7 ct7),sl7⟩) (c7:PySem.W.codeIn K cd7 "is_leaf" = true) (k7:PySem.W.keepIn K (.ref f7)=true) (a8:PySem.W.nsIn K mainGlobals "parts" = some (some (.ref f8))) (l8:K.lookup f8=some ⟨oc8,od8,.func (PySem.W.fnOf "parts" "parts" (defArgs s_parts) (defBody s_parts) (defScope s_parts) .none kV8 dc8 pm8 an8 cd8 ct8),sl8⟩) (c8:PySem.W.codeIn K cd8 "parts" = true) (k8:PySem.W.keepIn K (.ref f8)=true) (a9:PySem.W.findIn K (.ref C_Kind) "lone" = some (some (.ref f9))) (l9:K.lookup f9=some ⟨oc9,od9,.func (PySem.W.fnOf "lone" "Kind.lone" (defArgs s_Kind__lone) (defBody s_Kind__lone) (defScope s_Kind__lone) .none kV9 dc9 pm9 an9 cd9 ct9),sl9⟩) (c9:PySem.W.codeIn K cd9 "Kind.lone" = true) (k9:PySem.W.keepIn K (.ref f9)=true) (i9:PySem.W.isFn K (.ref f9)=true) (a10:PySem.W.nsIn K mainGlobals "leaf" = some (some (.ref f10))) (l10:K.lookup f10=some ⟨oc10,od10,.func (PySem.W.fnOf "leaf" "leaf" (defArgs s_leaf) (defBody s_leaf) (defScope s_leaf) .none kV10 dc10 pm10 an10 cd10 ct10),sl10⟩) (c10:PySem.W.codeIn K cd10 "leaf" = true) (k10:PySem.W.keepIn K (.ref f10)=true) (a11:PySem.W.findIn K (.ref C_Kind) "joined" = some (some (.ref f11))) (l11:K.lookup f11=some ⟨oc11,od11,.func (PySem.W.fnOf "joined" "Kind.joined" (defArgs s_Kind__joined) (defBody s_Kind__joined) (defScope s_Kind__joined) .none kV11 dc11 pm11 an11 cd11 ct11),sl11⟩) (c11:PySem.W.codeIn K cd11 "Kind.joined" = true) (k11:PySem.W.keepIn K (.ref f11)=true) (i11:PySem.W.isFn K (.ref f11)=true) (a12:PySem.W.nsIn K mainGlobals "knot" = some (some (.ref f12))) (l12:K.lookup f12=some ⟨oc12,od12,.func (PySem.W.fnOf "knot" "knot" (defArgs s_knot) (defBody s_knot) (defScope s_knot) .none kV12 dc12 pm12 an12 cd12 ct12),sl12⟩) (c12:PySem.W.codeIn K cd12 "knot" = true) (k12:PySem.W.keepIn K (.ref f12)=true) (a13:PySem.W.nsIn K mainGlobals "beside" = some (some (.ref f13))) (l13:K.lookup f13=some ⟨oc13,od13,.func (PySem.W.fnOf "beside" "beside" (defArgs s_beside) (defBody s_beside) (defScope s_beside) .none kV13 dc13 pm13 an13 cd13 ct13),sl13⟩) (c13:PySem.W.codeIn K cd13 "beside" = true) (k13:PySem.W.keepIn K (.ref f13)=true) (a14:PySem.W.nsIn K mainGlobals "is_early" = some (some (.ref f14))) (l14:K.lookup f14=some ⟨oc14,od14,.func (PySem.W.fnOf "is_early" "is_early" (defArgs s_is_early) (defBody s_is_early) (defScope s_is_early) .none kV14 dc14 pm14 an14 cd14 ct14),sl14⟩) (c14:PySem.W.codeIn K cd14 "is_early" = true) (k14:PySem.W.keepIn K (.ref f14)=true) (a15:PySem.W.nsIn K mainGlobals "put_in" = some (some (.ref f15))) (l15:K.lookup f15=some ⟨oc15,od15,.func (PySem.W.fnOf "put_in" "put_in" (defArgs s_put_in) (defBody s_put_in) (defScope s_put_in) .none kV15 dc15 pm15 an15 cd15 ct15),sl15⟩) (c15:PySem.W.codeIn K cd15 "put_in" = true) (k15:PySem.W.keepIn K (.ref f15)=true) (a16:PySem.W.nsIn K mainGlobals "what_is_left" = some (some (.ref f16))) (l16:K.lookup f16=some ⟨oc16,od16,.func (PySem.W.fnOf "what_is_left" "what_is_left" (defArgs s_what_is_left) (defBody s_what_is_left) (defScope s_what_is_left) .none kV16 dc16 pm16 an16 cd16 ct16),sl16⟩) (c16:PySem.W.codeIn K cd16 "what_is_left" = true) (k16:PySem.W.keepIn K (.ref f16)=true) (a17:PySem.W.nsIn K mainGlobals "taken_out" = some (some (.ref f17))) (l17:K.lookup f17=some ⟨oc17,od17,.func (PySem.W.fnOf "taken_out" "taken_out" (defArgs s_taken_out) (defBody s_taken_out) (defScope s_taken_out) .none kV17 dc17 pm17 an17 cd17 ct17),sl17⟩) (c17:PySem.W.codeIn K cd17 "taken_out" = true) (k17:PySem.W.keepIn K (.ref f17)=true) (a18:PySem.W.nsIn K mainGlobals "deeds_of" = some (some (.ref f18))) (l18:K.lookup f18=some ⟨oc18,od18,.func (PySem.W.fnOf "deeds_of" "deeds_of" (defArgs s_deeds_of) (defBody s_deeds_of) (defScope s_deeds_of) .none kV18 dc18 pm18 an18 cd18 ct18),sl18⟩) (c18:PySem.W.codeIn K cd18 "deeds_of" = true) (k18:PySem.W.keepIn K (.ref f18)=true) (a19:PySem.W.nsIn K mainGlobals "one_step_down" = some (some (.ref f19))) (l19:K.lookup f19=some ⟨oc19,od19,.func (PySem.W.fnOf "one_step_down" "one_step_down" (defArgs s_one_step_down) (defBody s_one_step_down) (defScope s_one_step_down) .none kV19 dc19 pm19 an19 cd19 ct19),sl19⟩) (c19:PySem.W.codeIn K cd19 "one_step_down" = true) (k19:PySem.W.keepIn K (.ref f19)=true) (a20:PySem.W.nsIn K mainGlobals "inside" = some (some (.ref f20))) (l20:K.lookup f20=some ⟨oc20,od20,.func (PySem.W.fnOf "inside" "inside" (defArgs s_inside) (defBody s_inside) (defScope s_inside) .none kV20 dc20 pm20 an20 cd20 ct20),sl20⟩) (c20:PySem.W.codeIn K cd20 "inside" = true) (k20:PySem.W.keepIn K (.ref f20)=true) (a21:PySem.W.nsIn K mainGlobals "touched" = some (some (.ref f21))) (l21:K.lookup f21=some ⟨oc21,od21,.func (PySem.W.fnOf "touched" "touched" (defArgs s_touched) (defBody s_touched) (defScope s_touched) .none kV21 dc21 pm21 an21 cd21 ct21),sl21⟩) (c21:PySem.W.codeIn K cd21 "touched" = true) (k21:PySem.W.keepIn K (.ref f21)=true) (a22:PySem.W.nsIn K mainGlobals "parted" = some (some (.ref f22))) (l22:K.lookup f22=some ⟨oc22,od22,.func (PySem.W.fnOf "parted" "parted" (defArgs s_parted) (defBody s_parted) (defScope s_parted) .none kV22 dc22 pm22 an22 cd22 ct22),sl22⟩) (c22:PySem.W.codeIn K cd22 "parted" = true) (k22:PySem.W.keepIn K (.ref f22)=true) (a23:PySem.W.nsIn K mainGlobals "_law_cell_at" = some (some (.ref f23))) (l23:K.lookup f23=some ⟨oc23,od23,.func (PySem.W.fnOf "_law_cell_at" "_law_cell_at" (defArgs s__law_cell_at) (defBody s__law_cell_at) (defScope s__law_cell_at) .none kV23 dc23 pm23 an23 cd23 ct23),sl23⟩) (c23:PySem.W.codeIn K cd23 "_law_cell_at" = true) (k23:PySem.W.keepIn K (.ref f23)=true) (a24:PySem.W.nsIn K mainGlobals "_law_time" = some (some (.ref f24))) (l24:K.lookup f24=some ⟨oc24,od24,.func (PySem.W.fnOf "_law_time" "_law_time" (defArgs s__law_time) (defBody s__law_time) (defScope s__law_time) .none kV24 dc24 pm24 an24 cd24 ct24),sl24⟩) (c24:PySem.W.codeIn K cd24 "_law_time" = true) (k24:PySem.W.keepIn K (.ref f24)=true) (a25:PySem.W.nsIn K mainGlobals "_law_tree" = some (some (.ref f25))) (l25:K.lookup f25=some ⟨oc25,od25,.func (PySem.W.fnOf "_law_tree" "_law_tree" (defArgs s__law_tree) (defBody s__law_tree) (defScope s__law_tree) .none kV25 dc25 pm25 an25 cd25 ct25),sl25⟩) (c25:PySem.W.codeIn K cd25 "_law_tree" = true) (k25:PySem.W.keepIn K (.ref f25)=true) (a26:PySem.W.nsIn K mainGlobals "_law_chain" = some (some (.ref f26))) (l26:K.lookup f26=some ⟨oc26,od26,.func (PySem.W.fnOf "_law_chain" "_law_chain" (defArgs s__law_chain) (defBody s__law_chain) (defScope s__law_chain) .none kV26 dc26 pm26 an26 cd26 ct26),sl26⟩) (c26:PySem.W.codeIn K cd26 "_law_chain" = true) (k26:PySem.W.keepIn K (.ref f26)=true) (a27:PySem.W.nsIn K mainGlobals "_law_change" = some (some (.ref f27))) (l27:K.lookup f27=some ⟨oc27,od27,.func (PySem.W.fnOf "_law_change" "_law_change" (defArgs s__law_change) (defBody s__law_change) (defScope s__law_change) .none kV27 dc27 pm27 an27 cd27 ct27),sl27⟩) (c27:PySem.W.codeIn K cd27 "_law_change" = true) (k27:PySem.W.keepIn K (.ref f27)=true) (a28:PySem.W.nsIn K mainGlobals "law" = some (some (.ref f28))) (l28:K.lookup f28=some ⟨oc28,od28,.func (PySem.W.fnOf "law" "law" (defArgs s_law) (defBody s_law) (defScope s_law) .none kV28 dc28 pm28 an28 cd28 ct28),sl28⟩) (c28:PySem.W.codeIn K cd28 "law" = true) (k28:PySem.W.keepIn K (.ref f28)=true) (pg_Kind:PySem.W.plainGet K C_Kind Str.empty=true) (hd_Kind:PySem.W.hasDictIn K C_Kind=true) (po_Kind:PySem.W.plainOver K C_Kind=true) (sa_Kind:PySem.W.findIn K (.ref C_Kind) "__setattr__" = some (some (.builtin "object.__setattr__"))) (mk_Kind:PySem.W.makesIn K C_Kind=true) (in_Kind:PySem.W.findIn K (.ref C_Kind) "__init__" = some (some (.builtin "object.__init__"))) (kc_Kind:PySem.W.keepIn K (.ref C_Kind)=true) (z_bool:PySem.W.nsIn K mainGlobals "bool" = some none) (z_dict:PySem.W.nsIn K mainGlobals "dict" = some none) (z_isinstance:PySem.W.nsIn K mainGlobals "isinstance" = some none) (z_len:PySem.W.nsIn K mainGlobals "len" = some none) (z_list:PySem.W.nsIn K mainGlobals "list" = some none) (z_max:PySem.W.nsIn K mainGlobals "max" = some none) (z_min:PySem.W.nsIn K mainGlobals "min" = some none) (z_range:PySem.W.nsIn K mainGlobals "range" = some none) (z_set:PySem.W.nsIn K mainGlobals "set" = some none) (z_sorted:PySem.W.nsIn K mainGlobals "sorted" = some none) (z_tuple:PySem.W.nsIn K mainGlobals "tuple" = some none) :
  ∃ fd:FuncData,(∀ (s:Shared) (v:Value),BindsTo s fd ⟨[v],[]⟩ [("_law_script",v)])/\∀ base:Heap,K.In base->base.Ns mainGlobals mg->FnOk l.prog w K mg base CX0 72 fa fd ["_law_script"] (spD K false 1 m_law):=by
 have F_last_time:=fun_mk (st:=s_last_time) l0 c0 k0
 have B_last_time:=F_last_time.binds (ps:=["stretch"]) fun _ _ _ _ _ _=>len1 (fun _=>rfl)
 have S_last_time:Src K mg "last_time" s_last_time ["stretch"]:=⟨f0,_,F_last_time,B_last_time,PySem.W.mg_of X G a0⟩
 have F_holds:=fun_mk (st:=s_holds) l1 c1 k1
 have B_holds:=F_holds.binds (ps:=["stretch","number"]) fun _ _ _ _ _ _=>len2 (fun _ _=>rfl)
 have S_holds:Src K mg "holds" s_holds ["stretch","number"]:=⟨f1,_,F_holds,B_holds,PySem.W.mg_of X G a1⟩
 have F_within:=fun_mk (st:=s_within) l2 c2 k2
 have B_within:=F_within.binds (ps:=["one","other"]) fun _ _ _ _ _ _=>len2 (fun _ _=>rfl)
 have S_within:Src K mg "within" s_within ["one","other"]:=⟨f2,_,F_within,B_within,PySem.W.mg_of X G a2⟩
 have F_halves:=fun_mk (st:=s_halves) l3 c3 k3
 have B_halves:=F_halves.binds (ps:=["stretch"]) fun _ _ _ _ _ _=>len1 (fun _=>rfl)
 have S_halves:Src K mg "halves" s_halves ["stretch"]:=⟨f3,_,F_halves,B_halves,PySem.W.mg_of X G a3⟩
 have F_least:=fun_mk (st:=s_least) l4 c4 k4
 have B_least:=F_least.binds (ps:=["one","other"]) fun _ _ _ _ _ _=>len2 (fun _ _=>rfl)
 have S_least:Src K mg "least" s_least ["one","other"]:=⟨f4,_,F_least,B_least,PySem.W.mg_of X G a4⟩
 have F_stretch_of:=fun_mk (st:=s_stretch_of) l5 c5 k5
 have B_stretch_of:=F_stretch_of.binds (ps:=["tree"]) fun _ _ _ _ _ _=>len1 (fun _=>rfl)
 have S_stretch_of:Src K mg "stretch_of" s_stretch_of ["tree"]:=⟨f5,_,F_stretch_of,B_stretch_of,PySem.W.mg_of X G a5⟩
 have F_total_of:=fun_mk (st:=s_total_of) l6 c6 k6
 have B_total_of:=F_total_of.binds (ps:=["tree"]) fun _ _ _ _ _ _=>len1 (fun _=>rfl)
 have S_total_of:Src K mg "total_of" s_total_of ["tree"]:=⟨f6,_,F_total_of,B_total_of,PySem.W.mg_of X G a6⟩
 have F_is_leaf:=fun_mk (st:=s_is_leaf) l7 c7 k7
 have B_is_leaf:=F_is_leaf.binds (ps:=["tree"]) fun _ _ _ _ _ _=>len1 (fun _=>rfl)
 have S_is_leaf:Src K mg "is_leaf" s_is_leaf ["tree"]:=⟨f7,_,F_is_leaf,B_is_leaf,PySem.W.mg_of X G a7⟩
 have F_parts:=fun_mk (st:=s_parts) l8 c8 k8
 have B_parts:=F_parts.binds (ps:=["tree"]) fun _ _ _ _ _ _=>len1 (fun _=>rfl)
 have S_parts:Src K mg "parts" s_parts ["tree"]:=⟨f8,_,F_parts,B_parts,PySem.W.mg_of X G a8⟩
 have F_Kind__lone:=fun_mk (st:=s_Kind__lone) l9 c9 k9
 have B_Kind__lone:=F_Kind__lone.binds (ps:=["self","at","deed"]) fun _ _ _ _ _ _=>len3 (fun _ _ _=>rfl)
 have F_leaf:=fun_mk (st:=s_leaf) l10 c10 k10
 have B_leaf:=F_leaf.binds (ps:=["kind","at","deed"]) fun _ _ _ _ _ _=>len3 (fun _ _ _=>rfl)
 have S_leaf:Src K mg "leaf" s_leaf ["kind","at","deed"]:=⟨f10,_,F_leaf,B_leaf,PySem.W.mg_of X G a10⟩
 have F_Kind__joined:=fun_mk (st:=s_Kind__joined) l11 c11 k11
 have B_Kind__joined:=F_Kind__joined.binds (ps:=["self","one","other"]) fun _ _ _ _ _ _=>len3 (fun _ _ _=>rfl)
 have F_knot:=fun_mk (st:=s_knot) l12 c12 k12
 have B_knot:=F_knot.binds (ps:=["kind","left","right"]) fun _ _ _ _ _ _=>len3 (fun _ _ _=>rfl)
 have S_knot:Src K mg "knot" s_knot ["kind","left","right"]:=⟨f12,_,F_knot,B_knot,PySem.W.mg_of X G a12⟩
 have F_beside:=fun_mk (st:=s_beside) l13 c13 k13
 have B_beside:=F_beside.binds (ps:=["kind","tree","other"]) fun _ _ _ _ _ _=>len3 (fun _ _ _=>rfl)
 have S_beside:Src K mg "beside" s_beside ["kind","tree","other"]:=⟨f13,_,F_beside,B_beside,PySem.W.mg_of X G a13⟩
 have F_is_early:=fun_mk (st:=s_is_early) l14 c14 k14
 have B_is_early:=F_is_early.binds (ps:=["tree","at"]) fun _ _ _ _ _ _=>len2 (fun _ _=>rfl)
 have S_is_early:Src K mg "is_early" s_is_early ["tree","at"]:=⟨f14,_,F_is_early,B_is_early,PySem.W.mg_of X G a14⟩
 have F_put_in:=fun_mk (st:=s_put_in) l15 c15 k15
 have B_put_in:=F_put_in.binds (ps:=["kind","tree","at","deed"]) fun _ _ _ _ _ _=>len4 (fun _ _ _ _=>rfl)
 have S_put_in:Src K mg "put_in" s_put_in ["kind","tree","at","deed"]:=⟨f15,_,F_put_in,B_put_in,PySem.W.mg_of X G a15⟩
 have F_what_is_left:=fun_mk (st:=s_what_is_left) l16 c16 k16
 have B_what_is_left:=F_what_is_left.binds (ps:=["kind","left","right"]) fun _ _ _ _ _ _=>len3 (fun _ _ _=>rfl)
 have S_what_is_left:Src K mg "what_is_left" s_what_is_left ["kind","left","right"]:=⟨f16,_,F_what_is_left,B_what_is_left,PySem.W.mg_of X G a16⟩
 have F_taken_out:=fun_mk (st:=s_taken_out) l17 c17 k17
 have B_taken_out:=F_taken_out.binds (ps:=["kind","tree","at"]) fun _ _ _ _ _ _=>len3 (fun _ _ _=>rfl)
 have S_taken_out:Src K mg "taken_out" s_taken_out ["kind","tree","at"]:=⟨f17,_,F_taken_out,B_taken_out,PySem.W.mg_of X G a17⟩
 have F_deeds_of:=fun_mk (st:=s_deeds_of) l18 c18 k18
 have B_deeds_of:=F_deeds_of.binds (ps:=["tree"]) fun _ _ _ _ _ _=>len1 (fun _=>rfl)
 have S_deeds_of:Src K mg "deeds_of" s_deeds_of ["tree"]:=⟨f18,_,F_deeds_of,B_deeds_of,PySem.W.mg_of X G a18⟩
 have F_one_step_down:=fun_mk (st:=s_one_step_down) l19 c19 k19
 have B_one_step_down:=F_one_step_down.binds (ps:=["tree","stretch"]) fun _ _ _ _ _ _=>len2 (fun _ _=>rfl)
 have S_one_step_down:Src K mg "one_step_down" s_one_step_down ["tree","stretch"]:=⟨f19,_,F_one_step_down,B_one_step_down,PySem.W.mg_of X G a19⟩
 have F_inside:=fun_mk (st:=s_inside) l20 c20 k20
 have B_inside:=F_inside.binds (ps:=["tree","stretch"]) fun _ _ _ _ _ _=>len2 (fun _ _=>rfl)
 have S_inside:Src K mg "inside" s_inside ["tree","stretch"]:=⟨f20,_,F_inside,B_inside,PySem.W.mg_of X G a20⟩
 have F_touched:=fun_mk (st:=s_touched) l21 c21 k21
 have B_touched:=F_touched.binds (ps:=["old","new"]) fun _ _ _ _ _ _=>len2 (fun _ _=>rfl)
 have S_touched:Src K mg "touched" s_touched ["old","new"]:=⟨f21,_,F_touched,B_touched,PySem.W.mg_of X G a21⟩
 have F_parted:=fun_mk (st:=s_parted) l22 c22 k22
 have B_parted:=F_parted.binds (ps:=["old","new"]) fun _ _ _ _ _ _=>len2 (fun _ _=>rfl)
 have S_parted:Src K mg "parted" s_parted ["old","new"]:=⟨f22,_,F_parted,B_parted,PySem.W.mg_of X G a22⟩
 have F__law_cell_at:=fun_mk (st:=s__law_cell_at) l23 c23 k23
 have B__law_cell_at:=F__law_cell_at.binds (ps:=["_law_script","_law_k"]) fun _ _ _ _ _ _=>len2 (fun _ _=>rfl)
 have S__law_cell_at:Src K mg "_law_cell_at" s__law_cell_at ["_law_script","_law_k"]:=⟨f23,_,F__law_cell_at,B__law_cell_at,PySem.W.mg_of X G a23⟩
 have F__law_time:=fun_mk (st:=s__law_time) l24 c24 k24
 have B__law_time:=F__law_time.binds (ps:=["_law_cell"]) fun _ _ _ _ _ _=>len1 (fun _=>rfl)
 have S__law_time:Src K mg "_law_time" s__law_time ["_law_cell"]:=⟨f24,_,F__law_time,B__law_time,PySem.W.mg_of X G a24⟩
 have F__law_tree:=fun_mk (st:=s__law_tree) l25 c25 k25
 have B__law_tree:=F__law_tree.binds (ps:=["_law_rows"]) fun _ _ _ _ _ _=>len1 (fun _=>rfl)
 have S__law_tree:Src K mg "_law_tree" s__law_tree ["_law_rows"]:=⟨f25,_,F__law_tree,B__law_tree,PySem.W.mg_of X G a25⟩
 have F__law_chain:=fun_mk (st:=s__law_chain) l26 c26 k26
 have B__law_chain:=F__law_chain.binds (ps:=["_law_found","_law_tree_here","_law_time_here","_law_many","_law_put"]) fun _ _ _ _ _ _=>len5 (fun _ _ _ _ _=>rfl)
 have S__law_chain:Src K mg "_law_chain" s__law_chain ["_law_found","_law_tree_here","_law_time_here","_law_many","_law_put"]:=⟨f26,_,F__law_chain,B__law_chain,PySem.W.mg_of X G a26⟩
 have F__law_change:=fun_mk (st:=s__law_change) l27 c27 k27
 have B__law_change:=F__law_change.binds (ps:=["_law_kind","_law_tree_here","_law_known","_law_cell"]) fun _ _ _ _ _ _=>len4 (fun _ _ _ _=>rfl)
 have S__law_change:Src K mg "_law_change" s__law_change ["_law_kind","_law_tree_here","_law_known","_law_cell"]:=⟨f27,_,F__law_change,B__law_change,PySem.W.mg_of X G a27⟩
 have F_law:=fun_mk (st:=s_law) l28 c28 k28
 have B_law:=F_law.binds (ps:=["_law_script"]) fun _ _ _ _ _ _=>len1 (fun _=>rfl)
 have S_law:Src K mg "law" s_law ["_law_script"]:=⟨f28,_,F_law,B_law,PySem.W.mg_of X G a28⟩
 have cl_Kind:Cls K C_Kind:=⟨pg_Kind,hd_Kind,po_Kind,sa_Kind⟩
 have k_Kind:Mk0 K C_Kind/\PySem.W.nsIn K mainGlobals "Kind" = some (some (.ref C_Kind))/\mg "Kind" = some (.ref C_Kind):=⟨⟨mk_Kind,in_Kind,kc_Kind⟩,aC_Kind,PySem.W.mg_of X G aC_Kind⟩
 have z'_bool:=PySem.W.mg_none_of X G z_bool
 have z'_dict:=PySem.W.mg_none_of X G z_dict
 have z'_isinstance:=PySem.W.mg_none_of X G z_isinstance
 have z'_len:=PySem.W.mg_none_of X G z_len
 have z'_list:=PySem.W.mg_none_of X G z_list
 have z'_max:=PySem.W.mg_none_of X G z_max
 have z'_min:=PySem.W.mg_none_of X G z_min
 have z'_range:=PySem.W.mg_none_of X G z_range
 have z'_set:=PySem.W.mg_none_of X G z_set
 have z'_sorted:=PySem.W.mg_none_of X G z_sorted
 have z'_tuple:=PySem.W.mg_none_of X G z_tuple
 have e:=hfa.symm.trans (PySem.W.mg_of X G a28)
 cases e
 refine ⟨PySem.W.fnOf "law" "law" (defArgs s_law) (defBody s_law) (defScope s_law) .none kV28 dc28 pm28 an28 cd28 ct28,fun s v=>.of_eq rfl,fun base _ _=>?_⟩
 have h_last_time:=df_last_time (P:=l.prog) (w:=w) (K:=K) (mg:=mg) (base:=base) S_last_time
 have h_holds:=df_holds (P:=l.prog) (w:=w) (K:=K) (mg:=mg) (base:=base) S_holds h_last_time
 have h_within:=df_within (P:=l.prog) (w:=w) (K:=K) (mg:=mg) (base:=base) S_within h_holds h_last_time
 have h_halves:=df_halves (P:=l.prog) (w:=w) (K:=K) (mg:=mg) (base:=base) S_halves
 have h_least:=df_least (P:=l.prog) (w:=w) (K:=K) (mg:=mg) (base:=base) S_least z'_max z'_min h_last_time
 have h_stretch_of:=df_stretch_of (P:=l.prog) (w:=w) (K:=K) (mg:=mg) (base:=base) S_stretch_of
 have h_total_of:=df_total_of (P:=l.prog) (w:=w) (K:=K) (mg:=mg) (base:=base) S_total_of
 have h_is_leaf:=df_is_leaf (P:=l.prog) (w:=w) (K:=K) (mg:=mg) (base:=base) S_is_leaf
 have h_parts:=df_parts (P:=l.prog) (w:=w) (K:=K) (mg:=mg) (base:=base) S_parts
 have h_Kind__lone:=df_Kind__lone (P:=l.prog) (w:=w) (K:=K) (mg:=mg) (base:=base) F_Kind__lone
 have hm_Kind_lone:MDf l.prog w K mg base "Kind" "lone" 1 ["self","at","deed"] false (m_Kind__lone):=⟨C_Kind,f9,_,cl_Kind,aC_Kind,⟨a9,i9,k9⟩,h_Kind__lone,B_Kind__lone⟩
 have h_leaf:=df_leaf (P:=l.prog) (w:=w) (K:=K) (mg:=mg) (base:=base) S_leaf hm_Kind_lone
 have h_Kind__joined:=df_Kind__joined (P:=l.prog) (w:=w) (K:=K) (mg:=mg) (base:=base) F_Kind__joined
 have hm_Kind_joined:MDf l.prog w K mg base "Kind" "joined" 1 ["self","one","other"] false (m_Kind__joined):=⟨C_Kind,f11,_,cl_Kind,aC_Kind,⟨a11,i11,k11⟩,h_Kind__joined,B_Kind__joined⟩
 have h_knot:=df_knot (P:=l.prog) (w:=w) (K:=K) (mg:=mg) (base:=base) S_knot h_least h_stretch_of h_total_of hm_Kind_joined
 have h_beside:=df_beside (P:=l.prog) (w:=w) (K:=K) (mg:=mg) (base:=base) S_beside h_knot
 have h_is_early:=df_is_early (P:=l.prog) (w:=w) (K:=K) (mg:=mg) (base:=base) S_is_early h_halves h_holds h_stretch_of
 have h_put_in:=df_put_in (P:=l.prog) (w:=w) (K:=K) (mg:=mg) (base:=base) S_put_in h_beside h_holds h_is_early h_is_leaf h_knot h_leaf h_stretch_of 64
 have h_what_is_left:=df_what_is_left (P:=l.prog) (w:=w) (K:=K) (mg:=mg) (base:=base) S_what_is_left h_knot
 have h_taken_out:=df_taken_out (P:=l.prog) (w:=w) (K:=K) (mg:=mg) (base:=base) S_taken_out h_holds h_is_early h_is_leaf h_stretch_of h_what_is_left 64
 have h_deeds_of:=df_deeds_of (P:=l.prog) (w:=w) (K:=K) (mg:=mg) (base:=base) S_deeds_of h_is_leaf 64
 have h_one_step_down:=df_one_step_down (P:=l.prog) (w:=w) (K:=K) (mg:=mg) (base:=base) S_one_step_down h_halves h_is_leaf h_stretch_of h_within
 have h_inside:=df_inside (P:=l.prog) (w:=w) (K:=K) (mg:=mg) (base:=base) S_inside h_one_step_down h_stretch_of h_within
 have h_touched:=df_touched (P:=l.prog) (w:=w) (K:=K) (mg:=mg) (base:=base) S_touched h_inside h_is_leaf h_parts h_stretch_of 64
 have h_parted:=df_parted (P:=l.prog) (w:=w) (K:=K) (mg:=mg) (base:=base) S_parted z'_dict z'_set z'_sorted h_deeds_of
 have h__law_cell_at:=df__law_cell_at (P:=l.prog) (w:=w) (K:=K) (mg:=mg) (base:=base) S__law_cell_at z'_len
 have h__law_time:=df__law_time (P:=l.prog) (w:=w) (K:=K) (mg:=mg) (base:=base) S__law_time
 have h__law_tree:=df__law_tree (P:=l.prog) (w:=w) (K:=K) (mg:=mg) (base:=base) S__law_tree z'_len 64
 have h__law_chain:=df__law_chain (P:=l.prog) (w:=w) (K:=K) (mg:=mg) (base:=base) S__law_chain z'_bool z'_isinstance z'_len z'_list z'_tuple
 have h__law_change:=df__law_change (P:=l.prog) (w:=w) (K:=K) (mg:=mg) (base:=base) S__law_change z'_len z'_sorted h__law_chain h__law_time h__law_tree h_parted h_put_in h_taken_out h_touched
 exact fn_law (P:=l.prog) (w:=w) (K:=K) (mg:=mg) (base:=base) F_law z'_range k_Kind h__law_cell_at h__law_change h_put_in
theorem walk {l:PySem.W.OpenLaw} {qq:Program} {loose:List Str} {XP:(Str->Option Value)->Heap->Prop} {YP:World->Heap->Prop} {d:DefRec} {K:Params->PySem.W.Frag} (hn:l.most=some 63) (hdf:d.params.defaults=[])
  (hY:∀ (w:World) (h:Heap),YP w h->(K w.params).In h) (law:∀ ns:List Int,ns.length<=63->m_law [.frl (ns.map D.int)]=.ok (.bl true))
  (F:∀ (w:World) (mg:Str->Option Value) (fa:Addr) (h:Heap),(K w.params).In h->h.Ns mainGlobals mg->mg d.name=some (.ref fa) ->
   ∃ fd:FuncData,(∀ (s:Shared) (u:Value),BindsTo s fd ⟨[u],[]⟩ [("_law_script",u)])/\∀ base:Heap,(K w.params).In base->base.Ns mainGlobals mg->FnOk l.prog w (K w.params) mg base CX0 72 fa fd ["_law_script"] (spD (K w.params) false 1 m_law)) :
  PySem.W.WalkO qq loose XP YP l.row.toRowW d [] (fun f vs=>PySem.call f vs) :=
 L2.walk_of (n:=63) (k:=72) (x:="_law_script") (CX:=fun _=>CX0) (sp:=fun w=>spD (K w.params) false 1 m_law) hn (by decide) hdf ⟨rfl,by decide,by decide⟩ hY F (fun _ _ _ ns hl hO hS=>law_sp hO hS (law ns hl)) fun _ _ _ _ _ z=>z
end Pr
namespace Pr
open PySem L2 DL
theorem pow_int (k:Nat):(2:Int) ^ k=((2 ^ k:Nat):Int):=by simp
theorem bitXor_nat (x y:Nat):Builtin.bitXor (x:Int) (y:Int)=((x ^^^ y:Nat):Int):=by
 have h1:¬ (0:Int)<=Builtin.bitNot (x:Int):=by unfold Builtin.bitNot;omega
 have h2:¬ (0:Int)<=Builtin.bitNot (y:Int):=by unfold Builtin.bitNot;omega
 have e:∀ z:Int,Builtin.bitNot (Builtin.bitNot z)=z:=fun z=>by unfold Builtin.bitNot;omega
 have k1:(0:Int)<=(x:Int):=by omega
 have k2:(0:Int)<=(y:Int):=by omega
 have o:=Bt.or_xor_and x y
 unfold Builtin.bitXor Builtin.bitOr Builtin.bitAnd
 simp [k1,k2,h1,h2,e]
 omega
theorem p30:(2:Nat) ^ 30=1073741824:=by decide
theorem last_time_eq (a b:Int):m_last_time [.tup [.int a,.int b]]=.ok (.int (a + b - 1)):=by
 simp [m_last_time,b_last_time,startD,fVar,at_0,at_1]
theorem intBits_nat (z:Nat):Builtin.Int.intBits (z:Int)=Bt.bits z:=by
 unfold Builtin.Int.intBits Bt.bits
 by_cases h:z=0
 ·subst h;rfl
 ·have h':((z:Int) == 0)=false:=by simpa using h
  rw [if_neg h,h']
  simp
theorem least_eq {a b c d:Int} {f l:Nat} (hf:(if c < a then c else a)=(f:Int)) (hl:(if c + d - 1 > a + b - 1 then c + d - 1 else a + b - 1)=(l:Int)) (h1:f < 1073741824) (h2:l < 1073741824) :
  m_least [.tup [.int a,.int b],.tup [.int c,.int d]]=.ok (.tup [.int ((f / 2 ^ Bt.bits (f ^^^ l) * 2 ^ Bt.bits (f ^^^ l):Nat):Int),.int ((2 ^ Bt.bits (f ^^^ l):Nat):Int)]):=by
 have hb:Bt.bits (f ^^^ l)<=30:=Bt.bits_le (Nat.xor_lt_two_pow (by rw [p30];exact h1) (by rw [p30];exact h2))
 generalize hn:Bt.bits (f ^^^ l)=n at *
 have p:(1:Nat)<=2 ^ n:=Nat.one_le_two_pow
 have p2:(2:Nat) ^ n<=1073741824:=by rw [← p30];exact Nat.pow_le_pow_right (by decide) hb
 have c0:cPow 1 (n:Int)=true:=by simp [cPow];omega
 have ep:(2:Int) ^ n=((2 ^ n:Nat):Int):=pow_int n
 have c1:cDiv (f:Int) ((2 ^ n:Nat):Int)=true:=by simp only [cDiv,decide_eq_true_eq];omega
 have c2:cMul ((f:Int) / ((2 ^ n:Nat):Int)) ((2 ^ n:Nat):Int)=true:=by simp only [cMul,decide_eq_true_eq];omega
 have ex:Builtin.bitXor (f:Int) (l:Int)=((f ^^^ l:Nat):Int):=bitXor_nat f l
 have eb:Builtin.Int.intBits ((f ^^^ l:Nat):Int)=n:=by rw [intBits_nat,hn]
 have em:((f / 2 ^ n * 2 ^ n:Nat):Int)=(f:Int) / ((2 ^ n:Nat):Int) * ((2 ^ n:Nat):Int):=by rw [Int.natCast_mul,Int.natCast_ediv]
 have hl2:(if a + b < c + d then c + d - 1 else a + b - 1)=(l:Int):=by rw [← hl];split <;> split <;> omega
 rw [em]
 generalize hz:((2 ^ n:Nat):Int)=z at *
 simp -implicitDefEqProofs [-e_min',-e_max',m_least,b_least,startD,fVar,at_0,at_1,last_time_eq,hf,hl,hl2,gBits,ex,eb,c0,ep,c1,c2]
abbrev Tv:=Int
def en (x:Tv):D:=.int x
def lone (_:Nat) (_:D):Tv:=1
def join (a b:Tv):Tv:=a + b
inductive Okd:D->Prop
 | mk (w:Str) (x:Int):Okd (.tup [.str w,.int x])
theorem joined_eq (a b:Tv):m_Kind__joined [.obj "Kind",en a,en b]=.ok (en (join a b)):=by
 simp (decide:=true) -implicitDefEqProofs [tbM_tail,startD,fVar,fVarS,isT,at_0,at_1,at_2,at_3,at_4,m_Kind__joined,b_Kind__joined,en,join]
theorem lone_eq (a:Nat) {d:D} (h:Okd d):m_Kind__lone [.obj "Kind",.int (a:Int),d]=.ok (en (lone a d)):=by
 cases h;simp (decide:=true) -implicitDefEqProofs [tbM_tail,startD,fVar,fVarS,isT,at_0,at_1,at_2,at_3,at_4,m_Kind__lone,b_Kind__lone,en,lone]
open Tr in
abbrev E:T->D:=enc en lone join
open Tr in
abbrev EO:Option T->D:=encO en lone join
open Tr in
abbrev V:T->Tv:=tv lone join
section
open Tr
theorem stretch_eq (t:T):m_stretch_of [E t]=.ok (.tup [.int (t.lo:Int),.int (t.sz:Int)]):=by
 obtain ⟨r,e⟩:=enc_form en lone join t
 rw [show E t=_ from e]
 simp (decide:=true) [tbM_tail,startD,fVar,fVarS,isT,at_0,at_1,at_2,at_3,at_4,m_stretch_of,b_stretch_of]
theorem total_of_eq (t:T):m_total_of [E t]=.ok (en (V t)):=by
 obtain ⟨r,e⟩:=enc_form en lone join t
 rw [show E t=_ from e]
 simp (decide:=true) [tbM_tail,startD,fVar,fVarS,isT,at_0,at_1,at_2,at_3,at_4,m_total_of,b_total_of]
theorem leaf_lf (a:Nat) (d:D):m_is_leaf [E (.lf a d)]=.ok (.bl true):=by
 simp (decide:=true) [tbM_tail,startD,fVar,fVarS,isT,at_0,at_1,at_2,at_3,at_4,m_is_leaf,b_is_leaf,E,enc]
theorem leaf_nd (q k:Nat) (l r:T):m_is_leaf [E (.nd q k l r)]=.ok (.bl false):=by
 have h:¬ ((2 ^ (k + 1):Nat):Int)=1:=by
  have:2 ^ (k + 1)=2 ^ k * 2:=Nat.pow_succ ..
  have:=Nat.two_pow_pos k
  omega
 simp only [E,enc]
 generalize ((2 ^ (k + 1):Nat):Int)=z at *
 simp (decide:=true) [tbM_tail,startD,fVar,fVarS,isT,at_0,at_1,at_2,at_3,at_4,m_is_leaf,b_is_leaf,h]
theorem holds_eq (a b x:Int):m_holds [.tup [.int a,.int b],.int x]=.ok (.bl (decide (a<=x) && decide (x<=a + b - 1))):=by
 simp (decide:=true) [tbM_tail,startD,fVar,fVarS,isT,at_0,at_1,at_2,at_3,at_4,m_holds,b_holds,last_time_eq]
theorem knot_eq {l r:T} (hl:Good l) (hr:Good r) (hd:l.lo + l.sz<=r.lo):m_knot [.obj "Kind",E l,E r]=.ok (E (mk l r)):=by
 have pl:=sz_pos l
 have pr:=sz_pos r
 have ul:=hl.up
 have ur:=hr.up
 have hall:all=1073741824:=rfl
 have e:=Bt.bits_blocks (q:=l.q) (i:=l.e) (r:=r.q) (j:=r.e) (x:=l.lo) (a:=l.lo) (y:=r.lo + r.sz - 1) (c:=r.lo) hd (Nat.mul_div_cancel _ pl) (Nat.mul_div_cancel _ pl) (Bt.in_block.mpr ⟨by show r.lo<=_;omega,by show _ < r.lo + r.sz;omega⟩) (Nat.mul_div_cancel _ pr)
 have el:=least_eq (a:=(l.lo:Int)) (b:=(l.sz:Int)) (c:=(r.lo:Int)) (d:=(r.sz:Int)) (f:=l.lo) (l:=r.lo + r.sz - 1) (by rw [if_neg (by omega)]) (by rw [if_pos (by omega)];omega) (by omega) (by omega)
 rw [e] at el
 have em:=enc_mk en lone join (l:=l) (r:=r) (by omega)
 rw [show E (mk l r)=_ from em]
 have s1:=stretch_eq l
 have s2:=stretch_eq r
 have t1:=total_of_eq l
 have t2:=total_of_eq r
 have j:=joined_eq (V l) (V r)
 generalize ((l.lo / 2 ^ Bt.bits (l.lo ^^^ r.lo) * 2 ^ Bt.bits (l.lo ^^^ r.lo):Nat):Int)=u1 at *
 generalize ((2 ^ Bt.bits (l.lo ^^^ r.lo):Nat):Int)=u2 at *
 change m_stretch_of [enc en lone join l]=_ at s1
 change m_stretch_of [enc en lone join r]=_ at s2
 change m_total_of [enc en lone join l]=_ at t1
 change m_total_of [enc en lone join r]=_ at t2
 show m_knot [.obj "Kind",enc en lone join l,enc en lone join r]=_
 generalize enc en lone join l=L at *
 generalize enc en lone join r=R at *
 change _=Ou.ok (en (join (tv lone join l) (tv lone join r))) at j
 change m_Kind__joined [.obj "Kind",en (tv lone join l),en (tv lone join r)]=_ at j
 change _=Ou.ok (en (tv lone join l)) at t1
 change _=Ou.ok (en (tv lone join r)) at t2
 simp (decide:=true) [tbM_tail,startD,fVar,fVarS,isT,at_0,at_1,at_2,at_3,at_4,m_knot,b_knot,s1,s2,t1,t2,el,j]
theorem leaf_eq (a:Nat) {d:D} (h:Okd d):m_leaf [.obj "Kind",.int (a:Int),d]=.ok (E (.lf a d)):=by
 have l:=lone_eq a h
 simp (decide:=true) [tbM_tail,startD,fVar,fVarS,isT,at_0,at_1,at_2,at_3,at_4,m_leaf,b_leaf,l,E,enc]
theorem beside_eq {t:T} {a:Nat} {d:D} (ht:Good t) (ha:a < all) (hn:a < t.lo\/t.lo + t.sz<=a):m_beside [.obj "Kind",E t,E (.lf a d)]=.ok (E (if a < t.lo then mk (.lf a d) t else mk t (.lf a d))):=by
 obtain ⟨r,e⟩:=enc_form en lone join t
 have gl:Good (.lf a d):=.lf ha
 have la:(T.lf a d).lo=a:=by simp [T.lo,T.q,T.e]
 have sa:(T.lf a d).sz=1:=rfl
 have e2:E (.lf a d)=.tup [.int (a:Int),.int 1,en (lone a d),d]:=rfl
 by_cases h:a < t.lo
 ·have k:=knot_eq gl ht (by omega)
  have h':(a:Int) < (t.lo:Int):=by omega
  rw [if_pos h]
  change enc en lone join t=_ at e
  change m_knot [.obj "Kind",E (.lf a d),enc en lone join t]=_ at k
  show m_beside [.obj "Kind",enc en lone join t,E (.lf a d)]=_
  rw [e,e2] at k ⊢
  simp (decide:=true) [tbM_tail,startD,fVar,fVarS,isT,at_0,at_1,at_2,at_3,at_4,m_beside,b_beside,h',k]
 ·have k:=knot_eq ht gl (by omega)
  have h':¬ (a:Int) < (t.lo:Int):=by omega
  rw [if_neg h]
  change enc en lone join t=_ at e
  change m_knot [.obj "Kind",enc en lone join t,E (.lf a d)]=_ at k
  show m_beside [.obj "Kind",enc en lone join t,E (.lf a d)]=_
  rw [e,e2] at k ⊢
  simp (decide:=true) [tbM_tail,startD,fVar,fVarS,isT,at_0,at_1,at_2,at_3,at_4,m_beside,b_beside,h',k]
theorem early_eq (q k a:Nat) (l r:T):m_is_early [E (.nd q k l r),.int (a:Int)]=.ok (.bl (decide (((q * 2 ^ (k + 1):Nat):Int)<=(a:Int)) && decide ((a:Int)<=((q * 2 ^ (k + 1):Nat):Int) + ((2 ^ k:Nat):Int) - 1))):=by
 have s:=stretch_eq (.nd q k l r)
 have e1:((T.nd q k l r).lo:Int)=((q * 2 ^ (k + 1):Nat):Int):=rfl
 have e2:((T.nd q k l r).sz:Int)=((2 ^ (k + 1):Nat):Int):=rfl
 have eh:((2 ^ (k + 1):Nat):Int) / 2=((2 ^ k:Nat):Int):=by
  have:2 ^ (k + 1)=2 ^ k * 2:=Nat.pow_succ ..
  omega
 rw [e1,e2] at s
 generalize E (.nd q k l r)=z at *
 generalize ((q * 2 ^ (k + 1):Nat):Int)=lo at *
 generalize ((2 ^ (k + 1):Nat):Int)=sz at *
 generalize ((2 ^ k:Nat):Int)=hz at *
 have h:=holds_eq lo hz a
 simp (decide:=true) [tbM_tail,startD,fVar,fVarS,isT,at_0,at_1,at_2,at_3,at_4,m_is_early,b_is_early,s,m_halves,b_halves,eh,h]
theorem c_hold {K X A d s:D} {b:Bool} (hs:m_stretch_of [X]=.ok s) (hh:m_holds [s,A]=.ok (.bl b)):fNotT (fTru (fCall (m_holds) [(fCall (m_stretch_of) [(fVar 1)]),(fVar 2)])) [.val K,.val X,.val A,.val d]=.ok (!b):=by
 simp (decide:=true) [tbM_tail,startD,fVar,fVarS,isT,at_0,at_1,at_2,at_3,at_4,hs,hh]
theorem put_far {F:List D->Ou D} {K A d s f b:D} {xs:List D} (hs:m_stretch_of [.tup xs]=.ok s) (hh:m_holds [s,A]=.ok (.bl false)) (hl:m_leaf [K,A,d]=.ok f) (hb:m_beside [K,.tup xs,f]=.ok b):runD false 4 (b_put_in F) [K,.tup xs,A,d]=.ok b:=by
 refine run_rt ((if_no (b:=false) rfl rfl).trans (if_ret (b:=true) ?_ rfl ?_))
 ·exact c_hold hs hh
 ·show fCall (m_beside) [(fVar 0),(fVar 1),(fCall (m_leaf) [(fVar 0),(fVar 2),(fVar 3)])] [.val K,.val (.tup xs),.val A,.val d]=.ok b
  simp (decide:=true) [tbM_tail,startD,fVar,fVarS,isT,at_0,at_1,at_2,at_3,at_4,hl,hb]
theorem put_in_way {F:List D->Ou D} {K A d s z1 z2 z3 l r:D} (hs:m_stretch_of [.tup [z1,z2,z3,l,r]]=.ok s) (hh:m_holds [s,A]=.ok (.bl true)) (hl:m_is_leaf [.tup [z1,z2,z3,l,r]]=.ok (.bl false)):runD false 4 (b_put_in F) [K,.tup [z1,z2,z3,l,r],A,d]=runD false 4 (sSeq (sIf (fTru (fCall (m_is_early) [(fVar 1),(fVar 2)])) (sSeq (sRet (fCall (m_knot) [(fVar 0),(fCall (F) [(fVar 0),(f2 gIx (fVar 1) (fC (.int 3))),(fVar 2),(fVar 3)]),(f2 gIx (fVar 1) (fC (.int 4)))])) sNext) sNext) (sSeq (sRet (fCall (m_knot) [(fVar 0),(f2 gIx (fVar 1) (fC (.int 3))),(fCall (F) [(fVar 0),(f2 gIx (fVar 1) (fC (.int 4))),(fVar 2),(fVar 3)])])) sNext)) [K,.tup [z1,z2,z3,l,r],A,d]:=by
 have h1:fTru (fCall (m_is_leaf) [(fVar 1)]) [.val K,.val (.tup [z1,z2,z3,l,r]),.val A,.val d]=.ok false:=by simp (decide:=true) [tbM_tail,startD,fVar,fVarS,isT,at_0,at_1,at_2,at_3,at_4,hl]
 have e:(b_put_in F) (startD 4 [K,.tup [z1,z2,z3,l,r],A,d])=_:=(if_no (b:=false) rfl rfl).trans ((if_no (c_hold hs hh) rfl).trans (if_no h1 rfl))
 unfold runD
 rw [e]
 try rfl
theorem put_early {F:List D->Ou D} {K A d s l' b z1 z2 z3 l r:D} (hs:m_stretch_of [.tup [z1,z2,z3,l,r]]=.ok s) (hh:m_holds [s,A]=.ok (.bl true)) (hl:m_is_leaf [.tup [z1,z2,z3,l,r]]=.ok (.bl false)) (he:m_is_early [.tup [z1,z2,z3,l,r],A]=.ok (.bl true)) (hf:F [K,l,A,d]=.ok l') (hk:m_knot [K,l',r]=.ok b):runD false 4 (b_put_in F) [K,.tup [z1,z2,z3,l,r],A,d]=.ok b:=by
 rw [put_in_way hs hh hl]
 have h1:fTru (fCall (m_is_early) [(fVar 1),(fVar 2)]) [.val K,.val (.tup [z1,z2,z3,l,r]),.val A,.val d]=.ok true:=by simp (decide:=true) [tbM_tail,startD,fVar,fVarS,isT,at_0,at_1,at_2,at_3,at_4,he]
 exact run_rt (if_ret h1 rfl (by simp (decide:=true) [tbM_tail,startD,fVar,fVarS,isT,at_0,at_1,at_2,at_3,at_4,hf,hk]))
theorem put_late {F:List D->Ou D} {K A d s l' b z1 z2 z3 l r:D} (hs:m_stretch_of [.tup [z1,z2,z3,l,r]]=.ok s) (hh:m_holds [s,A]=.ok (.bl true)) (hl:m_is_leaf [.tup [z1,z2,z3,l,r]]=.ok (.bl false)) (he:m_is_early [.tup [z1,z2,z3,l,r],A]=.ok (.bl false)) (hf:F [K,r,A,d]=.ok l') (hk:m_knot [K,l,l']=.ok b):runD false 4 (b_put_in F) [K,.tup [z1,z2,z3,l,r],A,d]=.ok b:=by
 rw [put_in_way hs hh hl]
 have h1:fTru (fCall (m_is_early) [(fVar 1),(fVar 2)]) [.val K,.val (.tup [z1,z2,z3,l,r]),.val A,.val d]=.ok false:=by simp (decide:=true) [tbM_tail,startD,fVar,fVarS,isT,at_0,at_1,at_2,at_3,at_4,he]
 exact run_rt ((if_no h1 rfl).trans (ret_is (by simp (decide:=true) [tbM_tail,startD,fVar,fVarS,isT,at_0,at_1,at_2,at_3,at_4,hf,hk])))
theorem put_eq {a:Nat} {d:D} (ha:a < all) (hd:Okd d):∀ (n:Nat) (t t':T),Good t->t.e < n->put a d t=some t'->m_put_in n [.obj "Kind",E t,.int (a:Int),d]=.ok (E t')
 | 0,t,_,_,h,_=>by omega
 | n + 1,.lf b e,t',G,_,hp=>by
  have hu:m_put_in (n + 1) [.obj "Kind",E (.lf b e),.int (a:Int),d]=runD false 4 (b_put_in (m_put_in n)) [.obj "Kind",E (.lf b e),.int (a:Int),d]:=rfl
  rw [hu]
  generalize m_put_in n=F
  have lb:(T.lf b e).lo=b:=by simp [T.lo,T.q,T.e]
  have sb:(T.lf b e).sz=1:=rfl
  have hab:a≠b:=fun z=>by
   subst z
   simp [put] at hp
  have s:=stretch_eq (.lf b e)
  have lq:=leaf_eq a hd
  have bq:=beside_eq (d:=d) G ha (by rw [lb,sb];omega)
  rw [lb] at bq s
  rw [sb] at s
  have hh:=holds_eq (b:Int) 1 a
  have hf:(decide ((b:Int)<=(a:Int)) && decide ((a:Int)<=(b:Int) + 1 - 1))=false:=by
   by_cases z:(b:Int)<=(a:Int)
   ·have:¬ (a:Int)<=(b:Int) + 1 - 1:=by omega
    simp [this];omega
   ·simp [z]
  rw [hf] at hh
  have ht:(if a < b then mk (.lf a d) (.lf b e) else mk (.lf b e) (.lf a d))=t':=by
   simp only [put] at hp
   by_cases z:a < b
   ·rw [if_pos z] at hp ⊢;exact Option.some.inj hp
   ·rw [if_neg z,if_pos (show b < a by omega)] at hp
    rw [if_neg z];exact Option.some.inj hp
  rw [ht] at bq
  have hx:∃ xs,E (.lf b e)=.tup xs:=⟨_,rfl⟩
  obtain ⟨xs,hx⟩:=hx
  rw [hx] at s bq ⊢
  have s':m_stretch_of [.tup xs]=.ok (.tup [.int (b:Int),.int 1]):=s
  exact put_far s' hh lq bq
 | n + 1,.nd q k l r,t',G,hn,hp=>by
  have hu:m_put_in (n + 1) [.obj "Kind",E (.nd q k l r),.int (a:Int),d]=runD false 4 (b_put_in (m_put_in n)) [.obj "Kind",E (.nd q k l r),.int (a:Int),d]:=rfl
  obtain ⟨hl,hr,el,er,hdj⟩:=sub_e G
  have hn':k + 1 < n + 1:=hn
  have lb:(T.nd q k l r).lo=q * 2 ^ (k + 1):=rfl
  have sb:(T.nd q k l r).sz=2 ^ (k + 1):=rfl
  have s:=stretch_eq (.nd q k l r)
  rw [lb,sb] at s
  have hh:=holds_eq ((q * 2 ^ (k + 1):Nat):Int) ((2 ^ (k + 1):Nat):Int) a
  have ex:E (.nd q k l r)=.tup [.int ((q * 2 ^ (k + 1):Nat):Int),.int ((2 ^ (k + 1):Nat):Int),en (join (V l) (V r)),E l,E r]:=rfl
  have pk:=Nat.two_pow_pos k
  have e2:2 ^ (k + 1)=2 ^ k * 2:=Nat.pow_succ ..
  by_cases hin:a < q * 2 ^ (k + 1)\/q * 2 ^ (k + 1) + 2 ^ (k + 1)<=a
  ·have lq:=leaf_eq a hd
   have bq:=beside_eq (d:=d) G ha (by rw [lb,sb];exact hin)
   rw [lb] at bq
   have hf:(decide (((q * 2 ^ (k + 1):Nat):Int)<=(a:Int)) && decide ((a:Int)<=((q * 2 ^ (k + 1):Nat):Int) + ((2 ^ (k + 1):Nat):Int) - 1))=false:=by
    rcases hin with z | z
    ·have:¬ ((q * 2 ^ (k + 1):Nat):Int)<=(a:Int):=by omega
     rw [decide_eq_false this];rfl
    ·have:¬ (a:Int)<=((q * 2 ^ (k + 1):Nat):Int) + ((2 ^ (k + 1):Nat):Int) - 1:=by omega
     rw [decide_eq_false this,Bool.and_false]
   rw [hf] at hh
   have ht:(if a < q * 2 ^ (k + 1) then mk (.lf a d) (.nd q k l r) else mk (.nd q k l r) (.lf a d))=t':=by
    simp only [put] at hp
    by_cases z:a < q * 2 ^ (k + 1)
    ·rw [if_pos z] at hp ⊢;exact Option.some.inj hp
    ·rw [if_neg z,if_pos (by omega)] at hp
     rw [if_neg z];exact Option.some.inj hp
   rw [ht] at bq
   rw [hu]
   rw [ex] at s bq ⊢
   exact put_far s hh lq bq
  ·have n1:¬ a < q * 2 ^ (k + 1):=fun z=>hin (.inl z)
   have n2:¬ q * 2 ^ (k + 1) + 2 ^ (k + 1)<=a:=fun z=>hin (.inr z)
   have hf:(decide (((q * 2 ^ (k + 1):Nat):Int)<=(a:Int)) && decide ((a:Int)<=((q * 2 ^ (k + 1):Nat):Int) + ((2 ^ (k + 1):Nat):Int) - 1))=true:=by
    rw [decide_eq_true (show ((q * 2 ^ (k + 1):Nat):Int)<=(a:Int) by omega),decide_eq_true (show (a:Int)<=((q * 2 ^ (k + 1):Nat):Int) + ((2 ^ (k + 1):Nat):Int) - 1 by omega)]
    rfl
   rw [hf] at hh
   have lfn:=leaf_nd q k l r
   have eq:=early_eq q k a l r
   simp only [put,if_neg n1,if_neg n2] at hp
   by_cases c3:a < q * 2 ^ (k + 1) + 2 ^ k
   ·have he:(decide (((q * 2 ^ (k + 1):Nat):Int)<=(a:Int)) && decide ((a:Int)<=((q * 2 ^ (k + 1):Nat):Int) + ((2 ^ k:Nat):Int) - 1))=true:=by
     rw [decide_eq_true (show ((q * 2 ^ (k + 1):Nat):Int)<=(a:Int) by omega),decide_eq_true (show (a:Int)<=((q * 2 ^ (k + 1):Nat):Int) + ((2 ^ k:Nat):Int) - 1 by omega)]
     rfl
    rw [he] at eq
    rw [if_pos c3] at hp
    cases hpl:put a d l with
    | none=>rw [hpl] at hp;cases hp
    | some l' =>
     rw [hpl] at hp
     obtain rfl:mk l' r=t':=Option.some.inj hp
     have ih:=put_eq ha hd n l l' hl (by omega) hpl
     have hnl:∀ p∈l.ds,p.1≠a:=put_new l (by rw [hpl];simp) hl
     obtain ⟨l2,P⟩:=put_ok (d:=d) ha hl hnl
     have el2:l2=l':=Option.some.inj (P.eq.symm.trans hpl)
     subst el2
     have ek:q * 2 ^ (k + 1)=2 * q * 2 ^ k:=by rw [e2,Nat.mul_comm (2 ^ k) 2,← Nat.mul_assoc,Nat.mul_comm q 2]
     have wl:Within l2 (2 * q) k:=by
      cases G with
      | nd _ _ h1 h2 h3 h4 h5=>exact P.win (2 * q) k ⟨by omega,by omega⟩ (Bt.in_block.mpr ⟨by omega,by omega⟩)
     have hdis:l2.lo + l2.sz<=r.lo:=by
      cases G with
      | nd _ _ h1 h2 h3 h4 h5=>have:=wl.2;omega
     have kq:=knot_eq P.good hr hdis
     rw [hu]
     rw [ex] at s lfn eq ⊢
     exact put_early s hh lfn eq ih kq
   ·have he:(decide (((q * 2 ^ (k + 1):Nat):Int)<=(a:Int)) && decide ((a:Int)<=((q * 2 ^ (k + 1):Nat):Int) + ((2 ^ k:Nat):Int) - 1))=false:=by
     rw [decide_eq_false (show ¬ (a:Int)<=((q * 2 ^ (k + 1):Nat):Int) + ((2 ^ k:Nat):Int) - 1 by omega),Bool.and_false]
    rw [he] at eq
    rw [if_neg c3] at hp
    cases hpl:put a d r with
    | none=>rw [hpl] at hp;cases hp
    | some r' =>
     rw [hpl] at hp
     obtain rfl:mk l r'=t':=Option.some.inj hp
     have ih:=put_eq ha hd n r r' hr (by omega) hpl
     have hnr:∀ p∈r.ds,p.1≠a:=put_new r (by rw [hpl];simp) hr
     obtain ⟨r2,P⟩:=put_ok (d:=d) ha hr hnr
     have el2:r2=r':=Option.some.inj (P.eq.symm.trans hpl)
     subst el2
     have ek:q * 2 ^ (k + 1)=2 * q * 2 ^ k:=by rw [e2,Nat.mul_comm (2 ^ k) 2,← Nat.mul_assoc,Nat.mul_comm q 2]
     have eb:(2 * q + 1) * 2 ^ k=q * 2 ^ (k + 1) + 2 ^ k:=by rw [Nat.add_mul,Nat.one_mul,ek]
     have wr:Within r2 (2 * q + 1) k:=by
      cases G with
      | nd _ _ h1 h2 h3 h4 h5=>exact P.win (2 * q + 1) k ⟨by omega,by omega⟩ (Bt.in_block.mpr ⟨by omega,by omega⟩)
     have hdis:l.lo + l.sz<=r2.lo:=by
      cases G with
      | nd _ _ h1 h2 h3 h4 h5=>have:=wr.1;omega
     have kq:=knot_eq hl P.good hdis
     rw [hu]
     rw [ex] at s lfn eq ⊢
     exact put_late s hh lfn eq ih kq
def GoodO:Option T->Prop
 | some t=>Good t
 | none=>True
theorem put_in_eq {o:Option T} (h:GoodO o) {a:Nat} (ha:a < all) {d:D} (hd:Okd d) (hn:∀ p∈dsO o,p.1≠a):∃ t',m_put_in 64 [.obj "Kind",EO o,.int (a:Int),d]=.ok (E t')/\Good t'/\t'.ds=insK a d (dsO o):=by
 cases o with
 | none =>
  refine ⟨.lf a d,?_,.lf ha,rfl⟩
  have hu:m_put_in 64 [.obj "Kind",.non,.int (a:Int),d]=runD false 4 (b_put_in (m_put_in 63)) [.obj "Kind",.non,.int (a:Int),d]:=rfl
  show m_put_in 64 [.obj "Kind",.non,.int (a:Int),d]=_
  rw [hu]
  exact run_rt (if_ret (b:=true) rfl rfl (leaf_eq a hd))
 | some t =>
  obtain ⟨t',P⟩:=put_ok (d:=d) ha h hn
  have:=depth h
  exact ⟨t',put_eq ha hd 64 t t' h (by omega) P.eq,P.good,P.ds⟩
end
section
open Tr
end
section
open Tr
theorem within_eq {a b c e:Int} (hb:1<=b):m_within [.tup [.int a,.int b],.tup [.int c,.int e]]=.ok (.bl (decide (c<=a/\a + b<=c + e))):=by
 have h1:=holds_eq c e a
 have h2:=holds_eq c e (a + b - 1)
 have l:=last_time_eq a b
 by_cases z:c<=a/\a + b<=c + e
 ·have x1:(decide (c<=a) && decide (a<=c + e - 1))=true:=by simp;omega
  have x2:(decide (c<=a + b - 1) && decide (a + b - 1<=c + e - 1))=true:=by simp;omega
  rw [x1] at h1
  rw [x2] at h2
  rw [decide_eq_true z]
  simp (decide:=true) [tbM_tail,startD,fVar,fVarS,isT,at_0,at_1,at_2,at_3,at_4,m_within,b_within,h1,h2,l]
 ·rw [decide_eq_false z]
  by_cases y:c<=a/\a<=c + e - 1
  ·have x1:(decide (c<=a) && decide (a<=c + e - 1))=true:=by simp;omega
   have x2:(decide (c<=a + b - 1) && decide (a + b - 1<=c + e - 1))=false:=by simp;omega
   rw [x1] at h1
   rw [x2] at h2
   simp (decide:=true) [tbM_tail,startD,fVar,fVarS,isT,at_0,at_1,at_2,at_3,at_4,m_within,b_within,h1,h2,l]
  ·have x1:(decide (c<=a) && decide (a<=c + e - 1))=false:=by simp;omega
   rw [x1] at h1
   simp (decide:=true) [tbM_tail,startD,fVar,fVarS,isT,at_0,at_1,at_2,at_3,at_4,m_within,b_within,h1,l]
def blk (b:Nat×Nat):D:=.tup [.int ((b.1 * 2 ^ b.2:Nat):Int),.int ((2 ^ b.2:Nat):Int)]
def down (Q n:Nat):T->Option T
 | .lf _ _=>none
 | .nd q k l r=>if q * 2 ^ (k + 1)<=Q * 2 ^ n/\Q * 2 ^ n + 2 ^ n<=q * 2 ^ (k + 1) + 2 ^ k then some l else if q * 2 ^ (k + 1) + 2 ^ k<=Q * 2 ^ n/\Q * 2 ^ n + 2 ^ n<=q * 2 ^ (k + 1) + 2 ^ (k + 1) then some r else none
theorem insT_step (Q n:Nat) (t:T):insT Q n t=if Within t Q n then some t else (down Q n t).bind (insT Q n):=by
 cases t with
 | lf a d=>simp only [insT,down];split <;> rfl
 | nd q k l r =>
  simp only [insT,down]
  split
  ·rfl
  ·split
   ·rfl
   ·split <;> rfl
theorem down_eq (Q n:Nat) (t:T):m_one_step_down [E t,blk (Q,n)]=.ok (EO (down Q n t)):=by
 cases t with
 | lf a d =>
  have l:=leaf_lf a d
  have hx:∃ xs,E (.lf a d)=.tup xs:=⟨_,rfl⟩
  obtain ⟨xs,hx⟩:=hx
  rw [hx] at l ⊢
  show _=Ou.ok D.non
  generalize blk (Q,n)=z
  simp (decide:=true) [tbM_tail,startD,fVar,fVarS,isT,at_0,at_1,at_2,at_3,at_4,m_one_step_down,b_one_step_down,l]
 | nd q k l r =>
  have ln:=leaf_nd q k l r
  have s:=stretch_eq (.nd q k l r)
  have e1:((T.nd q k l r).lo:Int)=((q * 2 ^ (k + 1):Nat):Int):=rfl
  have e2:((T.nd q k l r).sz:Int)=((2 ^ (k + 1):Nat):Int):=rfl
  have pn:=Nat.two_pow_pos n
  have ep:2 ^ (k + 1)=2 ^ k * 2:=Nat.pow_succ ..
  have eh:((2 ^ (k + 1):Nat):Int) / 2=((2 ^ k:Nat):Int):=by omega
  rw [e1,e2] at s
  have w1:=within_eq (a:=((Q * 2 ^ n:Nat):Int)) (b:=((2 ^ n:Nat):Int)) (c:=((q * 2 ^ (k + 1):Nat):Int)) (e:=((2 ^ k:Nat):Int)) (by omega)
  have w2:=within_eq (a:=((Q * 2 ^ n:Nat):Int)) (b:=((2 ^ n:Nat):Int)) (c:=((q * 2 ^ (k + 1):Nat):Int) + ((2 ^ k:Nat):Int)) (e:=((2 ^ k:Nat):Int)) (by omega)
  have ex:E (.nd q k l r)=.tup [.int ((q * 2 ^ (k + 1):Nat):Int),.int ((2 ^ (k + 1):Nat):Int),en (join (V l) (V r)),E l,E r]:=rfl
  have eb:blk (Q,n)=.tup [.int ((Q * 2 ^ n:Nat):Int),.int ((2 ^ n:Nat):Int)]:=rfl
  have hv:m_halves [.tup [.int ((q * 2 ^ (k + 1):Nat):Int),.int ((2 ^ (k + 1):Nat):Int)]]=.ok (.tup [.tup [.int ((q * 2 ^ (k + 1):Nat):Int),.int ((2 ^ k:Nat):Int)],.tup [.int (((q * 2 ^ (k + 1):Nat):Int) + ((2 ^ k:Nat):Int)),.int ((2 ^ k:Nat):Int)]]):=by
   generalize ((q * 2 ^ (k + 1):Nat):Int)=z1 at *
   generalize ((2 ^ (k + 1):Nat):Int)=z2 at *
   generalize ((2 ^ k:Nat):Int)=z8 at *
   simp (decide:=true) [tbM_tail,startD,fVar,fVarS,isT,at_0,at_1,at_2,at_3,at_4,m_halves,b_halves,eh]
  by_cases c1:q * 2 ^ (k + 1)<=Q * 2 ^ n/\Q * 2 ^ n + 2 ^ n<=q * 2 ^ (k + 1) + 2 ^ k
  ·have d1:((q * 2 ^ (k + 1):Nat):Int)<=((Q * 2 ^ n:Nat):Int)/\((Q * 2 ^ n:Nat):Int) + ((2 ^ n:Nat):Int)<=((q * 2 ^ (k + 1):Nat):Int) + ((2 ^ k:Nat):Int):=by omega
   rw [decide_eq_true d1] at w1
   have hd:down Q n (.nd q k l r)=some l:=by simp only [down];rw [if_pos c1]
   rw [hd]
   show _=Ou.ok (E l)
   rw [eb]
   rw [ex] at ln s ⊢
   generalize ((q * 2 ^ (k + 1):Nat):Int)=z1 at *
   generalize ((2 ^ (k + 1):Nat):Int)=z2 at *
   generalize en (join (V l) (V r))=z3 at *
   generalize E l=z4 at *
   generalize E r=z5 at *
   generalize ((Q * 2 ^ n:Nat):Int)=z6 at *
   generalize ((2 ^ n:Nat):Int)=z7 at *
   generalize ((2 ^ k:Nat):Int)=z8 at *
   simp (decide:=true) [tbM_tail,startD,fVar,fVarS,isT,at_0,at_1,at_2,at_3,at_4,m_one_step_down,b_one_step_down,ln,s,hv,w1]
  ·have d1:¬ (((q * 2 ^ (k + 1):Nat):Int)<=((Q * 2 ^ n:Nat):Int)/\((Q * 2 ^ n:Nat):Int) + ((2 ^ n:Nat):Int)<=((q * 2 ^ (k + 1):Nat):Int) + ((2 ^ k:Nat):Int)):=by omega
   rw [decide_eq_false d1] at w1
   by_cases c2:q * 2 ^ (k + 1) + 2 ^ k<=Q * 2 ^ n/\Q * 2 ^ n + 2 ^ n<=q * 2 ^ (k + 1) + 2 ^ (k + 1)
   ·have d2:((q * 2 ^ (k + 1):Nat):Int) + ((2 ^ k:Nat):Int)<=((Q * 2 ^ n:Nat):Int)/\((Q * 2 ^ n:Nat):Int) + ((2 ^ n:Nat):Int)<=((q * 2 ^ (k + 1):Nat):Int) + ((2 ^ k:Nat):Int) + ((2 ^ k:Nat):Int):=by omega
    rw [decide_eq_true d2] at w2
    have hd:down Q n (.nd q k l r)=some r:=by simp only [down];rw [if_neg c1,if_pos c2]
    rw [hd]
    show _=Ou.ok (E r)
    rw [eb]
    rw [ex] at ln s ⊢
    generalize ((q * 2 ^ (k + 1):Nat):Int)=z1 at *
    generalize ((2 ^ (k + 1):Nat):Int)=z2 at *
    generalize en (join (V l) (V r))=z3 at *
    generalize E l=z4 at *
    generalize E r=z5 at *
    generalize ((Q * 2 ^ n:Nat):Int)=z6 at *
    generalize ((2 ^ n:Nat):Int)=z7 at *
    generalize ((2 ^ k:Nat):Int)=z8 at *
    simp (decide:=true) [tbM_tail,startD,fVar,fVarS,isT,at_0,at_1,at_2,at_3,at_4,m_one_step_down,b_one_step_down,ln,s,hv,w1,w2]
   ·have d2:¬ (((q * 2 ^ (k + 1):Nat):Int) + ((2 ^ k:Nat):Int)<=((Q * 2 ^ n:Nat):Int)/\((Q * 2 ^ n:Nat):Int) + ((2 ^ n:Nat):Int)<=((q * 2 ^ (k + 1):Nat):Int) + ((2 ^ k:Nat):Int) + ((2 ^ k:Nat):Int)):=by omega
    rw [decide_eq_false d2] at w2
    have hd:down Q n (.nd q k l r)=none:=by simp only [down];rw [if_neg c1,if_neg c2]
    rw [hd]
    show _=Ou.ok D.non
    rw [eb]
    rw [ex] at ln s ⊢
    generalize ((q * 2 ^ (k + 1):Nat):Int)=z1 at *
    generalize ((2 ^ (k + 1):Nat):Int)=z2 at *
    generalize en (join (V l) (V r))=z3 at *
    generalize E l=z4 at *
    generalize E r=z5 at *
    generalize ((Q * 2 ^ n:Nat):Int)=z6 at *
    generalize ((2 ^ n:Nat):Int)=z7 at *
    generalize ((2 ^ k:Nat):Int)=z8 at *
    simp (decide:=true) [tbM_tail,startD,fVar,fVarS,isT,at_0,at_1,at_2,at_3,at_4,m_one_step_down,b_one_step_down,ln,s,hv,w1,w2]
theorem within_t (Q n:Nat) (t:T):m_within [.tup [.int (t.lo:Int),.int (t.sz:Int)],blk (Q,n)]=.ok (.bl (decide (Within t Q n))):=by
 have pt:=sz_pos t
 have w:=within_eq (a:=(t.lo:Int)) (b:=(t.sz:Int)) (c:=((Q * 2 ^ n:Nat):Int)) (e:=((2 ^ n:Nat):Int)) (by omega)
 show m_within [.tup [.int (t.lo:Int),.int (t.sz:Int)],.tup [.int ((Q * 2 ^ n:Nat):Int),.int ((2 ^ n:Nat):Int)]]=_
 rw [w]
 have e:(((Q * 2 ^ n:Nat):Int)<=(t.lo:Int)/\(t.lo:Int) + (t.sz:Int)<=((Q * 2 ^ n:Nat):Int) + ((2 ^ n:Nat):Int)) ↔ Within t Q n:=by unfold Tr.Within;omega
 by_cases z:Within t Q n
 ·rw [decide_eq_true z,decide_eq_true (e.mpr z)]
 ·rw [decide_eq_false z,decide_eq_false fun y=>z (e.mp y)]
theorem inside_loop (Q n:Nat) (s0:Sl):∀ (fuel:Nat) (o:Option T),GoodO o->(∀ t,o=some t->t.e + 1 < fuel)->0 < fuel->whileF (fAndT (fAsB (f1 gNotN (fVar 2))) (fNotT (fTru (fCall (m_within) [(fCall (m_stretch_of) [(fVar 2)]),(fVar 1)])))) (sSeq (sSet 2 (fCall (m_one_step_down) [(fVarS 2),(fVarS 1)])) sNext) fuel [s0,.val (blk (Q,n)),.val (EO o)]=.ok (.nx [s0,.val (blk (Q,n)),.val (EO (o.bind (insT Q n)))])
 | 0,_,_,_,h=>by omega
 | fuel + 1,none,_,_,_=>by
  show whileF _ _ (fuel + 1) [s0,.val (blk (Q,n)),.val .non]=.ok (.nx [s0,.val (blk (Q,n)),.val .non])
  simp only [whileF]
  simp (decide:=true) [tbM_tail,startD,fVar,fVarS,isT,at_0,at_1,at_2,at_3,at_4]
 | fuel + 1,some t,G,hf,_=>by
  have hlt:=hf t rfl
  have w:=within_t Q n t
  have s:=stretch_eq t
  have hx:∃ xs,E t=.tup xs:=by
   obtain ⟨r,e⟩:=enc_form en lone join t
   exact ⟨_,e⟩
  obtain ⟨xs,hx⟩:=hx
  have nn:gNotN (.tup xs)=.ok (.bl true):=rfl
  show whileF _ _ (fuel + 1) [s0,.val (blk (Q,n)),.val (E t)]=.ok (.nx [s0,.val (blk (Q,n)),.val (EO (insT Q n t))])
  rw [insT_step]
  by_cases z:Within t Q n
  ·rw [if_pos z]
   rw [decide_eq_true z] at w
   show _=Ou.ok (Fl.nx [s0,.val (blk (Q,n)),.val (E t)])
   rw [hx] at s ⊢
   generalize blk (Q,n)=B at *
   simp only [whileF]
   simp (decide:=true) [tbM_tail,startD,fVar,fVarS,isT,at_0,at_1,at_2,at_3,at_4,nn,s,w]
  ·rw [if_neg z]
   rw [decide_eq_false z] at w
   have d:=down_eq Q n t
   have ih:=inside_loop Q n s0 fuel (down Q n t) (by
    cases t with
    | lf a d=>trivial
    | nd q k l r =>
     obtain ⟨hl,hr,_⟩:=sub_e G
     simp only [down]
     split
     ·exact hl
     ·split
      ·exact hr
      ·trivial) (by
    intro t' ht
    cases t with
    | lf a d=>cases ht
    | nd q k l r =>
     obtain ⟨hl,hr,el,er,_⟩:=sub_e G
     have:(T.nd q k l r).e=k + 1:=rfl
     simp only [down] at ht
     split at ht
     ·cases ht;omega
     ·split at ht
      ·cases ht;omega
      ·cases ht) (by omega)
   rw [← ih]
   rw [hx] at s d ⊢
   generalize blk (Q,n)=B at *
   generalize EO (down Q n t)=DD at *
   simp only [whileF]
   simp (decide:=true) [tbM_tail,startD,fVar,fVarS,isT,at_0,at_1,at_2,at_3,at_4,nn,s,w,d]
theorem inside_eq (Q n:Nat) {o:Option T} (h:GoodO o):m_inside [EO o,blk (Q,n)]=.ok (EO (o.bind (insT Q n))):=by
 have q:=inside_loop Q n (.val (EO o)) 40 o h (fun t ht=>by subst ht;have:=depth h;omega) (by decide)
 generalize EO (o.bind (insT Q n))=R at *
 generalize EO o=O at *
 generalize blk (Q,n)=B at *
 simp (decide:=true) [tbM_tail,startD,fVar,fVarS,isT,at_0,at_1,at_2,at_3,at_4,m_inside,b_inside,q]
end
theorem imm_en (x:Tv):imm (en x)=true:=rfl
theorem imm_d {d:D} (h:Okd d):imm d=true:=by cases h;rfl
section
open Tr
def prD (p:Nat×D):D:=.tup [.int (p.1:Int),p.2]
def Al (al:List (Nat×D)):Prop:=∀ p∈al,p.1 < all/\Okd p.2
theorem gd {al:List (Nat×D)} {o:Option T} (b:Book al o):GoodO o:=by
 cases o with
 | none=>trivial
 | some t=>exact b.good
theorem ds_ok {al:List (Nat×D)} {o:Option T} (b:Book al o) (h:Al al):∀ p∈dsO o,p.1 < all/\Okd p.2:=fun p hp=>h p (b.perm.mem_iff.mp hp)
theorem imm_E:∀ t:T,(∀ p∈t.ds,Okd p.2)->imm (E t)=true
 | .lf a d,h=>by
  have:=imm_d (h (a,d) (by simp [T.ds]))
  simp [E,enc,imm,imms,this,imm_en]
 | .nd q k l r,h=>by
  have h1:=imm_E l fun p hp=>h p (by simp [T.ds,hp])
  have h2:=imm_E r fun p hp=>h p (by simp [T.ds,hp])
  simp only [E,enc] at h1 h2 ⊢
  simp [imm,imms,h1,h2,imm_en]
theorem put_turn {al:List (Nat×D)} {o:Option T} (b:Book al o) (h:Al al) {a:Nat} (ha:a < all) (hn:∀ p∈al,p.1≠a) {d:D} (hd:Okd d):∃ t,m_put_in 64 [.obj "Kind",EO o,.int (a:Int),d]=.ok (E t)/\imm (E t)=true/\Book (al++[(a,d)]) (some t)/\Al (al++[(a,d)]):=by
 obtain ⟨t,e,hg,hds⟩:=put_in_eq (gd b) ha hd (b.none_at hn)
 have B:=b.put hg hds
 have A:Al (al++[(a,d)]):=fun p hp=>by
  rcases List.mem_append.mp hp with hp | hp
  ·exact h p hp
  ·simp at hp;subst hp;exact ⟨ha,hd⟩
 exact ⟨t,e,imm_E t fun p hp=>(ds_ok B A p hp).2,B,A⟩
end
def Tm (t:Int):Prop:=0<=t/\t < 1073741824
theorem cell_at_eq (ns:List Int) {k:Int} (h:0<=k):∃ c,m__law_cell_at [.frl (ns.map .int),.int k]=.ok (.int c):=by
 obtain ⟨k,rfl⟩:∃ n:Nat,k=(n:Int):=⟨k.toNat,by omega⟩
 by_cases h:k < ns.length
 ·have h1:(k:Int) < (ns.length:Int):=by omega
  have h2:=at_map h
  exact ⟨ns[k],by simp (decide:=true) -implicitDefEqProofs [tbM_tail,startD,fVar,fVarS,isT,at_0,at_1,at_2,at_3,at_4,m__law_cell_at,b__law_cell_at,h1,h2]⟩
 ·have h1:¬ (k:Int) < (ns.length:Int):=by omega
  exact ⟨0,by simp (decide:=true) -implicitDefEqProofs [tbM_tail,startD,fVar,fVarS,isT,at_0,at_1,at_2,at_3,at_4,m__law_cell_at,b__law_cell_at,h1]⟩
theorem pw30 (n:Nat) (hn:n<=29):(1:Int)<=2 ^ n/\(2:Int) ^ n < 1073741824:=by
 rw [pow_int]
 have a1:(1:Nat)<=2 ^ n:=Nat.one_le_two_pow
 have a2:(2:Nat) ^ n<=2 ^ 29:=Nat.pow_le_pow_right (by decide) hn
 have a3:(2:Nat) ^ 29=536870912:=by decide
 omega
section
open Tr
theorem at_end {α:Type} (xs:List α) (v:α):atI (xs++[v]) (-1)=some v:=by
 have e:ixN (xs++[v]).length (-1)=some xs.length:=by
  unfold ixN
  rw [if_neg (by decide),if_pos (by rw [List.length_append,List.length_singleton];omega)]
  congr 1
  rw [List.length_append,List.length_singleton]
  omega
 unfold atI
 rw [e]
 simp
theorem bits_mid {q k x y:Nat} (h1:q * 2 ^ (k + 1)<=x) (h2:x < q * 2 ^ (k + 1) + 2 ^ k) (h3:q * 2 ^ (k + 1) + 2 ^ k<=y) (h4:y < q * 2 ^ (k + 1) + 2 ^ (k + 1)):Bt.bits (x ^^^ y)=k + 1/\x / 2 ^ (k + 1)=q:=by
 have p:2 ^ (k + 1)=2 * 2 ^ k:=by rw [Nat.pow_succ];omega
 have hx:x / 2 ^ (k + 1)=q:=Bt.in_block.mpr ⟨h1,by omega⟩
 have hy:y / 2 ^ (k + 1)=q:=Bt.in_block.mpr ⟨by omega,h4⟩
 have u:Bt.bits (x ^^^ y)<=k + 1:=Bt.bits_le_iff.mpr (hx.trans hy.symm)
 refine ⟨?_,hx⟩
 have l:¬ Bt.bits (x ^^^ y)<=k:=fun z=>by
  have e:=Bt.bits_le_iff.mp z
  have p2:q * 2 ^ (k + 1)=q * 2 * 2 ^ k:=by rw [p,Nat.mul_assoc]
  have a:x / 2 ^ k=q * 2:=Bt.in_block.mpr ⟨by omega,by omega⟩
  have b:y / 2 ^ k=q * 2 + 1:=Bt.in_block.mpr ⟨by rw [Nat.add_mul];omega,by rw [Nat.add_mul];omega⟩
  omega
 omega
theorem lt_comp (e:Int):∀ (l:List (Nat×D)) (s0:Sl),compL (gNm 0) (fAsB (f2 gLt (f2 gIx (fVar 0) (fC (.int 0))) (fVar 1))) (fVarS 0) (l.map prD) [s0,.val (.int e)]=.ok ((l.filter fun p=>decide ((p.1:Int) < e)).map prD)
 | [],_=>rfl
 | p::l,s0=>by
  have i:=lt_comp e l (.val (prD p))
  simp only [List.map_cons,compL,e_nm,bind_ok,List.set]
  by_cases c:(p.1:Int) < e
  ·rw [List.filter_cons_of_pos (by simpa using c),List.map_cons]
   simp (decide:=true) -implicitDefEqProofs [tbM_tail,startD,fVar,fVarS,isT,at_0,at_1,at_2,at_3,at_4,prD,c] at i ⊢
   simp (decide:=true) -implicitDefEqProofs [tbM_tail,startD,fVar,fVarS,isT,at_0,at_1,at_2,at_3,at_4,i]
  ·rw [List.filter_cons_of_neg (by simpa using c)]
   simp (decide:=true) -implicitDefEqProofs [tbM_tail,startD,fVar,fVarS,isT,at_0,at_1,at_2,at_3,at_4,prD,c] at i ⊢
   simp (decide:=true) -implicitDefEqProofs [tbM_tail,startD,fVar,fVarS,isT,at_0,at_1,at_2,at_3,at_4,i]
theorem ge_comp (e:Int):∀ (l:List (Nat×D)) (s0:Sl),compL (gNm 0) (fAsB (f2 gGe (f2 gIx (fVar 0) (fC (.int 0))) (fVar 1))) (fVarS 0) (l.map prD) [s0,.val (.int e)]=.ok ((l.filter fun p=>decide (e<=(p.1:Int))).map prD)
 | [],_=>rfl
 | p::l,s0=>by
  have i:=ge_comp e l (.val (prD p))
  simp only [List.map_cons,compL,e_nm,bind_ok,List.set]
  by_cases c:e<=(p.1:Int)
  ·rw [List.filter_cons_of_pos (by simpa using c),List.map_cons]
   simp (decide:=true) -implicitDefEqProofs [tbM_tail,startD,fVar,fVarS,isT,at_0,at_1,at_2,at_3,at_4,prD,c] at i ⊢
   simp (decide:=true) -implicitDefEqProofs [tbM_tail,startD,fVar,fVarS,isT,at_0,at_1,at_2,at_3,at_4,i]
  ·rw [List.filter_cons_of_neg (by simpa using c)]
   simp (decide:=true) -implicitDefEqProofs [tbM_tail,startD,fVar,fVarS,isT,at_0,at_1,at_2,at_3,at_4,prD,c] at i ⊢
   simp (decide:=true) -implicitDefEqProofs [tbM_tail,startD,fVar,fVarS,isT,at_0,at_1,at_2,at_3,at_4,i]
theorem V_len:∀ t:T,V t=(t.ds.length:Int)
 | .lf a d=>rfl
 | .nd q k l r=>by
  have h1:=V_len l
  have h2:=V_len r
  show (V l + V r:Int)=((l.ds++r.ds).length:Int)
  rw [h1,h2,List.length_append,Int.natCast_add]
theorem ltree_nil (n:Nat):m__law_tree (n + 1) [.lst []]=.ok .non:=by
 show runD false 7 (b__law_tree (m__law_tree n)) [.lst []]=_
 generalize m__law_tree n=F
 simp (decide:=true) -implicitDefEqProofs [tbM_tail,startD,fVar,fVarS,isT,at_0,at_1,at_2,at_3,at_4,b__law_tree]
theorem ltree_eq:∀ (n:Nat) (t:T),Good t->t.e < n->t.ds.length<=100->m__law_tree n [.lst (t.ds.map prD)]=.ok (E t)
 | 0,t,_,h,_=>by omega
 | n + 1,.lf a d,_,_,_=>by
  show runD false 7 (b__law_tree (m__law_tree n)) [.lst [prD (a,d)]]=_
  generalize m__law_tree n=F
  have al:atI [D.tup [.int (a:Int),d]] (-1)=some (D.tup [.int (a:Int),d]):=at_end [] _
  simp (decide:=true) -implicitDefEqProofs [tbM_tail,startD,fVar,fVarS,isT,at_0,at_1,at_2,at_3,at_4,b__law_tree,prD,al,E,enc,en,tv,lone,T.lo,T.sz,T.q,T.e]
 | n + 1,.nd q k l r,G,he,hlen=>by
  obtain ⟨gl,gr,el,er,hd⟩:=sub_e G
  have hen:k < n:=by have:T.e (.nd q k l r)=k + 1:=rfl;omega
  have dl:(l.ds++r.ds).length<=100:=hlen
  rw [List.length_append] at dl
  have i1:=ltree_eq n l gl (by omega) (by omega)
  have i2:=ltree_eq n r gr (by omega) (by omega)
  obtain ⟨p,l',hp,_⟩:=first_in gl
  obtain ⟨r',z,hz⟩:∃ r' z,r.ds=r'++[z]:=⟨r.ds.dropLast,r.ds.getLast (ds_ne r),(List.dropLast_concat_getLast (ds_ne r)).symm⟩
  have tl:=times_in gl
  have tr:=times_in gr
  cases G with
  | nd _ _ b1 b2 b3 b4 b5 =>
  have p1:=tl p (by rw [hp];exact List.mem_cons_self)
  have z1:=tr z (by rw [hz];exact List.mem_append_right _ (by simp))
  have hall:all=1073741824:=rfl
  have hpw:2 ^ (k + 1)=2 * 2 ^ k:=by rw [Nat.pow_succ];omega
  have pk:0 < 2 ^ k:=Nat.two_pow_pos k
  obtain ⟨hb,hq⟩:=bits_mid (q:=q) (k:=k) (x:=p.1) (y:=z.1) (by omega) (by omega) (by omega) (by omega)
  have k30:k + 1<=30:=by
   have:2 ^ (k + 1)<=2 ^ 30:=by rw [p30];omega
   exact (Nat.pow_le_pow_iff_right (by decide)).mp this
  have hrows:(T.nd q k l r).ds=p::(l'++r')++[z]:=by
   show l.ds++r.ds=_
   rw [hp,hz];simp
  have flt:(T.nd q k l r).ds.filter (fun x=>decide ((x.1:Int) < ((q * 2 ^ (k + 1) + 2 ^ k:Nat):Int)))=l.ds:=by
   show (l.ds++r.ds).filter _=_
   rw [List.filter_append,filter_all fun x hx=>by have:=tl x hx;simp only [decide_eq_true_eq];omega,filter_none fun x hx=>by have:=tr x hx;simp only [decide_eq_false_iff_not];omega,List.append_nil]
  have fge:(T.nd q k l r).ds.filter (fun x=>decide (((q * 2 ^ (k + 1) + 2 ^ k:Nat):Int)<=(x.1:Int)))=r.ds:=by
   show (l.ds++r.ds).filter _=_
   rw [List.filter_append,filter_none fun x hx=>by have:=tl x hx;simp only [decide_eq_false_iff_not];omega,filter_all fun x hx=>by have:=tr x hx;simp only [decide_eq_true_eq];omega,List.nil_append]
  have c1:=lt_comp ((q * 2 ^ (k + 1) + 2 ^ k:Nat):Int) (T.nd q k l r).ds .un
  have c2:=ge_comp ((q * 2 ^ (k + 1) + 2 ^ k:Nat):Int) (T.nd q k l r).ds .un
  rw [flt] at c1
  rw [fge] at c2
  have a0:atI ((T.nd q k l r).ds.map prD) 0=some (prD p):=by
   have h0:0 < ((T.nd q k l r).ds.map prD).length:=by rw [hrows];simp
   have:=at_nat h0
   rw [show ((0:Nat):Int)=0 from rfl] at this
   rw [this]
   congr 1
   simp only [hrows,List.cons_append,List.map_cons,List.getElem_cons_zero]
  have a1:atI ((T.nd q k l r).ds.map prD) (-1)=some (prD z):=by
   rw [hrows,List.map_append]
   exact at_end _ _
  have hl2:((T.nd q k l r).ds.map prD).length=(T.nd q k l r).ds.length:=List.length_map _
  have hne:((T.nd q k l r).ds.length:Int)=(l.ds.length:Int) + (r.ds.length:Int):=by
   show ((l.ds++r.ds).length:Int)=_
   rw [List.length_append];omega
  have n0:¬ ((T.nd q k l r).ds.length:Int)=0:=by rw [hrows];simp;omega
  have n1:¬ ((T.nd q k l r).ds.length:Int)=1:=by rw [hrows];simp;omega
  have hsz:((T.nd q k l r).ds.map prD).length<=sizeLine:=by rw [hl2];exact Nat.le_of_lt (small1000 (by omega))
  have hv:(V l + V r:Int)=((T.nd q k l r).ds.length:Int):=by rw [V_len l,V_len r,hne]
  have hE:E (.nd q k l r)=.tup [.int ((q * 2 ^ (k + 1):Nat):Int),.int ((2 ^ (k + 1):Nat):Int),.int ((T.nd q k l r).ds.length:Int),E l,E r]:=by
   rw [← hv];rfl
  rw [hE]
  show runD false 7 (b__law_tree (m__law_tree n)) [.lst ((T.nd q k l r).ds.map prD)]=_
  generalize (T.nd q k l r).ds.map prD=M at *
  generalize (T.nd q k l r).ds.length=N at *
  generalize l.ds.map prD=M1 at *
  generalize r.ds.map prD=M2 at *
  generalize E l=e1 at *
  generalize E r=e2 at *
  generalize m__law_tree n=F at *
  have x1:Builtin.bitXor (p.1:Int) (z.1:Int)=((p.1 ^^^ z.1:Nat):Int):=bitXor_nat _ _
  have x2:Builtin.Int.intBits ((p.1 ^^^ z.1:Nat):Int)=k + 1:=by rw [intBits_nat,hb]
  have c0:cPow 1 ((k + 1:Nat):Int)=true:=by simp [cPow];omega
  have ep:(2:Int) ^ (k + 1)=((2 ^ (k + 1):Nat):Int):=pow_int (k + 1)
  have hq2:(p.1:Int) / ((2 ^ (k + 1):Nat):Int)=(q:Int):=by rw [← Int.natCast_ediv,hq]
  have cd:cDiv (p.1:Int) ((2 ^ (k + 1):Nat):Int)=true:=by simp only [cDiv,decide_eq_true_eq];omega
  have cm:cMul (q:Int) ((2 ^ (k + 1):Nat):Int)=true:=by simp only [cMul,decide_eq_true_eq];omega
  have h2:((2 ^ (k + 1):Nat):Int) / 2=((2 ^ k:Nat):Int):=by rw [hpw];omega
  have em:((q * 2 ^ (k + 1):Nat):Int)=(q:Int) * ((2 ^ (k + 1):Nat):Int):=by rw [Int.natCast_mul]
  have eh:((q * 2 ^ (k + 1) + 2 ^ k:Nat):Int)=(q:Int) * ((2 ^ (k + 1):Nat):Int) + ((2 ^ k:Nat):Int):=by rw [Int.natCast_add,Int.natCast_mul]
  rw [em]
  rw [eh] at c1 c2
  generalize ((2 ^ (k + 1):Nat):Int)=w at *
  generalize ((2 ^ k:Nat):Int)=u at *
  have es:(q:Int) * w + u - u=(q:Int) * w:=by omega
  have hszN:N<=sizeLine:=by rw [← hl2];exact hsz
  have n0':¬ N=0:=by omega
  have n1':¬ N=1:=by omega
  have c0':cPow 1 ((k:Int) + 1)=true:=by simp [cPow];omega
  have tn:((k:Int) + 1).toNat=k + 1:=by omega
  simp (decide:=true) -implicitDefEqProofs [tbM_tail,startD,fVar,fVarS,isT,at_0,at_1,at_2,at_3,at_4,b__law_tree,a0,a1,hl2,n0,n1,n0',n1',prD,gBits,x1,x2,c0,c0',tn,ep,cd,hq2,cm,h2,fComp,fItems,hsz,hszN,dsIn,slIn,c1,c2,i1,i2,es]
theorem ins_res {o:Option T} (G:GoodO o) (Q n:Nat):GoodO (o.bind (insT Q n))/\dsO (o.bind (insT Q n))=(dsO o).filter (fun p=>decide (p.1 / 2 ^ n=Q)):=by
 cases o with
 | none=>exact ⟨trivial,rfl⟩
 | some t =>
  obtain ⟨q1,q2⟩:=insT_ok (Q:=Q) (n:=n) G
  show GoodO (insT Q n t)/\_
  refine ⟨?_,q1⟩
  cases hi:insT Q n t with
  | none=>trivial
  | some s=>exact (q2 s hi).1
theorem tree_res {o:Option T} (G:GoodO o) (h:(dsO o).length<=100):m__law_tree 64 [.lst ((dsO o).map prD)]=.ok (EO o):=by
 cases o with
 | none=>exact ltree_nil 63
 | some s =>
  have dp:=depth G
  exact ltree_eq 64 s G (by omega) h
theorem self_d {d:D} (h:Okd d):Self 2 d:=by
 cases h
 exact Self.tup fun y hy=>by
  simp at hy
  rcases hy with rfl | rfl
  ·exact Self.str _
  ·exact Self.int _
end
section
open Tr
theorem cut_len (ns:List Int) {cs:List Int} {i j:Nat} (hcs:cutD (ns.map D.int) (some (i:Int)) (some (j:Int))=cs.map D.int) {m:Nat} (hm:j - i=m):cs.length<=m:=by
 have e2:HT.sIx ns.length ns.length (some (j:Int))=min j ns.length:=HT.sIx_nat _ _ j
 have e3:HT.sIx ns.length 0 (some (i:Int))=min i ns.length:=HT.sIx_nat _ _ i
 have h2:(cutD (ns.map D.int) (some (i:Int)) (some (j:Int))).length<=m:=by
  unfold cutD
  rw [List.length_take,List.length_drop,List.length_map,e2,e3]
  omega
 rw [hcs,List.length_map] at h2
 exact h2
theorem time_eq (c:Int):∃ t,m__law_time [.int c]=.ok (.int t)/\Tm t:=by
 have b1:=mod_lt (c / 4) (m:=12) (by decide)
 have b2:=mod_lt (c / 4) (m:=1073741824) (by decide)
 by_cases h0:c % 4=0
 ·exact ⟨c / 4 % 12,by simp (decide:=true) -implicitDefEqProofs [tbM_tail,startD,fVar,fVarS,isT,at_0,at_1,at_2,at_3,at_4,m__law_time,b__law_time,h0],by unfold Tm;omega⟩
 ·by_cases h1:c % 4=1
  ·exact ⟨1073741823 - c / 4 % 12,by simp (decide:=true) -implicitDefEqProofs [tbM_tail,startD,fVar,fVarS,isT,at_0,at_1,at_2,at_3,at_4,m__law_time,b__law_time,h1],by unfold Tm;omega⟩
  ·exact ⟨c / 4 % 1073741824,by simp (decide:=true) -implicitDefEqProofs [tbM_tail,startD,fVar,fVarS,isT,at_0,at_1,at_2,at_3,at_4,m__law_time,b__law_time,h0,h1],b2⟩
end
section
open Tr
theorem tup_n (xs:List D):gIsN (.tup xs)=.ok (.bl false):=rfl
theorem left_eq {l r:Option T} (hl:GoodO l) (hr:GoodO r) (hd:∀ s u,l=some s->r=some u->s.lo + s.sz<=u.lo):m_what_is_left [.obj "Kind",EO l,EO r]=.ok (EO (left2 l r)):=by
 cases l with
 | none =>
  show m_what_is_left [.obj "Kind",.non,EO r]=.ok (EO r)
  generalize EO r=z
  simp (decide:=true) -implicitDefEqProofs [tbM_tail,startD,fVar,fVarS,isT,at_0,at_1,at_2,at_3,at_4,m_what_is_left,b_what_is_left]
 | some l =>
  obtain ⟨xs,hx⟩:∃ xs,E l=.tup xs:=by
   obtain ⟨r,e⟩:=enc_form en lone join l
   exact ⟨_,e⟩
  cases r with
  | none =>
   show m_what_is_left [.obj "Kind",E l,.non]=.ok (E l)
   rw [hx]
   simp (decide:=true) -implicitDefEqProofs [tbM_tail,startD,fVar,fVarS,isT,at_0,at_1,at_2,at_3,at_4,m_what_is_left,b_what_is_left,tup_n]
  | some r =>
   have k:=knot_eq hl hr (hd l r rfl rfl)
   obtain ⟨ys,hy⟩:∃ ys,E r=.tup ys:=by
    obtain ⟨z,e⟩:=enc_form en lone join r
    exact ⟨_,e⟩
   show m_what_is_left [.obj "Kind",E l,E r]=.ok (E (mk l r))
   rw [hx,hy] at k ⊢
   simp (decide:=true) -implicitDefEqProofs [tbM_tail,startD,fVar,fVarS,isT,at_0,at_1,at_2,at_3,at_4,m_what_is_left,b_what_is_left,tup_n,k]
theorem c_bare {K A s:D} {xs:List D} {b:Bool} (hs:m_stretch_of [.tup xs]=.ok s) (hh:m_holds [s,A]=.ok (.bl b)):fOrT (fAsB (f1 gIsN (fVar 1))) (fNotT (fTru (fCall (m_holds) [(fCall (m_stretch_of) [(fVar 1)]),(fVar 2)]))) [.val K,.val (.tup xs),.val A]=.ok (!b):=by
 simp (decide:=true) -implicitDefEqProofs [tbM_tail,startD,fVar,fVarS,isT,at_0,at_1,at_2,at_3,at_4,tup_n,hs,hh]
theorem out_leaf {F:List D->Ou D} {K A s:D} {xs:List D} (hs:m_stretch_of [.tup xs]=.ok s) (hh:m_holds [s,A]=.ok (.bl true)) (hl:m_is_leaf [.tup xs]=.ok (.bl true)):runD false 3 (b_taken_out F) [K,.tup xs,A]=.ok .non:=by
 refine run_rt ((if_no (c_bare hs hh) rfl).trans (if_ret (b:=true) ?_ rfl rfl))
 simp (decide:=true) -implicitDefEqProofs [tbM_tail,startD,fVar,fVarS,isT,at_0,at_1,at_2,at_3,at_4,hl]
theorem out_way {F:List D->Ou D} {K A s z1 z2 z3 l r:D} {b:Bool} (hs:m_stretch_of [.tup [z1,z2,z3,l,r]]=.ok s) (hh:m_holds [s,A]=.ok (.bl true)) (hl:m_is_leaf [.tup [z1,z2,z3,l,r]]=.ok (.bl false)) (he:m_is_early [.tup [z1,z2,z3,l,r],A]=.ok (.bl b)) {x y z:D} (hf:F [K,if b then l else r,A]=.ok x) (hy:m_what_is_left [K,if b then x else l,if b then r else x]=.ok z):runD false 3 (b_taken_out F) [K,.tup [z1,z2,z3,l,r],A]=.ok z:=by
 have h1:fTru (fCall (m_is_leaf) [(fVar 1)]) [.val K,.val (.tup [z1,z2,z3,l,r]),.val A]=.ok false:=by simp (decide:=true) -implicitDefEqProofs [tbM_tail,startD,fVar,fVarS,isT,at_0,at_1,at_2,at_3,at_4,hl]
 have h2:fTru (fCall (m_is_early) [(fVar 1),(fVar 2)]) [.val K,.val (.tup [z1,z2,z3,l,r]),.val A]=.ok b:=by simp (decide:=true) -implicitDefEqProofs [tbM_tail,startD,fVar,fVarS,isT,at_0,at_1,at_2,at_3,at_4,he]
 refine run_rt ((if_no (c_bare hs hh) rfl).trans ((if_no h1 rfl).trans ?_))
 cases b with
 | true =>
  simp only [if_true] at hf hy
  exact if_ret h2 rfl (by simp (decide:=true) -implicitDefEqProofs [tbM_tail,startD,fVar,fVarS,isT,at_0,at_1,at_2,at_3,at_4,hf,hy])
 | false =>
  simp only [Bool.false_eq_true,if_false] at hf hy
  exact (if_no h2 rfl).trans (ret_is (by simp (decide:=true) -implicitDefEqProofs [tbM_tail,startD,fVar,fVarS,isT,at_0,at_1,at_2,at_3,at_4,hf,hy]))
theorem hold_nd {q k a:Nat} (b:Bool) (h:(q * 2 ^ (k + 1)<=a/\a < q * 2 ^ (k + 1) + 2 ^ (k + 1)) ↔ b=true):(decide (((q * 2 ^ (k + 1):Nat):Int)<=(a:Int)) && decide ((a:Int)<=((q * 2 ^ (k + 1):Nat):Int) + ((2 ^ (k + 1):Nat):Int) - 1))=b:=by
 generalize q * 2 ^ (k + 1)=x at *
 generalize 2 ^ (k + 1)=y at *
 cases b with
 | true =>
  have:=h.mpr rfl
  rw [decide_eq_true (show (x:Int)<=(a:Int) by omega),decide_eq_true (show (a:Int)<=(x:Int) + (y:Int) - 1 by omega)]
  rfl
 | false =>
  have h':¬ (x<=a/\a < x + y):=fun z=>by simpa using h.mp z
  by_cases z:x<=a
  ·rw [decide_eq_false (show ¬ (a:Int)<=(x:Int) + (y:Int) - 1 by omega),Bool.and_false]
  ·rw [decide_eq_false (show ¬ (x:Int)<=(a:Int) by omega),Bool.false_and]
theorem early_nd {q k a : Nat} (b : Bool) (h0 : q * 2 ^ (k + 1) ≤ a) (h : a < q * 2 ^ (k + 1) + 2 ^ k ↔ b = true) : (decide (((q * 2 ^ (k + 1) : Nat) : Int) ≤ (a : Int)) && decide ((a : Int) ≤ ((q * 2 ^ (k + 1) : Nat) : Int) + ((2 ^ k : Nat) : Int) - 1)) = b := by
  generalize q * 2 ^ (k + 1) = x at *
  generalize 2 ^ k = y at *
  rw [decide_eq_true (show (x : Int) ≤ (a : Int) by omega), Bool.true_and]
  cases b with
  | true => exact decide_eq_true (by have := h.mpr rfl; omega)
  | false => exact decide_eq_false (by have : ¬ a < x + y := fun z => by simpa using h.mp z
                                       omega)
theorem taken_eq {a:Nat}:∀ (n:Nat) (t:T),Good t->t.e < n->(∃ p∈t.ds,p.1=a)->∃ o,m_taken_out n [.obj "Kind",E t,.int (a:Int)]=.ok (EO o)/\OutOk a t o
 | 0,t,_,h,_=>by omega
 | n + 1,.lf b e,G,_,hin=>by
  have hu:m_taken_out (n + 1) [.obj "Kind",E (.lf b e),.int (a:Int)]=runD false 3 (b_taken_out (m_taken_out n)) [.obj "Kind",E (.lf b e),.int (a:Int)]:=rfl
  rw [hu]
  generalize m_taken_out n=F
  have lb:(T.lf b e).lo=b:=by simp [T.lo,T.q,T.e]
  have sb:(T.lf b e).sz=1:=rfl
  obtain ⟨o,O⟩:=out_ok G hin
  obtain ⟨p,hp,rfl⟩:=hin
  simp [T.ds] at hp
  subst hp
  have s:=stretch_eq (.lf b e)
  rw [lb,sb] at s
  have hh:=holds_eq (b:Int) 1 b
  have hf:(decide ((b:Int)<=(b:Int)) && decide ((b:Int)<=(b:Int) + 1 - 1))=true:=by simp
  rw [hf] at hh
  have lfn:=leaf_lf b e
  have ho:=O.eq
  simp [out] at ho
  subst ho
  refine ⟨none,?_,O⟩
  obtain ⟨xs,hx⟩:∃ xs,E (.lf b e)=.tup xs:=⟨_,rfl⟩
  rw [hx] at s lfn ⊢
  exact out_leaf s hh lfn
 | n + 1,.nd q k l r,G,hn,hin=>by
  have hu:m_taken_out (n + 1) [.obj "Kind",E (.nd q k l r),.int (a:Int)]=runD false 3 (b_taken_out (m_taken_out n)) [.obj "Kind",E (.nd q k l r),.int (a:Int)]:=rfl
  rw [hu]
  obtain ⟨hl,hr,el,er,hdj⟩:=sub_e G
  have hn':k + 1 < n + 1:=hn
  have lb:(T.nd q k l r).lo=q * 2 ^ (k + 1):=rfl
  have sb:(T.nd q k l r).sz=2 ^ (k + 1):=rfl
  obtain ⟨o',O'⟩:=out_ok G hin
  obtain ⟨p,hp,rfl⟩:=hin
  have s:=stretch_eq (.nd q k l r)
  have tin:=times_in G p hp
  rw [lb,sb] at s tin
  have hh:=holds_eq ((q * 2 ^ (k + 1):Nat):Int) ((2 ^ (k + 1):Nat):Int) p.1
  have ex:E (.nd q k l r)=.tup [.int ((q * 2 ^ (k + 1):Nat):Int),.int ((2 ^ (k + 1):Nat):Int),en (join (V l) (V r)),E l,E r]:=rfl
  rw [hold_nd true ⟨fun _=>rfl,fun _=>⟨by omega,by omega⟩⟩] at hh
  have lfn:=leaf_nd q k l r
  have eq:=early_eq q k p.1 l r
  have pl:p∈l.ds\/p∈r.ds:=by simpa [T.ds] using hp
  have e2:2 ^ (k + 1)=2 ^ k * 2:=Nat.pow_succ ..
  have ek:q * 2 ^ (k + 1)=2 * q * 2 ^ k:=by rw [e2,Nat.mul_comm (2 ^ k) 2,← Nat.mul_assoc,Nat.mul_comm q 2]
  have eb:(2 * q + 1) * 2 ^ k=q * 2 ^ (k + 1) + 2 ^ k:=by rw [Nat.add_mul,Nat.one_mul,ek]
  have hstr:¬ (p.1 < q * 2 ^ (k + 1)\/q * 2 ^ (k + 1) + 2 ^ (k + 1)<=p.1):=by omega
  rcases pl with pl | pl
  ·have tl:=times_in hl p pl
   obtain ⟨x,ih,O⟩:=taken_eq n l hl (by omega) ⟨p,pl,rfl⟩
   have c3:p.1 < q * 2 ^ (k + 1) + 2 ^ k:=by
    cases G with
    | nd _ _ h1 h2 h3 h4 h5=>omega
   rw [early_nd true (by omega) ⟨fun _=>rfl,fun _=>c3⟩] at eq
   have hd2:∀ s u,x=some s->some r=some u->s.lo + s.sz<=u.lo:=fun s u hs hu=>by
    cases hu
    cases G with
    | nd _ _ h1 h2 h3 h4 h5 =>
     have w:=O.win s hs (2 * q) k ⟨by omega,by omega⟩
     have w1:=w.1
     have w2:=w.2
     omega
   have lf2:=left_eq (l:=x) (r:=some r) (by cases x with | none=>trivial | some s=>exact O.good s rfl) hr hd2
   have ho:=O'.eq
   simp [out,hstr,c3,O.eq] at ho
   subst ho
   refine ⟨_,?_,O'⟩
   rw [ex] at s lfn eq ⊢
   exact out_way (b:=true) (y:=.non) s hh lfn eq ih lf2
  ·have tl:=times_in hr p pl
   obtain ⟨x,ih,O⟩:=taken_eq n r hr (by omega) ⟨p,pl,rfl⟩
   have c3:¬ p.1 < q * 2 ^ (k + 1) + 2 ^ k:=by
    cases G with
    | nd _ _ h1 h2 h3 h4 h5=>omega
   rw [early_nd false (by omega) ⟨fun z=>absurd z c3,fun z=>by simp at z⟩] at eq
   have hd2:∀ s u,some l=some s->x=some u->s.lo + s.sz<=u.lo:=fun s u hs hu=>by
    cases hs
    cases G with
    | nd _ _ h1 h2 h3 h4 h5 =>
     have w:=O.win u hu (2 * q + 1) k ⟨by omega,by omega⟩
     have w1:=w.1
     have w2:=w.2
     omega
   have lf2:=left_eq (l:=some l) (r:=x) hl (by cases x with | none=>trivial | some s=>exact O.good s rfl) hd2
   have ho:=O'.eq
   simp [out,hstr,c3,O.eq] at ho
   subst ho
   refine ⟨_,?_,O'⟩
   rw [ex] at s lfn eq ⊢
   exact out_way (b:=false) (y:=.non) s hh lfn eq ih lf2
end
section
open Tr
theorem book_one {al al':List (Nat×D)} {o o':Option T} (b:Book al o) (b':Book al' o') (hp:al.Perm al'):o=o':=by
 have e:dsO o=dsO o':=by
  have q:(dsO o).Perm (dsO o'):=b.perm.trans (hp.trans b'.perm.symm)
  refine q.eq_of_pairwise (le:=fun x y=>x.1 < y.1) (fun x y _ _ h1 h2=>by omega) b.sorted b'.sorted
 cases o with
 | none =>
  cases o' with
  | none=>rfl
  | some t'=>exact absurd e.symm (ds_ne t')
 | some t =>
  cases o' with
  | none=>exact absurd e (ds_ne t)
  | some t'=>rw [one_tree b.good b'.good e]
theorem but_perm:∀ {al:List (Nat×D)},(al.map (·.1)).Nodup->∀ {p:Nat×D},p∈al->(but p.1 al++[p]).Perm al
 | [],_,p,h=>by cases h
 | x::al,hn,p,h=>by
  rw [List.map_cons,List.nodup_cons] at hn
  rcases List.mem_cons.mp h with rfl | h
  ·have e:but p.1 (p::al)=al:=by
    show List.filter _ (p::al)=al
    rw [List.filter_cons_of_neg (by simp)]
    exact but_same fun q hq z=>hn.1 (List.mem_map.mpr ⟨q,hq,z⟩)
   rw [e]
   exact List.perm_append_singleton _ _
  ·have hx:x.1≠p.1:=fun z=>hn.1 (by rw [z];exact List.mem_map_of_mem h)
   have e:but p.1 (x::al)=x::but p.1 al:=by
    show List.filter _ (x::al)=_
    rw [List.filter_cons_of_pos (by simpa using hx)]
    rfl
   rw [e]
   exact (but_perm hn.2 h).cons x
theorem but_lt {al:List (Nat×D)} (hn:(al.map (·.1)).Nodup) {p:Nat×D} (hp:p∈al):(but p.1 al).length + 1=al.length:=by
 have:=(but_perm hn hp).length_eq
 rw [List.length_append] at this
 exact this
theorem drop_k (al:List (Nat×D)) (a:Nat):dDropK (bkeys al) (.inl (a:Int))=bkeys (but a al):=by
 induction al with
 | nil=>rfl
 | cons p al ih =>
  unfold dDropK bkeys but at ih ⊢
  simp only [List.map_cons,List.filter_cons]
  by_cases h:p.1=a
  ·rw [if_neg (by simp [h]),if_neg (by simp [h])];exact ih
  ·have h':¬ (p.1:Int)=(a:Int):=by omega
   rw [if_pos (by simp [h']),if_pos (by simp [h]),List.map_cons,ih]
theorem drop_v (al:List (Nat×D)) (a:Nat):dDropV (bkeys al) (al.map (·.2)) (.inl (a:Int))=(but a al).map (·.2):=by
 induction al with
 | nil=>rfl
 | cons p al ih =>
  have e:dDropV (bkeys (p::al)) ((p::al).map (·.2)) (.inl (a:Int))=if (Sum.inl (p.1:Int):L2.Key)=.inl (a:Int) then dDropV (bkeys al) (al.map (·.2)) (.inl (a:Int)) else p.2::dDropV (bkeys al) (al.map (·.2)) (.inl (a:Int)):=rfl
  rw [e,ih]
  unfold but
  rw [List.filter_cons]
  by_cases h:p.1=a
  ·rw [if_pos (key_inj.mpr h),if_neg (by simp [h])]
  ·rw [if_neg (fun z=>h (key_inj.mp z)),if_pos (by simp [h]),List.map_cons]
theorem drop_dict (al:List (Nat×D)) (a:Nat):D.dic (dDropK (bkeys al) (.inl (a:Int))) (dDropV (bkeys al) (al.map (·.2)) (.inl (a:Int)))=dict (but a al):=by
 rw [drop_k,drop_v];rfl
theorem selfO {al:List (Nat×D)} {o:Option T} (B:Book al o) (A:Al al):Self 40 (EO o):=by
 cases o with
 | none=>exact Self.non.mono (by decide)
 | some t =>
  have dp:=depth B.good
  exact (self_enc en lone join (m:=2) (fun x=>(Self.int x).mono (by decide)) t B.good fun p hp=>self_d (A p (B.perm.mem_iff.mp hp)).2).mono (by omega)
theorem but_al {al:List (Nat×D)} (A:Al al) (a:Nat):Al (but a al):=fun p hp=>A p (List.mem_filter.mp hp).1
theorem take_turn {al:List (Nat×D)} {o:Option T} (B:Book al o) (A:Al al) {p:Nat×D} (hp:p∈al):∃ o',m_taken_out 64 [.obj "Kind",EO o,.int (p.1:Int)]=.ok (EO o')/\Book (but p.1 al) o'/\dsO o'=but p.1 (dsO o)/\m_put_in 64 [.obj "Kind",EO o',.int (p.1:Int),p.2]=.ok (EO o):=by
 have hq:=B.perm.mem_iff.mpr hp
 cases o with
 | none=>cases hq
 | some t =>
  have dp:=depth B.good
  obtain ⟨o',e,O⟩:=taken_eq 64 t B.good (by omega) ⟨p,hq,rfl⟩
  have B':Book (but p.1 al) o':=by
   refine ⟨?_,?_⟩
   ·cases o' with
    | none=>trivial
    | some s=>exact O.good s rfl
   ·rw [O.ds];exact B.perm.filter _
  obtain ⟨t',q1,_,B2,_⟩:=put_turn B' (but_al A p.1) (A p hp).1 (fun q hq z=>by have:=(List.mem_filter.mp hq).2;simp [z] at this) (A p hp).2
  have e1:=book_one B2 B (but_perm B.nodup hp)
  refine ⟨o',e,B',O.ds,?_⟩
  rw [q1,← e1]
  rfl
end
section
open Tr
theorem deeds_t:∀ (n:Nat) (t:T),Good t->t.e < n->t.ds.length<=100->m_deeds_of n [E t]=.ok (.lst (t.ds.map prD))
 | 0,t,_,h,_=>by omega
 | n + 1,.lf b e,G,_,_=>by
  have hu:m_deeds_of (n + 1) [E (.lf b e)]=runD true 1 (b_deeds_of (m_deeds_of n)) [E (.lf b e)]:=rfl
  rw [hu]
  have lfn:=leaf_lf b e
  have hx:E (.lf b e)=.tup [.int (b:Int),.int 1,en (lone b e),e]:=rfl
  rw [hx] at lfn ⊢
  generalize m_deeds_of n=F
  generalize en (lone b e)=w at *
  have e1:gIsN (.tup [.int (b:Int),.int 1,w,e])=.ok (.bl false):=rfl
  simp (decide:=true) -implicitDefEqProofs [tbM_tail,startD,fVar,fVarS,isT,at_0,at_1,at_2,at_3,at_4,b_deeds_of,lfn,e1,T.ds,prD]
 | n + 1,.nd q k l r,G,hn,hc=>by
  have hu:m_deeds_of (n + 1) [E (.nd q k l r)]=runD true 1 (b_deeds_of (m_deeds_of n)) [E (.nd q k l r)]:=rfl
  obtain ⟨hl,hr,el,er,hdj⟩:=sub_e G
  have hn':k + 1 < n + 1:=hn
  have hds:(T.nd q k l r).ds=l.ds++r.ds:=rfl
  rw [hds,List.length_append] at hc
  have i1:=deeds_t n l hl (by omega) (by omega)
  have i2:=deeds_t n r hr (by omega) (by omega)
  have lfn:=leaf_nd q k l r
  have ex:E (.nd q k l r)=.tup [.int ((q * 2 ^ (k + 1):Nat):Int),.int ((2 ^ (k + 1):Nat):Int),en (join (V l) (V r)),E l,E r]:=rfl
  have hz:(l.ds.map prD).length + (r.ds.map prD).length<=sizeLine:=by
   rw [List.length_map,List.length_map];exact Nat.le_of_lt (small1000 (by omega))
  have gc:gCat (.lst (l.ds.map prD)) (.lst (r.ds.map prD))=.ok (.lst ((l.ds++r.ds).map prD)):=by
   simp only [gCat]
   rw [if_pos hz,List.map_append]
  rw [hu,hds]
  rw [ex] at lfn ⊢
  generalize m_deeds_of n=F at *
  generalize (l.ds++r.ds).map prD=M at *
  generalize l.ds.map prD=M1 at *
  generalize r.ds.map prD=M2 at *
  generalize E l=x at *
  generalize E r=y at *
  generalize ((q * 2 ^ (k + 1):Nat):Int)=z1 at *
  generalize ((2 ^ (k + 1):Nat):Int)=z2 at *
  generalize en (join (V l) (V r))=z3 at *
  have e1:gIsN (.tup [.int z1,.int z2,z3,x,y])=.ok (.bl false):=rfl
  simp (decide:=true) -implicitDefEqProofs [tbM_tail,startD,fVar,fVarS,isT,at_0,at_1,at_2,at_3,at_4,b_deeds_of,lfn,e1,i1,i2,gc]
theorem deeds_eq {o:Option T} (G:GoodO o) (hc:(dsO o).length<=100):m_deeds_of 64 [EO o]=.ok (.lst ((dsO o).map prD)):=by
 cases o with
 | none =>
  have hu:m_deeds_of 64 [.non]=runD true 1 (b_deeds_of (m_deeds_of 63)) [.non]:=rfl
  show m_deeds_of 64 [.non]=.ok (.lst [])
  rw [hu]
  generalize m_deeds_of 63=F
  simp (decide:=true) -implicitDefEqProofs [tbM_tail,startD,fVar,fVarS,isT,at_0,at_1,at_2,at_3,at_4,b_deeds_of]
 | some t=>exact deeds_t 64 t G (by have:=depth G;omega) hc
end
section
open Tr
inductive Pn:Nat->D->Prop
 | non {n:Nat}:Pn n .non
 | int {n:Nat} (i:Int):Pn n (.int i)
 | str {n:Nat} (x:Str):Pn n (.str x)
 | tup {n:Nat} {xs:List D} (h:∀ y∈xs,Pn n y):Pn (n + 1) (.tup xs)
theorem Pn.mono {n m:Nat} {x:D} (h:Pn n x) (hm:n<=m):Pn m x:=by
 induction h generalizing m with
 | non=>exact .non
 | int i=>exact .int i
 | str x=>exact .str x
 | @tup n xs h ih =>
  obtain ⟨m',rfl⟩:∃ m',m=m' + 1:=⟨m - 1,by omega⟩
  exact .tup fun y hy=>ih y hy (by omega)
theorem zip_pn {f:D->D->Option Bool}:∀ {xs ys:List D},(∀ x∈xs,∀ y∈ys,∃ b,f x y=some b/\(b=true ↔ x=y))->∃ bs,zipO f xs ys=some bs/\(xs.length=ys.length->(bs.all id=true ↔ xs=ys))
 | [],ys,_=>⟨[],by cases ys <;> rfl,fun h=>by cases ys with | nil=>simp | cons y ys=>simp at h⟩
 | x::xs,[],_=>⟨[],rfl,fun h=>by simp at h⟩
 | x::xs,y::ys,h=>by
  obtain ⟨b,h1,h2⟩:=h x List.mem_cons_self y List.mem_cons_self
  obtain ⟨bs,h3,h4⟩:=zip_pn (f:=f) (xs:=xs) (ys:=ys) fun a ha c hc=>h a (List.mem_cons_of_mem _ ha) c (List.mem_cons_of_mem _ hc)
  refine ⟨b::bs,by simp [zipO,h1,h3],fun hl=>?_⟩
  have h5:=h4 (by simpa using hl)
  simp only [List.all_cons,id,Bool.and_eq_true,h2,List.cons.injEq]
  rw [← h5]
theorem eq_pn:∀ (n:Nat) (x y:D),Pn n x->Pn n y->∃ b,eqD (n + 1) x y=some b/\(b=true ↔ x=y):=by
 intro n
 induction n with
 | zero =>
  intro x y hx hy
  cases hx <;> cases hy <;> refine ⟨_,rfl,?_⟩ <;> simp [toV,eqV]
 | succ n ih =>
  intro x y hx hy
  have e:eqD (n + 1 + 1) x y=eqF (eqD (n + 1)) x y:=rfl
  rw [e]
  cases hx with
  | tup hx =>
   rename_i xs
   cases hy with
   | tup hy =>
    rename_i ys
    obtain ⟨bs,h1,h2⟩:=zip_pn (f:=eqD (n + 1)) (xs:=xs) (ys:=ys) fun a ha c hc=>ih a c (hx a ha) (hy c hc)
    refine ⟨bs.all id && xs.length == ys.length,by simp only [eqF,rk,its,eqT,h1,Option.bind_some],?_⟩
    simp only [Bool.and_eq_true,beq_iff_eq,D.tup.injEq]
    constructor
    ·exact fun z=>(h2 z.2).mp z.1
    ·intro z
     have hl:=congrArg List.length z
     exact ⟨(h2 hl).mpr z,hl⟩
   | non=>exact ⟨_,rfl,by simp⟩
   | int i=>exact ⟨_,rfl,by simp⟩
   | str i=>exact ⟨_,rfl,by simp⟩
  | non=>cases hy <;> refine ⟨_,rfl,?_⟩ <;> simp [toV,eqV]
  | int i=>cases hy <;> refine ⟨_,rfl,?_⟩ <;> simp [toV,eqV]
  | str i=>cases hy <;> refine ⟨_,rfl,?_⟩ <;> simp [toV,eqV]
theorem eq60 {x y:D} (hx:Pn 59 x) (hy:Pn 59 y):∃ b,gEq x y=.ok (.bl b)/\gNe x y=.ok (.bl (!b))/\(b=true ↔ x=y):=by
 obtain ⟨b,h1,h2⟩:=eq_pn 59 x y hx hy
 exact ⟨b,by simp [gEq,h1],by simp [gNe,h1],h2⟩
end
section
open Tr
theorem pn_d {d:D} (h:Okd d):Pn 1 d:=by
 cases h <;> exact .tup fun y hy=>by
  simp only [List.mem_cons,List.not_mem_nil,or_false] at hy
  rcases hy with rfl | rfl
  ·exact .str _
  ·exact .int _
end
section
open Tr
def pre:T->List T
 | .lf a d=>[.lf a d]
 | .nd q k l r=>.nd q k l r::(pre l++pre r)
def preO:Option T->List T
 | some t=>pre t
 | none=>[]
theorem pre_self (t:T):t∈pre t:=by cases t <;> simp [pre]
theorem pre_trans:∀ {t u v:T},u∈pre t->v∈pre u->v∈pre t
 | .lf a d,u,v,h1,h2=>by simp [pre] at h1;subst h1;exact h2
 | .nd q k l r,u,v,h1,h2=>by
  simp only [pre,List.mem_cons,List.mem_append] at h1
  rcases h1 with rfl | h1 | h1
  ·exact h2
  ·exact List.mem_cons_of_mem _ (List.mem_append_left _ (pre_trans h1 h2))
  ·exact List.mem_cons_of_mem _ (List.mem_append_right _ (pre_trans h1 h2))
theorem sub_in {t:T} (h:Good t):∀ u∈pre t,Good u/\t.lo<=u.lo/\u.lo + u.sz<=t.lo + t.sz/\(∀ p∈u.ds,p∈t.ds):=by
 induction h with
 | lf h=>intro u hu;simp [pre] at hu;subst hu;exact ⟨.lf h,Nat.le_refl _,Nat.le_refl _,fun p hp=>hp⟩
 | @nd q k l r hl hr h1 h2 h3 h4 h5 ihl ihr =>
  intro u hu
  have e1:(T.nd q k l r).lo=q * 2 ^ (k + 1):=rfl
  have e2:(T.nd q k l r).sz=2 ^ (k + 1):=rfl
  have e3:2 ^ (k + 1)=2 ^ k * 2:=Nat.pow_succ ..
  simp only [pre,List.mem_cons,List.mem_append] at hu
  rcases hu with rfl | hu | hu
  ·exact ⟨.nd hl hr h1 h2 h3 h4 h5,Nat.le_refl _,Nat.le_refl _,fun p hp=>hp⟩
  ·obtain ⟨g,a,b,c⟩:=ihl u hu
   exact ⟨g,by rw [e1];omega,by rw [e1,e2];omega,fun p hp=>List.mem_append_left _ (c p hp)⟩
  ·obtain ⟨g,a,b,c⟩:=ihr u hu
   exact ⟨g,by rw [e1];omega,by rw [e1,e2];omega,fun p hp=>List.mem_append_right _ (c p hp)⟩
theorem within_self (t:T):Within t t.q t.e:=⟨Nat.le_refl _,Nat.le_refl _⟩
theorem ins_pre (Q n:Nat):∀ (t u:T),insT Q n t=some u->u∈pre t
 | .lf a d,u,h=>by
  simp only [insT] at h
  split at h
  ·cases h;exact pre_self _
  ·cases h
 | .nd q k l r,u,h=>by
  simp only [insT] at h
  split at h
  ·cases h;exact pre_self _
  ·split at h
   ·exact List.mem_cons_of_mem _ (List.mem_append_left _ (ins_pre Q n l u h))
   ·split at h
    ·exact List.mem_cons_of_mem _ (List.mem_append_right _ (ins_pre Q n r u h))
    ·cases h
theorem pre_ins {t:T} (h:Good t):∀ u∈pre t,insT u.q u.e t=some u:=by
 induction h with
 | @lf a d h=>intro u hu;simp [pre] at hu;subst hu;simp only [insT];rw [if_pos (within_self _)]
 | @nd q k l r hl hr h1 h2 h3 h4 h5 ihl ihr =>
  intro u hu
  have e3:2 ^ (k + 1)=2 ^ k * 2:=Nat.pow_succ ..
  have pk:=Nat.two_pow_pos k
  have eu:u.lo=u.q * 2 ^ u.e:=rfl
  have es:u.sz=2 ^ u.e:=rfl
  have pu:=Nat.two_pow_pos u.e
  simp only [pre,List.mem_cons,List.mem_append] at hu
  rcases hu with rfl | hu | hu
  ·simp only [insT];rw [if_pos (within_self _)]
  ·obtain ⟨g,a,b,_⟩:=sub_in hl u hu
   have w:¬ Within (.nd q k l r) u.q u.e:=fun z=>by
    obtain ⟨z1,z2⟩:=z
    have e1:(T.nd q k l r).lo=q * 2 ^ (k + 1):=rfl
    have e2:(T.nd q k l r).sz=2 ^ (k + 1):=rfl
    rw [e1] at z1 z2;rw [e2] at z2
    omega
   simp only [insT]
   rw [if_neg w,if_pos ⟨by omega,by omega⟩]
   exact ihl u hu
  ·obtain ⟨g,a,b,_⟩:=sub_in hr u hu
   have w:¬ Within (.nd q k l r) u.q u.e:=fun z=>by
    obtain ⟨z1,z2⟩:=z
    have e1:(T.nd q k l r).lo=q * 2 ^ (k + 1):=rfl
    have e2:(T.nd q k l r).sz=2 ^ (k + 1):=rfl
    rw [e1] at z1 z2;rw [e2] at z2
    omega
   simp only [insT]
   rw [if_neg w,if_neg (by omega),if_pos ⟨by omega,by omega⟩]
   exact ihr u hu
theorem there {o:Option T} (h:GoodO o) (u:T):o.bind (insT u.q u.e)=some u ↔ u∈preO o:=by
 cases o with
 | none=>simp [preO]
 | some t=>exact ⟨fun z=>ins_pre _ _ t u z,fun z=>pre_ins h u z⟩
theorem pn_E:∀ t:T,Good t->(∀ p∈t.ds,Okd p.2)->Pn (t.e + 2) (E t)
 | .lf a d,_,h=>.tup fun y hy=>by
  have hd:=pn_d (h (a,d) (by simp [T.ds]))
  simp only [List.mem_cons,List.not_mem_nil,or_false] at hy
  rcases hy with rfl | rfl | rfl | rfl
  ·exact .int _
  ·exact .int _
  ·exact .int _
  ·exact hd.mono (by omega)
 | .nd q k l r,G,h=>by
  obtain ⟨hl,hr,el,er,_⟩:=sub_e G
  have h1:=pn_E l hl fun p hp=>h p (List.mem_append_left _ hp)
  have h2:=pn_E r hr fun p hp=>h p (List.mem_append_right _ hp)
  have ee:(T.nd q k l r).e=k + 1:=rfl
  rw [ee]
  refine .tup fun y hy=>?_
  simp only [List.mem_cons,List.not_mem_nil,or_false] at hy
  rcases hy with rfl | rfl | rfl | rfl | rfl
  ·exact .int _
  ·exact .int _
  ·exact .int _
  ·exact h1.mono (by omega)
  ·exact h2.mono (by omega)
theorem pn59 {t:T} (G:Good t) (h:∀ p∈t.ds,Okd p.2):Pn 59 (E t):=(pn_E t G h).mono (by have:=depth G;omega)
theorem E_inj:∀ {t u:T},Good t->Good u->E t=E u->t=u
 | .lf a d,.lf b e,_,_,h=>by
  have h1:(D.tup [.int (a:Int),.int 1,en (lone a d),d])=.tup [.int (b:Int),.int 1,en (lone b e),e]:=h
  simp only [D.tup.injEq,List.cons.injEq,D.int.injEq,and_true,true_and] at h1
  obtain ⟨h1,_,h2⟩:=h1
  obtain rfl:a=b:=by omega
  rw [h2]
 | .lf a d,.nd q k l r,_,_,h=>by
  have h1:(D.tup [.int (a:Int),.int 1,en (lone a d),d])=.tup [.int ((q * 2 ^ (k + 1):Nat):Int),.int ((2 ^ (k + 1):Nat):Int),en (join (V l) (V r)),E l,E r]:=h
  simp at h1
 | .nd q k l r,.lf a d,_,_,h=>by
  have h1:(D.tup [.int ((q * 2 ^ (k + 1):Nat):Int),.int ((2 ^ (k + 1):Nat):Int),en (join (V l) (V r)),E l,E r])=.tup [.int (a:Int),.int 1,en (lone a d),d]:=h
  simp at h1
 | .nd q k l r,.nd q' k' l' r',G,G',h=>by
  have h1:(D.tup [.int ((q * 2 ^ (k + 1):Nat):Int),.int ((2 ^ (k + 1):Nat):Int),en (join (V l) (V r)),E l,E r])=.tup [.int ((q' * 2 ^ (k' + 1):Nat):Int),.int ((2 ^ (k' + 1):Nat):Int),en (join (V l') (V r')),E l',E r']:=h
  simp only [D.tup.injEq,List.cons.injEq,D.int.injEq,and_true] at h1
  obtain ⟨a1,a2,_,a4,a5⟩:=h1
  obtain ⟨hl,hr,_⟩:=sub_e G
  obtain ⟨hl',hr',_⟩:=sub_e G'
  have a2':2 ^ (k + 1)=2 ^ (k' + 1):=by omega
  have hk:k=k':=by
   rcases Nat.lt_trichotomy (k + 1) (k' + 1) with z | z | z
   ·have:=Nat.pow_lt_pow_right (show 1 < 2 by decide) z;omega
   ·omega
   ·have:=Nat.pow_lt_pow_right (show 1 < 2 by decide) z;omega
  subst hk
  have a1':q * 2 ^ (k + 1)=q' * 2 ^ (k + 1):=by omega
  have hq:q=q':=Nat.eq_of_mul_eq_mul_right (Nat.two_pow_pos _) a1'
  subst hq
  rw [E_inj hl hl' a4,E_inj hr hr' a5]
theorem eq_E {t u:T} (G:Good t) (G':Good u) (h:∀ p∈t.ds,Okd p.2) (h':∀ p∈u.ds,Okd p.2):∃ b,gEq (E t) (E u)=.ok (.bl b)/\gNe (E t) (E u)=.ok (.bl (!b))/\(b=true ↔ t=u):=by
 obtain ⟨b,h1,h2,h3⟩:=eq60 (pn59 G h) (pn59 G' h')
 exact ⟨b,h1,h2,h3.trans ⟨E_inj G G',fun z=>by rw [z]⟩⟩
theorem eq_EO {o:Option T} {u:T} (G:GoodO o) (G':Good u) (h:∀ p∈dsO o,Okd p.2) (h':∀ p∈u.ds,Okd p.2):∃ b,gEq (EO o) (E u)=.ok (.bl b)/\gNe (EO o) (E u)=.ok (.bl (!b))/\(b=true ↔ o=some u):=by
 cases o with
 | none =>
  obtain ⟨r,e⟩:=enc_form en lone join u
  have e':E u=_:=e
  refine ⟨false,?_,?_,by simp⟩
  ·rw [e'];rfl
  ·rw [e'];rfl
 | some t =>
  obtain ⟨b,h1,h2,h3⟩:=eq_E G G' h h'
  exact ⟨b,h1,h2,h3.trans ⟨fun z=>by rw [z],fun z=>Option.some.inj z⟩⟩
def sD (u:T):D:=.tup [.int (u.lo:Int),.int (u.sz:Int)]
open Classical in
noncomputable def nw (o:Option T) (u:T):Bool:=decide (u ∉ preO o)
theorem nw_t {o:Option T} {u:T}:nw o u=true ↔ u ∉ preO o:=by unfold nw;simp
theorem nw_f {o:Option T} {u:T}:nw o u=false ↔ u∈preO o:=by unfold nw;simp
noncomputable def tch (o:Option T) (t:T):List T:=(pre t).filter (nw o)
theorem preO_trans {o:Option T} {u v:T} (h:u∈preO o) (hv:v∈pre u):v∈preO o:=by
 cases o with
 | none=>cases h
 | some t=>exact pre_trans h hv
theorem tch_in {o:Option T} {t:T} (h:t∈preO o):tch o t=[]:=List.filter_eq_nil_iff.mpr fun u hu=>by
 rw [nw_f.mpr (preO_trans h hu)];decide
theorem tch_lf {o:Option T} {a:Nat} {d:D} (h:T.lf a d ∉ preO o):tch o (.lf a d)=[.lf a d]:=by
 show List.filter (nw o) [.lf a d]=_
 rw [List.filter_cons_of_pos (nw_t.mpr h)];rfl
theorem tch_nd {o:Option T} {q k:Nat} {l r:T} (h:T.nd q k l r ∉ preO o):tch o (.nd q k l r)=.nd q k l r::(tch o l++tch o r):=by
 show List.filter (nw o) (.nd q k l r::(pre l++pre r))=_
 rw [List.filter_cons_of_pos (nw_t.mpr h),List.filter_append];rfl
theorem tch_len (o:Option T) (t:T):(tch o t).length<=(pre t).length:=List.length_filter_le _ _
def Oks (o:Option T):Prop:=∀ p∈dsO o,Okd p.2
theorem ins_good {o:Option T} (G:GoodO o) (hk:Oks o) (Q n:Nat):GoodO (o.bind (insT Q n))/\Oks (o.bind (insT Q n)):=by
 cases o with
 | none=>exact ⟨trivial,fun p hp=>nomatch hp⟩
 | some t =>
  show GoodO (insT Q n t)/\Oks (insT Q n t)
  cases e:insT Q n t with
  | none=>exact ⟨trivial,fun p hp=>nomatch hp⟩
  | some u =>
   obtain ⟨g,_,_,c⟩:=sub_in G u (ins_pre Q n t u e)
   exact ⟨g,fun p hp=>hk p (c p hp)⟩
theorem touched_eq {o:Option T} (G:GoodO o) (hk:Oks o):∀ (n:Nat) (t:T),Good t->(∀ p∈t.ds,Okd p.2)->t.e < n->(pre t).length<=300->m_touched n [EO o,E t]=.ok (.lst ((tch o t).map sD))
 | 0,t,_,_,h,_=>by omega
 | n + 1,t,Gt,ht,hn,hp=>by
  have hu:m_touched (n + 1) [EO o,E t]=runD true 4 (b_touched (m_touched n)) [EO o,E t]:=rfl
  rw [hu]
  obtain ⟨Gi,hi⟩:=ins_good G hk t.q t.e
  obtain ⟨b,e1,_,e3⟩:=eq_EO Gi Gt hi ht
  have hin:=inside_eq t.q t.e G
  have hs:=stretch_eq t
  have eb:blk (t.q,t.e)=.tup [.int (t.lo:Int),.int (t.sz:Int)]:=rfl
  rw [eb] at hin
  rw [there G] at e3
  obtain ⟨xs,hx⟩:∃ xs,E t=.tup xs:=by
   obtain ⟨r,e⟩:=enc_form en lone join t
   exact ⟨_,e⟩
  have nn:gIsN (.tup xs)=.ok (.bl false):=rfl
  cases b with
  | true =>
   rw [tch_in (e3.mp rfl)]
   show _=Ou.ok (D.lst [])
   rw [hx] at hs e1 ⊢
   generalize EO (o.bind (insT t.q t.e))=I at *
   generalize EO o=O at *
   generalize m_touched n=F at *
   simp (decide:=true) -implicitDefEqProofs [tbM_tail,startD,fVar,fVarS,isT,at_0,at_1,at_2,at_3,at_4,b_touched,nn,hs,hin,e1]
  | false =>
   have hno:t ∉ preO o:=fun z=>by have:=e3.mpr z;cases this
   cases t with
   | lf a d =>
    rw [tch_lf hno]
    have lf:=leaf_lf a d
    show _=Ou.ok (D.lst [sD (.lf a d)])
    have esd:sD (.lf a d)=.tup [.int ((T.lf a d).lo:Int),.int ((T.lf a d).sz:Int)]:=rfl
    rw [esd]
    rw [hx] at hs e1 lf ⊢
    generalize EO (o.bind (insT (T.lf a d).q (T.lf a d).e))=I at *
    generalize EO o=O at *
    generalize m_touched n=F at *
    generalize ((T.lf a d).lo:Int)=z1 at *
    generalize ((T.lf a d).sz:Int)=z2 at *
    simp (decide:=true) -implicitDefEqProofs [tbM_tail,startD,fVar,fVarS,isT,at_0,at_1,at_2,at_3,at_4,b_touched,nn,hs,hin,e1,lf,sOwn,sRetO]
   | nd q k l r =>
    rw [tch_nd hno]
    have ln:=leaf_nd q k l r
    obtain ⟨hl,hr,el,er,_⟩:=sub_e Gt
    have hn':k + 1 < n + 1:=hn
    have hpl:(pre l).length + (pre r).length + 1<=300:=by simpa [pre,Nat.add_comm,Nat.add_left_comm,Nat.add_assoc] using hp
    have i1:=touched_eq G hk n l hl (fun p hp=>ht p (List.mem_append_left _ hp)) (by omega) (by omega)
    have i2:=touched_eq G hk n r hr (fun p hp=>ht p (List.mem_append_right _ hp)) (by omega) (by omega)
    have t1:=tch_len o l
    have t2:=tch_len o r
    have hpt:m_parts [E (.nd q k l r)]=.ok (.lst [E l,E r]):=by
     have ex:E (.nd q k l r)=.tup [.int ((q * 2 ^ (k + 1):Nat):Int),.int ((2 ^ (k + 1):Nat):Int),en (join (V l) (V r)),E l,E r]:=rfl
     rw [ex]
     generalize ((q * 2 ^ (k + 1):Nat):Int)=z1
     generalize ((2 ^ (k + 1):Nat):Int)=z2
     generalize en (join (V l) (V r))=z3
     generalize E l=z4
     generalize E r=z5
     simp (decide:=true) -implicitDefEqProofs [tbM_tail,startD,fVar,fVarS,isT,at_0,at_1,at_2,at_3,at_4,m_parts,b_parts]
    have esd:sD (.nd q k l r)=.tup [.int ((T.nd q k l r).lo:Int),.int ((T.nd q k l r).sz:Int)]:=rfl
    have em:(T.nd q k l r::(tch o l++tch o r)).map sD=[sD (.nd q k l r)]++(tch o l).map sD++(tch o r).map sD:=by simp
    rw [em,esd]
    have c1:[D.tup [.int ((T.nd q k l r).lo:Int),.int ((T.nd q k l r).sz:Int)]].length + ((tch o l).map sD).length<=sizeLine:=by
     rw [List.length_map];exact Nat.le_of_lt (small1000 (by simp only [List.length_cons,List.length_nil];omega))
    have c2:([D.tup [.int ((T.nd q k l r).lo:Int),.int ((T.nd q k l r).sz:Int)]]++(tch o l).map sD).length + ((tch o r).map sD).length<=sizeLine:=by
     rw [List.length_append,List.length_map,List.length_map];exact Nat.le_of_lt (small1000 (by simp only [List.length_cons,List.length_nil];omega))
    rw [hx] at hs e1 ln hpt ⊢
    generalize EO (o.bind (insT (T.nd q k l r).q (T.nd q k l r).e))=I at *
    generalize EO o=O at *
    generalize m_touched n=F at *
    generalize ((T.nd q k l r).lo:Int)=z1 at *
    generalize ((T.nd q k l r).sz:Int)=z2 at *
    generalize (tch o l).map sD=L1 at *
    generalize (tch o r).map sD=L2 at *
    generalize E l=z4 at *
    generalize E r=z5 at *
    generalize hF0:[D.tup [.int z1,.int z2]]=F0 at *
    have s1:(sSeq (sExt 2 (fCall (F) [(fVarS 0),(fVarS 3)])) sNext) [.val O,.val (.tup xs),.own (.lst F0),.val z4]=.ok (.nx [.val O,.val (.tup xs),.own (.lst (F0++L1)),.val z4]):=by simp (decide:=true) -implicitDefEqProofs [tbM_tail,startD,fVar,fVarS,isT,at_0,at_1,at_2,at_3,at_4,sExt,i1,c1]
    have s2:(sSeq (sExt 2 (fCall (F) [(fVarS 0),(fVarS 3)])) sNext) [.val O,.val (.tup xs),.own (.lst (F0++L1)),.val z5]=.ok (.nx [.val O,.val (.tup xs),.own (.lst (F0++L1++L2)),.val z5]):=by
     generalize F0++L1=F1 at *
     simp (decide:=true) -implicitDefEqProofs [tbM_tail,startD,fVar,fVarS,isT,at_0,at_1,at_2,at_3,at_4,sExt,i2,c2]
    have lp:forL (gNm 3) (sSeq (sExt 2 (fCall (F) [(fVarS 0),(fVarS 3)])) sNext) [z4,z5] [.val O,.val (.tup xs),.own (.lst F0),.un]=.ok (.nx [.val O,.val (.tup xs),.own (.lst (F0++L1++L2)),.val z5]):=by
     rw [forL_nx (δ1:=[.val O,.val (.tup xs),.own (.lst F0),.val z4]) rfl s1,forL_nx (δ1:=[.val O,.val (.tup xs),.own (.lst (F0++L1)),.val z5]) rfl s2]
     rfl
    generalize F0++L1++L2=F3 at *
    simp (decide:=true) -implicitDefEqProofs [tbM_tail,startD,fVar,fVarS,isT,at_0,at_1,at_2,at_3,at_4,b_touched,nn,hs,hin,e1,ln,sOwn,hF0,hpt,sFor,lp,sRetO]
theorem touched_none (o:Option T):m_touched 64 [EO o,.non]=.ok (.lst []):=by
 have hu:m_touched 64 [EO o,.non]=runD true 4 (b_touched (m_touched 63)) [EO o,.non]:=rfl
 rw [hu]
 generalize EO o=O
 generalize m_touched 63=F
 simp (decide:=true) -implicitDefEqProofs [tbM_tail,startD,fVar,fVarS,isT,at_0,at_1,at_2,at_3,at_4,b_touched,gIsN]
end
section
open Tr
structure Dk (al:List (Nat×D)) (n:Nat):Prop where
 nd:(al.map (·.1)).Nodup
 ok:Al al
 len:al.length<=n
theorem Dk.mono {al:List (Nat×D)} {n m:Nat} (h:Dk al n) (hm:n<=m):Dk al m:=⟨h.nd,h.ok,Nat.le_trans h.len hm⟩
theorem tm_nat {t:Int} (h:Tm t):∃ a:Nat,t=(a:Int)/\a < all:=by
 have:all=1073741824:=rfl
 unfold Tm at h
 exact ⟨t.toNat,by omega,by omega⟩
end
section
open Tr
structure Gr (o:Option T) (al:List (Nat×D)):Prop where
 good:GoodO o
 mem:∀ p,p∈dsO o ↔ p∈al
 len:(dsO o).length=al.length
 nd:(al.map (·.1)).Nodup
 ok:Al al
theorem Gr.srt {o:Option T} {al:List (Nat×D)} (g:Gr o al):(dsO o).Pairwise (fun x y=>x.1 < y.1):=by
 cases o with
 | none=>exact .nil
 | some t=>exact ds_sorted g.good
theorem Gr.dnd {o:Option T} {al:List (Nat×D)} (g:Gr o al):((dsO o).map (·.1)).Nodup:=by
 rw [List.Nodup,List.pairwise_map]
 exact g.srt.imp fun h=>Nat.ne_of_lt h
end
section
open Tr
def ky (al:List (Nat×D)):List Int:=al.map fun p=>(p.1:Int)
theorem ky_mem {al:List (Nat×D)} {k:Int}:k∈ky al ↔ ∃ p∈al,(p.1:Int)=k:=List.mem_map
theorem ky_nd {al:List (Nat×D)} (h:(al.map (·.1)).Nodup):(ky al).Nodup:=by
 have e:ky al=(al.map (·.1)).map fun n:Nat=>(n:Int):=by unfold ky;rw [List.map_map];rfl
 rw [e]
 exact List.Pairwise.map _ (fun a b hab z=>hab (by omega)) h
theorem bkeys_ky (al:List (Nat×D)):bkeys al=(ky al).map Sum.inl:=by unfold bkeys ky;rw [List.map_map];rfl
def dA (al:List (Nat×D)) (k:Int):D:=(dGet (bkeys al) (al.map (·.2)) (.inl k)).getD .non
theorem dA_in {al:List (Nat×D)} (hn:(al.map (·.1)).Nodup) {p:Nat×D} (hp:p∈al):dA al (p.1:Int)=p.2:=by unfold dA;rw [dGet_some hn hp];rfl
theorem dA_out {al:List (Nat×D)} {a:Nat} (h:∀ p∈al,p.1≠a):dA al (a:Int)=.non:=by unfold dA;rw [dGet_none h];rfl
theorem dA_eq {al bl:List (Nat×D)} (ha:(al.map (·.1)).Nodup) (hb:(bl.map (·.1)).Nodup) (h:∀ p,p∈al ↔ p∈bl) (a:Nat):dA al (a:Int)=dA bl (a:Int):=by
 by_cases c:∃ p∈al,p.1=a
 ·obtain ⟨p,hp,rfl⟩:=c
  rw [dA_in ha hp,dA_in hb ((h p).mp hp)]
 ·have h1:∀ p∈al,p.1≠a:=fun p hp z=>c ⟨p,hp,z⟩
  rw [dA_out h1,dA_out fun p hp=>h1 p ((h p).mpr hp)]
theorem pn_A {al:List (Nat×D)} (hn:(al.map (·.1)).Nodup) (A:Al al) (a:Nat):Pn 59 (dA al (a:Int)):=by
 by_cases c:∃ p∈al,p.1=a
 ·obtain ⟨p,hp,rfl⟩:=c
  rw [dA_in hn hp]
  exact (pn_d (A p hp).2).mono (by decide)
 ·rw [dA_out fun p hp z=>c ⟨p,hp,z⟩]
  exact .non
open Classical in
noncomputable def nq (al bl:List (Nat×D)) (k:Int):Bool:=decide (dA al k≠dA bl k)
theorem nq_eq {al bl:List (Nat×D)} (h1:(al.map (·.1)).Nodup) (h2:(bl.map (·.1)).Nodup) (A1:Al al) (A2:Al bl) (a:Nat):gNe (dA al (a:Int)) (dA bl (a:Int))=.ok (.bl (nq al bl (a:Int))):=by
 obtain ⟨b,_,e2,e3⟩:=eq60 (pn_A h1 A1 a) (pn_A h2 A2 a)
 have:nq al bl (a:Int)=!b:=by
  unfold nq
  cases b with
  | true=>simp [e3.mp rfl]
  | false=>simp;exact fun z=>by have:=e3.mpr z;cases this
 rw [e2,this]
theorem comp_prt {al bl:List (Nat×D)} (h1:(al.map (·.1)).Nodup) (h2:(bl.map (·.1)).Nodup) (A1:Al al) (A2:Al bl):∀ (zs:List Int),(∀ z∈zs,∃ a:Nat,z=(a:Int))->∀ s0:Sl,compL (gNm 0) (fAsB (f2 gNe (fDGet1 (fVar 1) (fVar 0)) (fDGet1 (fVar 2) (fVar 0)))) (fVarS 0) (zs.map D.int) [s0,.val (dict al),.val (dict bl)]=.ok ((zs.filter (nq al bl)).map D.int)
 | [],_,_=>rfl
 | z::zs,hz,s0=>by
  obtain ⟨a,rfl⟩:=hz z List.mem_cons_self
  have i:=comp_prt h1 h2 A1 A2 zs (fun z h=>hz z (List.mem_cons_of_mem _ h)) (.val (.int (a:Int)))
  have q:=nq_eq h1 h2 A1 A2 a
  have g1:fDGet1 (fVar 1) (fVar 0) [.val (.int (a:Int)),.val (dict al),.val (dict bl)]=.ok (dA al (a:Int)):=rfl
  have g2:fDGet1 (fVar 2) (fVar 0) [.val (.int (a:Int)),.val (dict al),.val (dict bl)]=.ok (dA bl (a:Int)):=rfl
  cases c:nq al bl (a:Int) with
  | true =>
   rw [c] at q
   rw [List.filter_cons_of_pos c]
   simp only [List.map_cons,compL,e_nm,bind_ok,List.set]
   generalize (zs.filter (nq al bl)).map D.int=M2 at *
   generalize zs.map D.int=M at *
   generalize dA al (a:Int)=x1 at *
   generalize dA bl (a:Int)=x2 at *
   generalize dict al=y1 at *
   generalize dict bl=y2 at *
   simp (decide:=true) -implicitDefEqProofs [tbM_tail,startD,fVar,fVarS,isT,at_0,at_1,at_2,at_3,at_4,g1,g2,q,i]
  | false =>
   rw [c] at q
   rw [List.filter_cons_of_neg (by rw [c];decide),← i]
   simp only [List.map_cons,compL,e_nm,bind_ok,List.set]
   generalize zs.map D.int=M at *
   generalize dA al (a:Int)=x1 at *
   generalize dA bl (a:Int)=x2 at *
   generalize dict al=y1 at *
   generalize dict bl=y2 at *
   simp (decide:=true) -implicitDefEqProofs [tbM_tail,startD,fVar,fVarS,isT,at_0,at_1,at_2,at_3,at_4,g1,g2,q]
noncomputable def prt (al bl:List (Nat×D)):List Int:=(uni (ky al) (ky bl)).filter (nq al bl)
theorem dd_len:∀ l:List Int,(dd l).length<=l.length
 | []=>Nat.le_refl _
 | x::r=>by
  have:=dd_len r
  unfold dd
  split
  ·exact Nat.le_succ_of_le this
  ·rw [List.length_cons,List.length_cons];omega
theorem uni_len (a b:List Int):(uni a b).length<=a.length + b.length:=by
 unfold uni
 rw [(isort_perm _).length_eq,← List.length_append]
 exact dd_len _
theorem uni_nat (al bl:List (Nat×D)):∀ z∈uni (ky al) (ky bl),∃ a:Nat,z=(a:Int):=fun z hz=>by
 rcases (uni_mem _ _ _).mp hz with h | h
 ·obtain ⟨p,_,rfl⟩:=ky_mem.mp h;exact ⟨p.1,rfl⟩
 ·obtain ⟨p,_,rfl⟩:=ky_mem.mp h;exact ⟨p.1,rfl⟩
theorem prt_gr {o n:Option T} {al bl:List (Nat×D)} (G1:Gr o al) (G2:Gr n bl):prt (dsO o) (dsO n)=prt al bl:=by
 unfold prt
 have km:∀ {o:Option T} {al:List (Nat×D)},Gr o al->∀ k,k∈ky (dsO o) ↔ k∈ky al:=fun G k=>by
  rw [ky_mem,ky_mem]
  exact ⟨fun ⟨p,h,e⟩=>⟨p,(G.mem p).mp h,e⟩,fun ⟨p,h,e⟩=>⟨p,(G.mem p).mpr h,e⟩⟩
 have e:uni (ky (dsO o)) (ky (dsO n))=uni (ky al) (ky bl):=strict_eq (uni_strict _ _) (uni_strict _ _) fun k=>by rw [uni_mem,uni_mem,km G1,km G2]
 rw [e]
 refine List.filter_congr fun z hz=>?_
 obtain ⟨a,rfl⟩:=uni_nat al bl z hz
 unfold nq
 rw [dA_eq G1.dnd G1.nd G1.mem a,dA_eq G2.dnd G2.nd G2.mem a]
theorem pairs_pr:∀ l:List (Nat×D),pairsK (l.map prD)=some (l.map fun p=>((.inl (p.1:Int),p.2):Key×D))
 | []=>rfl
 | p::l=>by
  have e:pairK (prD p)=some (.inl (p.1:Int),p.2):=rfl
  simp only [List.map_cons,pairsK,pairs_pr l,e]
theorem dictP_eq {l:List (Nat×D)} (hn:(l.map (·.1)).Nodup):gDictP (.lst (l.map prD))=.ok (dict l):=by
 have e1:((l.map fun p=>((.inl (p.1:Int),p.2):Key×D)).map (·.1))=bkeys l:=by unfold bkeys;rw [List.map_map];rfl
 have e2:((l.map fun p=>((.inl (p.1:Int),p.2):Key×D)).map (·.2))=l.map (·.2):=by rw [List.map_map];rfl
 have h:(bkeys l).Nodup:=by
  rw [bkeys_ky]
  exact List.Pairwise.map _ (fun a b hab z=>hab (Sum.inl.inj z)) (ky_nd hn)
 simp only [gDictP,pairs_pr,e1,e2]
 rw [if_pos h];rfl
theorem ds_al {o:Option T} {al:List (Nat×D)} (G:Gr o al):Al (dsO o):=fun p hp=>G.ok p ((G.mem p).mp hp)
theorem parted_eq {o n:Option T} {al bl:List (Nat×D)} (G1:Gr o al) (G2:Gr n bl) (hl:al.length + bl.length < 126) (h1:al.length<=100:=by omega) (h2:bl.length<=100:=by omega):m_parted [EO o,EO n]=.ok (.lst ((prt al bl).map D.int)):=by
 have l1:=G1.len
 have l2:=G2.len
 have d1:=deeds_eq G1.good (by omega)
 have d2:=deeds_eq G2.good (by omega)
 have k1:=dictP_eq G1.dnd
 have k2:=dictP_eq G2.dnd
 have y1:(ky (dsO o)).length=al.length:=by unfold ky;rw [List.length_map];exact l1
 have y2:(ky (dsO n)).length=bl.length:=by unfold ky;rw [List.length_map];exact l2
 have hu:∀ (s0 s1:Sl),fSortU (fVar 2) (fVar 3) [s0,s1,.val (dict (dsO o)),.val (dict (dsO n))]=.ok (.lst ((uni (ky (dsO o)) (ky (dsO n))).map D.int)):=fun s0 s1=>by
  show ((match keysI (bkeys (dsO o)) with
   | some ns=>if ns.length < 126 then (Ou.ok (dict (dsO n))).bind fun y=>gUni ns y else .bad
   | none=>.bad):Ou D)=_
  rw [bkeys_ky,keysI_map]
  dsimp only
  rw [if_pos (by omega),bind_ok]
  show ((match keysI (bkeys (dsO n)) with
   | some ms=>if (ky (dsO o)).length + ms.length < 126 then .ok (.lst ((uni (ky (dsO o)) ms).map D.int)) else .bad
   | none=>.bad):Ou D)=_
  rw [bkeys_ky,keysI_map]
  dsimp only
  rw [if_pos (by omega)]
 have c2:=comp_prt G1.dnd G2.dnd (ds_al G1) (ds_al G2) (uni (ky (dsO o)) (ky (dsO n))) (uni_nat _ _) .un
 have hul:=uni_len (ky (dsO o)) (ky (dsO n))
 have hz2:((uni (ky (dsO o)) (ky (dsO n))).map D.int).length<=sizeLine:=by rw [List.length_map];exact Nat.le_of_lt (small1000 (by omega))
 rw [← prt_gr G1 G2]
 unfold prt
 generalize ((uni (ky (dsO o)) (ky (dsO n))).filter (nq (dsO o) (dsO n))).map D.int=M1 at *
 generalize (uni (ky (dsO o)) (ky (dsO n))).map D.int=M2 at *
 generalize dict (dsO o)=z1 at *
 generalize dict (dsO n)=z2 at *
 generalize (dsO o).map prD=M3 at *
 generalize (dsO n).map prD=M4 at *
 generalize EO o=O at *
 generalize EO n=N at *
 simp (decide:=true) -implicitDefEqProofs [tbM_tail,startD,fVar,fVarS,isT,at_0,at_1,at_2,at_3,at_4,m_parted,b_parted,d1,d2,k1,k2,fComp,fItems,hu,hz2,dsIn,slIn,c2]
end
section
open Tr
def Hd (a:Nat) (u:T):Prop:=u.lo<=a/\a < u.lo + u.sz
instance (a:Nat) (u:T):Decidable (Hd a u):=inferInstanceAs (Decidable (_/\_))
structure One (a:Nat) (o:Option T) (t:T):Prop where
 els:∀ p:Nat×D,p.1≠a->(p∈dsO o ↔ p∈t.ds)
 one:((∃ p∈dsO o,p.1=a)/\∀ p∈t.ds,p.1≠a)\/((∃ p∈t.ds,p.1=a)/\∀ p∈dsO o,p.1≠a)
theorem sorted_eq {l m:List (Nat×D)} (hl:l.Pairwise (fun x y=>x.1 < y.1)) (hm:m.Pairwise (fun x y=>x.1 < y.1)) (h:∀ p,p∈l ↔ p∈m):l=m:=by
 have nd:∀ {l:List (Nat×D)},l.Pairwise (fun x y=>x.1 < y.1)->l.Nodup:=fun z=>z.imp fun w e=>by rw [e] at w;omega
 have p:l.Perm m:=(List.perm_ext_iff_of_nodup (nd hl) (nd hm)).mpr h
 exact p.eq_of_pairwise (le:=fun x y=>x.1 < y.1) (fun x y _ _ h1 h2=>by omega) hl hm
theorem Hd.blk {a:Nat} {u:T}:Hd a u ↔ a / 2 ^ u.e=u.q:=by
 rw [Bt.in_block];exact Iff.rfl
theorem ds_ins {t u:T} (G:Good t) (h:u∈pre t):u.ds=t.ds.filter (fun p=>decide (p.1 / 2 ^ u.e=u.q)):=by
 have h1:=(insT_ok (Q:=u.q) (n:=u.e) G).1
 rw [pre_ins G u h] at h1
 exact h1
theorem new_iff {a:Nat} {o:Option T} {t:T} (G:GoodO o) (Gt:Good t) (O:One a o t) {u:T} (hu:u∈pre t):u∈preO o ↔ ¬ Hd a u:=by
 have Gu:=(sub_in Gt u hu).1
 have e1:=ds_ins Gt hu
 obtain ⟨Gi,ei⟩:=ins_res G u.q u.e
 constructor
 ·intro h hd
  have hb:=Hd.blk.mp hd
  have e2:u.ds=(dsO o).filter (fun p=>decide (p.1 / 2 ^ u.e=u.q)):=by
   have:=(there G u).mpr h
   rw [this] at ei
   exact ei
  rcases O.one with ⟨⟨p,hp,rfl⟩,no⟩ | ⟨⟨p,hp,rfl⟩,no⟩
  ·have:p∈u.ds:=by rw [e2];exact List.mem_filter.mpr ⟨hp,by simpa using hb⟩
   rw [e1] at this
   exact no p (List.mem_filter.mp this).1 rfl
  ·have:p∈u.ds:=by rw [e1];exact List.mem_filter.mpr ⟨hp,by simpa using hb⟩
   rw [e2] at this
   exact no p (List.mem_filter.mp this).1 rfl
 ·intro hd
  have hb:¬ a / 2 ^ u.e=u.q:=fun z=>hd (Hd.blk.mpr z)
  have so:(dsO o).Pairwise (fun x y=>x.1 < y.1):=by
   cases o with
   | none=>exact .nil
   | some s=>exact ds_sorted G
  have e2:(dsO o).filter (fun p=>decide (p.1 / 2 ^ u.e=u.q))=u.ds:=by
   rw [e1]
   refine sorted_eq (so.filter _) ((ds_sorted Gt).filter _) fun p=>?_
   rw [List.mem_filter,List.mem_filter]
   by_cases c:p.1 / 2 ^ u.e=u.q
   ·have hp:p.1≠a:=fun z=>hb (by rw [← z];exact c)
    rw [O.els p hp]
   ·simp [c]
  rw [e2] at ei
  refine (there G u).mp ?_
  cases hi:o.bind (insT u.q u.e) with
  | none=>rw [hi] at ei;exact absurd ei.symm (ds_ne u)
  | some s =>
   rw [hi] at ei Gi
   rw [one_tree Gi Gu ei]
def path (a:Nat) (t:T):List T:=(pre t).filter fun u=>decide (Hd a u)
theorem tch_path {a:Nat} {o:Option T} {t:T} (G:GoodO o) (Gt:Good t) (O:One a o t):tch o t=path a t:=by
 refine List.filter_congr fun u hu=>?_
 have:=new_iff G Gt O hu
 by_cases c:Hd a u
 ·rw [decide_eq_true c];exact nw_t.mpr fun z=>this.mp z c
 ·rw [decide_eq_false c];exact nw_f.mpr (this.mpr c)
def Ch (a:Nat):Nat->Nat->List T->Prop
 | _,_,[]=>True
 | lo,sz,u::us=>u.sz < sz/\lo<=u.lo/\u.lo + u.sz<=lo + sz/\Hd a u/\Ch a u.lo u.sz us
theorem path_out {a:Nat} {t:T} (G:Good t) (h:¬ Hd a t):path a t=[]:=List.filter_eq_nil_iff.mpr fun u hu=>by
 obtain ⟨_,h1,h2,_⟩:=sub_in G u hu
 have:¬ Hd a u:=fun z=>h ⟨by have:=z.1;omega,by have:=z.2;omega⟩
 simp [this]
theorem path_nd {a q k:Nat} {l r:T} (h:Hd a (.nd q k l r)):path a (.nd q k l r)=.nd q k l r::(path a l++path a r):=by
 show List.filter _ (T.nd q k l r::(pre l++pre r))=_
 rw [List.filter_cons_of_pos (by simpa using h),List.filter_append];rfl
theorem path_ch {a:Nat}:∀ (t:T),Good t->∀ lo sz,t.sz < sz->lo<=t.lo->t.lo + t.sz<=lo + sz->Ch a lo sz (path a t)
 | .lf b d,G,lo,sz,h1,h2,h3=>by
  by_cases c:Hd a (.lf b d)
  ·have e:path a (.lf b d)=[.lf b d]:=by show List.filter _ [T.lf b d]=_;rw [List.filter_cons_of_pos (by simpa using c)];rfl
   rw [e]
   exact ⟨h1,h2,h3,c,trivial⟩
  ·rw [path_out G c];trivial
 | .nd q k l r,G,lo,sz,h1,h2,h3=>by
  by_cases c:Hd a (.nd q k l r)
  ·rw [path_nd c]
   refine ⟨h1,h2,h3,c,?_⟩
   have e1:(T.nd q k l r).lo=q * 2 ^ (k + 1):=rfl
   have e2:(T.nd q k l r).sz=2 ^ (k + 1):=rfl
   have e3:2 ^ (k + 1)=2 ^ k * 2:=Nat.pow_succ ..
   have pk:=Nat.two_pow_pos k
   obtain ⟨gl,gr,_,_,dj⟩:=sub_e G
   have sl:=sz_pos l
   have sr:=sz_pos r
   cases G with
   | nd _ _ b1 b2 b3 b4 b5 =>
    by_cases cl:Hd a l
    ·have cr:¬ Hd a r:=fun z=>by have:=z.1;have:=cl.2;omega
     rw [path_out gr cr,List.append_nil]
     exact path_ch l gl _ _ (by rw [e2];omega) (by rw [e1];exact b1) (by rw [e1,e2];omega)
    ·rw [path_out gl cl,List.nil_append]
     exact path_ch r gr _ _ (by rw [e2];omega) (by rw [e1];omega) (by rw [e1,e2];exact b4)
  ·rw [path_out G c];trivial
theorem path_len {a:Nat}:∀ (t:T),Good t->(path a t).length<=t.ds.length/\(path a t).length<=t.e + 1
 | .lf b d,G=>by
  by_cases c:Hd a (.lf b d)
  ·have e:path a (.lf b d)=[.lf b d]:=by show List.filter _ [T.lf b d]=_;rw [List.filter_cons_of_pos (by simpa using c)];rfl
   rw [e];exact ⟨Nat.le_refl _,by simp⟩
  ·rw [path_out G c];exact ⟨Nat.zero_le _,Nat.zero_le _⟩
 | .nd q k l r,G=>by
  by_cases c:Hd a (.nd q k l r)
  ·rw [path_nd c]
   obtain ⟨gl,gr,el,er,dj⟩:=sub_e G
   have i1:=path_len (a:=a) l gl
   have i2:=path_len (a:=a) r gr
   have ed:(T.nd q k l r).ds=l.ds++r.ds:=rfl
   have ee:(T.nd q k l r).e=k + 1:=rfl
   have n1:=List.length_pos_iff.mpr (ds_ne l)
   have n2:=List.length_pos_iff.mpr (ds_ne r)
   rw [ed,ee,List.length_append,List.length_cons,List.length_append]
   by_cases cl:Hd a l
   ·have cr:¬ Hd a r:=fun z=>by have:=z.1;have:=cl.2;omega
    rw [path_out gr cr,List.length_nil]
    omega
   ·rw [path_out gl cl,List.length_nil]
    omega
  ·rw [path_out G c];exact ⟨Nat.zero_le _,Nat.zero_le _⟩
theorem path_head {a:Nat} {t:T} (h:Hd a t):∃ r,path a t=t::r:=by
 cases t with
 | lf b d=>exact ⟨[],by show List.filter _ [T.lf b d]=_;rw [List.filter_cons_of_pos (by simpa using h)];rfl⟩
 | nd q k l r=>exact ⟨_,path_nd h⟩
theorem path_last {a:Nat}:∀ (t:T),Good t->(∃ p∈t.ds,p.1=a)->∃ r u,path a t=r++[u]/\u.lo=a/\u.sz=1
 | .lf b d,G,h=>by
  obtain ⟨p,hp,rfl⟩:=h
  simp [T.ds] at hp
  subst hp
  have c:Hd b (.lf b d):=by
   refine ⟨?_,?_⟩ <;> simp [T.lo,T.sz,T.q,T.e]
  refine ⟨[],.lf b d,?_,by simp [T.lo,T.q,T.e],rfl⟩
  show List.filter _ [T.lf b d]=_;rw [List.filter_cons_of_pos (by simpa using c)];rfl
 | .nd q k l r,G,h=>by
  obtain ⟨gl,gr,el,er,dj⟩:=sub_e G
  obtain ⟨p,hp,rfl⟩:=h
  have ti:=times_in G p hp
  rw [path_nd ti]
  have hp':p∈l.ds\/p∈r.ds:=by simpa [T.ds] using hp
  rcases hp' with hp' | hp'
  ·obtain ⟨s,u,e,h1⟩:=path_last l gl ⟨p,hp',rfl⟩
   have tl:=times_in gl p hp'
   have cr:¬ Hd p.1 r:=fun z=>by have:=z.1;omega
   rw [path_out gr cr,List.append_nil,e]
   exact ⟨_::s,u,rfl,h1⟩
  ·obtain ⟨s,u,e,h1⟩:=path_last r gr ⟨p,hp',rfl⟩
   have tr:=times_in gr p hp'
   have cl:¬ Hd p.1 l:=fun z=>by have:=z.2;omega
   rw [path_out gl cl,List.nil_append,e]
   exact ⟨_::s,u,rfl,h1⟩
theorem ch_loop {a:Nat} (x0 x1:Sl) (n:D) (pt:Bool):∀ (us:List T) (lo sz:Nat) (s7:Sl),Ch a lo sz us->∃ s5 s6 s7',forL (gNm 7) (sSeq (sIf (fOrT (fNotT (fTru (f1 (gIs "tuple") (fVar 7)))) (fOrT (fAsB (f2 gNe (fCall gLen [(fVar 7)]) (fC (.int 2)))) (fOrT (fTru (f1 (gIs "bool") (f2 gIx (fVar 7) (fC (.int 0))))) (fTru (f1 (gIs "bool") (f2 gIx (fVar 7) (fC (.int 1)))))))) (sSeq (sRet (fC (.bl false))) sNext) sNext) (sSeq (sIf (fOrT (fAsB (f2 gGe (f2 gIx (fVar 7) (fC (.int 1))) (fVar 6))) (fOrT (fAsB (f2 gLt (f2 gIx (fVar 7) (fC (.int 0))) (fVar 5))) (fAsB (f2 gGt (f2 gAdd (f2 gIx (fVar 7) (fC (.int 0))) (f2 gIx (fVar 7) (fC (.int 1)))) (f2 gAdd (fVar 5) (fVar 6)))))) (sSeq (sRet (fC (.bl false))) sNext) sNext) (sSeq (sSet 5 (f2 gIx (fVarS 7) (fC (.int 0)))) (sSeq (sSet 6 (f2 gIx (fVarS 7) (fC (.int 1)))) (sSeq (sIf (fOrT (fAsB (f2 gLt (fVar 2) (fVar 5))) (fAsB (f2 gGe (fVar 2) (f2 gAdd (fVar 5) (fVar 6))))) (sSeq (sRet (fC (.bl false))) sNext) sNext) sNext))))) (us.map sD) [x0,x1,.val (.int (a:Int)),.val n,.val (.bl pt),.val (.int (lo:Int)),.val (.int (sz:Int)),s7]=.ok (.nx [x0,x1,.val (.int (a:Int)),.val n,.val (.bl pt),s5,s6,s7'])
 | [],lo,sz,s7,_=>⟨_,_,_,rfl⟩
 | u::us,lo,sz,s7,h=>by
  obtain ⟨h1,h2,h3,h4,h5⟩:=h
  obtain ⟨s5,s6,s7',i⟩:=ch_loop x0 x1 n pt us u.lo u.sz (.val (sD u)) h5
  refine ⟨s5,s6,s7',?_⟩
  rw [List.map_cons,forL_nx (δ1:=[x0,x1,.val (.int (a:Int)),.val n,.val (.bl pt),.val (.int (lo:Int)),.val (.int (sz:Int)),.val (sD u)]) (δ2:=[x0,x1,.val (.int (a:Int)),.val n,.val (.bl pt),.val (.int (u.lo:Int)),.val (.int (u.sz:Int)),.val (sD u)]) rfl ?_]
  ·exact i
  ·have a1:=h4.1
   have a2:=h4.2
   generalize us.map sD=M at *
   unfold sD
   have n1:gIs "tuple" (.tup [.int (u.lo:Int),.int (u.sz:Int)])=.ok (.bl true):=rfl
   have n2:∀ z:Int,gIs "bool" (.int z)=.ok (.bl false):=fun _=>rfl
   have c1:¬ (sz:Int)<=(u.sz:Int):=by omega
   have c2:¬ (u.lo:Int) < (lo:Int):=by omega
   have c3:¬ (lo:Int) + (sz:Int) < (u.lo:Int) + (u.sz:Int):=by omega
   have c4:¬ (a:Int) < (u.lo:Int):=by omega
   have c5:¬ (u.lo:Int) + (u.sz:Int)<=(a:Int):=by omega
   have b1:¬ sz<=u.sz:=by omega
   have b2:¬ u.lo < lo:=by omega
   have b4:¬ a < u.lo:=by omega
   clear i h1 h2 h3 h4 h5 a1 a2
   generalize (u.lo:Int)=z1 at *
   generalize (u.sz:Int)=z2 at *
   generalize (lo:Int)=z3 at *
   generalize (sz:Int)=z4 at *
   generalize (a:Int)=z5 at *
   simp (decide:=true) -implicitDefEqProofs [tbM_tail,startD,fVar,fVarS,isT,at_0,at_1,at_2,at_3,at_4,n1,n2,c1,c2,c3,c4,c5]
theorem eq_pair (x y:Int):gEq (.tup [.int x,.int y]) (.tup [.int x,.int y])=.ok (.bl true):=by
 have s:Self 2 (.tup [.int x,.int y]):=Self.tup fun z hz=>by
  simp at hz
  rcases hz with rfl | rfl
  ·exact Self.int _
  ·exact Self.int _
 exact s.eq (by decide)
theorem chain_eq {a:Nat} (us:List T) (W:D) (n:Nat) (pt:Bool) (hc:Ch a 0 2147483648 us) (h31:us.length<=31) (hn:us.length<=n)
  (hp:pt=true->∃ t r u r',W=E t/\us=t::r/\us=r'++[u]/\u.lo=a/\u.sz=1) (hq:pt=false->us=[]\/∃ t r,W=E t/\us=t::r) :
  m__law_chain [.lst (us.map sD),W,.int (a:Int),.int (n:Int),.bl pt]=.ok (.bl true):=by
 obtain ⟨s5,s6,s7,lp⟩:=ch_loop (.val (.lst (us.map sD))) (.val W) (.int (n:Int)) pt us 0 2147483648 .un hc
 have hm:(us.map sD).length=us.length:=List.length_map _
 have c1:¬ (31:Int) < (us.length:Int):=by omega
 have c2:¬ (n:Int) < (us.length:Int):=by omega
 have k1:(fOrT (fNotT (fTru (f1 (gIs "list") (fVar 0)))) (fOrT (fAsB (f2 gGt (fCall gLen [(fVar 0)]) (fC (.int 31)))) (fAsB (f2 gGt (fCall gLen [(fVar 0)]) (fVar 3))))) [.val (.lst (us.map sD)),.val W,.val (.int (a:Int)),.val (.int (n:Int)),.val (.bl pt),.un,.un,.un]=.ok false:=by
  have n2:gIs "list" (.lst (us.map sD))=.ok (.bl true):=rfl
  have b1:¬ 31 < us.length:=by omega
  have b2:¬ n < us.length:=by omega
  generalize us.map sD=M at *
  simp (decide:=true) -implicitDefEqProofs [tbM_tail,startD,fVar,fVarS,isT,at_0,at_1,at_2,at_3,at_4,n2,hm,c1,c2,b1,b2]
 refine run_rt ((if_no k1 rfl).trans ((set_to (i:=5) (d:=.int 0) rfl).trans ((set_to (i:=6) (d:=.int 2147483648) rfl).trans ((seq_nx ((for_of (g:=gNm 7) (ds:=us.map sD) rfl).trans lp)).trans ?_))))
 cases pt with
 | true =>
  obtain ⟨t,r,u,r',rfl,e1,e2,e3,e4⟩:=hp rfl
  refine if_ret (b:=true) rfl rfl ?_
  have a0:atI (us.map sD) 0=some (sD t):=by
   rw [e1];exact at_0
  have a1:atI (us.map sD) (-1)=some (sD u):=by
   rw [e2,List.map_append];exact at_end _ _
  have hl:(0:Int) < (us.length:Int):=by rw [e1];simp
  have hl':0 < us.length:=by omega
  obtain ⟨ys,hE⟩:∃ ys,E t=.tup (.int (t.lo:Int)::.int (t.sz:Int)::ys):=by
   obtain ⟨z,e⟩:=enc_form en lone join t
   exact ⟨_,e⟩
  have q1:=eq_pair (t.lo:Int) (t.sz:Int)
  have q2:=eq_pair (a:Int) 1
  have su:sD u=.tup [.int (a:Int),.int 1]:=by unfold sD;rw [e3,e4];rfl
  rw [su] at a1
  have st:sD t=.tup [.int (t.lo:Int),.int (t.sz:Int)]:=rfl
  rw [st] at a0
  clear st
  rw [hE]
  clear e1 e2 lp
  generalize us.map sD=M at *
  generalize (t.lo:Int)=z1 at *
  generalize (t.sz:Int)=z2 at *
  simp (decide:=true) -implicitDefEqProofs [tbM_tail,startD,fVar,fVarS,isT,at_0,at_1,at_2,at_3,at_4,hm,hl,hl',a0,a1,q1,q2]
 | false =>
  refine (if_no (b:=false) rfl rfl).trans (ret_is ?_)
  rcases hq rfl with rfl | ⟨t,r,rfl,e1⟩
  ·generalize W=z
   simp (decide:=true) -implicitDefEqProofs [tbM_tail,startD,fVar,fVarS,isT,at_0,at_1,at_2,at_3,at_4]
  ·have a0:atI (us.map sD) 0=some (sD t):=by
    rw [e1];exact at_0
   have hl:¬ us.length=0:=by rw [e1];simp
   have hl2:¬ (us.length:Int)=0:=by omega
   obtain ⟨ys,hE⟩:∃ ys,E t=.tup (.int (t.lo:Int)::.int (t.sz:Int)::ys):=by
    obtain ⟨z,e⟩:=enc_form en lone join t
    exact ⟨_,e⟩
   have q1:=eq_pair (t.lo:Int) (t.sz:Int)
   have st:sD t=.tup [.int (t.lo:Int),.int (t.sz:Int)]:=rfl
   rw [st] at a0
   clear st
   rw [hE]
   have nn:gNotN (.tup (.int (t.lo:Int)::.int (t.sz:Int)::ys))=.ok (.bl true):=rfl
   clear e1 lp
   generalize us.map sD=M at *
   generalize (t.lo:Int)=z1 at *
   generalize (t.sz:Int)=z2 at *
   simp (decide:=true) -implicitDefEqProofs [tbM_tail,startD,fVar,fVarS,isT,at_0,at_1,at_2,at_3,at_4,hm,hl,hl2,a0,q1,nn]
theorem gr_of {al:List (Nat×D)} {o:Option T} (B:Book al o) (A:Al al):Gr o al:=⟨gd B,fun p=>B.perm.mem_iff,B.perm.length_eq,B.nodup,A⟩
theorem prt_one {al bl:List (Nat×D)} (h1:(al.map (·.1)).Nodup) (h2:(bl.map (·.1)).Nodup) (A1:Al al) (A2:Al bl) {a:Nat} (els:∀ p:Nat×D,p.1≠a->(p∈al ↔ p∈bl)) (one:((∃ p∈al,p.1=a)/\∀ p∈bl,p.1≠a)\/((∃ p∈bl,p.1=a)/\∀ p∈al,p.1≠a)):prt al bl=[(a:Int)]:=by
 have nonA:∀ {l:List (Nat×D)},(l.map (·.1)).Nodup->Al l->∀ p∈l,dA l (p.1:Int)≠.non:=fun hn A p hp z=>by
  rw [dA_in hn hp] at z
  have ok:=(A p hp).2
  rw [z] at ok
  cases ok
 unfold prt
 refine strict_eq ((uni_strict _ _).filter _) (List.pairwise_singleton _ _) fun k=>?_
 rw [List.mem_filter,uni_mem,List.mem_singleton]
 constructor
 ·rintro ⟨hk,hq⟩
  obtain ⟨b,rfl⟩:∃ b:Nat,k=(b:Int):=by
   rcases hk with h | h
   ·obtain ⟨p,_,rfl⟩:=ky_mem.mp h;exact ⟨p.1,rfl⟩
   ·obtain ⟨p,_,rfl⟩:=ky_mem.mp h;exact ⟨p.1,rfl⟩
  by_cases c:b=a
  ·rw [c]
  ·exfalso
   have e:dA al (b:Int)=dA bl (b:Int):=by
    by_cases d:∃ p∈al,p.1=b
    ·obtain ⟨p,hp,rfl⟩:=d
     rw [dA_in h1 hp,dA_in h2 ((els p c).mp hp)]
    ·rw [dA_out fun p hp z=>d ⟨p,hp,z⟩,dA_out fun p hp z=>d ⟨p,(els p (by rw [z];exact c)).mpr hp,z⟩]
   unfold nq at hq
   simp [e] at hq
 ·rintro rfl
  rcases one with ⟨⟨p,hp,rfl⟩,no⟩ | ⟨⟨p,hp,rfl⟩,no⟩
  ·refine ⟨.inl (ky_mem.mpr ⟨p,hp,rfl⟩),?_⟩
   unfold nq
   rw [dA_out no]
   simpa using nonA h1 A1 p hp
  ·refine ⟨.inr (ky_mem.mpr ⟨p,hp,rfl⟩),?_⟩
   unfold nq
   rw [dA_out no]
   simpa using fun z=>nonA h2 A2 p hp (Eq.symm z)
theorem row_compW (al:List (Nat×D)) (hn:(al.map (·.1)).Nodup) (A:Al al):∀ (l:List (Nat×D)),(∀ p∈l,p∈al)->compW fYes (fTup [(fVar 0),(f2 gDIx (fVar 1) (fVar 0))]) [.val (dict al)] ((l.map fun p=>(p.1:Int)).map D.int)=.ok (l.map prD)
 | [],_=>rfl
 | p::l,h=>by
  have hp:=h p List.mem_cons_self
  have e:=dict_ix hn hp
  have i:=row_compW al hn A l (fun p hp=>h p (List.mem_cons_of_mem _ hp))
  have im:=imm_d (A p hp).2
  have im2:imm (.tup [.int (p.1:Int),p.2])=true:=by simp [imm,imms,im]
  generalize dict al=z at *
  simp only [List.map_cons,compW]
  generalize (l.map fun p=>(p.1:Int)).map D.int=M at *
  simp (decide:=true) -implicitDefEqProofs [tbM_tail,startD,fVar,fVarS,isT,at_0,at_1,at_2,at_3,at_4,fYes,e,i,prD,im2]
theorem len_dict (al:List (Nat×D)):gLen [dict al]=.ok (.int (al.length:Int)):=by
 show Ou.ok (D.int (((al.map (·.2)).length:Nat):Int))=_
 rw [List.length_map]
theorem asked_eq {al bl:List (Nat×D)} {o n:Option T} (B:Book al o) (A:Al al) (B':Book bl n) (A':Al bl) (hl:al.length + bl.length < 120) (hl1:al.length<=60) (hl2:bl.length<=60) {a:Nat} (pt:Bool) (els:∀ p:Nat×D,p.1≠a->(p∈al ↔ p∈bl)) (one:if pt=true then (∃ p∈bl,p.1=a)/\∀ p∈al,p.1≠a else (∃ p∈al,p.1=a)/\∀ p∈bl,p.1≠a) (c:Int) :
  (sSeq (sIf (fOrT (fAsB (f2 gNe (fVar 6) (fCall (m__law_tree 64) [(fCompW (fItems (f1 gSortDB (fVar 2))) fYes (fTup [(fVar 0),(f2 gDIx (fVar 1) (fVar 0))]) [2])]))) (fAsB (f2 gNe (fCall (m_parted) [(fVarS 1),(fVarS 6)]) (fLst [(fVarS 4)])))) (sSeq (sRetM 2 (fTup [(fC (.bl false)),(fVarS 6)])) sNext) sNext) (sSeq (sRetM 2 (fTup [(fUp (fCall (m__law_chain) [(fCall (m_touched 64) [(fVarS 1),(fVarS 6)]),(fVar 6),(fVar 4),(fCall gLen [(fVar 2)]),(fVar 5)])),(fVarS 6)])) sNext)) [.val (.obj "Kind"),.val (EO o),.own (dict bl),.val (.int c),.val (.int (a:Int)),.val (.bl pt),.val (EO n)]=.ok (.rt (.tup [.tup [.bl true,EO n],dict bl])):=by
 have one':((∃ p∈al,p.1=a)/\∀ p∈bl,p.1≠a)\/((∃ p∈bl,p.1=a)/\∀ p∈al,p.1≠a):=by
  cases pt with
  | true=>exact .inr (by simpa using one)
  | false=>exact .inl (by simpa using one)
 have hlb:=B'.perm.length_eq
 have hsort:=B'.sortB (by omega)
 have hrow:=row_compW bl B'.nodup A' (dsO n) (fun p hp=>B'.perm.mem_iff.mp hp)
 have ht:=tree_res (gd B') (by rw [hlb];omega)
 have sn:=(selfO B' A').ne (by decide)
 have pd:=parted_eq (gr_of B A) (gr_of B' A') (by omega)
 rw [prt_one B.nodup B'.nodup A A' els one'] at pd
 have hsz:(((dsO n).map fun p=>(p.1:Int)).map D.int).length<=sizeLine:=by rw [List.length_map,List.length_map];exact Nat.le_of_lt (small1000 (by omega))
 have pn1:gNe (.lst [.int (a:Int)]) (.lst [.int (a:Int)])=.ok (.bl false):=by
  have s:Self 2 (.lst [.int (a:Int)]):=Self.lst fun z hz=>by
   simp at hz
   subst hz
   exact Self.int _
  exact s.ne (by decide)
 have hld:=len_dict bl
 have hck:∀ p∈dsO o,Okd p.2:=fun p hp=>(ds_ok B A p hp).2
 have chn:∃ us:List T,m_touched 64 [EO o,EO n]=.ok (.lst (us.map sD))/\m__law_chain [.lst (us.map sD),EO n,.int (a:Int),.int (bl.length:Int),.bl pt]=.ok (.bl true):=by
  cases n with
  | none =>
   refine ⟨[],touched_none o,chain_eq [] _ _ _ trivial (by decide) (Nat.zero_le _) (fun z=>?_) fun _=>.inl rfl⟩
   subst z
   obtain ⟨⟨p,hp,_⟩,_⟩:(∃ p∈bl,p.1=a)/\∀ p∈al,p.1≠a:=by simpa using one
   have:=B'.perm.mem_iff.mpr hp
   cases this
  | some t =>
   have Gt:Good t:=B'.good
   have O:One a o t:=⟨fun p hp=>by rw [B.perm.mem_iff,els p hp,← B'.perm.mem_iff];exact Iff.rfl,by
    have m1:∀ p,p∈dsO o ↔ p∈al:=fun p=>B.perm.mem_iff
    have m2:∀ p,p∈t.ds ↔ p∈bl:=fun p=>B'.perm.mem_iff
    rcases one' with ⟨⟨p,hp,e⟩,no⟩ | ⟨⟨p,hp,e⟩,no⟩
    ·exact .inl ⟨⟨p,(m1 p).mpr hp,e⟩,fun q hq=>no q ((m2 q).mp hq)⟩
    ·exact .inr ⟨⟨p,(m2 p).mpr hp,e⟩,fun q hq=>no q ((m1 q).mp hq)⟩⟩
   have dp:=depth Gt
   have tl:t.ds.length=bl.length:=hlb
   have hpre:(pre t).length<=300:=by
    have:∀ t:T,(pre t).length + 1=2 * t.ds.length:=fun t=>by
     induction t with
     | lf a d=>rfl
     | nd q k l r h1 h2=>simp only [pre,T.ds,List.length_cons,List.length_append];omega
    have:=this t
    omega
   have tc:=touched_eq (gd B) hck 64 t Gt (fun p hp=>(ds_ok B' A' p hp).2) (by omega) hpre
   rw [tch_path (gd B) Gt O] at tc
   obtain ⟨l1,l2⟩:=path_len (a:=a) t Gt
   refine ⟨path a t,tc,chain_eq _ _ _ _ (path_ch t Gt 0 2147483648 ?_ (Nat.zero_le _) ?_) (by omega) (by omega) (fun z=>?_) fun _=>?_⟩
   ·have:=Gt.up;have:all=1073741824:=rfl;omega
   ·have:=Gt.up;have:all=1073741824:=rfl;omega
   ·subst z
    obtain ⟨⟨p,hp,hpa⟩,_⟩:(∃ p∈bl,p.1=a)/\∀ p∈al,p.1≠a:=by simpa using one
    have hp':p∈t.ds:=B'.perm.mem_iff.mpr hp
    have hd:Hd a t:=by rw [← hpa];exact times_in Gt p hp'
    obtain ⟨r,e1⟩:=path_head hd
    obtain ⟨r',u,e2,e3,e4⟩:=path_last t Gt ⟨p,hp',hpa⟩
    exact ⟨t,r,u,r',rfl,e1,e2,e3,e4⟩
   ·by_cases hd:Hd a t
    ·obtain ⟨r,e1⟩:=path_head hd
     exact .inr ⟨t,r,rfl,e1⟩
    ·exact .inl (path_out Gt hd)
 obtain ⟨us,t1,t2⟩:=chn
 refine (if_no (b:=false) ?_ rfl).trans ?_
 ·generalize dict bl=z at *
  generalize EO n=w' at *
  generalize EO o=w at *
  generalize (dsO n).map prD=M2 at *
  generalize ((dsO n).map fun p=>(p.1:Int)).map D.int=M at *
  simp (decide:=true) -implicitDefEqProofs [tbM_tail,startD,fVar,fVarS,isT,at_0,at_1,at_2,at_3,at_4,hsort,fCompW,fItems,hsz,slW,hrow,ht,sn,pd,pn1]
 ·generalize dict bl=z at *
  generalize EO n=w' at *
  generalize EO o=w at *
  generalize us.map sD=M at *
  simp (decide:=true) -implicitDefEqProofs [tbM_tail,startD,fVar,fVarS,isT,at_0,at_1,at_2,at_3,at_4,sRetM,t1,t2,hld,fUp,imm]
theorem change_eq {al:List (Nat×D)} {o:Option T} (B:Book al o) (A:Al al) (hl:al.length<=59) (c:Int):∃ bl n,m__law_change [.obj "Kind",EO o,dict al,.int c]=.ok (.tup [.tup [.bl true,EO n],dict bl])/\Book bl n/\Al bl/\bl.length<=al.length + 1:=by
 obtain ⟨t,ht,tm⟩:=time_eq (c / 3)
 have hld:=len_dict al
 have hsort:=B.sortB (by omega)
 have c31:cPow 10 31=true:=by decide
 have pick:∃ a:Nat,a < all/\(sIf (fAndT (fAsB (f2 gEq (f2 gMod (fVar 3) (fC (.int 3))) (fC (.int 0)))) (fAsB (f2 gGt (fCall gLen [(fVar 2)]) (fC (.int 0))))) (sSeq (sSet 4 (f2 gIx (f1 gSortDB (fVar 2)) (f2 gMod (f2 gDiv (fVar 3) (fC (.int 3))) (fCall gLen [(fVar 2)])))) sNext) sNext) [.val (.obj "Kind"),.val (EO o),.own (dict al),.val (.int c),.val (.int t),.un,.un]=.ok (.nx [.val (.obj "Kind"),.val (EO o),.own (dict al),.val (.int c),.val (.int (a:Int)),.un,.un]):=by
  by_cases hc:c % 3=0/\0 < al.length
  ·have hm:=mod_lt (c / 3) (m:=(al.length:Int)) (by omega)
   obtain ⟨j,hj⟩:∃ j:Nat,c / 3 % (al.length:Int)=(j:Int):=⟨(c / 3 % (al.length:Int)).toNat,by omega⟩
   have hpl:=B.perm.length_eq
   have jl:j < (dsO o).length:=by omega
   have ea:atI (((dsO o).map fun p=>(p.1:Int)).map D.int) (j:Int)=some (.int ((dsO o)[j].1:Int)):=by
    rw [at_nat (by rw [List.length_map,List.length_map];exact jl)];simp
   have cmd:cMod (c / 3) (al.length:Int)=true:=by simp [cMod];omega
   have c1:(0:Int) < (al.length:Int):=by omega
   refine ⟨(dsO o)[j].1,(ds_ok B A _ (List.getElem_mem jl)).1,?_⟩
   generalize (dsO o)[j]=lj at *
   generalize ((dsO o).map fun p=>(p.1:Int)).map D.int=M at *
   generalize EO o=w at *
   generalize dict al=z at *
   simp (decide:=true) -implicitDefEqProofs [tbM_tail,startD,fVar,fVarS,isT,at_0,at_1,at_2,at_3,at_4,hld,hc.1,hc.2,c1,hsort,cmd,hj,ea]
  ·obtain ⟨a,rfl,ha⟩:=tm_nat tm
   refine ⟨a,ha,?_⟩
   generalize EO o=w at *
   generalize dict al=z at *
   by_cases h1:c % 3=0
   ·have h2:al.length=0:=by omega
    simp (decide:=true) -implicitDefEqProofs [tbM_tail,startD,fVar,fVarS,isT,at_0,at_1,at_2,at_3,at_4,hld,h1,h2]
   ·simp (decide:=true) -implicitDefEqProofs [tbM_tail,startD,fVar,fVarS,isT,at_0,at_1,at_2,at_3,at_4,hld,h1]
 obtain ⟨a,ha,pick⟩:=pick
 have run:∀ r:D,b__law_change [.val (.obj "Kind"),.val (EO o),.own (dict al),.val (.int c),.un,.un,.un]=.ok (.rt r)->m__law_change [.obj "Kind",EO o,dict al,.int c]=.ok r:=fun r h=>by
  have e:startM 2 7 [.obj "Kind",EO o,dict al,.int c]=[.val (.obj "Kind"),.val (EO o),.own (dict al),.val (.int c),.un,.un,.un]:=rfl
  unfold m__law_change runM
  rw [e,h];rfl
 have first:(fCall (m__law_time) [(f2 gDiv (fVar 3) (fC (.int 3)))]) [.val (.obj "Kind"),.val (EO o),.own (dict al),.val (.int c),.un,.un,.un]=.ok (.int t):=by
  generalize EO o=w at *
  generalize dict al=z at *
  simp (decide:=true) -implicitDefEqProofs [tbM_tail,startD,fVar,fVarS,isT,at_0,at_1,at_2,at_3,at_4,ht]
 by_cases hin:∃ p∈al,p.1=a
 ·obtain ⟨p,hp,rfl⟩:=hin
  obtain ⟨n,e1,B',hds,e2⟩:=take_turn B A hp
  have d1:=dict_in' true B.nodup hp
  have d2:=dGet_some B.nodup hp
  have d3:=drop_dict al p.1
  have hlt:=but_lt B.nodup hp
  refine ⟨but p.1 al,n,run _ ?_,B',but_al A p.1,by omega⟩
  have ask:=asked_eq B A B' (but_al A p.1) (by omega) (by omega) (by omega) (a:=p.1) false (fun q hq=>by unfold but;rw [List.mem_filter];simp [hq]) (by simp only [Bool.false_eq_true,if_false];exact ⟨⟨p,hp,rfl⟩,fun q hq z=>by have:=(List.mem_filter.mp hq).2;simp [z] at this⟩) c
  refine (set_to (i:=4) first).trans ((seq_nx pick).trans ((set_to (i:=5) (d:=.bl false) ?_).trans ((seq_nx (δ':=[.val (.obj "Kind"),.val (EO o),.own (dict (but p.1 al)),.val (.int c),.val (.int (p.1:Int)),.val (.bl false),.val (EO n)]) ?_).trans ask)))
  ·generalize EO o=w at *
   generalize dict al=z at *
   simp (decide:=true) -implicitDefEqProofs [tbM_tail,startD,fVar,fVarS,isT,at_0,at_1,at_2,at_3,at_4,d1]
  ·have hpop:sDPop 2 (fVar 4) [.val (.obj "Kind"),.val (EO o),.own (dict al),.val (.int c),.val (.int (p.1:Int)),.val (.bl false),.un]=.ok (.nx [.val (.obj "Kind"),.val (EO o),.own (dict (but p.1 al)),.val (.int c),.val (.int (p.1:Int)),.val (.bl false),.un]):=by
    rw [← d3]
    unfold dict
    generalize al.map (·.2)=vs at *
    generalize bkeys al=ks at *
    generalize EO o=w at *
    simp (decide:=true) -implicitDefEqProofs [tbM_tail,startD,fVar,fVarS,isT,at_0,at_1,at_2,at_3,at_4,sDPop,keyD,d2]
   show (sIf _ _ _) [.val (.obj "Kind"),.val (EO o),.own (dict al),.val (.int c),.val (.int (p.1:Int)),.val (.bl false),.un]=_
   clear ask
   generalize dict (but p.1 al)=z' at *
   generalize dict al=z at *
   generalize EO n=w' at *
   generalize EO o=w at *
   generalize m_taken_out 64=P at *
   simp (decide:=true) -implicitDefEqProofs [tbM_tail,startD,fVar,fVarS,isT,at_0,at_1,at_2,at_3,at_4,hpop,e1]
 ·have hn:∀ p∈al,p.1≠a:=fun p hp z=>hin ⟨p,hp,z⟩
  have d1:=dict_in true al a hn
  have okd:Okd (.tup [.str "put",.int (c / 3 % 10 ^ 31)]):=.mk _ _
  generalize hdd:D.tup [.str "put",.int (c / 3 % 10 ^ 31)]=dd at okd
  obtain ⟨t',q1,q2,B',A'⟩:=put_turn B A ha hn okd
  have hdp:=dict_put (d:=dd) hn
  have hix:=dict_ix (p:=(a,dd)) B'.nodup (by simp)
  have hks:(bkeys al).length < sizeLine:=by rw [bkeys,List.length_map];exact small1000 (by omega)
  refine ⟨al++[(a,dd)],some t',run _ ?_,B',A',by simp⟩
  have ask:=asked_eq B A B' A' (by simp;omega) (by omega) (by simp;omega) (a:=a) true (fun q hq=>by
   rw [List.mem_append,List.mem_singleton]
   constructor
   ·exact .inl
   ·rintro (z | rfl)
    ·exact z
    ·exact absurd rfl hq) (by simp only [if_true];exact ⟨⟨(a,dd),by simp,rfl⟩,hn⟩) c
  refine (set_to (i:=4) first).trans ((seq_nx pick).trans ((set_to (i:=5) (d:=.bl true) ?_).trans ((seq_nx (δ':=[.val (.obj "Kind"),.val (EO o),.own (dict (al++[(a,dd)])),.val (.int c),.val (.int (a:Int)),.val (.bl true),.val (E t')]) ?_).trans ask)))
  ·generalize EO o=w at *
   generalize dict al=z at *
   simp (decide:=true) -implicitDefEqProofs [tbM_tail,startD,fVar,fVarS,isT,at_0,at_1,at_2,at_3,at_4,d1]
  ·have hput:DL.sDPut 2 (fVar 4) (fTup [(fC (.str "put")),(f2 gMod (f2 gDiv (fVar 3) (fC (.int 3))) (f2 gPow (fC (.int 10)) (fC (.int 31))))]) [.val (.obj "Kind"),.val (EO o),.own (dict al),.val (.int c),.val (.int (a:Int)),.val (.bl true),.un]=.ok (.nx [.val (.obj "Kind"),.val (EO o),.own (dict (al++[(a,dd)])),.val (.int c),.val (.int (a:Int)),.val (.bl true),.un]):=by
    rw [← hdp,← hdd]
    unfold dict
    generalize EO o=w
    simp (decide:=true) -implicitDefEqProofs [tbM_tail,startD,fVar,fVarS,isT,at_0,at_1,at_2,at_3,at_4,DL.sDPut,c31,keyD,hks]
   have hixd:fIxD 2 (fVar 4) [.val (.obj "Kind"),.val (EO o),.own (dict (al++[(a,dd)])),.val (.int c),.val (.int (a:Int)),.val (.bl true),.un]=.ok dd:=by
    change gDIx (.dic (bkeys (al++[(a,dd)])) ((al++[(a,dd)]).map (·.2))) (.int (a:Int))=.ok dd at hix
    unfold dict
    generalize EO o=w
    generalize (al++[(a,dd)]).map (·.2)=vs at *
    generalize bkeys (al++[(a,dd)])=ks at *
    simp (decide:=true) -implicitDefEqProofs [tbM_tail,startD,fVar,fVarS,isT,at_0,at_1,at_2,at_3,at_4,fIxD,hix]
   show (sIf _ _ _) [.val (.obj "Kind"),.val (EO o),.own (dict al),.val (.int c),.val (.int (a:Int)),.val (.bl true),.un]=_
   clear ask
   generalize dict (al++[(a,dd)])=z' at *
   generalize dict al=z at *
   generalize EO o=w at *
   generalize E t'=w' at *
   generalize m_put_in 64=P at *
   simp (decide:=true) -implicitDefEqProofs [tbM_tail,startD,fVar,fVarS,isT,at_0,at_1,at_2,at_3,at_4,hput,hixd,q1,q2,fUp]
theorem law_true (ns:List Int) (h:ns.length<=63):m_law [.frl (ns.map D.int)]=.ok (.bl true):=by
 obtain ⟨h0,hh0⟩:=cell_at_eq ns (k:=0) (by decide)
 have hall:all=1073741824:=rfl
 have m31:=mod_lt (h0 / 3) (m:=31) (by decide)
 obtain ⟨cs,hcs,hcl⟩:=cut_map ns (some 1) (some 31)
 have hcl2:cs.length<=30:=cut_len ns hcs (by rfl)
 refine run_rt ((set_to (i:=1) (d:=.obj "Kind") rfl).trans ((set_to (i:=2) (d:=.int h0) ?_).trans ((seq_nx (δ':=[.val (.frl (ns.map D.int)),.val (.obj "Kind"),.val (.int h0),.own (dict []),.un,.un,.un,.un,.un]) rfl).trans ((set_to (i:=4) (d:=EO none) rfl).trans ?_))))
 ·show (fCall (m__law_cell_at) [(fVarS 0),(fC (.int 0))]) [.val (.frl (ns.map D.int)),.val (.obj "Kind"),.un,.un,.un,.un,.un,.un,.un]=_
  simp (decide:=true) -implicitDefEqProofs [tbM_tail,startD,fVar,fVarS,isT,at_0,at_1,at_2,at_3,at_4,hh0]
 show sSeq _ _ [.val (.frl (ns.map D.int)),.val (.obj "Kind"),.val (.int h0),.own (dict []),.val (EO none),.un,.un,.un,.un]=_
 rw [e_seq]
 refine Rng.useP (fun o:Ou Fl=>o=.ok (.rt (.bl true))) (j:=h0 / 3 % 31) (by generalize dict []=z;generalize EO none=w;simp (decide:=true) -implicitDefEqProofs [tbM_tail,startD,fVar,fVarS,isT,at_0,at_1,at_2,at_3,at_4]) (by simp [rOk];omega) (fun i δ=>∃ (al:List (Nat×D)) (o:Option T) (s5 s6:Sl),δ=[.val (.frl (ns.map D.int)),.val (.obj "Kind"),.val (.int h0),.own (dict al),.val (EO o),s5,s6,.un,.un]/\Book al o/\Al al/\al.length<=i/\∀ p∈al,∃ j,j < i/\((h0 % 3=2/\p.1 + 2 ^ j=1073741824)\/(¬ h0 % 3=2/\p.1=2 ^ j))) ⟨[],none,.un,.un,rfl,⟨trivial,.refl _⟩,(by intro p hp;cases hp),Nat.le_refl _,by intro p hp;cases hp⟩ ?_ ?_
 ·rintro k hk δ ⟨al,o,s5,s6,rfl,B,A,hal,hks⟩
  have k29:k<=29:=by omega
  have p30:=pw30 k k29
  have cp:cPow 1 (k:Int)=true:=by simp [cPow];omega
  have epw:(2:Int) ^ k=((2 ^ k:Nat):Int):=pow_int k
  have pinj:∀ j,j < k->2 ^ j < 2 ^ k:=fun j hj=>Nat.pow_lt_pow_right (by decide) hj
  have p30':2 ^ k < 1073741824/\1<=2 ^ k:=⟨by omega,Nat.one_le_two_pow⟩
  obtain ⟨a,ha,haw,htm⟩:∃ a:Nat,a < all/\((h0 % 3=2/\a + 2 ^ k=1073741824)\/(¬ h0 % 3=2/\a=2 ^ k))/\∀ G:Sm,(sSeq (sSet 6 (f2 gShl (fC (.int 1)) (fVar 5))) (sSeq (sIf (fAsB (f2 gEq (f2 gMod (fVar 2) (fC (.int 3))) (fC (.int 2)))) (sSeq (sSet 6 (f2 gSub (fC (.int 1073741824)) (f2 gShl (fC (.int 1)) (fVar 5)))) sNext) sNext) G)) [.val (.frl (ns.map D.int)),.val (.obj "Kind"),.val (.int h0),.own (dict al),.val (EO o),.val (.int (k:Int)),s6,.un,.un]=G [.val (.frl (ns.map D.int)),.val (.obj "Kind"),.val (.int h0),.own (dict al),.val (EO o),.val (.int (k:Int)),.val (.int (a:Int)),.un,.un]:=by
   by_cases h2:h0 % 3=2
   ·refine ⟨1073741824 - 2 ^ k,by omega,.inl ⟨h2,by omega⟩,fun G=>?_⟩
    have e:((1073741824 - 2 ^ k:Nat):Int)=1073741824 - (2:Int) ^ k:=by rw [epw];omega
    rw [e]
    generalize EO o=w at *
    generalize dict al=z at *
    refine (set_to (d:=.int (2 ^ k)) (by simp (decide:=true) -implicitDefEqProofs [tbM_tail,startD,fVar,fVarS,isT,at_0,at_1,at_2,at_3,at_4,cp])).trans (seq_nx ?_)
    simp only [List.set]
    simp (decide:=true) -implicitDefEqProofs [tbM_tail,startD,fVar,fVarS,isT,at_0,at_1,at_2,at_3,at_4,h2,cp]
   ·refine ⟨2 ^ k,by omega,.inr ⟨h2,rfl⟩,fun G=>?_⟩
    rw [← epw]
    generalize EO o=w at *
    generalize dict al=z at *
    refine (set_to (d:=.int (2 ^ k)) (by simp (decide:=true) -implicitDefEqProofs [tbM_tail,startD,fVar,fVarS,isT,at_0,at_1,at_2,at_3,at_4,cp])).trans (seq_nx ?_)
    simp only [List.set]
    simp (decide:=true) -implicitDefEqProofs [tbM_tail,startD,fVar,fVarS,isT,at_0,at_1,at_2,at_3,at_4,h2]
  show Goes _ ((sSeq _ _) [.val (.frl (ns.map D.int)),.val (.obj "Kind"),.val (.int h0),.own (dict al),.val (EO o),.val (.int (k:Int)),s6,.un,.un])
  rw [htm]
  by_cases h3:0 < h0 % 3
  ·have hn:∀ p∈al,p.1≠a:=fun p hp z=>by
    obtain ⟨j,hj,w⟩:=hks p hp
    have:=pinj j hj
    omega
   have okd:Okd (.tup [.str "add",.int (k:Int)]):=.mk _ _
   generalize hdd:D.tup [.str "add",.int (k:Int)]=dd at okd
   obtain ⟨t',q1,q2,B',A'⟩:=put_turn B A ha hn okd
   have hdp:=dict_put (d:=dd) hn
   have hix:=dict_ix (p:=(a,dd)) B'.nodup (by simp)
   have hkz:(bkeys al).length < sizeLine:=by rw [bkeys,List.length_map];exact small1000 (by omega)
   refine Goes.eq (δ2:=[.val (.frl (ns.map D.int)),.val (.obj "Kind"),.val (.int h0),.own (dict (al++[(a,dd)])),.val (E t'),.val (.int (k:Int)),.val (.int (a:Int)),.un,.un]) ?_ ⟨al++[(a,dd)],some t',_,_,rfl,B',A',by simp;omega,fun p hp=>?_⟩
   ·have hput:DL.sDPut 3 (fVar 6) (fTup [(fC (.str "add")),(fVarS 5)]) [.val (.frl (ns.map D.int)),.val (.obj "Kind"),.val (.int h0),.own (dict al),.val (EO o),.val (.int (k:Int)),.val (.int (a:Int)),.un,.un]=.ok (.nx [.val (.frl (ns.map D.int)),.val (.obj "Kind"),.val (.int h0),.own (dict (al++[(a,dd)])),.val (EO o),.val (.int (k:Int)),.val (.int (a:Int)),.un,.un]):=by
     rw [← hdp,← hdd]
     unfold dict
     generalize EO o=w
     simp (decide:=true) -implicitDefEqProofs [tbM_tail,startD,fVar,fVarS,isT,at_0,at_1,at_2,at_3,at_4,DL.sDPut,keyD,hkz]
    have hixd:fIxD 3 (fVar 6) [.val (.frl (ns.map D.int)),.val (.obj "Kind"),.val (.int h0),.own (dict (al++[(a,dd)])),.val (EO o),.val (.int (k:Int)),.val (.int (a:Int)),.un,.un]=.ok dd:=by
     change gDIx (.dic (bkeys (al++[(a,dd)])) ((al++[(a,dd)]).map (·.2))) (.int (a:Int))=.ok dd at hix
     unfold dict
     generalize EO o=w
     generalize (al++[(a,dd)]).map (·.2)=vs at *
     generalize bkeys (al++[(a,dd)])=ks at *
     simp (decide:=true) -implicitDefEqProofs [tbM_tail,startD,fVar,fVarS,isT,at_0,at_1,at_2,at_3,at_4,fIxD,hix]
    generalize dict (al++[(a,dd)])=z' at *
    generalize dict al=z at *
    generalize EO o=w at *
    generalize E t'=w' at *
    generalize m_put_in 64=P at *
    simp (decide:=true) -implicitDefEqProofs [tbM_tail,startD,fVar,fVarS,isT,at_0,at_1,at_2,at_3,at_4,h3,hput,hixd,q1,q2,fUp]
   ·rcases List.mem_append.mp hp with z | z
    ·obtain ⟨j,hj,w⟩:=hks p z
     exact ⟨j,by omega,w⟩
    ·simp at z;subst z
     exact ⟨k,by omega,haw⟩
  ·refine Goes.eq (δ2:=[.val (.frl (ns.map D.int)),.val (.obj "Kind"),.val (.int h0),.own (dict al),.val (EO o),.val (.int (k:Int)),.val (.int (a:Int)),.un,.un]) ?_ ⟨al,o,_,_,rfl,B,A,by omega,fun p hp=>?_⟩
   ·generalize dict al=z at *
    generalize EO o=w at *
    simp (decide:=true) -implicitDefEqProofs [tbM_tail,startD,fVar,fVarS,isT,at_0,at_1,at_2,at_3,at_4,h3]
   ·obtain ⟨j,hj,w⟩:=hks p hp
    exact ⟨j,by omega,w⟩
 ·rintro δ ⟨al,o,s5,s6,rfl,B,A,hal,_⟩
  have hal30:al.length<=30:=by omega
  have hsl:(fSl (fVarS 0) (some (fC (.int 1))) (some (fC (.int 31)))) [.val (.frl (ns.map D.int)),.val (.obj "Kind"),.val (.int h0),.own (dict al),.val (EO o),s5,s6,.un,.un]=.ok (.lst (cs.map D.int)):=by
   generalize hM:cs.map D.int=M at *
   generalize dict al=z at *
   generalize EO o=w at *
   simp (decide:=true) -implicitDefEqProofs [tbM_tail,startD,fVar,fVarS,isT,at_0,at_1,at_2,at_3,at_4,fSl,fPart,hcs]
  show sSeq _ _ [.val (.frl (ns.map D.int)),.val (.obj "Kind"),.val (.int h0),.own (dict al),.val (EO o),s5,s6,.un,.un]=_
  rw [e_seq,for_of hsl]
  refine For.useP (fun r:Ou Fl=>r=.ok (.rt (.bl true))) (fun i δ=>∃ (al:List (Nat×D)) (o:Option T) (s7 s8:Sl),δ=[.val (.frl (ns.map D.int)),.val (.obj "Kind"),.val (.int h0),.own (dict al),.val (EO o),s5,s6,s7,s8]/\Book al o/\Al al/\al.length<=30 + i) ⟨al,o,.un,.un,rfl,B,A,by omega⟩ ?_ ?_
  ·rintro i d hd hi δ ⟨al,o,s7,s8,rfl,B,A,hl⟩
   rw [List.length_map] at hi
   obtain ⟨c,_,rfl⟩:=List.mem_map.mp (List.mem_of_getElem? hd)
   obtain ⟨bl,n,e,B',A',hl'⟩:=change_eq B A (by omega) c
   refine Goes.eq (δ2:=[.val (.frl (ns.map D.int)),.val (.obj "Kind"),.val (.int h0),.own (dict bl),.val (EO n),s5,s6,.val (.int c),.val (.bl true)]) ?_ ⟨bl,n,_,_,rfl,B',A',by omega⟩
   generalize dict bl=z' at *
   generalize dict al=z at *
   generalize EO n=w' at *
   generalize EO o=w at *
   simp (decide:=true) -implicitDefEqProofs [tbM_tail,startD,fVar,fVarS,isT,at_0,at_1,at_2,at_3,at_4,sAsgM,fCallM,fArgsM,e,gNm2]
  ·rintro δ ⟨al,o,s7,s8,rfl,B,A,hl⟩
   generalize dict al=z at *
   generalize EO o=w at *
   simp (decide:=true) -implicitDefEqProofs [tbM_tail,startD,fVar,fVarS,isT,at_0,at_1,at_2,at_3,at_4,thaw]
end
end Pr
open PySem PySem.W PyProof.Rows
set_option maxRecDepth 100000 in
set_option maxHeartbeats 0 in
theorem PySem.Challenge.cw_pastdesk_k20_rows_of_changes_holds : PySem.Challenge.rw_pastdesk_k20_rows_of_changes.Holds := by
 w_on;o_law;k_head;(case hw=>w_witness2)
 k_fill
 refine Pr.walk (l := PySem.Challenge.rw_pastdesk_k20_rows_of_changes) rfl rfl (fun w h Y => PySem.W.kIn_of Y) Pr.law_true ?F
 case F =>
  intro w mg fa h KX G hmg
  refine' Pr.all_mk KX G hmg ?aC_Kind ?a0 ?l0 ?c0 ?k0 ?a1 ?l1 ?c1 ?k1 ?a2 ?l2 ?c2 ?k2 ?a3 ?l3 ?c3 ?k3 ?a4 ?l4 ?c4 ?k4 ?a5 ?l5 ?c5 ?k5 ?a6 ?l6 ?c6 ?k6 ?a7 ?l7 ?c7 ?k7 ?a8 ?l8 ?c8 ?k8 ?a9 ?l9 ?c9 ?k9 ?i9 ?a10 ?l10 ?c10 ?k10 ?a11 ?l11 ?c11 ?k11 ?i11 ?a12 ?l12 ?c12 ?k12 ?a13 ?l13 ?c13 ?k13 ?a14 ?l14 ?c14 ?k14 ?a15 ?l15 ?c15 ?k15 ?a16 ?l16 ?c16 ?k16 ?a17 ?l17 ?c17 ?k17 ?a18 ?l18 ?c18 ?k18 ?a19 ?l19 ?c19 ?k19 ?a20 ?l20 ?c20 ?k20 ?a21 ?l21 ?c21 ?k21 ?a22 ?l22 ?c22 ?k22 ?a23 ?l23 ?c23 ?k23 ?a24 ?l24 ?c24 ?k24 ?a25 ?l25 ?c25 ?k25 ?a26 ?l26 ?c26 ?k26 ?a27 ?l27 ?c27 ?k27 ?a28 ?l28 ?c28 ?k28 ?pg_Kind ?hd_Kind ?po_Kind ?sa_Kind ?mk_Kind ?in_Kind ?kc_Kind ?z_bool ?z_dict ?z_isinstance ?z_len ?z_list ?z_max ?z_min ?z_range ?z_set ?z_sorted ?z_tuple
  (case aC_Kind=>k_is)
  (case a0=>k_is)
  (case l0=>k_is)
  (case c0=>k_is)
  (case k0=>k_is)
  (case a1=>k_is)
  (case l1=>k_is)
  (case c1=>k_is)
  (case k1=>k_is)
  (case a2=>k_is)
  (case l2=>k_is)
  (case c2=>k_is)
  (case k2=>k_is)
  (case a3=>k_is)
  (case l3=>k_is)
  (case c3=>k_is)
  (case k3=>k_is)
  (case a4=>k_is)
  (case l4=>k_is)
  (case c4=>k_is)
  (case k4=>k_is)
  (case a5=>k_is)
  (case l5=>k_is)
  (case c5=>k_is)
  (case k5=>k_is)
  (case a6=>k_is)
  (case l6=>k_is)
  (case c6=>k_is)
  (case k6=>k_is)
  (case a7=>k_is)
  (case l7=>k_is)
  (case c7=>k_is)
  (case k7=>k_is)
  (case a8=>k_is)
  (case l8=>k_is)
  (case c8=>k_is)
  (case k8=>k_is)
  (case a9=>k_is)
  (case l9=>k_is)
  (case c9=>k_is)
  (case k9=>k_is)
  (case i9=>k_is)
  (case a10=>k_is)
  (case l10=>k_is)
  (case c10=>k_is)
  (case k10=>k_is)
  (case a11=>k_is)
  (case l11=>k_is)
  (case c11=>k_is)
  (case k11=>k_is)
  (case i11=>k_is)
  (case a12=>k_is)
  (case l12=>k_is)
  (case c12=>k_is)
  (case k12=>k_is)
  (case a13=>k_is)
  (case l13=>k_is)
  (case c13=>k_is)
  (case k13=>k_is)
  (case a14=>k_is)
  (case l14=>k_is)
  (case c14=>k_is)
  (case k14=>k_is)
  (case a15=>k_is)
  (case l15=>k_is)
  (case c15=>k_is)
  (case k15=>k_is)
  (case a16=>k_is)
  (case l16=>k_is)
  (case c16=>k_is)
  (case k16=>k_is)
  (case a17=>k_is)
  (case l17=>k_is)
  (case c17=>k_is)
  (case k17=>k_is)
  (case a18=>k_is)
  (case l18=>k_is)
  (case c18=>k_is)
  (case k18=>k_is)
  (case a19=>k_is)
  (case l19=>k_is)
  (case c19=>k_is)
  (case k19=>k_is)
  (case a20=>k_is)
  (case l20=>k_is)
  (case c20=>k_is)
  (case k20=>k_is)
  (case a21=>k_is)
  (case l21=>k_is)
  (case c21=>k_is)
  (case k21=>k_is)
  (case a22=>k_is)
  (case l22=>k_is)
  (case c22=>k_is)
  (case k22=>k_is)
  (case a23=>k_is)
  (case l23=>k_is)
  (case c23=>k_is)
  (case k23=>k_is)
  (case a24=>k_is)
  (case l24=>k_is)
  (case c24=>k_is)
  (case k24=>k_is)
  (case a25=>k_is)
  (case l25=>k_is)
  (case c25=>k_is)
  (case k25=>k_is)
  (case a26=>k_is)
  (case l26=>k_is)
  (case c26=>k_is)
  (case k26=>k_is)
  (case a27=>k_is)
  (case l27=>k_is)
  (case c27=>k_is)
  (case k27=>k_is)
  (case a28=>k_is)
  (case l28=>k_is)
  (case c28=>k_is)
  (case k28=>k_is)
  (case pg_Kind=>k_is)
  (case hd_Kind=>k_is)
  (case po_Kind=>k_is)
  (case sa_Kind=>k_is)
  (case mk_Kind=>k_is)
  (case in_Kind=>k_is)
  (case kc_Kind=>k_is)
  (case z_bool=>k_is)
  (case z_dict=>k_is)
  (case z_isinstance=>k_is)
  (case z_len=>k_is)
  (case z_list=>k_is)
  (case z_max=>k_is)
  (case z_min=>k_is)
  (case z_range=>k_is)
  (case z_set=>k_is)
  (case z_sorted=>k_is)
  (case z_tuple=>k_is)
