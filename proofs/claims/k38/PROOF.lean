import PyProof.Rows.All
import Wide.All
import OpenK.AllK
import Wide.FinOn
import Lean
import PyProof.EqAt
import PyProof.EqKinds
import PyProof.TupleCall
import PySem.Challenge.RW_pastdesk_k38_what_stands_in_a_row
set_option Elab.async false
set_option linter.all false
/- The head would lay equations by these names, for constants of its own; nothing needs them, and they take much room: with the names taken the head goes on without. -/
def PySem.W.Fast.tw13604161455914384037 : Unit := ()
def PySem.W.Fast.tw613019930287552831 : Unit := ()
def PySem.W.Fast.tw17269919753837278900 : Unit := ()
def PySem.W.Fast.tw6548029006632321265 : Unit := ()
def PySem.W.Fast.tw11307226921856781630 : Unit := ()
def PySem.W.Fast.tw1531436428268749952 : Unit := ()
def PySem.W.Fast.tw11419389328032818913 : Unit := ()
def PySem.W.Fast.tw10855316735116137710 : Unit := ()
def PySem.W.Fast.tw1932702099583614457 : Unit := ()
def PySem.W.Fast.tw2653466368910105510 : Unit := ()
def PySem.W.Fast.tw3875992411136916102 : Unit := ()
def PySem.W.Fast.tw3680402587733351506 : Unit := ()
def PySem.W.Fast.tw1787689877584689867 : Unit := ()
def PySem.W.Fast.tw16981531668509142204 : Unit := ()
def PySem.W.Fast.tw11186404513407482301 : Unit := ()
def PySem.W.Fast.tw16908276655710555968 : Unit := ()
def PySem.W.Fast.tw12843844894696650039 : Unit := ()
def PySem.W.Fast.tw12331075142061613282 : Unit := ()
def PySem.W.Fast.tw15890515729974086850 : Unit := ()
def PySem.W.Fast.tw7916114712645387383 : Unit := ()
def PySem.W.Fast.tw4436357058835250459 : Unit := ()
def PySem.W.Fast.tw16453617252553845856 : Unit := ()
def PySem.W.Fast.tw7986041265257090230 : Unit := ()
def PySem.W.Fast.tw288754525723653639 : Unit := ()
def PySem.W.Fast.tw1978249414666413702 : Unit := ()
def PySem.W.Fast.tw11234743073358178709 : Unit := ()
def PySem.W.Fast.tw10511310894678829448 : Unit := ()
def PySem.W.Fast.tw3554023175395121596 : Unit := ()
def PySem.W.Fast.tw7728938521187985958 : Unit := ()
def PySem.W.Fast.tw15482578601164425334 : Unit := ()
def PySem.W.Fast.tw7431019061187338845 : Unit := ()
def PySem.W.Fast.tw14544602287172227219 : Unit := ()
def PySem.W.Fast.tw2936214774253399703 : Unit := ()
def PySem.W.Fast.tw5011333935745840514 : Unit := ()
def PySem.W.Fast.tw6316673728227848408 : Unit := ()
def PySem.W.Fast.tw3178370712672757568 : Unit := ()
set_option maxRecDepth 100000
namespace L2
open PySem PySem.Spec PyProof.Rows
abbrev Key := Sum Int Str
def keyIs : Key -> Value -> Bool
 | .inl k,v => Value.isInt k v
 | .inr x,v => Value.isStrOf x v
def keyH (w : World) : Key -> Int
 | .inl k => hashInt k
 | .inr x => hashStr w x
theorem keyIs_shape : ∀ {k : Key} {v : Value},keyIs k v = true -> (∃ i t,k = Sum.inl i ∧ v = Value.int i t) ∨ (∃ x t,k = Sum.inr x ∧ v = Value.str x t)
 | .inl i,v,h => by
  obtain ⟨t,e⟩ := Value.isInt_shape (k := i) (v := v) h
  exact .inl ⟨i,t,rfl,e⟩
 | .inr x,v,h => by
  obtain ⟨t,e⟩ := Value.isStrOf_shape (x := x) (v := v) h
  exact .inr ⟨x,t,rfl,e⟩
theorem key_ll (a b : Int) : decide ((Sum.inl a : Key) = Sum.inl b) = (a == b) := by
 by_cases e : a = b
 ·subst e; simp
 ·have h : ¬ (Sum.inl a : Key) = Sum.inl b := fun q => e (Sum.inl.inj q)
  rw [decide_eq_false h]
  exact (beq_eq_false_iff_ne.mpr e).symm
theorem key_rr (a b : Str) : decide ((Sum.inr a : Key) = Sum.inr b) = decide (a = b) := by
 by_cases e : a = b
 ·subst e; simp
 ·have h : ¬ (Sum.inr a : Key) = Sum.inr b := fun q => e (Sum.inr.inj q)
  rw [decide_eq_false h,decide_eq_false e]
theorem key_lr (a : Int) (b : Str) : decide ((Sum.inl a : Key) = Sum.inr b) = false := decide_eq_false (fun q => nomatch q)
theorem key_rl (a : Str) (b : Int) : decide ((Sum.inr a : Key) = Sum.inl b) = false := decide_eq_false (fun q => nomatch q)
def mixKind (prog : Program) (w : World) : PySem.KeyKind prog w Key where
 is := keyIs
 hash := keyH w
 inj := fun v a b ha hb => by
  rcases keyIs_shape ha with ⟨i,t,rfl,rfl⟩ | ⟨x,t,rfl,rfl⟩
  ·rcases keyIs_shape hb with ⟨j,u,rfl,e⟩ | ⟨y,u,rfl,e⟩
   ·injection e with e1 _; rw [e1]
   ·exact nomatch e
  ·rcases keyIs_shape hb with ⟨j,u,rfl,e⟩ | ⟨y,u,rfl,e⟩
   ·exact nomatch e
   ·injection e with e1 _; rw [e1]
 byValue := fun k v h => by
  rcases keyIs_shape h with ⟨i,t,rfl,rfl⟩ | ⟨x,t,rfl,rfl⟩ <;> rfl
 pyHash := fun hv h => by
  rcases keyIs_shape hv with ⟨i,t,rfl,rfl⟩ | ⟨x,t,rfl,rfl⟩
  ·exact wpAny_pyHash_int h
  ·exact wpAny_pyHash_str h
 eqBool := fun hu hv h => by
  rcases keyIs_shape hu with ⟨i,t,rfl,rfl⟩ | ⟨x,t,rfl,rfl⟩
  ·rcases keyIs_shape hv with ⟨j,u,rfl,rfl⟩ | ⟨y,u,rfl,rfl⟩
   ·rw [key_ll] at h; exact wpAny_eqBool_int h
   ·rw [key_lr] at h; exact SeqAt.EqAt.int_str i t y u _ _ _ _ h
  ·rcases keyIs_shape hv with ⟨j,u,rfl,rfl⟩ | ⟨y,u,rfl,rfl⟩
   ·rw [key_rl] at h; exact SeqAt.EqAt.str_int x t j u _ _ _ _ h
   ·rw [key_rr] at h; exact wpAny_eqBool_str h
 «strs» := fun k x t v h => by
  rcases keyIs_shape h with ⟨i,u,rfl,e⟩ | ⟨y,u,rfl,e⟩
  ·exact nomatch e
  ·injection e with e1 _
   subst e1
   cases v <;> rfl
end L2
namespace L2
open PySem PySem.Spec PyProof.Rows
inductive V where
 | non | bl (b : Bool) | int (i : Int) | str (x : Str) | byt (b : Array UInt8) | flt (b : UInt64) | ref (a : Addr) | ty (n : String)
 deriving DecidableEq
def RelV : V -> Value -> Prop
 | .non,u => u = Value.none
 | .bl b,u => u = Value.bool b
 | .int i,u => ∃ t,u = Value.int i t
 | .str x,u => ∃ t,u = Value.str x t
 | .byt b,u => ∃ t,u = Value.bytes b t
 | .flt b,u => ∃ t,u = Value.float b t
 | .ref a,u => u = Value.ref a
 | .ty n,u => u = Value.type n
abbrev Vals : List V -> List Value -> Prop := Paired RelV
theorem Vals.length {xs : List V} {us : List Value} (r : Vals xs us) : xs.length = us.length := Paired.length r
theorem Vals.get : ∀ {xs : List V} {us : List Value} {i : Nat} {x : V},Vals xs us -> xs[i]? = some x -> ∃ u,us[i]? = some u ∧ RelV x u
 | _,_,_,_,.nil,e => by simp at e
 | _,_,0,_,.cons r _,e => by simp at e; subst e; exact ⟨_,rfl,r⟩
 | _,_,i + 1,x,.cons _ t,e => by
  obtain ⟨u,h1,h2⟩ := Vals.get (i := i) (x := x) t (by simpa using e)
  exact ⟨u,by simpa using h1,h2⟩
theorem Vals.set {x : V} {u : Value} (r : RelV x u) : ∀ {xs : List V} {us : List Value} (i : Nat),Vals xs us -> Vals (xs.set i x) (us.set i u)
 | _,_,_,.nil => .nil
 | _,_,0,.cons _ t => .cons r t
 | _,_,i + 1,.cons q t => .cons q (Vals.set r i t)
theorem Vals.append : ∀ {xs ys : List V} {us ws : List Value},Vals xs us -> Vals ys ws -> Vals (xs ++ ys) (us ++ ws)
 | _,_,_,_,.nil,s => s
 | _,_,_,_,.cons r t,s => .cons r (Vals.append t s)
theorem Vals.take : ∀ {xs : List V} {us : List Value} (n : Nat),Vals xs us -> Vals (xs.take n) (us.take n)
 | _,_,0,_ => .nil
 | _,_,_ + 1,.nil => .nil
 | _,_,n + 1,.cons r t => .cons r (Vals.take n t)
theorem Vals.drop : ∀ {xs : List V} {us : List Value} (n : Nat),Vals xs us -> Vals (xs.drop n) (us.drop n)
 | _,_,0,r => r
 | _,_,_ + 1,.nil => .nil
 | _,_,n + 1,.cons _ t => Vals.drop n t
theorem Vals.none_of : ∀ {xs : List V} {us : List Value} {i : Nat},Vals xs us -> xs[i]? = none -> us[i]? = none := fun {xs us i} r e => by
 have h1 := r.length
 have h2 : xs.length ≤ i := List.getElem?_eq_none_iff.mp e
 exact List.getElem?_eq_none_iff.mpr (by omega)
def RelO : Option V -> Option Value -> Prop
 | some v,some u => RelV v u
 | none,none => True
 | _,_ => False
def KV {κ : Type} : List (κ × V) -> List (κ × Value) -> Prop := Paired fun (p : κ × V) (q : κ × Value) => p.1 = q.1 ∧ RelV p.2 q.2
def kV : Key -> V
 | .inl i => .int i
 | .inr x => .str x
inductive HO where
 | lst (xs : List V)
 | tup (xs : List V)
 | dK (kvs : List (Key × V)) | dT (kvs : List (List Key × V))
 | set (S : Int -> Bool) (n : Nat)
 | ins (C dx : Addr) (fs : List (Str × V))
 | own (x : Addr)
 | xd (fs : List (Str × V))
 | met (f x : Addr)
 | rng (lo hi : Int)
 | frz (o : Obj) (u : HO)
 | tbl (ps : Array Value)
 | ext (φ : Heap -> Prop)
abbrev Hp := Addr -> Option HO
def upd (H : Hp) (a : Addr) (o : HO) : Hp := fun b => if b = a then some o else H b
theorem upd_same {H : Hp} {a : Addr} {o : HO} : upd H a o a = some o := by unfold upd; rw [if_pos rfl]
theorem upd_ne {H : Hp} {a b : Addr} {o : HO} (h : b ≠ a) : upd H a o b = H b := by unfold upd; rw [if_neg h]
theorem ne_of {H : Hp} {a b : Addr} {o u : HO} (h : H a = some o) (h' : H b = some u) (d : o ≠ u) : a ≠ b := by
 intro e; subst e; rw [h] at h'; exact d (Option.some.inj h')
theorem ne_of_none {H : Hp} {a b : Addr} {o : HO} (h : H a = some o) (h' : H b = none) : a ≠ b := by
 intro e; subst e; rw [h] at h'; cases h'
section
variable (P : Program) (w : World)
def ObjOk (H : Hp) (h : Heap) (a : Addr) : HO -> Prop
 | .lst xs => xs.length ≤ sizeLine ∧ ∃ (its : List Value) (n : Nat),Vals xs its ∧ h.get? a = some { cls := .type "list",data := .seq its.toArray n }
 | .tup xs => xs.length ≤ sizeLine ∧ ∃ its : List Value,Vals xs its ∧ IsTup h a its.toArray
 | .dK kvs => kvs.length ≤ sizeLine ∧ (a == sysModules) = false ∧ ∃ vs,KV kvs vs ∧ h.DictOf (mixKind P w) a vs
 | .dT kvs => kvs.length ≤ sizeLine ∧ (a == sysModules) = false ∧ ∃ xs : List (List Key × Addr × Value),
   Paired (fun (p : List Key × V) (q : List Key × Addr × Value) => p.1 = q.1 ∧ H q.2.1 = some (.tup (p.1.map kV)) ∧ RelV p.2 q.2.2) kvs xs ∧
   ∃ o es ep,h.get? a = some o ∧ o.ExactDict ∧ o.data = .dict es ep ∧ es.toList = xs.map (entryOfKey (tupleKind (mixKind P w))) ∧ (xs.map (·.1)).Nodup
 | .set S n => h.SetOf (intKind P w) a S n
 | .ins C dx fs => H dx = some (.own a) ∧ fs.length ≤ 1000 ∧ dx ≠ a ∧ h.get? a = some (PySem.W.instObj C dx) ∧
   ∃ mA,h.Ns1 dx mA ∧ (∀ f,RelO (fs.lookup f) (mA f)) ∧ PySem.Within mA (fs.map (·.1))
 | .own _ => ∃ o,h.get? a = some o
 | .xd fs => ∃ mA,h.Ns1 a mA ∧ ∀ f,RelO (fs.lookup f) (mA f)
 | .rng lo hi => ∃ t u v,h.get? a = some { cls := .type "range",data := .fields #[.int lo t,.int hi u,.int 1 v] }
 | .frz o u => h.get? a = some o ∧ ObjOk H h a u
 | .tbl ps => h.get? a = some { cls := .none,data := .fields ps }
 | .met f x => h.get? a = some (PySem.W.methodObj (.ref f) (.ref x))
 | .ext φ => φ h ∧ (∃ o,h.get? a = some o) ∧ ∀ h1 h2 : Heap,φ h1 -> (∀ o,h1.get? a = some o -> h2.get? a = some o) -> φ h2
def HOk (H : Hp) (h : Heap) : Prop := ∀ a o,H a = some o -> ObjOk P w H h a o
end
section
variable {P : Program} {w : World} {H H' : Hp} {h h' : Heap} {a : Addr} {o : HO}
theorem ObjOk.lt (x : ObjOk P w H h a o) : a < h.objs.size := by
 cases o with
 | lst xs => obtain ⟨_,_,_,_,e⟩ := x; exact Heap.lt_size e
 | tup xs => obtain ⟨_,_,_,p⟩ := x; exact p.lt
 | dK kvs => obtain ⟨_,_,_,_,o,_,_,e,_⟩ := x; exact Heap.lt_size e
 | dT kvs => obtain ⟨_,_,_,_,o,_,_,e,_⟩ := x; exact Heap.lt_size e
 | set S n => obtain ⟨o,_,_,_,e,_⟩ := x; exact Heap.lt_size e
 | ins C dx fs => obtain ⟨_,_,_,e,_⟩ := x; exact Heap.lt_size e
 | own y => obtain ⟨_,e⟩ := x; exact Heap.lt_size e
 | xd fs => obtain ⟨_,⟨_,_,_,e,_⟩,_⟩ := x; exact Heap.lt_size e
 | rng lo hi => obtain ⟨_,_,_,e⟩ := x; exact Heap.lt_size e
 | frz ob u => obtain ⟨e,_⟩ := x; exact Heap.lt_size e
 | tbl ps => exact Heap.lt_size (show h.get? a = some _ from x)
 | met f y => exact Heap.lt_size (show h.get? a = some _ from x)
 | ext φ => obtain ⟨_,⟨_,e⟩,_⟩ := x; exact Heap.lt_size e
theorem Paired.mapP {α β : Type} {F G : α -> β -> Prop} : ∀ {l₁ : List α} {l₂ : List β},Paired F l₁ l₂ -> (∀ a b,F a b -> G a b) -> Paired G l₁ l₂
 | _,_,.nil,_ => .nil
 | _,_,.cons r t,f => .cons (f _ _ r) (Paired.mapP t f)
theorem ObjOk.stay (x : ObjOk P w H h a o) (k : ∀ b u,(b = a ∨ H b = some (.own a)) -> h.get? b = some u -> h'.get? b = some u)
  (ho : ∀ b,H b = some (.own a) -> H' b = some (.own a)) (ht : ∀ b xs,H b = some (.tup xs) -> H' b = some (.tup xs)) : ObjOk P w H' h' a o := by
 induction o with
 | lst xs => obtain ⟨z,its,n,r,e⟩ := x; exact ⟨z,its,n,r,k _ _ (.inl rfl) e⟩
 | tup xs => obtain ⟨z,its,r,ob,e,c⟩ := x; exact ⟨z,its,r,ob,k _ _ (.inl rfl) e,c⟩
 | dK kvs => obtain ⟨z,y,vs,r,ob,es,ep,e,c⟩ := x; exact ⟨z,y,vs,r,ob,es,ep,k _ _ (.inl rfl) e,c⟩
 | dT kvs =>
  obtain ⟨z,y,xs,r,ob,es,ep,e,c⟩ := x
  exact ⟨z,y,xs,Paired.mapP r fun p q z => ⟨z.1,ht _ _ z.2.1,z.2.2⟩,ob,es,ep,k _ _ (.inl rfl) e,c⟩
 | set S n => obtain ⟨ob,es,ep,t,e,c⟩ := x; exact ⟨ob,es,ep,t,k _ _ (.inl rfl) e,c⟩
 | ins C dx fs =>
  obtain ⟨d,z,ne,e,mA,⟨od,es,ep,e2,c⟩,r⟩ := x
  exact ⟨ho _ d,z,ne,k _ _ (.inl rfl) e,mA,⟨od,es,ep,k _ _ (.inr d) e2,c⟩,r⟩
 | own y => obtain ⟨ob,e⟩ := x; exact ⟨ob,k _ _ (.inl rfl) e⟩
 | xd fs => obtain ⟨mA,⟨od,es,ep,e,c⟩,r⟩ := x; exact ⟨mA,⟨od,es,ep,k _ _ (.inl rfl) e,c⟩,r⟩
 | rng lo hi => obtain ⟨t,u,v,e⟩ := x; exact ⟨t,u,v,k _ _ (.inl rfl) e⟩
 | frz ob u ih => obtain ⟨e,q⟩ := x; exact ⟨k _ _ (.inl rfl) e,ih q⟩
 | tbl ps =>
  have e : h.get? a = some { cls := .none,data := .fields ps } := x
  show h'.get? a = some { cls := .none,data := .fields ps }
  exact k a _ (.inl rfl) e
 | met f y =>
  have e : h.get? a = some (PySem.W.methodObj (.ref f) (.ref y)) := x
  show h'.get? a = some (PySem.W.methodObj (.ref f) (.ref y))
  exact k a _ (.inl rfl) e
 | ext φ => obtain ⟨p,⟨o,e⟩,st⟩ := x; exact ⟨st _ _ p fun o q => k _ _ (.inl rfl) q,⟨o,k _ _ (.inl rfl) e⟩,st⟩
theorem HOk.lt (x : HOk P w H h) (e : H a = some o) : a < h.objs.size := (x a o e).lt
theorem HOk.fresh (x : HOk P w H h) (e : h.objs.size ≤ a) : H a = none := by
 cases q : H a with
 | none => rfl
 | some u => exact absurd (Nat.lt_of_lt_of_le (x.lt q) e) (Nat.lt_irrefl _)
theorem HOk.kept (x : HOk P w H h) (k : ∀ b u,h.get? b = some u -> h'.get? b = some u) : HOk P w H h' := fun a o e =>
 (x a o e).stay (fun b u _ q => k b u q) (fun _ q => q) fun _ _ q => q
theorem HOk.laid (x : HOk P w H h) (k : ∀ b u,h.get? b = some u -> h'.get? b = some u) (hp : h.objs.size ≤ a) (new : ObjOk P w (upd H a o) h' a o) : HOk P w (upd H a o) h' := fun b u e => by
 have hn := x.fresh hp
 by_cases hb : b = a
 ·subst hb; rw [upd_same] at e; cases e; exact new
 ·rw [upd_ne hb] at e
  exact (x b u e).stay (fun c v _ q => k c v q) (fun c q => by rw [upd_ne (ne_of_none q hn)]; exact q) fun c xs q => by rw [upd_ne (ne_of_none q hn)]; exact q
end
def Rd (H : Hp) (a : Addr) (u : HO) : Prop := H a = some u ∨ ∃ o,H a = some (.frz o u)
theorem Rd.of {H : Hp} {a : Addr} {u : HO} (h : H a = some u) : Rd H a u := .inl h
theorem Rd.ok {P : Program} {w : World} {H : Hp} {h : Heap} {a : Addr} {u : HO} (r : Rd H a u) (x : HOk P w H h) : ObjOk P w H h a u := by
 rcases r with r | ⟨o,r⟩
 ·exact x a u r
 ·obtain ⟨_,q⟩ := x a _ r
  exact q
def Mut : Option HO -> Prop
 | some (.lst _) => True
 | some (.dK _) => True
 | some (.dT _) => True
 | some (.set _ _) => True
 | some (.ins _ _ _) => True
 | some (.ext _) => True
 | _ => False
section
variable {P : Program} {w : World} {H : Hp} {h h' : Heap} {x e : Addr} {o' : HO}
theorem HOk.write (ok : HOk P w H h) (mu : Mut (H x)) (he : e = x ∨ H e = some (.own x)) (k : ∀ b u,b ≠ e -> h.get? b = some u -> h'.get? b = some u) (heo : ∃ u,h'.get? e = some u)
  (new : ObjOk P w (upd H x o') h' x o') : HOk P w (upd H x o') h' := fun b u q => by
 have nown : ∀ c y,H c = some (.own y) -> c ≠ x := fun c y r z => by subst z; rw [r] at mu; exact mu
 have ntup : ∀ c xs,H c = some (.tup xs) -> c ≠ x := fun c xs r z => by subst z; rw [r] at mu; exact mu
 by_cases hb : b = x
 ·subst hb; rw [upd_same] at q; cases q; exact new
 ·rw [upd_ne hb] at q
  by_cases hbe : b = e
  ·have q' : H b = some (.own x) := by
    rcases he with z | z
    ·exact absurd (hbe.trans z) hb
    ·rw [hbe]; exact z
   rw [q] at q'; cases q'
   obtain ⟨v,hv⟩ := heo
   exact ⟨v,by rw [hbe]; exact hv⟩
  ·refine (ok b u q).stay (fun c v hc r => k c v ?_ r) (fun c r => by rw [upd_ne (nown c b r)]; exact r) fun c xs r => by rw [upd_ne (ntup c xs r)]; exact r
   rcases hc with rfl | hc
   ·exact hbe
   ·rintro rfl
    rcases he with z | z
    ·exact nown c b hc z
    ·rw [hc] at z; cases z; exact hb rfl
end
structure Un (fs ex : List Addr) (H H' : Hp) (h h' : Heap) : Prop where
 keep : ∀ b o,h.get? b = some o -> H b = none -> b ∉ fs -> b ∉ ex -> h'.get? b = some o
 slot : ∀ b o,h.get? b = some o -> H b = none -> b ∈ fs -> b ∉ ex -> ∃ sl,h'.get? b = some { o with slots := sl }
 free : ∀ b o,h.get? b = some o -> H b = none -> b ∉ ex -> H' b = none
 there : ∀ b o,h.get? b = some o -> b ∉ ex -> ∃ o',h'.get? b = some o'
 tups : ∀ b xs,H b = some (.tup xs) -> H' b = some (.tup xs)
 frzs : ∀ b o u,H b = some (.frz o u) -> H' b = some (.frz o u)
 tbls : ∀ b ps,H b = some (.tbl ps) -> ∃ more,H' b = some (.tbl (ps ++ more))
section
variable {fs fs' ex ex' : List Addr} {H H1 H2 : Hp} {h h1 h2 h' : Heap} {a x e : Addr} {o : HO}
theorem Un.any (u : Un fs ex H H1 h h1) {b : Addr} {ob : Obj} (q : h.get? b = some ob) (n : H b = none) (hx : b ∉ ex) : ∃ sl,h1.get? b = some { ob with slots := sl } := by
 by_cases hb : b ∈ fs
 ·exact u.slot b ob q n hb hx
 ·exact ⟨ob.slots,u.keep b ob q n hb hx⟩
theorem Un.trans (a : Un fs ex H H1 h h1) (b : Un fs ex H1 H2 h1 h2) : Un fs ex H H2 h h2 where
 keep := fun c ob q n hc hx => b.keep c ob (a.keep c ob q n hc hx) (a.free c ob q n hx) hc hx
 slot := fun c ob q n hc hx => by
  obtain ⟨sl,e1⟩ := a.slot c ob q n hc hx
  obtain ⟨sl',e2⟩ := b.slot c _ e1 (a.free c ob q n hx) hc hx
  exact ⟨sl',e2⟩
 free := fun c ob q n hx => by
  obtain ⟨o',e1⟩ := a.there c ob q hx
  exact b.free c o' e1 (a.free c ob q n hx) hx
 there := fun c ob q hx => by
  obtain ⟨o',e1⟩ := a.there c ob q hx
  exact b.there c o' e1 hx
 tups := fun c xs q => b.tups c xs (a.tups c xs q)
 frzs := fun c ob xs q => b.frzs c ob xs (a.frzs c ob xs q)
 tbls := fun c ps q => by
  obtain ⟨m1,e1⟩ := a.tbls c ps q
  obtain ⟨m2,e2⟩ := b.tbls c _ e1
  exact ⟨m1 ++ m2,by rw [e2,Array.append_assoc]⟩
theorem Un.kept (k : ∀ b u,h.get? b = some u -> h'.get? b = some u) : Un fs ex H H h h' :=
 ⟨fun b ob q _ _ _ => k b ob q,fun b ob q _ _ _ => ⟨ob.slots,k b ob q⟩,fun _ _ _ n _ => n,fun b ob q _ => ⟨ob,k b ob q⟩,fun _ _ q => q,fun _ _ _ q => q,fun _ ps q => ⟨#[],by rw [q]; simp⟩⟩
theorem Un.refl : Un fs ex H H h h := Un.kept fun _ _ q => q
theorem Un.laid (k : ∀ b u,h.get? b = some u -> h'.get? b = some u) (hp : h.objs.size ≤ a) (hn : H a = none) : Un fs ex H (upd H a o) h h' where
 keep := fun b u q _ _ _ => k b u q
 slot := fun b u q _ _ _ => ⟨u.slots,k b u q⟩
 free := fun b u q n _ => by rw [upd_ne (Nat.ne_of_lt (Nat.lt_of_lt_of_le (Heap.lt_size q) hp))]; exact n
 there := fun b u q _ => ⟨u,k b u q⟩
 tups := fun b xs q => by rw [upd_ne (ne_of_none q hn)]; exact q
 frzs := fun b u xs q => by rw [upd_ne (ne_of_none q hn)]; exact q
 tbls := fun b ps q => ⟨#[],by rw [upd_ne (ne_of_none q hn),q]; simp⟩
theorem Un.write (mu : Mut (H x)) (he : e = x ∨ H e = some (.own x)) (k : ∀ b u,b ≠ e -> h.get? b = some u -> h'.get? b = some u) (heo : ∃ u,h'.get? e = some u) : Un fs ex H (upd H x o) h h' := by
 have hx : ∀ b,H b = none -> b ≠ x := fun b n z => by subst z; rw [n] at mu; exact mu
 have hb : ∀ b,H b = none -> b ≠ e := fun b n z => by
  subst z
  rcases he with r | r
  ·exact hx b n r
  ·rw [n] at r; cases r
 have hm : ∀ b u,H b = some u -> ¬ Mut (some u) -> b ≠ x := fun b u q nm z => by subst z; rw [q] at mu; exact nm mu
 refine ⟨fun b u q n _ _ => k b u (hb b n) q,fun b u q n _ _ => ⟨u.slots,k b u (hb b n) q⟩,fun b u q n _ => by rw [upd_ne (hx b n)]; exact n,fun b u q _ => ?_,
  fun b xs q => by rw [upd_ne (hm b _ q fun z => z)]; exact q,fun b u xs q => by rw [upd_ne (hm b _ q fun z => z)]; exact q,fun b ps q => ⟨#[],by rw [upd_ne (hm b _ q fun z => z),q]; simp⟩⟩
 by_cases hbe : b = e
 ·subst hbe; exact heo
 ·exact ⟨u,k b u hbe q⟩
theorem Un.mono (u : Un fs ex H H1 h h1) (hs : ∀ b ∈ fs,b ∈ fs') (hx : ∀ b ∈ ex,b ∈ ex') : Un fs' ex' H H1 h h1 :=
 ⟨fun b ob q n hb he => u.keep b ob q n (fun z => hb (hs b z)) fun z => he (hx b z),fun _ _ q n _ he => u.any q n fun z => he (hx _ z),fun b ob q n he => u.free b ob q n fun z => he (hx b z),fun b ob q he => u.there b ob q fun z => he (hx b z),u.tups,u.frzs,u.tbls⟩
end
def trk (h : Heap) (H : Hp) : List Addr := (List.range h.objs.size).filter fun a => (H a).isSome
def hidT (h : Heap) (H : Hp) : Heap := PySem.W.hideAll h (trk h H)
theorem hidT_size (h : Heap) (H : Hp) : (hidT h H).objs.size = h.objs.size := PySem.W.hideAll_size _ _
theorem hidT_get {h : Heap} {H : Hp} {b : Addr} {o : Obj} (e : h.get? b = some o) (n : H b = none) : (hidT h H).get? b = some o :=
 PySem.W.hideAll_get _ e fun hm => by
  have q : (H b).isSome = true := (List.mem_filter.mp hm).2
  rw [n] at q; simp at q
theorem of_hidT {h : Heap} {H : Hp} {b : Addr} {o : Obj} (e : (hidT h H).get? b = some o) : h.get? b = some o ∧ H b = none := by
 have e' : h.get? b = some o := PySem.W.of_hideAll (trk h H) e
 refine ⟨e',?_⟩
 cases q : H b with
 | none => rfl
 | some x =>
  have hm : b ∈ trk h H := List.mem_filter.mpr ⟨List.mem_range.mpr (Heap.lt_size e'),by simp [q]⟩
  have z : (hidT h H).get? b = none := PySem.W.hideAll_none (trk h H) hm
  rw [z] at e; cases e
def allNews (g h : Heap) (L : Addr) : List (Addr × Obj) := (List.range h.objs.size).filterMap fun a => if a = L ∨ (g.get? a).isSome = true then none else (h.get? a).map fun o => (a,o)
def rest (g h : Heap) (L d : Addr) : List (Addr × Obj) := (allNews g h L).filter fun p => decide (p.1 ≠ d)
end L2
namespace L2
open PySem PySem.Spec PyProof.Rows
structure Mod (K : PySem.W.Frag) (mg : Str -> Option Value) (base : Heap) : Prop where
 kin : K.In base
 glob : base.Ns mainGlobals mg
 blt : ∃ mb,base.Ns builtinsNs mb ∧ ∀ x : Str,x ≠ "__name__" -> mb x = bootBuiltins x
 nolimit : base.NoLimit
structure Cx where
 prog : Program
 w : World
 K : PySem.W.Frag
 mg : Str -> Option Value
 base : Heap
 A : Around
 N : List Str
 s₀ : Shared
 H₀ : Hp
 env : Env
 outer : List Env
 stack : List Env
 ex : List Addr
 fn : Str -> Bool
 calm : Bool
 pn : List (Addr × Obj)
 xe : Value -> Shared -> Prop
def frs (l : List Env) : List Addr := l.filterMap (·.frame)
abbrev Cx.fs (X : Cx) : List Addr := frs X.outer
def Vis (sc : Scope) (x : Str) : Prop := sc.names.lookup x = some .local ∨ sc.names.lookup x = some .cell ∨ sc.names.lookup x = some .free
def Loc (sc : Scope) (x : Str) : Prop := sc.names.lookup x = some .local ∨ sc.names.lookup x = some .cell
def Look (env : Env) (h : Heap) (m : Str -> Option Value) (x : Str) (u : Value) : Prop :=
 (env.kindOf x = some .local ∧ m x = some u) ∨ ((env.kindOf x = some .cell ∨ env.kindOf x = some .free) ∧ ∃ c,env.cells.lookup x = some c ∧ h.IsCell c (some u))
structure Cx.Ok (X : Cx) : Prop where
 mod : Mod X.K X.mg X.base
 kind : X.env.scope.kind = .function
 glob : X.env.globals = mainGlobals
 blt : X.env.builtins = builtinsNs
 above : X.s₀.heap.objs.size ≤ X.env.locals
 inj : ∀ x y c,X.env.cells.lookup x = some c -> X.env.cells.lookup y = some c -> x = y
 has : ∀ x,(X.env.kindOf x = some .cell ∨ X.env.kindOf x = some .free) -> ∃ c,X.env.cells.lookup x = some c
 cab : ∀ x c,X.fn x = true -> X.env.cells.lookup x = some c -> X.s₀.heap.objs.size ≤ c
 hd : X.calm = true -> X.A.handled = none
 frames : X.A.frames = some X.stack
 stk : X.stack = X.outer ∨ (X.stack = X.env :: X.outer ∧ X.env.frame = some X.env.locals)
 exf : ∀ b ∈ X.ex,b ≠ X.env.locals ∧ ∀ x c,X.env.cells.lookup x = some c -> c ≠ b
 bs : ∀ b o,X.base.get? b = some o -> X.s₀.heap.get? b = some o ∧ X.H₀ b = none
 bsz : X.base.objs.size ≤ X.s₀.heap.objs.size
 noex : ∀ b o,X.base.get? b = some o -> b ∉ X.ex
 exfs : ∀ b ∈ X.ex,b ∉ X.fs
 funs : X.s₀.heap.FunFrames X.base X.outer
 frf : ∀ b ∈ X.fs,X.H₀ b = none
structure Inv (X : Cx) (pins : List (Addr × Obj)) (σ : List (Option V)) (H : Hp) (s : Shared) : Prop where
 ok : X.Ok
 os : s.os = X.s₀.os
 bare : AllBare s.gens
 base : Un X.fs X.ex X.H₀ H X.s₀.heap s.heap
 loc : ∃ m,s.heap.Ns X.env.locals m ∧ ∀ (i : Nat) (x : Str) (v : V),X.N[i]? = some x -> σ[i]? = some (some v) -> Vis X.env.scope x -> ∃ u,RelV v u ∧ Look X.env s.heap m x u
 cell : ∀ x c,X.env.cells.lookup x = some c -> ∃ v,s.heap.IsCell c v
 free : H X.env.locals = none
 freeC : ∀ x c,X.env.cells.lookup x = some c -> H c = none
 pin : ∀ p ∈ X.pn ++ pins,s.heap.get? p.1 = some p.2 ∧ H p.1 = none ∧ p.1 ≠ X.env.locals ∧ p.1 ∉ X.fs ∧ ∀ v,p.2.data ≠ .cell v
 hok : HOk X.prog X.w H s.heap
 len : σ.length = X.N.length
section
variable {X : Cx} {pins : List (Addr × Obj)} {σ : List (Option V)} {H H' : Hp} {s : Shared} {h' : Heap}
theorem Cx.Ok.nofr (ok : X.Ok) {b : Addr} {o : Obj} (e : X.base.get? b = some o) : b ∉ X.fs := fun hb => by
 have := (ok.funs.mem hb).1
 rw [e] at this; cases this
theorem Inv.bs (I : Inv X pins σ H s) : ∀ b o,X.base.get? b = some o -> s.heap.get? b = some o ∧ H b = none := fun b o e =>
 ⟨I.base.keep b o (I.ok.bs b o e).1 (I.ok.bs b o e).2 (I.ok.nofr e) (I.ok.noex b o e),I.base.free b o (I.ok.bs b o e).1 (I.ok.bs b o e).2 (I.ok.noex b o e)⟩
theorem Inv.bk (I : Inv X pins σ H s) : ∀ b o,X.base.get? b = some o -> s.heap.get? b = some o := fun b o e => (I.bs b o e).1
theorem Inv.mod (I : Inv X pins σ H s) : Mod X.K X.mg X.base := I.ok.mod
theorem Inv.kIn (I : Inv X pins σ H s) : X.K.In s.heap := I.ok.mod.kin.keeps I.bk
theorem Inv.nolimit (I : Inv X pins σ H s) : s.heap.NoLimit := I.ok.mod.nolimit.keeps I.bk
theorem Inv.fr (I : Inv X pins σ H s) : ∃ m,Fr X.base X.env.locals s.heap m :=
 let ⟨m,hn,_⟩ := I.loc
 ⟨m,hn,I.bk,Nat.le_trans I.ok.bsz I.ok.above⟩
theorem Inv.lt (I : Inv X pins σ H s) : X.env.locals < s.heap.objs.size := let ⟨_,hn,_⟩ := I.loc; hn.lt
theorem Inv.sz (I : Inv X pins σ H s) : X.s₀.heap.objs.size ≤ s.heap.objs.size := Nat.le_trans I.ok.above (Nat.le_of_lt I.lt)
theorem Inv.nofs (I : Inv X pins σ H s) {a : Addr} (h : s.heap.objs.size ≤ a) : a ∉ X.fs := fun hb => by
 obtain ⟨_,o,ho,_⟩ := I.ok.funs.mem hb
 exact absurd (Nat.lt_of_lt_of_le (Heap.lt_size ho) (Nat.le_trans I.sz h)) (Nat.lt_irrefl _)
theorem Inv.cne (I : Inv X pins σ H s) : ∀ x c,X.env.cells.lookup x = some c -> c ≠ X.env.locals := fun x c e z => by
 obtain ⟨v,o,ho,hd⟩ := I.cell x c e
 obtain ⟨m,⟨o',es,ep,ho',hd',_⟩,_⟩ := I.loc
 rw [z,ho'] at ho; cases ho; rw [hd'] at hd; cases hd
theorem Inv.funs (I : Inv X pins σ H s) : s.heap.FunFrames X.base X.outer := by
 have all : ∀ (l : List Env),(∀ b ∈ frs l,b ∈ X.fs) -> X.s₀.heap.FunFrames X.base l -> s.heap.FunFrames X.base l := by
  intro l
  induction l with
  | nil => intro _ _; trivial
  | cons env r ih =>
   intro hs hl
   obtain ⟨hk,⟨L,o,hf,hn,ho,hd⟩,hr⟩ := hl
   have hL : L ∈ X.fs := hs L (by unfold frs; rw [List.filterMap_cons,hf]; exact List.mem_cons_self)
   obtain ⟨sl,e⟩ := I.base.slot L o ho (I.ok.frf L hL) hL fun z => I.ok.exfs L z hL
   exact ⟨hk,⟨L,_,hf,hn,e,hd⟩,ih (fun b hb => hs b (by unfold frs; rw [List.filterMap_cons,hf]; exact List.mem_cons_of_mem _ hb)) hr⟩
 exact all X.outer (fun _ hb => hb) I.ok.funs
theorem Inv.stack (I : Inv X pins σ H s) : s.heap.FunFrames X.base X.stack := by
 rcases I.ok.stk with e | ⟨e,hf⟩
 ·rw [e]; exact I.funs
 ·rw [e]
  obtain ⟨m,hn,_⟩ := I.loc
  refine .cons (by rw [I.ok.kind]; decide) hf hn ?_ I.funs
  exact Heap.get?_none_of_le (Nat.le_trans I.ok.bsz I.ok.above)
theorem Inv.stkSub (I : Inv X pins σ H s) : ∀ b ∈ frs X.stack,b ∈ X.env.locals :: X.fs := fun b hb => by
 rcases I.ok.stk with e | ⟨e,hf⟩
 ·rw [e] at hb; exact List.mem_cons_of_mem _ hb
 ·rw [e] at hb
  unfold frs at hb
  rw [List.filterMap_cons,hf] at hb
  exact hb
theorem Inv.stkFree (I : Inv X pins σ H s) : ∀ b ∈ frs X.stack,H b = none := fun b hb => by
 rcases List.mem_cons.mp (I.stkSub b hb) with e | hb
 ·rw [e]; exact I.free
 ·obtain ⟨_,o,ho,_⟩ := I.ok.funs.mem hb
  exact I.base.free b o ho (I.ok.frf b hb) fun z => I.ok.exfs b z hb
theorem Inv.step {g' : Array GenState} {t' : Nat} {d' : Drawn} {ch : List Addr} (I : Inv X pins σ H s)
  (hch : ∀ b ∈ ch,(b ∈ X.ex ∨ X.s₀.heap.objs.size ≤ b) ∧ b ≠ X.env.locals ∧ (∀ x c,X.env.cells.lookup x = some c -> c ≠ b) ∧ ∀ p ∈ X.pn ++ pins,p.1 ≠ b)
  (keep : ∀ b o,b ≠ X.env.locals -> b ∉ X.fs -> b ∉ ch -> s.heap.get? b = some o -> H b = none -> h'.get? b = some o)
  (slot : ∀ b o,b ≠ X.env.locals -> b ∈ X.fs -> b ∉ ch -> s.heap.get? b = some o -> H b = none -> ∃ sl,h'.get? b = some { o with slots := sl }) (free : ∀ b o,b ∉ ch -> s.heap.get? b = some o -> H b = none -> H' b = none)
  (there : ∀ b o,b ∉ ch -> s.heap.get? b = some o -> ∃ o',h'.get? b = some o')
  (tups : ∀ b xs,H b = some (.tup xs) -> H' b = some (.tup xs)) (frzs : ∀ b o u,H b = some (.frz o u) -> H' b = some (.frz o u)) (tbls : ∀ b ps,H b = some (.tbl ps) -> ∃ more,H' b = some (.tbl (ps ++ more)))
  (ns : ∀ m,s.heap.Ns X.env.locals m -> h'.Ns X.env.locals m) (hok : HOk X.prog X.w H' h') (hg : AllBare g') :
  Inv X pins σ H' { s with heap := h',gens := g',drawn := d',toks := t' } := by
 have neL : ∀ b o,X.s₀.heap.get? b = some o -> b ≠ X.env.locals := fun b o e => Nat.ne_of_lt (Nat.lt_of_lt_of_le (Heap.lt_size e) I.ok.above)
 have neC : ∀ b o,X.s₀.heap.get? b = some o -> b ∉ X.ex -> b ∉ ch := fun b o e hx hb => by
  rcases (hch b hb).1 with z | z
  ·exact hx z
  ·exact absurd (Nat.lt_of_lt_of_le (Heap.lt_size e) z) (Nat.lt_irrefl _)
 have cellK : ∀ x c,X.env.cells.lookup x = some c -> ∀ v,s.heap.IsCell c v -> h'.IsCell c v := fun x c e v ⟨o,ho,hd⟩ => by
  have nch : c ∉ ch := fun z => (hch c z).2.2.1 x c e rfl
  by_cases hc : c ∈ X.fs
  ·obtain ⟨sl,q⟩ := slot c o (I.cne x c e) hc nch ho (I.freeC x c e)
   exact ⟨_,q,hd⟩
  ·exact ⟨o,keep c o (I.cne x c e) hc nch ho (I.freeC x c e),hd⟩
 refine ⟨I.ok,I.os,hg,⟨fun b o e n hb hx => ?_,fun b o e n hb hx => ?_,fun b o e n hx => ?_,fun b o e hx => ?_,fun b xs e => tups b xs (I.base.tups b xs e),fun b o xs e => frzs b o xs (I.base.frzs b o xs e),fun b ps e => ?_⟩,?_,fun x c e => ?_,?_,fun x c e => ?_,fun p hp => ?_,hok,I.len⟩
 ·exact keep b o (neL b o e) hb (neC b o e hx) (I.base.keep b o e n hb hx) (I.base.free b o e n hx)
 ·obtain ⟨sl,e1⟩ := I.base.slot b o e n hb hx
  obtain ⟨sl',e2⟩ := slot b _ (neL b o e) hb (neC b o e hx) e1 (I.base.free b o e n hx)
  exact ⟨sl',e2⟩
 ·obtain ⟨o',e1⟩ := I.base.there b o e hx
  exact free b o' (neC b o e hx) e1 (I.base.free b o e n hx)
 ·obtain ⟨o',e1⟩ := I.base.there b o e hx
  exact there b o' (neC b o e hx) e1
 ·obtain ⟨m1,e1⟩ := I.base.tbls b ps e
  obtain ⟨m2,e2⟩ := tbls b _ e1
  exact ⟨m1 ++ m2,by rw [e2,Array.append_assoc]⟩
 ·obtain ⟨m,hn,hl⟩ := I.loc
  refine ⟨m,ns m hn,fun i x v e1 e2 e3 => ?_⟩
  obtain ⟨u,r,l⟩ := hl i x v e1 e2 e3
  refine ⟨u,r,?_⟩
  rcases l with l | ⟨k,c,e,z⟩
  ·exact .inl l
  ·exact .inr ⟨k,c,e,cellK x c e _ z⟩
 ·obtain ⟨v,z⟩ := I.cell x c e
  exact ⟨v,cellK x c e v z⟩
 ·obtain ⟨m,⟨o,_,_,ho,_⟩,_⟩ := I.loc
  exact free _ o (fun z => (hch _ z).2.1 rfl) ho I.free
 ·obtain ⟨v,o,ho,hd⟩ := I.cell x c e
  exact free c o (fun z => (hch c z).2.2.1 x c e rfl) ho (I.freeC x c e)
 ·obtain ⟨e,n,ne,nf,d⟩ := I.pin p hp
  have nch : p.1 ∉ ch := fun z => (hch p.1 z).2.2.2 p hp rfl
  exact ⟨keep p.1 p.2 ne nf nch e n,free p.1 p.2 nch e n,ne,nf,d⟩
theorem Inv.un {t' : Nat} (I : Inv X pins σ H s) (u : Un X.fs [] H H' s.heap h') (hok : HOk X.prog X.w H' h') : Inv X pins σ H' { s with heap := h',toks := t' } := by
 obtain ⟨m,⟨o,es,ep,ho,r⟩,_⟩ := id I.loc
 obtain ⟨sl,hL⟩ := u.any ho I.free (by simp)
 exact I.step (g' := s.gens) (d' := s.drawn) (ch := []) (fun _ z => nomatch z) (fun b o _ hb _ e n => u.keep b o e n hb (by simp)) (fun b o _ hb _ e n => u.slot b o e n hb (by simp)) (fun b o _ e n => u.free b o e n (by simp)) (fun b o _ e => u.there b o e (by simp)) u.tups u.frzs u.tbls (fun m' hm => by
  obtain ⟨o',es',ep',ho',r'⟩ := hm
  rw [ho] at ho'; cases ho'
  exact ⟨_,es',ep',hL,r'⟩) hok I.bare
theorem Inv.call {g' : Array GenState} {t' : Nat} {d' : Drawn} {ch : List Addr} (I : Inv X pins σ H s) (u : Un (frs X.stack) ch H H' s.heap h') (hok : HOk X.prog X.w H' h') (hg : AllBare g')
  (hch : ∀ b ∈ ch,(b ∈ X.ex ∨ X.s₀.heap.objs.size ≤ b) ∧ b ≠ X.env.locals ∧ (∀ x c,X.env.cells.lookup x = some c -> c ≠ b) ∧ ∀ p ∈ X.pn ++ pins,p.1 ≠ b) :
  Inv X pins σ H' { s with heap := h',gens := g',drawn := d',toks := t' } := by
 obtain ⟨m,⟨o,es,ep,ho,r⟩,_⟩ := id I.loc
 obtain ⟨sl,hL⟩ := u.any ho I.free fun z => (hch _ z).2.1 rfl
 exact I.step (ch := ch) hch (fun b o hL hb hc e n => u.keep b o e n (fun z => (List.mem_cons.mp (I.stkSub b z)).elim hL hb) hc) (fun b o _ _ hc e n => u.any e n hc) (fun b o hc e n => u.free b o e n hc) (fun b o hc e => u.there b o e hc) u.tups u.frzs u.tbls (fun m' hm => by
  obtain ⟨o',es',ep',ho',r'⟩ := hm
  rw [ho] at ho'; cases ho'
  exact ⟨_,es',ep',hL,r'⟩) hok hg
theorem Inv.turned {t' : Nat} {it : Addr} (I : Inv X pins σ H s) (k : ∀ b o,b ≠ it -> s.heap.get? b = some o -> h'.get? b = some o) (hn : H it = none) (hL : it ≠ X.env.locals)
  (h1 : it ∈ X.ex ∨ X.s₀.heap.objs.size ≤ it) (h2 : ∀ x c,X.env.cells.lookup x = some c -> c ≠ it) (h3 : ∀ p ∈ X.pn ++ pins,p.1 ≠ it) : Inv X pins σ H { s with heap := h',toks := t' } := by
 have nit : ∀ b u,H b = some u -> b ≠ it := fun b u e z => by rw [z,hn] at e; cases e
 refine I.step (g' := s.gens) (d' := s.drawn) (ch := [it]) (fun b hb => ?_) (fun b o _ _ hc e _ => k b o (fun z => hc (by simp [z])) e) (fun b o _ _ hc e _ => ⟨o.slots,k b o (fun z => hc (by simp [z])) e⟩) (fun _ _ _ _ n => n)
  (fun b o hc e => ⟨o,k b o (fun z => hc (by simp [z])) e⟩) (fun _ _ e => e) (fun _ _ _ e => e) (fun b ps e => ⟨#[],by rw [e]; simp⟩) (fun m hm => ?_) (fun b u e => ?_) I.bare
 ·have e : b = it := by simpa using hb
  subst e
  exact ⟨h1,hL,h2,h3⟩
 ·obtain ⟨o,es,ep,ho,r⟩ := hm
  exact ⟨o,es,ep,k _ o (Ne.symm hL) ho,r⟩
 ·refine (I.hok b u e).stay (fun c v hc q => k c v ?_ q) (fun _ q => q) fun _ _ q => q
  rcases hc with z | z
  ·rw [z]; exact nit b u e
  ·exact nit c _ z
theorem Inv.tok (I : Inv X pins σ H s) (t : Nat) : Inv X pins σ H { s with toks := t } := I.un (h' := s.heap) (t' := t) Un.refl I.hok
theorem Inv.kept {t' : Nat} (I : Inv X pins σ H s) (k : ∀ b u,s.heap.get? b = some u -> h'.get? b = some u) : Inv X pins σ H { s with heap := h',toks := t' } := I.un (Un.kept k) (I.hok.kept k)
theorem Inv.laid {a : Addr} {o : HO} {t' : Nat} (I : Inv X pins σ H s) (k : ∀ b u,s.heap.get? b = some u -> h'.get? b = some u) (hp : s.heap.objs.size ≤ a) (new : ObjOk X.prog X.w (upd H a o) h' a o) :
  Inv X pins σ (upd H a o) { s with heap := h',toks := t' } := I.un (Un.laid k hp (I.hok.fresh hp)) (I.hok.laid k hp new)
theorem Inv.write {x e : Addr} {o : HO} {t' : Nat} (I : Inv X pins σ H s) (mu : Mut (H x)) (he : e = x ∨ H e = some (.own x)) (k : ∀ b u,b ≠ e -> s.heap.get? b = some u -> h'.get? b = some u) (heo : ∃ u,h'.get? e = some u)
  (new : ObjOk X.prog X.w (upd H x o) h' x o) : Inv X pins σ (upd H x o) { s with heap := h',toks := t' } := I.un (Un.write mu he k heo) (I.hok.write mu he k heo new)
theorem Inv.weak {σ' : List (Option V)} (I : Inv X pins σ H s) (hl : σ'.length = σ.length) (w : ∀ (i : Nat) v,σ'[i]? = some (some v) -> σ[i]? = some (some v)) : Inv X pins σ' H s :=
 ⟨I.ok,I.os,I.bare,I.base,let ⟨m,hn,hl'⟩ := I.loc; ⟨m,hn,fun i x v e1 e2 e3 => hl' i x v e1 (w i v e2) e3⟩,I.cell,I.free,I.freeC,I.pin,I.hok,hl.trans I.len⟩
theorem Inv.pins_of {pins' : List (Addr × Obj)} (I : Inv X pins σ H s) (h : ∀ p ∈ pins',s.heap.get? p.1 = some p.2 ∧ H p.1 = none ∧ p.1 ≠ X.env.locals ∧ p.1 ∉ X.fs ∧ ∀ v,p.2.data ≠ .cell v) : Inv X pins' σ H s :=
 ⟨I.ok,I.os,I.bare,I.base,I.loc,I.cell,I.free,I.freeC,fun p hp => (List.mem_append.mp hp).elim (fun z => I.pin p (List.mem_append_left _ z)) (h p),I.hok,I.len⟩
theorem nodup_ix {N : List Str} (hN : N.Nodup) {i j : Nat} {x : Str} (a : N[i]? = some x) (b : N[j]? = some x) : i = j := by
 obtain ⟨h1,e1⟩ := List.getElem?_eq_some_iff.mp a
 obtain ⟨h2,e2⟩ := List.getElem?_eq_some_iff.mp b
 exact (List.getElem_inj hN).mp (e1.trans e2.symm)
theorem store_ok2 {M : Model} {A : Around} {E : Value -> Shared -> Prop} {i : Nat} {x : Str} {v : V} {u : Value} {Q : Unit -> Shared -> Prop} (I : Inv X pins σ H s) (hN : X.N.Nodup) (hi : X.N[i]? = some x) (hx : Loc X.env.scope x) (r : RelV v u)
  (h : ∀ s',Inv X pins (σ.set i (some v)) H s' -> (∃ a,Heap.SameBut a s.heap s'.heap ∧ (a = X.env.locals ∨ X.env.cells.lookup x = some a)) -> Q () s') (hf : X.fn x = true ∨ X.env.scope.names.lookup x = some .local := by first | exact .inl rfl | exact .inr rfl | assumption) : wpAny M A (storeName X.env x u) Q E s := by
 obtain ⟨m,hn,hl⟩ := id I.loc
 have hcls : (X.env.scope.kind == .class || (X.env.scope.kind == .module && X.env.locals != X.env.globals)) = false := by rw [I.ok.kind]; rfl
 have hiσ : i < σ.length := by rw [I.len]; exact (List.getElem?_eq_some_iff.mp hi).1
 have cne := I.cne
 have tracked : ∀ {a : Addr} {h' : Heap},(∃ o,s.heap.get? a = some o ∧ H a = none) -> Heap.SameBut a s.heap h' -> HOk X.prog X.w H h' := fun {a h'} ha hs b ob e => by
  obtain ⟨_,_,hfree⟩ := ha
  refine (I.hok b ob e).stay (fun c w' hc q => (hs.2 c ?_).trans q) (fun _ q => q) fun _ _ q => q
  rintro rfl
  rcases hc with rfl | hc
  ·rw [hfree] at e; cases e
  ·rw [hfree] at hc; cases hc
 rcases hx with hk | hk
 ·refine wpAny_storeName_local hk hn (fun h' hn' hs => ?_) hcls
  obtain ⟨oL,_,_,hoL,_⟩ := id hn
  refine h _ ⟨I.ok,I.os,I.bare,⟨fun b o e n hb hx => ?_,fun b o e n hb hx => ?_,I.base.free,fun b o e hx => ?_,I.base.tups,I.base.frzs,I.base.tbls⟩,⟨_,hn',fun j y v' e1 e2 e3 => ?_⟩,fun y c e => ?_,I.free,I.freeC,fun p hp => ?_,tracked ⟨oL,hoL,I.free⟩ hs,by simpa using I.len⟩ ⟨_,hs,.inl rfl⟩
  ·exact (hs.2 b (Nat.ne_of_lt (Nat.lt_of_lt_of_le (Heap.lt_size e) I.ok.above))).trans (I.base.keep b o e n hb hx)
  ·obtain ⟨sl,e1⟩ := I.base.slot b o e n hb hx
   exact ⟨sl,(hs.2 b (Nat.ne_of_lt (Nat.lt_of_lt_of_le (Heap.lt_size e) I.ok.above))).trans e1⟩
  ·obtain ⟨o',e1⟩ := I.base.there b o e hx
   exact ⟨o',(hs.2 b (Nat.ne_of_lt (Nat.lt_of_lt_of_le (Heap.lt_size e) I.ok.above))).trans e1⟩
  ·by_cases hj : j = i
   ·subst hj
    rw [hi] at e1; cases e1
    rw [List.getElem?_set_self hiσ] at e2
    cases e2
    exact ⟨u,r,.inl ⟨hk,by simp⟩⟩
   ·rw [List.getElem?_set_ne (Ne.symm hj)] at e2
    obtain ⟨u',r',q⟩ := hl j y v' e1 e2 e3
    refine ⟨u',r',?_⟩
    rcases q with ⟨k,e⟩ | ⟨k,c,e,z⟩
    ·refine .inl ⟨k,?_⟩
     have : y ≠ x := fun e => hj (nodup_ix hN e1 (e ▸ hi))
     simp [this,e]
    ·exact .inr ⟨k,c,e,z.sameBut hs (cne y c e)⟩
  ·obtain ⟨w',z⟩ := I.cell y c e
   exact ⟨w',z.sameBut hs (cne y c e)⟩
  ·obtain ⟨e,n,ne,nf,d⟩ := I.pin p hp
   exact ⟨(hs.2 p.1 ne).trans e,n,ne,nf,d⟩
 ·have hfn : X.fn x = true := by
   rcases hf with z | z
   ·exact z
   ·rw [z] at hk; cases hk
  obtain ⟨c,hc⟩ := I.ok.has x (.inl hk)
  obtain ⟨w',z⟩ := I.cell x c hc
  refine wpAny_storeName_cell I.ok.kind hk hc z (fun h' hc' hs => ?_)
  obtain ⟨oc,hoc,hocd⟩ := id z
  refine h { s with heap := h' } ⟨I.ok,I.os,I.bare,⟨fun b o e n hb hx => ?_,fun b o e n hb hx => ?_,I.base.free,fun b o e hx => ?_,I.base.tups,I.base.frzs,I.base.tbls⟩,⟨m,hn.sameBut hs (Ne.symm (cne x c hc)),fun j y v' e1 e2 e3 => ?_⟩,fun y c' e => ?_,I.free,I.freeC,fun p hp => ?_,tracked ⟨oc,hoc,I.freeC x c hc⟩ hs,by simpa using I.len⟩ ⟨c,hs,.inr hc⟩
  ·exact (hs.2 b (Nat.ne_of_lt (Nat.lt_of_lt_of_le (Heap.lt_size e) (I.ok.cab x c hfn hc)))).trans (I.base.keep b o e n hb hx)
  ·obtain ⟨sl,e1⟩ := I.base.slot b o e n hb hx
   exact ⟨sl,(hs.2 b (Nat.ne_of_lt (Nat.lt_of_lt_of_le (Heap.lt_size e) (I.ok.cab x c hfn hc)))).trans e1⟩
  ·obtain ⟨o',e1⟩ := I.base.there b o e hx
   exact ⟨o',(hs.2 b (Nat.ne_of_lt (Nat.lt_of_lt_of_le (Heap.lt_size e) (I.ok.cab x c hfn hc)))).trans e1⟩
  ·by_cases hj : j = i
   ·subst hj
    rw [hi] at e1; cases e1
    rw [List.getElem?_set_self hiσ] at e2
    cases e2
    exact ⟨u,r,.inr ⟨.inl hk,c,hc,hc'⟩⟩
   ·rw [List.getElem?_set_ne (Ne.symm hj)] at e2
    obtain ⟨u',r',q⟩ := hl j y v' e1 e2 e3
    refine ⟨u',r',?_⟩
    rcases q with q | ⟨k,c',e,z'⟩
    ·exact .inl q
    ·refine .inr ⟨k,c',e,z'.sameBut hs ?_⟩
     rintro rfl
     exact hj (nodup_ix hN e1 (I.ok.inj _ _ _ e hc ▸ hi))
  ·by_cases hcc : c' = c
   ·subst hcc; exact ⟨_,hc'⟩
   ·obtain ⟨w2,z2⟩ := I.cell y c' e
    exact ⟨w2,z2.sameBut hs hcc⟩
  ·obtain ⟨e,n,ne,nf,d⟩ := I.pin p hp
   refine ⟨(hs.2 p.1 ?_).trans e,n,ne,nf,d⟩
   intro q
   rw [q,hoc] at e
   have q' : oc = p.2 := Option.some.inj e
   exact d w' (by rw [← q']; exact hocd)
theorem store_ok {M : Model} {A : Around} {E : Value -> Shared -> Prop} {i : Nat} {x : Str} {v : V} {u : Value} {Q : Unit -> Shared -> Prop} (I : Inv X pins σ H s) (hN : X.N.Nodup) (hi : X.N[i]? = some x) (hx : Loc X.env.scope x) (r : RelV v u)
  (h : ∀ s',Inv X pins (σ.set i (some v)) H s' -> Q () s') (hf : X.fn x = true ∨ X.env.scope.names.lookup x = some .local := by first | exact .inl rfl | exact .inr rfl | assumption) : wpAny M A (storeName X.env x u) Q E s :=
 store_ok2 I hN hi hx r (fun s' I' _ => h s' I') hf
theorem Inv.call' {s' : Shared} {ch : List Addr} (I : Inv X pins σ H s) (ho : s'.os = s.os) (u : Un (frs X.stack) ch H H' s.heap s'.heap) (hok : HOk X.prog X.w H' s'.heap) (hg : AllBare s'.gens)
  (hch : ∀ b ∈ ch,(b ∈ X.ex ∨ X.s₀.heap.objs.size ≤ b) ∧ b ≠ X.env.locals ∧ (∀ x c,X.env.cells.lookup x = some c -> c ≠ b) ∧ ∀ p ∈ X.pn ++ pins,p.1 ≠ b) : Inv X pins σ H' s' := by
 obtain ⟨h',g',d',t',o'⟩ := s'
 have e : o' = s.os := ho
 subst e
 exact I.call (g' := g') (t' := t') (d' := d') u hok hg hch
end
abbrev XK := Value -> Option Addr -> Hp -> Prop
abbrev St := List (Option V)
abbrev VK := V -> Hp -> Prop
abbrev TE := St -> Hp -> VK -> Prop
abbrev TT := St -> Hp -> (Bool -> Hp -> Prop) -> Prop
abbrev TA := St -> Hp -> (List V -> Hp -> Prop) -> Prop
structure Ends where
 nx : St -> Hp -> Prop
 rt : VK
 bk : St -> Hp -> Prop := fun _ _ => False
 ct : St -> Hp -> Prop := fun _ _ => False
abbrev TS := Ends -> St -> Hp -> Prop
def EP (X : Cx) (pins : List (Addr × Obj)) (σ : St) (Q : VK) (u : Value) (s' : Shared) : Prop := ∃ v H',Inv X pins σ H' s' ∧ RelV v u ∧ Q v H'
def TP (X : Cx) (pins : List (Addr × Obj)) (σ : St) (Q : Bool -> Hp -> Prop) (b : Bool) (s' : Shared) : Prop := ∃ H',Inv X pins σ H' s' ∧ Q b H'
def AP (X : Cx) (pins : List (Addr × Obj)) (σ : St) (Q : List V -> Hp -> Prop) (us : List Value) (s' : Shared) : Prop := ∃ vs H',Inv X pins σ H' s' ∧ Vals vs us ∧ Q vs H'
def SP (X : Cx) (pins : List (Addr × Obj)) (D : Ends) (f : Flow) (s' : Shared) : Prop :=
 match f with
 | .next => ∃ σ' H',Inv X pins σ' H' s' ∧ D.nx σ' H'
 | .brk => ∃ σ' H',Inv X pins σ' H' s' ∧ D.bk σ' H'
 | .cont => ∃ σ' H',Inv X pins σ' H' s' ∧ D.ct σ' H'
 | .ret u => ∃ v σ' H',Inv X pins σ' H' s' ∧ RelV v u ∧ D.rt v H'
def PE (X : Cx) (e : Expr) (t : TE) : Prop :=
 ∀ (pins : List (Addr × Obj)) (s : Shared) (σ : St) (H : Hp) (Q : VK),Inv X pins σ H s -> t σ H Q -> wpAny (model X.prog X.w) X.A (eval e X.env) (EP X pins σ Q) X.xe s
def PT (X : Cx) (e : Expr) (t : TT) : Prop :=
 ∀ (pins : List (Addr × Obj)) (s : Shared) (σ : St) (H : Hp) (Q : Bool -> Hp -> Prop),Inv X pins σ H s -> t σ H Q -> wpAny (model X.prog X.w) X.A (isTrue e X.env (eval e X.env)) (TP X pins σ Q) X.xe s
def PW (X : Cx) (e : Expr) (t : TT) : Prop :=
 ∀ (whole : Sem Value) (pins : List (Addr × Obj)) (s : Shared) (σ : St) (H : Hp) (Q : Bool -> Hp -> Prop),Inv X pins σ H s -> t σ H Q -> wpAny (model X.prog X.w) X.A (isTrue e X.env whole) (TP X pins σ Q) X.xe s
theorem PW.pt {X : Cx} {e : Expr} {t : TT} (h : PW X e t) : PT X e t := h _
def PA (X : Cx) (es : List Expr) (t : TA) : Prop :=
 ∀ (pos : Pos) (pins : List (Addr × Obj)) (s : Shared) (σ : St) (H : Hp) (Q : List V -> Hp -> Prop),Inv X pins σ H s -> t σ H Q -> wpAny (model X.prog X.w) X.A (spliced (backTo pos (starEach es X.env))) (AP X pins σ Q) X.xe s
def PS (X : Cx) (st : Stmt) (t : TS) : Prop :=
 ∀ (pins : List (Addr × Obj)) (s : Shared) (σ : St) (H : Hp) (D : Ends),Inv X pins σ H s -> t D σ H -> wpAny (model X.prog X.w) X.A (exec st X.env) (SP X pins D) X.xe s
def PSs (X : Cx) (st : List Stmt) (t : TS) : Prop :=
 ∀ (pins : List (Addr × Obj)) (s : Shared) (σ : St) (H : Hp) (D : Ends),Inv X pins σ H s -> t D σ H -> wpAny (model X.prog X.w) X.A (execs st X.env) (SP X pins D) X.xe s
theorem thn {α : Type} {t : Sem α} {Q Q' : α -> Shared -> Prop} {M : Model} {A : Around} {E : Value -> Shared -> Prop} {s : Shared} (h : wpAny M A t Q E s) (hQ : ∀ a s,Q a s -> Q' a s) : wpAny M A t Q' E s := wpAny_mono h hQ fun _ _ x => x
end L2
namespace L2
open PySem PySem.Spec PyProof.Rows
section
variable {X : Cx}
def tVar (i : Nat) : TE := fun σ H Q => ∃ v,σ[i]? = some (some v) ∧ Q v H
def tC (v : V) : TE := fun _ H Q => Q v H
theorem pe_var {i : Nat} {x : Str} {pos : Pos} (hN : X.N[i]? = some x) (hv : Vis X.env.scope x) (hd : (x == ("__debug__" : Str)) = false := by decide) (hcd : (x == ("__classdict__" : Str)) = false := by decide) : PE X (.Name x pos) (tVar i) := by
 intro pins s σ H Q I h
 obtain ⟨v,e,h⟩ := h
 obtain ⟨m,hn,hl⟩ := I.loc
 obtain ⟨u,r,l⟩ := hl i x v hN e hv
 have fin : EP X pins σ Q u s := ⟨v,H,I,r,h⟩
 rcases l with ⟨hk,hm⟩ | ⟨hk,c,hc,hcell⟩
 ·exact wpAny_Name (wpAny_loadName_local I.ok.kind hk hn hm fin) hd
 ·rcases hk with hk | hk
  ·exact wpAny_Name (wpAny_loadName_cell I.ok.kind hk hc hcell fin) hd
  ·exact wpAny_Name (wpAny_loadName_free I.ok.kind hk hc hcell fin hcd) hd
theorem pe_int {i j pos} : PE X (.Constant (.int i) j pos) (tC (.int i)) := fun _ _ _ H _ I h => wpAny_Constant_int ⟨.int i,H,I.tok _,⟨_,rfl⟩,h⟩
theorem pe_bl {b j pos} : PE X (.Constant (.bool b) j pos) (tC (.bl b)) := fun _ _ _ H _ I h => Constant_bool ⟨.bl b,H,I,rfl,h⟩
theorem pe_non {j pos} : PE X (.Constant .none j pos) (tC .non) := fun _ _ _ H _ I h => Constant_none ⟨.non,H,I,rfl,h⟩
theorem pe_str {x j pos} : PE X (.Constant (.str x) j pos) (tC (.str x)) := fun _ _ _ H _ I h => Calls.Constant_str ⟨.str x,H,I.tok _,⟨_,rfl⟩,h⟩
def Gl (X : Cx) (x : Str) : Prop := X.env.kindOf x = some .globalImplicit
theorem ld_glob {E : Value -> Shared -> Prop} {pins : List (Addr × Obj)} {s : Shared} {σ : St} {H : Hp} {x : Str} {u : Value} {pos : Pos} {Q : Value -> Shared -> Prop} (I : Inv X pins σ H s) (hg : Gl X x) (hm : X.mg x = some u) (h : Q u s)
  (hd : (x == ("__debug__" : Str)) = false := by decide) : wpAny (model X.prog X.w) X.A (eval (.Name x pos) X.env) Q E s :=
 Calls.Name_function_global I.ok.kind hg (Calls.loadGlobal_global (by rw [I.ok.glob]; exact I.mod.glob.keeps I.bk) hm h) hd
theorem ld_blt {E : Value -> Shared -> Prop} {pins : List (Addr × Obj)} {s : Shared} {σ : St} {H : Hp} {x : Str} {u : Value} {pos : Pos} {Q : Value -> Shared -> Prop} (I : Inv X pins σ H s) (hg : Gl X x) (hm : X.mg x = none) (hv : bootBuiltins x = some u) (h : Q u s)
  (hn : x ≠ "__name__" := by decide) (hd : (x == ("__debug__" : Str)) = false := by decide) : wpAny (model X.prog X.w) X.A (eval (.Name x pos) X.env) Q E s := by
 obtain ⟨mb,h1,h2⟩ := I.mod.blt
 exact Calls.Name_function_global I.ok.kind hg (Calls.loadGlobal_builtin (by rw [I.ok.glob]; exact I.mod.glob.keeps I.bk) hm (by rw [I.ok.blt]; exact h1.keeps I.bk) ((h2 x hn).trans hv) h) hd
theorem pe_glob {x : Str} {v : V} {u : Value} {pos : Pos} (hg : Gl X x) (hm : X.mg x = some u) (r : RelV v u) (hd : (x == ("__debug__" : Str)) = false := by decide) : PE X (.Name x pos) (tC v) :=
 fun _ _ _ H _ I h => ld_glob I hg hm ⟨v,H,I,r,h⟩ hd
theorem pe_bltn {x : Str} {v : V} {u : Value} {pos : Pos} (hg : Gl X x) (hm : X.mg x = none) (hv : bootBuiltins x = some u) (r : RelV v u) (hn : x ≠ "__name__" := by decide) (hd : (x == ("__debug__" : Str)) = false := by decide) : PE X (.Name x pos) (tC v) :=
 fun _ _ _ H _ I h => ld_blt I hg hm hv ⟨v,H,I,r,h⟩ hn hd
def t2I (ta tb : TE) (k : Int -> Int -> Hp -> Prop) : St -> Hp -> Prop := fun σ H => ta σ H fun x H1 => tb σ H1 fun y H2 => ∃ i j,x = .int i ∧ y = .int j ∧ k i j H2
def tAdd (ta tb : TE) : TE := fun σ H Q => t2I ta tb (fun i j H2 => Q (.int (i + j)) H2) σ H
def tSub (ta tb : TE) : TE := fun σ H Q => t2I ta tb (fun i j H2 => Q (.int (i - j)) H2) σ H
def tMul (ta tb : TE) : TE := fun σ H Q => t2I ta tb (fun i j H2 => (-(2 ^ 64) < i ∧ i < 2 ^ 64) ∧ Q (.int (i * j)) H2) σ H
variable {a b : Expr} {ta tb : TE} {pos : Pos}
def PC (X : Cx) (op : CmpOp) (a b : Expr) (t : TE) : Prop :=
 ∀ (pins : List (Addr × Obj)) (s : Shared) (σ : St) (H : Hp) (Q : VK),Inv X pins σ H s -> t σ H Q ->
  wpAny (model X.prog X.w) X.A (eval a X.env) (fun v s₁ => wpAny (model X.prog X.w) X.A (eval b X.env) (fun u s₂ => wpAny (model X.prog X.w) X.A (compareOp op v u) (EP X pins σ Q) X.xe s₂) X.xe s₁) X.xe s
theorem nobehind (b : Expr) {op : CmpOp} (h : op ≠ .In) (h2 : op ≠ .NotIn) : behindInMarks op b = false := by
 have e1 : (op == CmpOp.In) = false := by cases op <;> first | rfl | exact absurd rfl h
 have e2 : (op == CmpOp.NotIn) = false := by cases op <;> first | rfl | exact absurd rfl h2
 cases b <;> simp [behindInMarks,e1,e2]
def tCmp (p : Int -> Int -> Bool) (ta tb : TE) : TE := fun σ H Q => t2I ta tb (fun i j H2 => Q (.bl (p i j)) H2) σ H
abbrev tLt : TE -> TE -> TE := tCmp fun i j => decide (i < j)
abbrev tLe : TE -> TE -> TE := tCmp fun i j => decide (i ≤ j)
abbrev tGt : TE -> TE -> TE := tCmp fun i j => decide (j < i)
abbrev tGe : TE -> TE -> TE := tCmp fun i j => decide (j ≤ i)
abbrev tEqI : TE -> TE -> TE := tCmp fun i j => decide (i = j)
abbrev tNeI : TE -> TE -> TE := tCmp fun i j => !decide (i = j)
def tIsN (ta : TE) : TE := fun σ H Q => ta σ H fun x H1 => Q (.bl (decide (x = .non))) H1
def tNotN (ta : TE) : TE := fun σ H Q => ta σ H fun x H1 => Q (.bl (!decide (x = .non))) H1
theorem RelV.none_iff {x : V} {v : Value} (r : RelV x v) : (v == Value.none) = decide (x = .non) := by
 cases x with
 | non => cases r; rfl
 | bl _ => cases r; rfl
 | int _ => obtain ⟨t,rfl⟩ := r; rfl
 | str _ => obtain ⟨t,rfl⟩ := r; rfl
 | byt _ => obtain ⟨t,rfl⟩ := r; rfl
 | flt _ => obtain ⟨t,rfl⟩ := r; rfl
 | ref _ => cases r; rfl
 | ty _ => cases r; rfl
theorem pc_isN {j pos'} (ha : PE X a ta) : PC X .Is a (.Constant .none j pos') (tIsN ta) := by
 intro pins s σ H Q I h
 refine thn (ha pins s σ H _ I h) fun v s1 ⟨x,H1,I1,r1,q1⟩ => ?_
 exact Constant_none (is_none_gen ⟨.bl _,H1,I1,by rw [r1.none_iff]; rfl,q1⟩)
theorem pc_notN {j pos'} (ha : PE X a ta) : PC X .IsNot a (.Constant .none j pos') (tNotN ta) := by
 intro pins s σ H Q I h
 refine thn (ha pins s σ H _ I h) fun v s1 ⟨x,H1,I1,r1,q1⟩ => ?_
 exact Constant_none (isnot_none_gen ⟨.bl _,H1,I1,by rw [r1.none_iff]; rfl,q1⟩)
def tB (t : TE) : TT := fun σ H Q => t σ H fun x H1 => ∃ c,x = .bl c ∧ Q c H1
theorem pt_cmp {op : CmpOp} {t : TE} (h : PC X op a b t) (h1 : behindInMarks op b = false := by first | exact nobehind _ (by decide) (by decide) | rfl) : PT X (.Compare a [op] [b] pos) (tB t) := by
 intro pins s σ H Q I hw
 refine wpAny_isTrue_Compare1 (thn (h pins s σ H _ I hw) fun v s1 h1 => thn h1 fun u s2 h2 => thn h2 fun c s3 ⟨x,H1,I1,r1,q1⟩ => ?_) h1
 obtain ⟨d,rfl,q⟩ := q1
 cases r1
 exact wpAny_truthy_bool ⟨H1,I1,q⟩
variable {tA tB' : TT} {rest : List Expr}
def tAnd (t u : TT) : TT := fun σ H Q => t σ H fun c H1 => if c = true then u σ H1 Q else Q false H1
def tOr (t u : TT) : TT := fun σ H Q => t σ H fun c H1 => if c = true then Q true H1 else u σ H1 Q
def tNot (t : TT) : TT := fun σ H Q => t σ H fun c H1 => Q (!c) H1
theorem pw_and1 (ha : PT X a tA) : PW X (.BoolOp .And [a] pos) tA := by
 intro wh pins s σ H Q I h
 refine isTrue_and (thn (ha pins s σ H Q I h) fun c s1 e => ?_)
 cases c with
 | true => exact isTrue_and_nil e
 | false => exact e
theorem pw_or1 (ha : PT X a tA) : PW X (.BoolOp .Or [a] pos) tA := by
 intro wh pins s σ H Q I h
 refine isTrue_or (thn (ha pins s σ H Q I h) fun c s1 e => ?_)
 cases c with
 | false => exact isTrue_or_nil e
 | true => exact e
theorem pw_and (ha : PT X a tA) (hb : PW X (.BoolOp .And (b :: rest) pos) tB') : PW X (.BoolOp .And (a :: b :: rest) pos) (tAnd tA tB') := by
 intro wh pins s σ H Q I h
 refine isTrue_and (thn (ha pins s σ H _ I h) fun c s1 ⟨H1,I1,q1⟩ => ?_)
 cases c with
 | true => exact hb wh pins s1 σ H1 Q I1 q1
 | false => exact ⟨H1,I1,q1⟩
theorem pw_or (ha : PT X a tA) (hb : PW X (.BoolOp .Or (b :: rest) pos) tB') : PW X (.BoolOp .Or (a :: b :: rest) pos) (tOr tA tB') := by
 intro wh pins s σ H Q I h
 refine isTrue_or (thn (ha pins s σ H _ I h) fun c s1 ⟨H1,I1,q1⟩ => ?_)
 cases c with
 | true => exact ⟨H1,I1,q1⟩
 | false => exact hb wh pins s1 σ H1 Q I1 q1
theorem pt_not (ha : PT X a tA) : PT X (.UnaryOp .Not a pos) (tNot tA) := by
 intro pins s σ H Q I h
 exact isTrue_not (ha pins s σ H (fun c H1 => Q (!c) H1) I h)
def tAndV (ta tb : TE) : TE := fun σ H Q => ta σ H fun x H1 => ∃ c,x = .bl c ∧ if c = true then tb σ H1 Q else Q (.bl false) H1
def tOrV (ta tb : TE) : TE := fun σ H Q => ta σ H fun x H1 => ∃ c,x = .bl c ∧ if c = true then Q (.bl true) H1 else tb σ H1 Q
def tNotV (ta : TE) : TE := fun σ H Q => ta σ H fun x H1 => ∃ c,x = .bl c ∧ Q (.bl (!c)) H1
theorem pe_one {op} {t : TE} (h : PE X a t) : PE X (.BoolOp op [a] pos) t := fun pins s σ H Q I hw => BoolOp_one (h pins s σ H Q I hw)
theorem pe_and (ha : PE X a ta) (hb : PE X (.BoolOp .And (b :: rest) pos) tb) : PE X (.BoolOp .And (a :: b :: rest) pos) (tAndV ta tb) := by
 intro pins s σ H Q I h
 refine BoolOp_and (thn (ha pins s σ H _ I h) fun v s1 ⟨x,H1,I1,r1,q1⟩ => ?_)
 obtain ⟨c,rfl,q1⟩ := q1
 cases r1
 refine wpAny_truthy_bool ?_
 cases c with
 | true => exact hb pins s1 σ H1 Q I1 q1
 | false => exact ⟨.bl false,H1,I1,rfl,q1⟩
theorem pe_not (ha : PE X a ta) : PE X (.UnaryOp .Not a pos) (tNotV ta) := by
 intro pins s σ H Q I h
 refine UnaryOp_ (thn (ha pins s σ H _ I h) fun v s1 ⟨x,H1,I1,r1,q1⟩ => ?_)
 obtain ⟨c,rfl,q1⟩ := q1
 cases r1
 exact not_of (wpAny_truthy_bool ⟨.bl (!c),H1,I1,rfl,q1⟩)
def tIf (t : TT) (ta tb : TE) : TE := fun σ H Q => t σ H fun c H1 => if c = true then ta σ H1 Q else tb σ H1 Q
theorem pe_ifExp {c : Expr} (hc : PT X c tA) (ha : PE X a ta) (hb : PE X b tb) : PE X (.IfExp c a b pos) (tIf tA ta tb) := by
 intro pins s σ H Q I h
 refine wpAny_IfExp (thn (hc pins s σ H _ I h) fun d s1 ⟨H1,I1,q1⟩ => ?_)
 cases d with
 | true => exact ha pins s1 σ H1 Q I1 q1
 | false => exact hb pins s1 σ H1 Q I1 q1
end
end L2
namespace L2
open PySem PySem.Spec PyProof.Rows
def SqL (K : PySem.W.Frag) (H : Hp) (a : Addr) (xs : List V) : Prop :=
 Rd H a (.lst xs) ∨
  ∃ (o : Obj) (its : Array Value) (n : Nat),K.lookup a = some o ∧ o.cls = .type "list" ∧ o.dict = none ∧ o.data = .seq its n ∧ its.size ≤ sizeLine ∧ Vals xs its.toList
def SqT (K : PySem.W.Frag) (H : Hp) (a : Addr) (xs : List V) : Prop :=
 Rd H a (.tup xs) ∨
  ∃ (o : Obj) (its : Array Value) (n : Nat),K.lookup a = some o ∧ o.cls = .type "tuple" ∧ o.data = .seq its n ∧ its.size ≤ sizeLine ∧ Vals xs its.toList
def absV : Value -> Option V
 | .none => some .non
 | .bool b => some (.bl b)
 | .int i _ => some (.int i)
 | .str x _ => some (.str x)
 | .bytes b _ => some (.byt b)
 | .float b _ => some (.flt b)
 | .ref a => some (.ref a)
 | .type n => some (.ty n)
 | _ => none
theorem RelV.abs {x : V} {u : Value} (r : RelV x u) : absV u = some x := by
 cases x with
 | non => cases r; rfl
 | bl _ => cases r; rfl
 | int _ => obtain ⟨t,rfl⟩ := r; rfl
 | str _ => obtain ⟨t,rfl⟩ := r; rfl
 | byt _ => obtain ⟨t,rfl⟩ := r; rfl
 | flt _ => obtain ⟨t,rfl⟩ := r; rfl
 | ref _ => cases r; rfl
 | ty _ => cases r; rfl
theorem RelV.inj {x y : V} {u : Value} (r : RelV x u) (q : RelV y u) : x = y := Option.some.inj (r.abs.symm.trans q.abs)
theorem Vals.inj : ∀ {xs ys : List V} {us : List Value},Vals xs us -> Vals ys us -> xs = ys
 | _,_,_,.nil,.nil => rfl
 | _,_,_,.cons r t,.cons r' t' => by rw [r.inj r',Vals.inj t t']
section
variable {X : Cx} {pins : List (Addr × Obj)} {σ : St} {H : Hp} {s : Shared} {a : Addr} {xs ys : List V}
theorem SqL.of {K : PySem.W.Frag} (h : H a = some (.lst xs)) : SqL K H a xs := .inl (.inl h)
theorem SqT.of {K : PySem.W.Frag} (h : H a = some (.tup xs)) : SqT K H a xs := .inl (.inl h)
theorem Inv.list (I : Inv X pins σ H s) (h : SqL X.K H a xs) : ∃ its : List Value,Vals xs its ∧ PlainL s.heap a its.toArray ∧ xs.length ≤ sizeLine := by
 rcases h with h | ⟨o,its,n,hk,hc,hd,hs,hz,r⟩
 ·obtain ⟨z,its,n,r,e⟩ := h.ok I.hok
  exact ⟨its,r,⟨_,n,e,rfl,rfl,rfl⟩,z⟩
 ·refine ⟨its.toList,r,⟨o,n,I.kIn a o hk,hc,hd,by simpa using hs⟩,?_⟩
  have e := r.length
  simp only [Array.length_toList] at e
  omega
theorem Inv.tuple (I : Inv X pins σ H s) (h : SqT X.K H a xs) : ∃ its : List Value,Vals xs its ∧ IsTup s.heap a its.toArray ∧ xs.length ≤ sizeLine := by
 rcases h with h | ⟨o,its,n,hk,hc,hs,hz,r⟩
 ·obtain ⟨z,its,r,p⟩ := h.ok I.hok
  exact ⟨its,r,p,z⟩
 ·refine ⟨its.toList,r,⟨o,I.kIn a o hk,hc,n,by simpa using hs⟩,?_⟩
  have e := r.length
  simp only [Array.length_toList] at e
  omega
theorem Inv.list_inj (I : Inv X pins σ H s) (h : SqL X.K H a xs) (h' : SqL X.K H a ys) : xs = ys := by
 obtain ⟨its,r,⟨o,n,e,_,_,d⟩,_⟩ := I.list h
 obtain ⟨its',r',⟨o',n',e',_,_,d'⟩,_⟩ := I.list h'
 rw [e] at e'; cases e'
 rw [d] at d'
 injection d' with d1 _
 have : its = its' := by simpa using congrArg Array.toList d1
 subst this
 exact r.inj r'
theorem Inv.tuple_inj (I : Inv X pins σ H s) (h : SqT X.K H a xs) (h' : SqT X.K H a ys) : xs = ys := by
 obtain ⟨its,r,⟨o,e,_,n,d⟩,_⟩ := I.tuple h
 obtain ⟨its',r',⟨o',e',_,n',d'⟩,_⟩ := I.tuple h'
 rw [e] at e'; cases e'
 rw [d] at d'
 injection d' with d1 _
 have : its = its' := by simpa using congrArg Array.toList d1
 subst this
 exact r.inj r'
end
abbrev Cx.wish (X : Cx) (E : Value -> Shared -> Prop) : Cx := { X with xe := E }
abbrev Cx.nox (X : Cx) : Cx := X.wish fun _ _ => False
theorem Cx.Ok.wish {X : Cx} (ok : X.Ok) (E : Value -> Shared -> Prop) : (X.wish E).Ok :=
 ⟨ok.mod,ok.kind,ok.glob,ok.blt,ok.above,ok.inj,ok.has,ok.cab,ok.hd,ok.frames,ok.stk,ok.exf,ok.bs,ok.bsz,ok.noex,ok.exfs,ok.funs,ok.frf⟩
theorem Cx.Ok.unwish {X : Cx} {E : Value -> Shared -> Prop} (ok : (X.wish E).Ok) : X.Ok :=
 ⟨ok.mod,ok.kind,ok.glob,ok.blt,ok.above,ok.inj,ok.has,ok.cab,ok.hd,ok.frames,ok.stk,ok.exf,ok.bs,ok.bsz,ok.noex,ok.exfs,ok.funs,ok.frf⟩
section
variable {X : Cx} {pins : List (Addr × Obj)} {σ : St} {H : Hp} {s : Shared} {E : Value -> Shared -> Prop}
theorem Inv.wish (I : Inv X pins σ H s) (E : Value -> Shared -> Prop) : Inv (X.wish E) pins σ H s := ⟨I.ok.wish E,I.os,I.bare,I.base,I.loc,I.cell,I.free,I.freeC,I.pin,I.hok,I.len⟩
theorem Inv.unwish (I : Inv (X.wish E) pins σ H s) : Inv X pins σ H s := ⟨I.ok.unwish,I.os,I.bare,I.base,I.loc,I.cell,I.free,I.freeC,I.pin,I.hok,I.len⟩
theorem SP.unwish {D : Ends} {f : Flow} {s' : Shared} (h : SP (X.wish E) pins D f s') : SP X pins D f s' := by
 cases f with
 | next => obtain ⟨σ',H',I,q⟩ := h; exact ⟨σ',H',I.unwish,q⟩
 | brk => obtain ⟨σ',H',I,q⟩ := h; exact ⟨σ',H',I.unwish,q⟩
 | cont => obtain ⟨σ',H',I,q⟩ := h; exact ⟨σ',H',I.unwish,q⟩
 | ret u => obtain ⟨v,σ',H',I,r,q⟩ := h; exact ⟨v,σ',H',I.unwish,r,q⟩
theorem PE.nox {e : Expr} {t : TE} (h : PE X.nox e t) : PE X e t := fun pins s σ H Q I hw =>
 wpAny_mono (h pins s σ H Q (I.wish _) hw) (fun _ _ ⟨v,H',I',r,q⟩ => ⟨v,H',I'.unwish,r,q⟩) fun _ _ z => False.elim z
theorem PT.nox {e : Expr} {t : TT} (h : PT X.nox e t) : PT X e t := fun pins s σ H Q I hw =>
 wpAny_mono (h pins s σ H Q (I.wish _) hw) (fun _ _ ⟨H',I',q⟩ => ⟨H',I'.unwish,q⟩) fun _ _ z => False.elim z
theorem PSs.nox {st : List Stmt} {t : TS} (h : PSs X.nox st t) : PSs X st t := fun pins s σ H D I hw =>
 wpAny_mono (h pins s σ H D (I.wish _) hw) (fun _ _ q => q.unwish) fun _ _ z => False.elim z
end
section
variable {X : Cx} {st : Stmt} {rest : List Stmt} {t u : TS} {e : Expr} {te : TE} {pos : Pos}
def tNext : TS := fun D σ H => D.nx σ H
def tSeq (t u : TS) : TS := fun D σ H => t { D with nx := u D } σ H
theorem pss_nil : PSs X [] tNext := fun _ _ σ H _ I h => wpAny_execs_nil ⟨σ,H,I,h⟩
theorem pss_cons (h1 : PS X st t) (h2 : PSs X rest u) : PSs X (st :: rest) (tSeq t u) := by
 intro pins s σ H D I h
 refine wpAny_execs_cons (thn (h1 pins s σ H { D with nx := u D } I h) fun f s1 q => ?_)
 cases f with
 | next =>
  obtain ⟨σ',H',I',q⟩ := q
  exact h2 pins s1 σ' H' D I' q
 | ret v => exact q
 | brk => exact q
 | cont => exact q
def tBreak : TS := fun D σ H => D.bk σ H
def tCont : TS := fun D σ H => D.ct σ H
theorem Inv.quiet {pins : List (Addr × Obj)} {σ : St} {H : Hp} {s : Shared} (I : Inv X pins σ H s) : interactive X.env = false := by simp [interactive,I.ok.kind]
def tDrop (te : TE) : TS := fun D σ H => te σ H fun _ H1 => D.nx σ H1
theorem ps_expr (he : PE X e te) (hs : swapsWith e none pos.line X.env = pure false := by rfl) : PS X (.Expr e pos) (tDrop te) := by
 intro pins s σ H D I h
 exact wpAny_Expr_any (thn (he pins s σ H _ I h) fun v s1 ⟨x,H1,I1,r1,q1⟩ => ⟨σ,H1,I1,q1⟩) I.quiet hs
def tRet (te : TE) : TS := fun D σ H => te σ H D.rt
theorem ps_ret (he : PE X e te) : PS X (.Return (some e) pos) (tRet te) := by
 intro pins s σ H D I h
 exact wpAny_Return_some (thn (he pins s σ H _ I h) fun v s1 ⟨x,H1,I1,r1,q1⟩ => ⟨x,σ,H1,I1,r1,q1⟩)
def tRetN : TS := fun D _ H => D.rt .non H
def tIfS (c : TT) (t u : TS) : TS := fun D σ H => c σ H fun b H1 => if b = true then t D σ H1 else u D σ H1
theorem ps_if {c : Expr} {a b : List Stmt} {tc : TT} (hc : PT X c tc) (ha : PSs X a t) (hb : PSs X b u) : PS X (.If c a b pos) (tIfS tc t u) := by
 intro pins s σ H D I h
 refine wpAny_If (thn (hc pins s σ H _ I h) fun d s1 ⟨H1,I1,q1⟩ => ?_)
 cases d with
 | true => exact ha pins s1 σ H1 D I1 q1
 | false => exact hb pins s1 σ H1 D I1 q1
def tNever : TS := fun _ _ _ => False
end
abbrev TG := V -> St -> Hp -> (St -> Hp -> Prop) -> Prop
abbrev TGs := List V -> St -> Hp -> (St -> Hp -> Prop) -> Prop
def PG (X : Cx) (target : Expr) (t : TG) : Prop :=
 ∀ (pins : List (Addr × Obj)) (s : Shared) (σ : St) (H : Hp) (v : V) (u : Value) (Q : St -> Hp -> Prop),Inv X pins σ H s -> RelV v u -> t v σ H Q ->
  wpAny (model X.prog X.w) X.A (assign target X.env u) (fun _ s' => ∃ σ' H',Inv X pins σ' H' s' ∧ Q σ' H') X.xe s
def PGs (X : Cx) (ts : List Expr) (t : TGs) : Prop :=
 ∀ (pins : List (Addr × Obj)) (s : Shared) (σ : St) (H : Hp) (vs : List V) (us : List Value) (Q : St -> Hp -> Prop),Inv X pins σ H s -> Vals vs us -> t vs σ H Q ->
  wpAny (model X.prog X.w) X.A (assignInOrder ((assignEach ts X.env).map (·.2)) us) (fun _ s' => ∃ σ' H',Inv X pins σ' H' s' ∧ Q σ' H') X.xe s
abbrev TSet := V -> V -> V -> Hp -> (Hp -> Prop) -> Prop
def PSet (X : Cx) (t : TSet) : Prop :=
 ∀ (pins : List (Addr × Obj)) (s : Shared) (σ : St) (H : Hp) (o i v : V) (ov iv u : Value) (Q : Hp -> Prop),Inv X pins σ H s -> RelV o ov -> RelV i iv -> RelV v u -> t o i v H Q ->
  wpAny (model X.prog X.w) X.A (setItem ov iv u) (fun _ s' => ∃ H',Inv X pins σ H' s' ∧ Q H') X.xe s
abbrev TIp := V -> V -> Hp -> VK -> Prop
def PIp (X : Cx) (op : Operator) (t : TIp) : Prop :=
 ∀ (pins : List (Addr × Obj)) (s : Shared) (σ : St) (H : Hp) (x y : V) (v u : Value) (Q : VK),Inv X pins σ H s -> RelV x v -> RelV y u -> t x y H Q ->
  wpAny (model X.prog X.w) X.A (inplaceOp op v u) (EP X pins σ Q) X.xe s
section
variable {X : Cx} {pos : Pos}
def gName (i : Nat) : TG := fun v σ H Q => Q (σ.set i (some v)) H
theorem pg_name {i : Nat} {x : Str} (hN : X.N.Nodup) (hi : X.N[i]? = some x) (hx : Loc X.env.scope x) (hf : X.fn x = true ∨ X.env.scope.names.lookup x = some .local := by first | exact .inl rfl | exact .inr rfl | assumption) : PG X (.Name x pos) (gName i) := by
 intro pins s σ H v u Q I r h
 exact wpAny_assign_Name (store_ok I hN hi hx r (fun s' I' => ⟨_,H,I',h⟩) hf)
def gNil : TGs := fun vs σ H Q => vs = [] ∧ Q σ H
def gCons (t : TG) (u : TGs) : TGs := fun vs σ H Q => ∃ v r,vs = v :: r ∧ t v σ H fun σ' H' => u r σ' H' Q
theorem pgs_nil : PGs X [] gNil := by
 intro pins s σ H vs us Q I r h
 obtain ⟨e,h⟩ := h
 subst e
 cases r
 exact assignInOrder_nil ⟨σ,H,I,h⟩
theorem pgs_cons {e : Expr} {es : List Expr} {t : TG} {u : TGs} (h1 : PG X e t) (h2 : PGs X es u)
  (hs : (assignEach (e :: es) X.env).map (·.2) = assign e X.env :: (assignEach es X.env).map (·.2) := by rfl) : PGs X (e :: es) (gCons t u) := by
 intro pins s σ H vs us Q I r h
 obtain ⟨v,vr,e1,h⟩ := h
 subst e1
 cases r with
 | cons r rr =>
  rw [hs]
  refine assignInOrder_cons (thn (h1 pins s σ H _ _ _ I r h) fun _ s1 ⟨σ1,H1,I1,q1⟩ => ?_)
  exact h2 pins s1 σ1 H1 _ _ Q I1 rr q1
def gTup (K : PySem.W.Frag) (n : Nat) (t : TGs) : TG := fun v σ H Q => ∃ a xs,v = .ref a ∧ SqT K H a xs ∧ xs.length = n ∧ t xs σ H Q
theorem pg_tup {es : List Expr} {k : Nat} {t : TGs} {n : Nat} (hc : X.calm = true) (h : PGs X es t)
  (hn : (assignEach es X.env).length = n := by rfl) (hst : (assignEach es X.env).findIdx? (·.1) = none := by rfl) : PG X (.Tuple es k pos) (gTup X.K n t) := by
 intro pins s σ H v u Q I r hw
 obtain ⟨a,xs,e1,hq,hl,hw⟩ := hw
 subst e1
 cases r
 obtain ⟨its,rv,ht,hz⟩ := I.tuple hq
 refine assign_Tuple_tuple (I.ok.hd hc) ht (by simp [hn,← hl,rv.length]) hst fun h' hx => ?_
 have I1 : Inv X pins σ H { s with heap := h' } := I.kept (t' := s.toks) fun b o e => hx b o (Nat.ne_of_lt (Heap.lt_size e)) e
 exact h pins _ σ H xs _ Q I1 (by simpa using rv) hw
def gSub (to ti : TE) (t : TSet) : TG := fun v σ H Q => to σ H fun o H1 => ti σ H1 fun i H2 => t o i v H2 fun H3 => Q σ H3
theorem pg_sub {o i : Expr} {to ti : TE} {t : TSet} (ho : PE X o to) (hi : PE X i ti) (hs : PSet X t)
  (ha : ∀ v,assign (.Subscript o i pos) X.env v = (do
   let ov ← holding [v] (eval o X.env)
   let iv ← holding [v,ov] (eval i X.env)
   standAt pos
   holding [v,ov,iv] (setItem ov iv v)
   release [v,ov,iv] []) := by intro _; rfl) : PG X (.Subscript o i pos) (gSub to ti t) := by
 intro pins s σ H v u Q I r h
 rw [ha]
 refine wpAny_bind (wpAny_holding (thn (ho pins s σ H _ I h) fun ov s1 ⟨x,H1,I1,r1,q1⟩ => ?_))
 refine wpAny_bind (wpAny_holding (thn (hi pins s1 σ H1 _ I1 q1) fun iv s2 ⟨y,H2,I2,r2,q2⟩ => ?_))
 refine wpAny_bind (wpAny_standAt (wpAny_bind (wpAny_holding (thn (hs pins s2 σ H2 x y v ov iv u _ I2 r1 r2 r q2) fun _ s3 ⟨H3,I3,q3⟩ => ?_))))
 exact wpAny_release ⟨σ,H3,I3,q3⟩
def tAsg (te : TE) (g : TG) : TS := fun D σ H => te σ H fun x H1 => g x σ H1 D.nx
theorem ps_asg {tg e : Expr} {te : TE} {g : TG} (he : PE X e te) (hg : PG X tg g) (hs : swapsWithSole [tg] e pos.line X.env = pure false := by rfl) (hw : swappedStores [tg] e X.env = pure none := by rfl)
  (h1 : (assignEach [tg] X.env).map (·.2) = [assign tg X.env] := by rfl) : PS X (.Assign [tg] e pos) (tAsg te g) := by
 intro pins s σ H D I h
 refine wpAny_Assign_stores (thn (he pins s σ H _ I h) fun v s1 ⟨x,H1,I1,r1,q1⟩ => ?_) hs hw
 rw [h1]
 exact thn (hg pins s1 σ H1 x v _ I1 r1 q1) fun _ s2 q => q
theorem ps_set {i : Nat} {x : Str} {e : Expr} {te : TE} {pos' : Pos} (hN : X.N.Nodup) (hi : X.N[i]? = some x) (hx : Loc X.env.scope x) (he : PE X e te) (hs : swapsWith e (some (.Name x pos')) pos.line X.env = pure false := by rfl) (hf : X.fn x = true ∨ X.env.scope.names.lookup x = some .local := by first | exact .inl rfl | exact .inr rfl | assumption) :
  PS X (.Assign [.Name x pos'] e pos) (tAsg te (gName i)) := by
 intro pins s σ H D I h
 refine wpAny_Assign_Name (thn (he pins s σ H _ I h) fun v s1 ⟨y,H1,I1,r1,q1⟩ => ?_) hs
 exact store_ok I1 hN hi hx r1 (fun s2 I2 => ⟨_,H1,I2,q1⟩) hf
def tPar (i j : Nat) (ta : TA) : TS := fun D σ H => ta σ H fun vs H1 => ∃ v w,vs = [v,w] ∧ D.nx ((σ.set i (some v)).set j (some w)) H1
def tAug (i : Nat) (te : TE) (ti : TIp) : TS := fun D σ H => ∃ x,σ[i]? = some (some x) ∧ te σ H fun y H1 => ti x y H1 fun z H2 => D.nx (σ.set i (some z)) H2
def tAugS (to ti te : TE) (tget : V -> V -> Hp -> VK -> Prop) (tip : TIp) (tset : TSet) : TS := fun D σ H => to σ H fun o H1 => ti σ H1 fun i H2 => tget o i H2 fun x H3 => te σ H3 fun y H4 => tip x y H4 fun z H5 => tset o i z H5 fun H6 => D.nx σ H6
def PGet (X : Cx) (t : V -> V -> Hp -> VK -> Prop) : Prop :=
 ∀ (pins : List (Addr × Obj)) (s : Shared) (σ : St) (H : Hp) (o i : V) (ov iv : Value) (Q : VK),Inv X pins σ H s -> RelV o ov -> RelV i iv -> t o i H Q ->
  wpAny (model X.prog X.w) X.A (getItem ov iv) (EP X pins σ Q) X.xe s
def ipI (f : Int -> Int -> Int) : TIp := fun x y H Q => ∃ i j,x = .int i ∧ y = .int j ∧ Q (.int (f i j)) H
end
section
variable {X : Cx} {pos : Pos}
def tWhile (c : TT) (tb : TS) : TS := fun D σ H => ∃ W : Nat -> St -> Hp -> Prop,(∃ m,W m σ H) ∧ ∀ m σ H,W m σ H ->
 c σ H fun b H1 => if b = true then ∃ N : St -> Hp -> Prop,(∀ σ' H',N σ' H' -> ∃ m',m' < m ∧ W m' σ' H') ∧ tb { D with nx := N,ct := N,bk := D.nx } σ H1 else D.nx σ H1
theorem ps_while {c : Expr} {body : List Stmt} {tc : TT} {tb : TS} (hp : PassesOwn (model X.prog X.w) X.A X.env X.xe) (hc : PT X c tc) (hb : PSs X body tb) : PS X (.While c body [] pos) (tWhile tc tb) := by
 intro pins s σ H D I h
 obtain ⟨W,⟨m0,w0⟩,turn⟩ := h
 refine wpAny_While (codeAny_whileLoop (fun n s' => ∃ σ' H',Inv X pins σ' H' s' ∧ W n σ' H') ?_ m0 ⟨σ,H,I,w0⟩)
 rintro n s1 ⟨σ1,H1,I1,w1⟩
 refine wpAny_passesOwn hp (thn (hc pins s1 σ1 H1 _ I1 (turn n σ1 H1 w1)) fun b s2 ⟨H2,I2,q2⟩ => ?_)
 cases b with
 | true =>
  obtain ⟨N,hN,q2⟩ := q2
  rw [if_pos rfl]
  refine wpAny_passesOwn hp (thn (hb pins s2 σ1 H2 _ I2 q2) fun f s3 q3 => ?_)
  cases f with
  | next =>
   obtain ⟨σ3,H3,I3,n3⟩ := q3
   obtain ⟨m',hm,w3⟩ := hN σ3 H3 n3
   exact ⟨m',hm,σ3,H3,I3,w3⟩
  | cont =>
   obtain ⟨σ3,H3,I3,n3⟩ := q3
   obtain ⟨m',hm,w3⟩ := hN σ3 H3 n3
   exact ⟨m',hm,σ3,H3,I3,w3⟩
  | brk => exact q3
  | ret v => exact q3
 | false =>
  rw [if_neg Bool.false_ne_true]
  exact wpAny_execs_nil ⟨σ1,H2,I2,q2⟩
end
structure It where
 go : Nat -> Hp -> Prop
 yld : Nat -> Hp -> V -> Hp -> Prop
 stop : Nat -> Hp -> Prop
def FpOk (X : Cx) (pins : List (Addr × Obj)) (H : Hp) (b : Addr) : Prop :=
 H b = none ∧ b ≠ X.env.locals ∧ b ∉ X.fs ∧ (b ∈ X.ex ∨ X.s₀.heap.objs.size ≤ b) ∧ (∀ x c,X.env.cells.lookup x = some c -> c ≠ b) ∧ ∀ p ∈ X.pn ++ pins,p.1 ≠ b
theorem Inv.fpOk {X : Cx} {pins : List (Addr × Obj)} {σ : St} {H H' : Hp} {s : Shared} {b : Addr} (I : Inv X pins σ H s) (hb : s.heap.objs.size ≤ b) (hn : H' b = none) : FpOk X pins H' b := by
 refine ⟨hn,Nat.ne_of_gt (Nat.lt_of_lt_of_le I.lt hb),I.nofs hb,.inr (Nat.le_trans I.sz hb),fun x c e z => ?_,fun p hp z => ?_⟩
 ·obtain ⟨v,q⟩ := I.cell x c e
  exact absurd (Nat.lt_of_lt_of_le q.lt (by rw [z]; exact hb)) (Nat.lt_irrefl _)
 ·exact absurd (Nat.lt_of_lt_of_le (Heap.lt_size (I.pin p hp).1) (by rw [z]; exact hb)) (Nat.lt_irrefl _)
structure Turn (P : Program) (w : World) (K : PySem.W.Frag) (tg : Expr) (J : It) (fp : List Addr) (it : Addr) (tn : Nat -> Heap -> Prop) : Prop where
 mem : it ∈ fp
 obj : ∀ i h,tn i h -> ∀ b ∈ fp,∃ o,h.get? b = some o ∧ ∀ v,o.data ≠ .cell v
 keep : ∀ i h h',tn i h -> (∀ b ∈ fp,∀ o,h.get? b = some o -> h'.get? b = some o) -> tn i h'
 item : ∀ (X : Cx),X.prog = P -> X.w = w -> X.K = K -> X.calm = true -> ∀ (i : Nat) (pins : List (Addr × Obj)) (s : Shared) (σ : St) (H : Hp) (E : Value -> Shared -> Prop),Inv X pins σ H s -> (∀ b ∈ fp,FpOk X pins H b) -> tn i s.heap -> J.go i H ->
  wpAny (model P w) X.A (pyNext (.ref it)) (fun r s1 => ∃ u,r = some u ∧
   wpAny (model P w) X.A (letOwnedTupleGo tg (.ref it) u) (fun _ s2 => ∃ x H',Inv X pins σ H' s2 ∧ RelV x u ∧ J.yld i H x H' ∧ tn (i + 1) s2.heap ∧ ∀ b ∈ fp,H' b = none) E s1) E s
 done : ∀ (X : Cx),X.prog = P -> X.w = w -> X.K = K -> X.calm = true -> ∀ (i : Nat) (pins : List (Addr × Obj)) (s : Shared) (σ : St) (H : Hp) (E : Value -> Shared -> Prop),Inv X pins σ H s -> (∀ b ∈ fp,FpOk X pins H b) -> tn i s.heap -> J.stop i H ->
  wpAny (model P w) X.A (pyNext (.ref it)) (fun r s1 => r = none ∧ Inv X pins σ H s1) E s
 self : ∀ (A : Around) (i : Nat) (s : Shared) (Q : Value -> Shared -> Prop) (E : Value -> Shared -> Prop),tn i s.heap -> Q (.ref it) s -> wpAny (model P w) A (pyIter (.ref it)) Q E s
abbrev TI := St -> Hp -> (It -> Hp -> Prop) -> Prop
def PIE (X : Cx) (pins : List (Addr × Obj)) (σ : St) (tg : Expr) (R : It -> Hp -> Prop) (itv : Value) (s2 : Shared) : Prop :=
 ∃ (it : Addr) (fp : List Addr) (tn : Nat -> Heap -> Prop) (J : It) (H' : Hp),itv = .ref it ∧ Inv X pins σ H' s2 ∧ Turn X.prog X.w X.K tg J fp it tn ∧ tn 0 s2.heap ∧ (∀ b ∈ fp,FpOk X pins H' b) ∧ R J H'
def PI (X : Cx) (tg iter : Expr) (wi : TI) : Prop :=
 ∀ (pins : List (Addr × Obj)) (s : Shared) (σ : St) (H : Hp) (R : It -> Hp -> Prop),Inv X pins σ H s -> wi σ H R ->
  wpAny (model X.prog X.w) X.A (eval iter X.env) (fun v s1 => wpAny (model X.prog X.w) X.A (pyIter v) (PIE X pins σ tg R) X.xe s1) X.xe s
theorem go_of {M : Model} {A : Around} {E : Value → Shared → Prop} {s : Shared} {tg : Expr} {it : Addr} {u : Value} {o : Obj} {n : String} {vs : Array Value} {Q : Unit → Shared → Prop} (ho : s.heap.get? it = some o) (hc : o.cls = .type n) (hd : o.data = .fields vs)
    (hn : ["enumerate", "zip", "dict_itemiterator", "dict_reverseitemiterator", "odict_iterator", "itertools.zip_longest", "itertools.pairwise"].contains n = false) (hQ : Q () s) : wpAny M A (letOwnedTupleGo tg (.ref it) u) Q E s := by
  unfold letOwnedTupleGo
  cases tg <;> first
    | exact wpAny_pure hQ
    | (cases u <;> first
        | exact wpAny_pure hQ
        | (refine wpAny_bind (wpAny_load ho ?_)
           rw [hc, hd]
           show wpAny M A (if (["enumerate", "zip", "dict_itemiterator", "dict_reverseitemiterator", "odict_iterator", "itertools.zip_longest", "itertools.pairwise"].contains n && vs[0]? == some (rawInt _)) = true then _ else _) Q E s
           rw [if_neg (by intro h; rw [hn, Bool.false_and] at h; cases h)]
           exact wpAny_pure hQ))
def Itl (K : PySem.W.Frag) (a : Addr) : It :=
 ⟨fun i H => ∃ xs x,SqL K H a xs ∧ xs[i]? = some x,fun i H x H' => H' = H ∧ ∀ xs,SqL K H a xs -> xs[i]? = some x,fun i H => ∃ xs,SqL K H a xs ∧ xs.length ≤ i⟩
def Itt (K : PySem.W.Frag) (a : Addr) : It :=
 ⟨fun i H => ∃ xs x,SqT K H a xs ∧ xs[i]? = some x,fun i H x H' => H' = H ∧ ∀ xs,SqT K H a xs -> xs[i]? = some x,fun i H => ∃ xs,SqT K H a xs ∧ xs.length ≤ i⟩
def Itr (lo : Int) (n : Nat) : It := ⟨fun i _ => i < n,fun i H x H' => H' = H ∧ x = .int (lo + i),fun i _ => n ≤ i⟩
theorem turn_list {P : Program} {w : World} {K : PySem.W.Frag} {tg : Expr} (a it : Addr) : Turn P w K tg (Itl K a) [it] it (fun i h => h.IsListIter it a i) where
 mem := by simp
 obj := fun i h st b hb => by
  have e : b = it := by simpa using hb
  subst e
  obtain ⟨o,e,c,d⟩ := st
  exact ⟨o,e,fun v z => by rw [d] at z; cases z⟩
 keep := fun i h h' st k => st.at fun o e => k it (by simp) o e
 item := by
  intro X hP hw hK hc i pins s σ H E I hf st hg
  subst hP hw hK
  obtain ⟨xs,x,hq,hx⟩ := hg
  obtain ⟨its,rv,p,hz⟩ := I.list hq
  obtain ⟨u,hu,ru⟩ := rv.get hx
  obtain ⟨f0,f1,f2,f3,f4,f5⟩ := hf it (by simp)
  refine wpAny_pyNext_list_item st p.isList (x := u) (by simpa using hu) fun h' st' sb => ?_
  have I1 : Inv X pins σ H { s with heap := h' } := I.turned (t' := s.toks) (fun b o hb e => (sb.2 b hb).trans e) f0 f1 f3 f4 f5
  obtain ⟨o,e,c,d⟩ := id st'
  exact ⟨u,rfl,go_of (s := { s with heap := h' }) e c d (by decide) ⟨x,H,I1,ru,⟨rfl,fun ys hy => by rw [I.list_inj hy hq]; exact hx⟩,st',fun b hb => (hf b hb).1⟩⟩
 done := by
  intro X hP hw hK hc i pins s σ H E I hf st hg
  subst hP hw hK
  obtain ⟨xs,hq,hx⟩ := hg
  obtain ⟨its,rv,p,hz⟩ := I.list hq
  obtain ⟨f0,f1,f2,f3,f4,f5⟩ := hf it (by simp)
  have hl := rv.length
  exact wpAny_pyNext_list_end (I.ok.hd hc) st p.isList (by simp; omega) fun h' eb => ⟨rfl,I.turned (t' := s.toks) (fun b o hb e => eb b o hb e) f0 f1 f3 f4 f5⟩
 self := fun _ _ _ _ _ st h => wpAny_pyIter_listiter st h
theorem turn_range {P : Program} {w : World} {K : PySem.W.Frag} {tg : Expr} (it : Addr) (lo : Int) (n : Nat) : Turn P w K tg (Itr lo n) [it] it (fun i h => IsRangeIter h it (lo + (i : Nat) * 1) ((n : Int) - (i : Nat)) 1) where
 mem := by simp
 obj := fun i h st b hb => by
  have e : b = it := by simpa using hb
  subst e
  exact ⟨_,st,fun v z => by
   have z' : Data.fields _ = Data.cell v := z
   cases z'⟩
 keep := fun i h h' st k => k it (by simp) _ st
 item := by
  intro X hP hw hK hc i pins s σ H E I hf st hg
  subst hP hw hK
  obtain ⟨f0,f1,f2,f3,f4,f5⟩ := hf it (by simp)
  have W := Walks.range (prog := X.prog) (w := X.w) (I.ok.hd hc) it lo 1 n
  refine W.item i s _ _ hg st fun v h' tk hv st' kk => ?_
  obtain ⟨t,rfl⟩ := hv
  have I1 : Inv X pins σ H { s with heap := h',toks := tk } := I.turned (fun b o hb e => kk b o (by simpa using hb) e) f0 f1 f3 f4 f5
  refine ⟨_,rfl,go_of (s := { s with heap := h',toks := tk }) (n := "range_iterator") st' rfl rfl (by decide) ⟨.int (lo + i),H,I1,⟨t,?_⟩,⟨rfl,rfl⟩,st',fun b hb => (hf b hb).1⟩⟩
  rw [Int.mul_one]
 done := by
  intro X hP hw hK hc i pins s σ H E I hf st hg
  subst hP hw hK
  obtain ⟨f0,f1,f2,f3,f4,f5⟩ := hf it (by simp)
  exact wpAny_pyNext_range_end (I.ok.hd hc) st (by have : n ≤ i := hg; omega) fun h' eb => ⟨rfl,I.turned (t' := s.toks) (fun b o hb e => eb b o hb e) f0 f1 f3 f4 f5⟩
 self := fun _ _ _ _ _ st h => wpAny_pyIter_rangeiter st h
end L2
namespace L2
open PySem PySem.Spec PyProof.Rows
section
variable {X : Cx} {tg : Expr}
def iList (K : PySem.W.Frag) (tl : TE) : TI := fun σ H R => tl σ H fun x H1 => ∃ a,x = .ref a ∧ (∃ xs,SqL K H1 a xs) ∧ R (Itl K a) H1
def iTup (K : PySem.W.Frag) (tl : TE) : TI := fun σ H R => tl σ H fun x H1 => ∃ a,x = .ref a ∧ (∃ xs,SqT K H1 a xs) ∧ R (Itt K a) H1
theorem pi_list {l : Expr} {tl : TE} (hl : PE X l tl) : PI X tg l (iList X.K tl) := by
 intro pins s σ H R I h
 refine thn (hl pins s σ H _ I h) fun v s1 ⟨x,H1,I1,r1,q1⟩ => ?_
 obtain ⟨a,e,⟨xs,hq⟩,q⟩ := q1
 subst e
 cases r1
 obtain ⟨its,rv,p,hz⟩ := I1.list hq
 refine wpAny_pyIter_list p.isList ?_
 refine ⟨s1.heap.objs.size,[s1.heap.objs.size],_,_,H1,rfl,I1.kept (t' := s1.toks) fun b o e => Heap.get?_push_of_some _ e,turn_list a _,⟨_,Heap.get?_push_size _ rfl,rfl,rfl⟩,fun b hb => ?_,q⟩
 have e : b = s1.heap.objs.size := by simpa using hb
 subst e
 exact I1.fpOk (Nat.le_refl _) (I1.hok.fresh (Nat.le_refl _))
theorem range_it {pins : List (Addr × Obj)} {σ : St} {H : Hp} {s : Shared} {R : It -> Hp -> Prop} {E : Value -> Shared -> Prop} {lo hi : Int} {t u v : Tok} {tk : Nat} (I : Inv X pins σ H s) (h1 : -(2 ^ 62) ≤ lo) (h2 : lo < 2 ^ 62) (h3 : -(2 ^ 62) ≤ hi) (h4 : hi < 2 ^ 62)
  (q : R (Itr lo (hi - lo).toNat) H) : wpAny (model X.prog X.w) X.A (pyIter (.ref s.heap.objs.size)) (PIE X pins σ tg R) E { s with heap := s.heap.push { cls := .type "range",data := .fields #[.int lo t,.int hi u,.int 1 v] },toks := tk } := by
 refine wpAny_pyIter_range (IsRange.new ..) (small_one h1 h2 h3 h4) ?_
 have I1 : Inv X pins σ H { s with heap := s.heap.push { cls := .type "range",data := .fields #[.int lo t,.int hi u,.int 1 v] },toks := tk } := I.kept fun b o e => Heap.get?_push_of_some _ e
 refine ⟨(s.heap.push { cls := .type "range",data := .fields #[.int lo t,.int hi u,.int 1 v] }).objs.size,[(s.heap.push { cls := .type "range",data := .fields #[.int lo t,.int hi u,.int 1 v] }).objs.size],_,_,H,rfl,
  I1.kept (t' := tk) fun b o e => Heap.get?_push_of_some _ e,turn_range _ lo (hi - lo).toNat,?_,fun b hb => ?_,q⟩
 ·have e1 : lo + ((0 : Nat) : Int) * 1 = lo := by simp
  have e2 : (((hi - lo).toNat : Nat) : Int) - ((0 : Nat) : Int) = Builtin.Range.rangeSize lo hi 1 := by rw [rangeSize_one]; split <;> omega
  show IsRangeIter _ _ (lo + ((0 : Nat) : Int) * 1) ((((hi - lo).toNat : Nat) : Int) - ((0 : Nat) : Int)) 1
  rw [e1,e2]
  exact Heap.get?_push_size _ rfl
 ·have e : b = (s.heap.push { cls := .type "range",data := .fields #[.int lo t,.int hi u,.int 1 v] }).objs.size := by simpa using hb
  subst e
  exact I1.fpOk (Nat.le_refl _) (I1.hok.fresh (Nat.le_refl _))
def iRng1 (ta : TA) : TI := fun σ H R => ta σ H fun vs H1 => ∃ j : Int,vs = [.int j] ∧ -(2 ^ 62) ≤ j ∧ j < 2 ^ 62 ∧ R (Itr 0 j.toNat) H1
def iRng2 (ta : TA) : TI := fun σ H R => ta σ H fun vs H1 => ∃ i j : Int,vs = [.int i,.int j] ∧ (-(2 ^ 62) ≤ i ∧ i < 2 ^ 62 ∧ -(2 ^ 62) ≤ j ∧ j < 2 ^ 62) ∧ R (Itr i (j - i).toNat) H1
theorem pi_range1 {a : Expr} {ta : TA} {p pos : Pos} (hg : Gl X "range") (hm : X.mg "range" = none) (ha : PA X [a] ta) (hs : starEach [a] X.env = [(false,eval a X.env)] := by rfl) : PI X tg (.Call (.Name "range" p) [a] [] pos) (iRng1 ta) := by
 intro pins s σ H R I h
 refine Call_ (ld_blt I hg hm boot_range (PyProof.Rows.callWith_type1 (thn (ha pos pins s σ H _ I h) fun us s1 ⟨vs,H1,I1,r1,q1⟩ => ?_) hs rfl))
 obtain ⟨j,e,q1,q2,q⟩ := q1
 subst e
 cases r1 with
 | cons r rr =>
  cases rr
  obtain ⟨t,rfl⟩ := r
  exact call_range_1 (range_it I1 (by omega) (by omega) q1 q2 (by simpa using q))
theorem pi_range2 {a b : Expr} {ta : TA} {p pos : Pos} (hg : Gl X "range") (hm : X.mg "range" = none) (ha : PA X [a,b] ta) (hs : starEach [a,b] X.env = [(false,eval a X.env),(false,eval b X.env)] := by rfl) (hs2 : starEach [b] X.env = [(false,eval b X.env)] := by rfl) :
  PI X tg (.Call (.Name "range" p) [a,b] [] pos) (iRng2 ta) := by
 intro pins s σ H R I h
 refine Call_ (ld_blt I hg hm boot_range (PyProof.Rows.callWith_type1 (thn (ha pos pins s σ H _ I h) fun us s1 ⟨vs,H1,I1,r1,q1⟩ => ?_) (by rw [hs,hs2]) (by rw [hs2]; rfl)))
 obtain ⟨i,j,e,⟨q1,q2,q3,q4⟩,q⟩ := q1
 subst e
 cases r1 with
 | cons r rr =>
  cases rr with
  | cons r' rr =>
   cases rr
   obtain ⟨t,rfl⟩ := r
   obtain ⟨t',rfl⟩ := r'
   exact call_range_2 (range_it I1 q1 q2 q3 q4 q)
def tFor (wi : TI) (g : TG) (tb : TS) : TS := fun D σ H => wi σ H fun J H1 => ∃ W : Nat -> Nat -> St -> Hp -> Prop,(∃ m,W 0 m σ H1) ∧ ∀ i m σ H,W i m σ H ->
 (J.stop i H ∧ D.nx σ H) ∨ (J.go i H ∧ ∃ N : St -> Hp -> Prop,(∀ σ' H',N σ' H' -> ∃ m',m' < m ∧ W (i + 1) m' σ' H') ∧ ∀ x H',J.yld i H x H' -> g x σ H' fun σ2 H2 => tb { D with nx := N,ct := N,bk := D.nx } σ2 H2)
def pinsAt (fp : List Addr) (h : Heap) : List (Addr × Obj) := fp.filterMap fun b => (h.get? b).map fun o => (b,o)
theorem mem_pinsAt {fp : List Addr} {h : Heap} {b : Addr} {o : Obj} (hb : b ∈ fp) (e : h.get? b = some o) : (b,o) ∈ pinsAt fp h := List.mem_filterMap.mpr ⟨b,hb,by rw [e]; rfl⟩
theorem of_pinsAt {fp : List Addr} {h : Heap} {p : Addr × Obj} (hp : p ∈ pinsAt fp h) : p.1 ∈ fp ∧ h.get? p.1 = some p.2 := by
 obtain ⟨b,hb,e⟩ := List.mem_filterMap.mp hp
 cases q : h.get? b with
 | none => rw [q] at e; cases e
 | some o =>
  rw [q] at e
  have e' : (b,o) = p := Option.some.inj e
  subst e'
  exact ⟨hb,q⟩
theorem Inv.pinned {pins : List (Addr × Obj)} {σ : St} {H : Hp} {s : Shared} {fp : List Addr} (I : Inv X pins σ H s) (hf : ∀ b ∈ fp,FpOk X pins H b) (ho : ∀ b ∈ fp,∃ o,s.heap.get? b = some o ∧ ∀ v,o.data ≠ .cell v) : Inv X (pins ++ pinsAt fp s.heap) σ H s :=
 I.pins_of fun p hp => (List.mem_append.mp hp).elim (fun z => I.pin p (List.mem_append_right _ z)) fun z => by
  obtain ⟨hb,e⟩ := of_pinsAt z
  obtain ⟨f0,f1,f2,_⟩ := hf p.1 hb
  obtain ⟨o,e',d⟩ := ho p.1 hb
  rw [e] at e'; cases e'
  exact ⟨e,f0,f1,f2,d⟩
theorem Inv.unpinned {pins pl : List (Addr × Obj)} {σ : St} {H : Hp} {s : Shared} (I : Inv X (pins ++ pl) σ H s) : Inv X pins σ H s := I.pins_of fun p hp => I.pin p (List.mem_append_right _ (List.mem_append_left _ hp))
theorem ps_for {iter : Expr} {body : List Stmt} {wi : TI} {g : TG} {tb : TS} {pos : Pos} (hp : PassesOwn (model X.prog X.w) X.A X.env X.xe) (hc : X.calm = true) (hi : PI X tg iter wi) (hg : PG X tg g) (hb : PSs X body tb)
  (hs : ∀ x,foldedSetIterable iter X.env x = pure x := by intro _; rfl) : PS X (.For tg iter body [] pos) (tFor wi g tb) := by
 intro pins s σ H D I h
 refine wpAny_For (thn (hi pins s σ H _ I h) fun v s1 h1 => thn h1 fun itv s2 h2 => ?_) hs
 obtain ⟨it,fp,tn,J,H2,e,I2,T,st2,f2,W,⟨m0,w0⟩,turn⟩ := h2
 subst e
 have stat : ∀ {H' : Hp},(∀ b ∈ fp,H' b = none) -> ∀ b ∈ fp,FpOk X pins H' b := fun hn b hb => ⟨hn b hb,(f2 b hb).2⟩
 refine codeAny_forLoop_any (fun n s' => ∃ i σ' H',Inv X pins σ' H' s' ∧ tn i s'.heap ∧ (∀ b ∈ fp,H' b = none) ∧ W i n σ' H') ?_ m0 ⟨0,σ,H2,I2,st2,fun b hb => (f2 b hb).1,w0⟩
 rintro n s3 ⟨i,σ3,H3,I3,st3,fr3,w3⟩
 rcases turn i n σ3 H3 w3 with ⟨stop,qn⟩ | ⟨go,N,hN,step⟩
 ·refine wpAny_passesOwn hp (thn (T.done X rfl rfl rfl hc i pins s3 σ3 H3 X.xe I3 (stat fr3) st3 stop) fun r s4 ⟨hr,I4⟩ => ?_)
  subst hr
  exact wpAny_execs_nil ⟨σ3,H3,I4,qn⟩
 ·refine wpAny_passesOwn hp (thn (T.item X rfl rfl rfl hc i pins s3 σ3 H3 X.xe I3 (stat fr3) st3 go) fun r s4 ⟨u,hr,h4⟩ => ?_)
  subst hr
  refine wpAny_passesOwn hp (thn h4 fun _ s5 ⟨x,H5,I5,r5,y5,st5,fr5⟩ => ?_)
  have I5' := I5.pinned (stat fr5) (T.obj _ _ st5)
  refine wpAny_passesOwn hp (thn (hg _ s5 σ3 H5 x u _ I5' r5 (step x H5 y5)) fun _ s6 ⟨σ6,H6,I6,q6⟩ => ?_)
  refine wpAny_passesOwn hp (thn (hb _ s6 σ6 H6 _ I6 q6) fun f s7 q7 => ?_)
  have again : ∀ {σ7 : St} {H7 : Hp},Inv X (pins ++ pinsAt fp s5.heap) σ7 H7 s7 -> N σ7 H7 -> ∃ m,m < n ∧ ∃ i σ' H',Inv X pins σ' H' s7 ∧ tn i s7.heap ∧ (∀ b ∈ fp,H' b = none) ∧ W i m σ' H' := fun {σ7 H7} I7 n7 => by
   obtain ⟨m',hm,w7⟩ := hN σ7 H7 n7
   refine ⟨m',hm,i + 1,σ7,H7,I7.unpinned,T.keep _ _ _ st5 fun b hb o e => (I7.pin (b,o) (List.mem_append_right _ (List.mem_append_right _ (mem_pinsAt hb e)))).1,fun b hb => ?_,w7⟩
   obtain ⟨o,e,d⟩ := T.obj _ _ st5 b hb
   exact (I7.pin (b,o) (List.mem_append_right _ (List.mem_append_right _ (mem_pinsAt hb e)))).2.1
  cases f with
  | next => obtain ⟨σ7,H7,I7,n7⟩ := q7; exact again I7 n7
  | cont => obtain ⟨σ7,H7,I7,n7⟩ := q7; exact again I7 n7
  | brk => obtain ⟨σ7,H7,I7,q7⟩ := q7; exact ⟨σ7,H7,I7.unpinned,q7⟩
  | ret v => obtain ⟨x7,σ7,H7,I7,r7,q7⟩ := q7; exact ⟨x7,σ7,H7,I7.unpinned,r7,q7⟩
end
end L2
namespace L2
open PySem PySem.Spec PyProof.Rows
abbrev R2 := V -> V -> Hp -> VK -> Prop
def OpR (X : Cx) (f : Value -> Value -> Sem Value) (r : R2) : Prop :=
 ∀ (pins : List (Addr × Obj)) (s : Shared) (σ : St) (H : Hp) (x y : V) (v u : Value) (Q : VK),Inv X pins σ H s -> RelV x v -> RelV y u -> r x y H Q ->
  wpAny (model X.prog X.w) X.A (f v u) (EP X pins σ Q) X.xe s
def UnR (X : Cx) (f : Value -> Sem Value) (r : V -> Hp -> VK -> Prop) : Prop :=
 ∀ (pins : List (Addr × Obj)) (s : Shared) (σ : St) (H : Hp) (x : V) (v : Value) (Q : VK),Inv X pins σ H s -> RelV x v -> r x H Q ->
  wpAny (model X.prog X.w) X.A (f v) (EP X pins σ Q) X.xe s
def CallR (X : Cx) (f : Value) (r : List V -> Hp -> VK -> Prop) : Prop :=
 ∀ (pins : List (Addr × Obj)) (s : Shared) (σ : St) (H : Hp) (xs : List V) (us : List Value) (Q : VK),Inv X pins σ H s -> Vals xs us -> r xs H Q ->
  wpAny (model X.prog X.w) X.A (call f us) (EP X pins σ Q) X.xe s
def TruR (X : Cx) (r : V -> Hp -> (Bool -> Hp -> Prop) -> Prop) : Prop :=
 ∀ (pins : List (Addr × Obj)) (s : Shared) (σ : St) (H : Hp) (x : V) (v : Value) (Q : Bool -> Hp -> Prop),Inv X pins σ H s -> RelV x v -> r x H Q ->
  wpAny (model X.prog X.w) X.A (truthy v) (TP X pins σ Q) X.xe s
def tOp (r : R2) (ta tb : TE) : TE := fun σ H Q => ta σ H fun x H1 => tb σ H1 fun y H2 => r x y H2 Q
def tUn (r : V -> Hp -> VK -> Prop) (ta : TE) : TE := fun σ H Q => ta σ H fun x H1 => r x H1 Q
def rI (C : Int -> Int -> Prop) (g : Int -> Int -> V) : R2 := fun x y H Q => ∃ i j,x = .int i ∧ y = .int j ∧ C i j ∧ Q (g i j) H
def rI0 (g : Int -> Int -> V) : R2 := fun x y H Q => ∃ i j,x = .int i ∧ y = .int j ∧ Q (g i j) H
def rU (g : Int -> V) : V -> Hp -> VK -> Prop := fun x H Q => ∃ i,x = .int i ∧ Q (g i) H
section
variable {X : Cx} {a b c : Expr} {ta tb tc : TE} {pos : Pos}
theorem binT (ha : PE X a ta) (hb : PE X b tb) {pins : List (Addr × Obj)} {s : Shared} {σ : St} {H : Hp} {R : V -> V -> Hp -> Prop} (I : Inv X pins σ H s)
  (h : ta σ H fun x H1 => tb σ H1 fun y H2 => R x y H2) {Q : Value -> Shared -> Prop} {f : Value -> Value -> Sem Value}
  (hf : ∀ v u s2 x y H2,Inv X pins σ H2 s2 -> RelV x v -> RelV y u -> R x y H2 -> wpAny (model X.prog X.w) X.A (f v u) Q X.xe s2) :
  wpAny (model X.prog X.w) X.A (eval a X.env) (fun v s₁ => wpAny (model X.prog X.w) X.A (eval b X.env) (fun u s₂ => wpAny (model X.prog X.w) X.A (f v u) Q X.xe s₂) X.xe s₁) X.xe s := by
 refine thn (ha pins s σ H _ I h) fun v s1 ⟨x,H1,I1,r1,q1⟩ => ?_
 refine thn (hb pins s1 σ H1 _ I1 q1) fun u s2 ⟨y,H2,I2,r2,q2⟩ => ?_
 exact hf v u s2 x y H2 I2 r1 r2 q2
theorem pe_op {op : Operator} {r : R2} (ho : OpR X (binaryOp op) r) (ha : PE X a ta) (hb : PE X b tb) : PE X (.BinOp a op b pos) (tOp r ta tb) := by
 intro pins s σ H Q I h
 exact wpAny_BinOp (binT ha hb I h fun v u s2 x y H2 I2 rx ry q => ho pins s2 σ H2 x y v u Q I2 rx ry q)
theorem pe_un {op : UnaryOp} {r : V -> Hp -> VK -> Prop} (ho : UnR X (unaryOp op) r) (ha : PE X a ta) : PE X (.UnaryOp op a pos) (tUn r ta) := by
 intro pins s σ H Q I h
 exact UnaryOp_ (thn (ha pins s σ H _ I h) fun v s1 ⟨x,H1,I1,r1,q1⟩ => ho pins s1 σ H1 x v Q I1 r1 q1)
theorem opI {f : Value -> Value -> Sem Value} {C : Int -> Int -> Prop} {g : Int -> Int -> Int}
  (rule : ∀ (i j : Int) (t u : Tok) (s : Shared) (Q : Value -> Shared -> Prop) (E : Value -> Shared -> Prop),C i j -> Q (.int (g i j) s.toks) { s with toks := s.toks + 1 } -> wpAny (model X.prog X.w) X.A (f (.int i t) (.int j u)) Q E s) :
  OpR X f (rI C fun i j => .int (g i j)) := by
 intro pins s σ H x y v u Q I rx ry h
 obtain ⟨i,j,rfl,rfl,hc,q⟩ := h
 obtain ⟨t,rfl⟩ := rx
 obtain ⟨t',rfl⟩ := ry
 exact rule i j t t' s _ _ hc ⟨.int (g i j),H,I.tok _,⟨_,rfl⟩,q⟩
theorem opI0 {f : Value -> Value -> Sem Value} {g : Int -> Int -> Int}
  (rule : ∀ (i j : Int) (t u : Tok) (s : Shared) (Q : Value -> Shared -> Prop) (E : Value -> Shared -> Prop),Q (.int (g i j) s.toks) { s with toks := s.toks + 1 } -> wpAny (model X.prog X.w) X.A (f (.int i t) (.int j u)) Q E s) :
  OpR X f (rI0 fun i j => .int (g i j)) := by
 intro pins s σ H x y v u Q I rx ry h
 obtain ⟨i,j,rfl,rfl,q⟩ := h
 obtain ⟨t,rfl⟩ := rx
 obtain ⟨t',rfl⟩ := ry
 exact rule i j t t' s _ _ ⟨.int (g i j),H,I.tok _,⟨_,rfl⟩,q⟩
theorem opB0 {f : Value -> Value -> Sem Value} {g : Int -> Int -> Bool}
  (rule : ∀ (i j : Int) (t u : Tok) (s : Shared) (Q : Value -> Shared -> Prop) (E : Value -> Shared -> Prop),Q (.bool (g i j)) s -> wpAny (model X.prog X.w) X.A (f (.int i t) (.int j u)) Q E s) :
  OpR X f (rI0 fun i j => .bl (g i j)) := by
 intro pins s σ H x y v u Q I rx ry h
 obtain ⟨i,j,rfl,rfl,q⟩ := h
 obtain ⟨t,rfl⟩ := rx
 obtain ⟨t',rfl⟩ := ry
 exact rule i j t t' s _ _ ⟨.bl (g i j),H,I,rfl,q⟩
def CDiv (i j : Int) : Prop := 0 < j ∧ j < 1073741824
def CDivN (i j : Int) : Prop := j ≠ 0 ∧ j.natAbs < 1073741824
def CPow (i j : Int) : Prop := 0 ≤ j ∧ j ≤ 1000000 ∧ i.natAbs < 2 ^ 64
def CMul (i j : Int) : Prop := (-(2 ^ 64) < i ∧ i < 2 ^ 64) ∨ (-(2 ^ 64) < j ∧ j < 2 ^ 64)
theorem CMul.ok {i j : Int} (h : CMul i j) : IntMulOk i j := by
 rcases h with ⟨h1,h2⟩ | ⟨h1,h2⟩
 ·exact .of_left (intBits_le_64 h1 h2)
 ·exact .of_right (intBits_le_64 h1 h2)
theorem op_add : OpR X (binaryOp .Add) (rI0 fun i j => .int (i + j)) := opI0 fun _ _ _ _ _ _ _ q => add_int q
theorem op_sub : OpR X (binaryOp .Sub) (rI0 fun i j => .int (i - j)) := opI0 fun _ _ _ _ _ _ _ q => sub_int q
theorem op_mul : OpR X (binaryOp .Mult) (rI CMul fun i j => .int (i * j)) := opI fun _ _ _ _ _ _ _ hc q => mul_int q hc.ok
theorem op_mod : OpR X (binaryOp .Mod) (rI (fun _ j => 0 < j) fun i j => .int (i % j)) := opI fun i j _ _ _ _ _ hc q => by
 have h1 : (0 : Int) < j := hc
 exact mod_int' (by omega) (by rw [Int.fmod_eq_emod_of_nonneg i (by omega)]; exact q)
theorem op_pow : OpR X (binaryOp .Pow) (rI CPow fun i j => .int (i ^ j.toNat)) := opI fun _ _ _ _ _ _ _ hc q => pow_int_small hc.1 hc.2.1 hc.2.2 q
theorem op_shl : OpR X (binaryOp .LShift) (rI CPow fun i j => .int (i * 2 ^ j.toNat)) := opI fun _ _ _ _ _ _ _ hc q => lshift_int_small hc.1 hc.2.1 hc.2.2 q
theorem op_xor : OpR X (binaryOp .BitXor) (rI0 fun i j => .int (Builtin.bitXor i j)) := opI0 fun _ _ _ _ _ _ _ q => xor_int q
theorem unI {f : Value -> Sem Value} {g : Int -> Int}
  (rule : ∀ (i : Int) (t : Tok) (s : Shared) (Q : Value -> Shared -> Prop) (E : Value -> Shared -> Prop),Q (.int (g i) s.toks) { s with toks := s.toks + 1 } -> wpAny (model X.prog X.w) X.A (f (.int i t)) Q E s) :
  UnR X f (rU fun i => .int (g i)) := by
 intro pins s σ H x v Q I rx h
 obtain ⟨i,rfl,q⟩ := h
 obtain ⟨t,rfl⟩ := rx
 exact rule i t s _ _ ⟨.int (g i),H,I.tok _,⟨_,rfl⟩,q⟩
theorem un_neg : UnR X (unaryOp .USub) (rU fun i => .int (-i)) := unI fun _ _ _ _ _ q => neg_int q
end
def scal : V -> V -> Bool
 | .non,.non => true | .non,.int _ => true | .int _,.non => true | .non,.bl _ => true | .bl _,.non => true | .non,.str _ => true | .str _,.non => true
 | .int _,.int _ => true | .bl _,.bl _ => true | .str _,.str _ => true | .byt _,.byt _ => true
 | .int _,.str _ => true | .str _,.int _ => true | .bl _,.str _ => true | .str _,.bl _ => true
 | _,_ => false
def rEq : R2 := fun x y H Q => scal x y = true ∧ Q (.bl (decide (x = y))) H
def rNe : R2 := fun x y H Q => scal x y = true ∧ Q (.bl (!decide (x = y))) H
section
variable {X : Cx} {a b c : Expr} {ta tb tc : TE} {pos : Pos}
theorem op_lt : OpR X (compareOp .Lt) (rI0 fun i j => .bl (decide (i < j))) := opB0 fun _ _ _ _ _ _ _ q => lt_int q
theorem op_le : OpR X (compareOp .LtE) (rI0 fun i j => .bl (decide (i ≤ j))) := opB0 fun _ _ _ _ _ _ _ q => le_int q
theorem op_gt : OpR X (compareOp .Gt) (rI0 fun i j => .bl (decide (j < i))) := opB0 fun _ _ _ _ _ _ _ q => gt_int q
def isObj : HO -> Bool
 | .lst _ => true
 | .ins _ _ _ => true
 | _ => false
theorem OpR.or {f : Value -> Value -> Sem Value} {r r' : R2} (h : OpR X f r) (h' : OpR X f r') : OpR X f (fun x y H Q => r x y H Q ∨ r' x y H Q) := by
 intro pins s σ H x y v u Q I rx ry q
 rcases q with q | q
 ·exact h pins s σ H x y v u Q I rx ry q
 ·exact h' pins s σ H x y v u Q I rx ry q
theorem nomark (b : Expr) {op : CmpOp} (h : op ≠ .In := by decide) (h2 : op ≠ .NotIn := by decide) : behindInMarks op b = false := by
 have e1 : (op == CmpOp.In) = false := by cases op <;> first | rfl | exact absurd rfl h
 have e2 : (op == CmpOp.NotIn) = false := by cases op <;> first | rfl | exact absurd rfl h2
 cases b <;> simp [behindInMarks,e1,e2]
theorem pe_cmpR {op : CmpOp} {r : R2} (ho : OpR X (compareOp op) r) (ha : PE X a ta) (hb : PE X b tb) (hm : behindInMarks op b = false) : PE X (.Compare a [op] [b] pos) (tOp r ta tb) := by
 intro pins s σ H Q I h
 exact wpAny_Compare1 (binT ha hb I h fun v u s2 x y H2 I2 rx ry q => ho pins s2 σ H2 x y v u Q I2 rx ry q) hm
def tTest (t : TE) : TT := fun σ H Q => t σ H fun x H' => ∃ k,x = .bl k ∧ Q k H'
theorem pt_cmpR {op : CmpOp} {r : R2} (ho : OpR X (compareOp op) r) (ha : PE X a ta) (hb : PE X b tb) (hm : behindInMarks op b = false) : PT X (.Compare a [op] [b] pos) (tTest (tOp r ta tb)) := by
 intro pins s σ H Q I h
 refine wpAny_isTrue_Compare1 (thn (ha pins s σ H _ I h) fun v s1 ⟨x,H1,I1,r1,q1⟩ => thn (hb pins s1 σ H1 _ I1 q1) fun u s2 ⟨y,H2,I2,r2,q2⟩ =>
  thn (ho pins s2 σ H2 x y v u _ I2 r1 r2 q2) fun c s3 ⟨z,H3,I3,r3,k,e,q3⟩ => ?_) hm
 subst e
 cases r3
 exact wpAny_truthy_bool ⟨H3,I3,q3⟩
def tChain (r r' : R2) (ta tb tc : TE) : TE := fun σ H Q => ta σ H fun x H1 => tb σ H1 fun y H2 => r x y H2 fun z H3 => ∃ k,z = .bl k ∧
 (if k = true then tc σ H3 fun w' H4 => r' y w' H4 Q else Q (.bl false) H3)
theorem pe_chain {op op' : CmpOp} {r r' : R2} (ho : OpR X (compareOp op) r) (ho' : OpR X (compareOp op') r') (ha : PE X a ta) (hb : PE X b tb) (hc : PE X c tc)
  (hm : lastMarks [op,op'] [b,c] = false := by with_unfolding_all rfl) : PE X (.Compare a [op,op'] [b,c] pos) (tChain r r' ta tb tc) := by
 intro pins s σ H Q I h
 refine Compare_chain (thn (ha pins s σ H _ I h) fun v s1 ⟨x,H1,I1,r1,q1⟩ => chain_link (thn (hb pins s1 σ H1 _ I1 q1) fun u s2 ⟨y,H2,I2,r2,q2⟩ =>
  thn (ho pins s2 σ H2 x y v u _ I2 r1 r2 q2) fun d s3 ⟨z,H3,I3,r3,k,e,q3⟩ => ?_)) hm
 subst e
 cases r3
 refine wpAny_truthy_bool ?_
 cases k with
 | false => exact ite_ff ⟨.bl false,H3,I3,rfl,q3⟩
 | true => exact ite_tt (chain_last (thn (hc pins s3 σ H3 _ I3 q3) fun w' s4 ⟨z',H4,I4,r4,q4⟩ => ho' pins s4 σ H4 y z' u w' Q I4 r2 r4 q4))
def TruV (K : PySem.W.Frag) (x : V) (H : Hp) (k : Bool) : Prop :=
 match x with
 | .non => k = false
 | .bl b => k = b
 | .int i => k = (i != 0)
 | .str y => y.length ≤ sizeLine ∧ k = ((y.length : Int) != 0)
 | .byt y => y.size ≤ sizeLine ∧ k = ((y.size : Int) != 0)
 | .ref p => (∃ xs,SqL K H p xs ∧ k = !xs.isEmpty) ∨ (∃ xs,SqT K H p xs ∧ k = !xs.isEmpty) ∨ ∃ kvs,H p = some (.dK kvs) ∧ k = !kvs.isEmpty
 | _ => False
theorem isEmpty_kv {κ : Type} {kvs : List (κ × V)} {vs : List (κ × Value)} (r : KV kvs vs) : (!vs.isEmpty) = !kvs.isEmpty := by
 cases r <;> rfl
theorem isEmpty_of {xs : List V} {its : List Value} (r : Vals xs its) : (!its.toArray.isEmpty) = !xs.isEmpty := by
 cases r <;> simp
theorem line63 : (sizeLine : Nat) < 2 ^ 63 := by rw [sizeLine_eq]; decide
theorem tru_ok : TruR X (fun x H Q => ∃ k,TruV X.K x H k ∧ Q k H) := by
 intro pins s σ H x v Q I rx h
 obtain ⟨k,e,q⟩ := h
 have hl := line63
 have hs : sizeLine = 16777216 := sizeLine_eq
 cases x with
 | non =>
  cases rx
  have e' : k = false := e
  subst e'
  exact truthy_none ⟨H,I,q⟩
 | bl b =>
  cases rx
  have e' : k = b := e
  subst e'
  exact wpAny_truthy_bool ⟨H,I,q⟩
 | int i =>
  obtain ⟨t,rfl⟩ := rx
  have e' : k = (i != 0) := e
  subst e'
  exact PySem.P.truthy_int ⟨H,I,q⟩
 | str y =>
  obtain ⟨t,rfl⟩ := rx
  obtain ⟨hy,e'⟩ : y.length ≤ sizeLine ∧ k = ((y.length : Int) != 0) := e
  subst e'
  exact PySem.P.truthy_str (by omega) ⟨H,I.tok _,q⟩
 | byt y =>
  obtain ⟨t,rfl⟩ := rx
  obtain ⟨hy,e'⟩ : y.size ≤ sizeLine ∧ k = ((y.size : Int) != 0) := e
  subst e'
  exact PySem.W.truthy_bytes (by omega) ⟨H,I.tok _,q⟩
 | ref p =>
  cases rx
  have e' : (∃ xs,SqL X.K H p xs ∧ k = !xs.isEmpty) ∨ (∃ xs,SqT X.K H p xs ∧ k = !xs.isEmpty) ∨ ∃ kvs,H p = some (.dK kvs) ∧ k = !kvs.isEmpty := e
  rcases e' with ⟨xs,hx,e'⟩ | ⟨xs,hx,e'⟩ | ⟨kvs,hx,e'⟩
  ·subst e'
   obtain ⟨its,r,pl,hz⟩ := I.list hx
   have hlen := r.length
   exact wpAny_truthy_list pl.isList (by simp only [List.size_toArray]; omega) ⟨H,I.tok _,by rw [isEmpty_of r]; exact q⟩
  ·subst e'
   obtain ⟨its,r,pl,hz⟩ := I.tuple hx
   have hlen := r.length
   exact truthy_tuple pl (by simp only [List.size_toArray]; omega) ⟨H,I.tok _,by rw [isEmpty_of r]; exact q⟩
  ·subst e'
   obtain ⟨hz,hS,vs,r,m⟩ : kvs.length ≤ sizeLine ∧ (p == sysModules) = false ∧ ∃ vs,KV kvs vs ∧ s.heap.DictOf (mixKind X.prog X.w) p vs := I.hok p _ hx
   have hlen : kvs.length = vs.length := Paired.length r
   exact wpAny_truthy_dict hS m (by omega) ⟨H,I.tok _,by rw [isEmpty_kv r]; exact q⟩
 | _ => exact (show False from e).elim
theorem pt_truth (ha : PE X a ta) (he : ∀ whole,isTrue a X.env whole = (do let v ← whole; standAt a.pos; holding [v] (truthy v))) :
  PT X a (fun σ H Q => ta σ H fun x H' => ∃ k,TruV X.K x H' k ∧ Q k H') := by
 intro pins s σ H Q I h
 exact isTrue_plain (thn (ha pins s σ H _ I h) fun v s1 ⟨x,H1,I1,r1,q1⟩ => tru_ok pins s1 σ H1 x v Q I1 r1 q1) (he _)
theorem op_add_str : OpR X (binaryOp .Add) (fun x y H Q => ∃ i j,x = .str i ∧ y = .str j ∧ i.length + j.length ≤ sizeLine ∧ Q (.str (i ++ j)) H) := by
 intro pins s σ H x y v u Q I rx ry h
 obtain ⟨i,j,rfl,rfl,hz,q⟩ := h
 obtain ⟨t,rfl⟩ := rx
 obtain ⟨t',rfl⟩ := ry
 exact add_str (fun t' tk => ⟨.str (i ++ j),H,I.tok _,⟨_,rfl⟩,q⟩) hz
def PlainIxT (b : Expr) : Prop := ∀ o i,subscripted b false o i = operate [o,i] (getItem o i)
theorem vals1 {x : V} {us : List Value} (r : Vals [x] us) : ∃ u,us = [u] ∧ RelV x u := by
 cases r with
 | cons r1 r2 => cases r2; exact ⟨_,rfl,r1⟩
theorem vals2 {x y : V} {us : List Value} (r : Vals [x,y] us) : ∃ u w',us = [u,w'] ∧ RelV x u ∧ RelV y w' := by
 cases r with
 | cons r1 r2 =>
  cases r2 with
  | cons r3 r4 => cases r4; exact ⟨_,_,rfl,r1,r3⟩
theorem call_max2 (hc : X.calm = true) : CallR X (.builtin "max") (fun xs H Q => ∃ i j,xs = [.int i,.int j] ∧ Q (.int (if j > i then j else i)) H) := by
 intro pins s σ H xs us Q I r h
 obtain ⟨i,j,rfl,q⟩ := h
 obtain ⟨u,w',rfl,⟨t,rfl⟩,⟨t',rfl⟩⟩ := vals2 r
 refine max_two_ints (I.ok.hd hc) fun h' tk k => ⟨_,H,I.kept k,?_,q⟩
 by_cases hj : j > i
 ·rw [if_pos hj,if_pos hj]; exact ⟨_,rfl⟩
 ·rw [if_neg hj,if_neg hj]; exact ⟨_,rfl⟩
theorem call_min2 (hc : X.calm = true) : CallR X (.builtin "min") (fun xs H Q => ∃ i j,xs = [.int i,.int j] ∧ Q (.int (if j < i then j else i)) H) := by
 intro pins s σ H xs us Q I r h
 obtain ⟨i,j,rfl,q⟩ := h
 obtain ⟨u,w',rfl,⟨t,rfl⟩,⟨t',rfl⟩⟩ := vals2 r
 refine min_two_ints (I.ok.hd hc) fun h' tk k => ⟨_,H,I.kept k,?_,q⟩
 by_cases hj : j < i
 ·rw [if_pos hj,if_pos hj]; exact ⟨_,rfl⟩
 ·rw [if_neg hj,if_neg hj]; exact ⟨_,rfl⟩
def LenV (K : PySem.W.Frag) (x : V) (H : Hp) (n : Nat) : Prop :=
 match x with
 | .str y => y.length ≤ sizeLine ∧ n = y.length
 | .byt y => y.size ≤ sizeLine ∧ n = y.size
 | .ref p => (∃ xs,SqL K H p xs ∧ n = xs.length) ∨ ∃ xs,SqT K H p xs ∧ n = xs.length
 | _ => False
end
end L2
namespace L2
open PySem PySem.Spec PyProof.Rows
structure ObjM (h : Heap) (x dx C : Addr) (mA : Str -> Option Value) : Prop where
 obj : h.get? x = some (PySem.W.instObj C dx)
 ns : h.Ns1 dx mA
 ne : dx ≠ x
theorem lookIn_ns {h : Heap} {dx : Addr} {mA : Str -> Option Value} (n : h.Ns1 dx mA) : ∃ od,h.get? dx = some od ∧ ∀ name,PySem.W.lookIn name od = some (mA name) := by
 obtain ⟨o,es,ep,ho,hd,hk,_,hm⟩ := n
 refine ⟨o,ho,fun name => ?_⟩
 have e := hm name
 unfold nsFind findBy at e
 rw [← Array.find?_toList] at e
 unfold PySem.W.lookIn
 rw [hd]
 dsimp only
 split
 ·rename_i y q
  rw [q] at e
  exact congrArg some e
 ·rename_i q
  rw [q] at e
  have a : es.toList.any (·.refKey) = false := by
   rw [List.any_eq_false]
   intro y hy
   obtain ⟨z,t,hkey⟩ := hk y (Array.mem_toList_iff.mp hy)
   simp [DictEntry.refKey,hkey]
  have a' : ¬ es.toList.any (·.refKey) = true := by rw [a]; exact Bool.false_ne_true
  rw [if_neg a']
  exact congrArg some e
theorem ObjM.look {h : Heap} {x dx C : Addr} {mA : Str -> Option Value} (I : ObjM h x dx C mA) : ∃ od,PySem.W.InstAt h x (PySem.W.instObj C dx) C (some od) ∧ ∀ name,PySem.W.lookIn name od = some (mA name) :=
 let ⟨od,ho,hl⟩ := lookIn_ns I.ns
 ⟨od,⟨I.obj,rfl,rfl,ho⟩,hl⟩
section
variable {prog : Program} {w : World} {A : Around} {E : Value -> Shared -> Prop} {s : Shared} {K : PySem.W.Frag} {x dx C f : Addr} {mA : Str -> Option Value} {name : Str} {v : Value}
theorem get_meth {pl : Sem Bool} {Q : Value × List Value -> Shared -> Prop} (X : K.In s.heap) (I : ObjM s.heap x dx C mA) (hg : PySem.W.plainGet K C name = true)
  (hf : PySem.W.findIn K (.ref C) name = some (some (.ref f))) (ht : PySem.W.isFn K (.ref f) = true) (hv : mA name = none) (h : Q (.ref f,[.ref x]) s) :
  wpAny (model prog w) A (getMethod (.ref x) name pl) Q E s := by
 obtain ⟨od,J,hl⟩ := I.look
 exact PySem.W.method_fn X J (PySem.W.plainGet_of hg).1 (PySem.W.plainGet_of hg).2 hf (beq_iff_eq.mp ht) (by show (PySem.W.lookIn name od).map (·.isSome) = some false; rw [hl,hv]; rfl) h
theorem make_map0 {R : Result -> Shared -> Prop} (X : K.In s.heap) (hm : PySem.W.makesIn K C = true)
  (hi : PySem.W.findIn K (.ref C) "__init__" = some (some (.builtin "object.__init__")))
  (hb : ∀ self,PySem.W.Looks (model prog w) s.heap (bindSpecial (.builtin "object.__init__") self) (.builtin "object.__init__",[self]))
  (h : codeAny (model prog w) (A.under (.builtin "type.__call__" ⟨[.ref C],[]⟩)) (.call (.builtin "object.__init__") ⟨[.ref (s.heap.objs.size + 1)],[]⟩) (PySem.W.InitBack (s.heap.objs.size + 1) R)
   { s with heap := (s.heap.push PySem.W.emptyDict).push (PySem.W.instObj C s.heap.objs.size) }) :
  codeAny (model prog w) A (.call (.ref C) ⟨[],[]⟩) R s := by
 obtain ⟨hh,g,d,t,os⟩ := s
 exact PySem.W.make_core (PySem.W.makes_of X hm) (PySem.W.looks_findIn X hi) hb (.inr ⟨rfl,rfl⟩) h
end
def putF (f : Str) (v : V) : List (Str × V) -> List (Str × V)
 | [] => [(f,v)]
 | (g,x) :: r => if g = f then (g,v) :: r else (g,x) :: putF f v r
theorem RelO.none_of {o : Option Value} (r : RelO none o) : o = none := by
 cases o with
 | none => rfl
 | some u => exact (show False from r).elim
section
variable {P : Program} {w : World} {H H' : Hp} {h h' : Heap} {a C dx : Addr} {fs fs' : List (Str × V)}
theorem ins_get (hok : HOk P w H h) (e : H a = some (.ins C dx fs)) : ∃ mA,ObjM h a dx C mA ∧ (∀ f,RelO (fs.lookup f) (mA f)) ∧ PySem.Within mA (fs.map (·.1)) ∧ fs.length ≤ 1000 ∧ H dx = some (.own a) := by
 obtain ⟨d,z,ne,ob,mA,n,r,q⟩ := (show ObjOk P w H h a (.ins C dx fs) from hok a _ e)
 exact ⟨mA,⟨ob,n,ne⟩,r,q,z,d⟩
end
structure Cls (K : PySem.W.Frag) (C : Addr) : Prop where
 pg : PySem.W.plainGet K C Str.empty = true
 hd : PySem.W.hasDictIn K C = true
 po : PySem.W.plainOver K C = true
 sa : PySem.W.findIn K (.ref C) "__setattr__" = some (some (.builtin "object.__setattr__"))
theorem Cls.get {K : PySem.W.Frag} {C : Addr} (c : Cls K C) (f : Str) : PySem.W.plainGet K C f = true := c.pg
def NoAttr (K : PySem.W.Frag) (C : Addr) (f : Str) : Prop := PySem.W.findIn K (.ref C) f = some none
structure Con (K : PySem.W.Frag) (C : Addr) (f : Str) (v : V) (u : Value) : Prop where
 at_ : PySem.W.findIn K (.ref C) f = some (some u)
 rel : RelV v u
 get : PySem.W.specialIn K u "__get__" = some none
 cp : PySem.W.copiedNames.contains f = false
structure Meth (K : PySem.W.Frag) (C : Addr) (m : Str) (f : Addr) : Prop where
 at_ : PySem.W.findIn K (.ref C) m = some (some (.ref f))
 fn : PySem.W.isFn K (.ref f) = true
 kp : PySem.W.keepIn K (.ref f) = true
section
variable {X : Cx} {pins : List (Addr × Obj)} {σ : St} {H : Hp} {s : Shared} {a C dx : Addr} {fs : List (Str × V)} {f : Str} {v : V} {A : Around} {E : Value -> Shared -> Prop}
theorem getmeth_ok {m : Str} {g : Addr} {pl : Sem Bool} {Q : Value × List Value -> Shared -> Prop} (I : Inv X pins σ H s) (e : H a = some (.ins C dx fs)) (c : Cls X.K C) (k : Meth X.K C m g) (l : fs.lookup m = none)
  (h : Q (.ref g,[.ref a]) s) : wpAny (model X.prog X.w) A (getMethod (.ref a) m pl) Q E s := by
 obtain ⟨mA,O,r,_,_,_⟩ := ins_get I.hok e
 have hn : mA m = none := RelO.none_of (by rw [← l]; exact r m)
 exact get_meth I.kIn O (c.get m) k.at_ k.fn hn h
theorem Inv.made (I : Inv X pins σ H s) : Inv X pins σ (upd (upd H s.heap.objs.size (.own (s.heap.objs.size + 1))) (s.heap.objs.size + 1) (.ins C s.heap.objs.size []))
  { s with heap := (s.heap.push PySem.W.emptyDict).push (PySem.W.instObj C s.heap.objs.size) } := by
 have e1 : (s.heap.push PySem.W.emptyDict).get? s.heap.objs.size = some PySem.W.emptyDict := Heap.get?_push_size s.heap rfl
 have e2 : ((s.heap.push PySem.W.emptyDict).push (PySem.W.instObj C s.heap.objs.size)).get? (s.heap.objs.size + 1) = some (PySem.W.instObj C s.heap.objs.size) := by
  have := Heap.get?_push_size (s.heap.push PySem.W.emptyDict) (o := PySem.W.instObj C s.heap.objs.size) rfl
  rwa [Heap.size_push] at this
 have e3 : (s.heap.push PySem.W.emptyDict).Ns s.heap.objs.size (fun _ => none) := ⟨PySem.W.emptyDict,#[],_,e1,rfl,(fun e he => absurd he (by simp)),fun _ => rfl⟩
 have I1 := I.laid (a := s.heap.objs.size) (o := .own (s.heap.objs.size + 1)) (h' := s.heap.push PySem.W.emptyDict) (t' := s.toks) (fun b u q => Heap.get?_push_of_some _ q) (Nat.le_refl _) ⟨_,e1⟩
 refine I1.laid (a := s.heap.objs.size + 1) (o := .ins C s.heap.objs.size []) (t' := s.toks) (fun b u q => Heap.get?_push_of_some _ q) (Nat.le_of_eq (Heap.size_push _ _)) ?_
 have ne : s.heap.objs.size ≠ s.heap.objs.size + 1 := Nat.ne_of_lt (Nat.lt_succ_self _)
 refine ⟨by rw [upd_ne ne,upd_same],Nat.zero_le _,ne,e2,fun _ => none,(Heap.Ns1.of_empty e3).at fun o q => Heap.get?_push_of_some _ q,fun _ => True.intro,fun y hy => absurd rfl hy⟩
end
def tFld (K : PySem.W.Frag) (ta : TE) (f : Str) : TE := fun σ H Q => ta σ H fun x H1 => ∃ a C dx fs v,x = .ref a ∧ H1 a = some (.ins C dx fs) ∧ Cls K C ∧ NoAttr K C f ∧ fs.lookup f = some v ∧ Q v H1
def tCon (K : PySem.W.Frag) (ta : TE) (f : Str) : TE := fun σ H Q => ta σ H fun x H1 => ∃ a C dx fs v u,x = .ref a ∧ H1 a = some (.ins C dx fs) ∧ Cls K C ∧ Con K C f v u ∧ fs.lookup f = none ∧ Q v H1
def sFld (K : PySem.W.Frag) (ta tv : TE) (f : Str) : TS := fun D σ H => tv σ H fun y H1 => ta σ H1 fun x H2 => ∃ a C dx fs,x = .ref a ∧ H2 a = some (.ins C dx fs) ∧ Cls K C ∧ NoAttr K C f ∧ fs.length < 1000 ∧
 D.nx σ (upd H2 a (.ins C dx (putF f y fs)))
def InOp (X : Cx) (op : Operator) (rd : V -> V -> Hp -> VK -> Prop) : Prop :=
 ∀ (pins : List (Addr × Obj)) (s : Shared) (σ : St) (H : Hp) (x y : V) (u v : Value) (Q : VK),Inv X pins σ H s -> RelV x u -> RelV y v -> rd x y H Q -> wpAny (model X.prog X.w) X.A (inplaceOp op u v) (EP X pins σ Q) X.xe s
def sFldAug (K : PySem.W.Frag) (ta tv : TE) (rd : V -> V -> Hp -> VK -> Prop) (f : Str) : TS := fun D σ H => ta σ H fun x H1 => ∃ a C dx fs v,x = .ref a ∧ H1 a = some (.ins C dx fs) ∧ Cls K C ∧ NoAttr K C f ∧ fs.lookup f = some v ∧
 tv σ H1 fun y H2 => rd v y H2 fun z H3 => ∃ dx' fs',H3 a = some (.ins C dx' fs') ∧ fs'.length < 1000 ∧ D.nx σ (upd H3 a (.ins C dx' (putF f z fs')))
section
variable {X : Cx} {o e value : Expr} {f : Str} {pos pos' tpos : Pos} {ta tv : TE}
def rAdd : V -> V -> Hp -> VK -> Prop := fun x y H Q => ∃ i j,x = .int i ∧ y = .int j ∧ Q (.int (i + j)) H
def rSub : V -> V -> Hp -> VK -> Prop := fun x y H Q => ∃ i j,x = .int i ∧ y = .int j ∧ Q (.int (i - j)) H
end
section
variable {X : Cx} {pins : List (Addr × Obj)} {σ : St} {H : Hp} {s : Shared} {A : Around} {E : Value -> Shared -> Prop} {Q : Value -> Shared -> Prop} {c : Value} {b : Bool}
inductive TyOf (K : PySem.W.Frag) (H : Hp) : V -> Value -> Prop where
 | non : TyOf K H .non (.type "NoneType")
 | bl (x : Bool) : TyOf K H (.bl x) (.type "bool")
 | int (i : Int) : TyOf K H (.int i) (.type "int")
 | str (x : Str) : TyOf K H (.str x) (.type "str")
 | flt (x : UInt64) : TyOf K H (.flt x) (.type "float")
 | lst {a : Addr} {xs : List V} (e : H a = some (.lst xs)) : TyOf K H (.ref a) (.type "list")
 | frz {a : Addr} {o : Obj} {xs : List V} (e : H a = some (.frz o (.lst xs))) : TyOf K H (.ref a) (.type "list")
 | tup {a : Addr} {xs : List V} (e : H a = some (.tup xs)) : TyOf K H (.ref a) (.type "tuple")
 | dK {a : Addr} {kvs : List (Key × V)} (e : H a = some (.dK kvs)) : TyOf K H (.ref a) (.type "dict")
 | dT {a : Addr} {kvs : List (List Key × V)} (e : H a = some (.dT kvs)) : TyOf K H (.ref a) (.type "dict")
 | ins {a C dx : Addr} {fs : List (Str × V)} (e : H a = some (.ins C dx fs)) (cl : Cls K C) (ha : PySem.W.findIn K (.ref C) "__class__" = some (some (.builtin "object.__class__")))
   (hn : PySem.W.specialIn K (.builtin "object.__class__") "__get__" = some (some (.builtin "getset_descriptor.__get__"))) (htk : PySem.W.takesIn K (.builtin "object.__class__") = some true)
   (hm : PySem.W.mroIn K C (.type "object") = some true) : TyOf K H (.ref a) (.ref C)
end
end L2
namespace L2
open PySem PySem.Spec PyProof.Rows
structure Room (k : Nat) (A : Around) : Prop where
 hd : A.handled = none
 dp : A.depth + 3 * k + 5 < recursionLimit
 un : A.units + 16 * k + 200 < cLine
theorem Room.mono {j k : Nat} {A : Around} (r : Room k A) (h : j ≤ k) : Room j A := ⟨r.hd,by have := r.dp; omega,by have := r.un; omega⟩
theorem Room.deeper {k : Nat} {A : Around} (r : Room (k + 1) A) (env : Env) : Room k (A.deeper env) :=
 ⟨r.hd,by have := r.dp; show A.depth + 1 + 3 * k + 5 < _; omega,by have := r.un; show A.units + 3 + 16 * k + 200 < _; omega⟩
theorem Room.in1 {k : Nat} {A : Around} (r : Room (k + 1) A) : Room k A.in1 :=
 ⟨r.hd,by have := r.dp; show A.depth + 3 * k + 5 < _; omega,by have := r.un; show A.units + 1 + 16 * k + 200 < _; omega⟩
theorem Room.depth {k : Nat} {A : Around} (r : Room k A) : A.depth < recursionLimit := by have := r.dp; omega
theorem Room.units {k : Nat} {A : Around} (r : Room k A) : A.units + 64 < cLine := by have := r.un; omega
def tNil : TA := fun _ H Q => Q [] H
def tCons (ta : TE) (tr : TA) : TA := fun σ H Q => ta σ H fun x H1 => tr σ H1 fun xs H2 => Q (x :: xs) H2
section
variable {X : Cx} {e : Expr} {es : List Expr} {te : TE} {t : TA} {pos : Pos}
theorem pa_nil : PA X [] tNil := fun _ _ _ _ H Q I h => Calls.spliced_nil ⟨[],H,I,.nil,h⟩
theorem pa_cons (ha : PE X e te) (hr : PA X es t) (hs : starEach (e :: es) X.env = (false,eval e X.env) :: starEach es X.env := by rfl) : PA X (e :: es) (tCons te t) := by
 intro pos pins s σ H Q I h
 rw [hs]
 show wpAny _ _ (spliced ((false,eval e X.env) :: backTo pos (starEach es X.env))) _ _ s
 refine Calls.spliced_cons (thn (ha pins s σ H _ I h) fun u s1 ⟨x,H1,I1,r1,q1⟩ => ?_)
 exact thn (hr pos pins s1 σ H1 _ I1 q1) fun us s2 ⟨xs,H2,I2,r2,q2⟩ => ⟨x :: xs,H2,I2,.cons r1 r2,q2⟩
def tTup (t : TA) : TE := fun σ H Q => t σ H fun xs H1 => xs.length ≤ sizeLine ∧ ∀ p,H1 p = none -> Q (.ref p) (upd H1 p (.tup xs))
def tLst (t : TA) : TE := fun σ H Q => t σ H fun xs H1 => xs.length ≤ sizeLine ∧ ∀ p,H1 p = none -> Q (.ref p) (upd H1 p (.lst xs))
theorem pe_tup {x1} (h : PA X es t) : PE X (.Tuple es x1 pos) (tTup t) := by
 intro pins s σ H Q I hq
 refine wpAny_Tuple_spliced (thn (h pos pins s σ H _ I hq) fun us s1 ⟨xs,H1,I1,r,z,q⟩ => ⟨by rw [← r.length]; exact z,?_⟩)
 have hf : H1 s1.heap.objs.size = none := I1.hok.fresh (Nat.le_refl _)
 refine ⟨.ref s1.heap.objs.size,upd H1 s1.heap.objs.size (.tup xs),I1.laid (t' := s1.toks) (fun b u e => Heap.get?_push_of_some _ e) (Nat.le_refl _) ?_,rfl,q _ hf⟩
 exact ⟨z,us,r,⟨_,Heap.get?_push_size _ rfl,rfl,_,rfl⟩⟩
theorem pe_lst (h : PA X es t) : PE X (.List es pos) (tLst t) := by
 intro pins s σ H Q I hq
 refine wpAny_List_spliced (thn (h pos pins s σ H _ I hq) fun us s1 ⟨xs,H1,I1,r,z,q⟩ => ⟨by rw [← r.length]; exact z,?_⟩)
 have hf : H1 s1.heap.objs.size = none := I1.hok.fresh (Nat.le_refl _)
 refine ⟨.ref s1.heap.objs.size,upd H1 s1.heap.objs.size (.lst xs),I1.laid (t' := s1.toks) (fun b u e => Heap.get?_push_of_some _ e) (Nat.le_refl _) ?_,rfl,q _ hf⟩
 exact ⟨z,us,0,r,Heap.get?_push_size _ rfl⟩
end
abbrev Sp := List V -> Hp -> VK -> XK -> Prop
abbrev CXT := List Env -> Hp -> Shared -> XK -> Value -> Shared -> Prop
structure Env0 (P : Program) (w : World) (K : PySem.W.Frag) (mg : Str -> Option Value) (base : Heap) (A : Around) (outer : List Env) (s : Shared) (H : Hp) : Prop where
 frames : A.frames = some outer
 mod : Mod K mg base
 bs : ∀ b o,base.get? b = some o -> s.heap.get? b = some o ∧ H b = none
 bsz : base.objs.size ≤ s.heap.objs.size
 funs : s.heap.FunFrames base outer
 frf : ∀ b ∈ frs outer,H b = none
 hok : HOk P w H s.heap
 bare : AllBare s.gens
def CE (outer : List Env) (P : Program) (w : World) (H : Hp) (s : Shared) (Q : VK) (u : Value) (s' : Shared) : Prop :=
 ∃ v H',s'.os = s.os ∧ AllBare s'.gens ∧ Un (frs outer) [] H H' s.heap s'.heap ∧ HOk P w H' s'.heap ∧ RelV v u ∧ Q v H'
def CR (CX : CXT) (outer : List Env) (P : Program) (w : World) (H : Hp) (s : Shared) (Q : VK) (E : XK) (r : Result) (s' : Shared) : Prop :=
 match r with
 | .ok (.ret u) => CE outer P w H s Q u s'
 | .ok _ => False
 | .error e => CX outer H s E e s'
structure FnOk (P : Program) (w : World) (K : PySem.W.Frag) (mg : Str -> Option Value) (base : Heap) (CX : CXT) (k : Nat) (f : Addr) (fd : FuncData) (ps : List Str) (sp : Sp) : Prop where
 len : ∀ vs H Q E,sp vs H Q E -> vs.length = ps.length
 run : ∀ (A : Around) (outer : List Env) (s : Shared) (H : Hp) (args : Args) (us : List Value) (vs : List V) (Q : VK) (E : XK),Room k A -> Env0 P w K mg base A outer s H -> BindsTo s fd args (ps.zip us) -> Vals vs us -> sp vs H Q E ->
  codeAny (model P w) A (.call (.ref f) args) (CR CX outer P w H s Q E) s
theorem FnOk.mono {P : Program} {w : World} {K : PySem.W.Frag} {mg : Str -> Option Value} {base : Heap} {CX : CXT} {j k : Nat} {f : Addr} {fd : FuncData} {ps : List Str} {sp : Sp} (F : FnOk P w K mg base CX j f fd ps sp) (h : j ≤ k) :
  FnOk P w K mg base CX k f fd ps sp := ⟨F.len,fun A outer s H args us vs Q E hr => F.run A outer s H args us vs Q E (hr.mono h)⟩
theorem FnOk.imp {P : Program} {w : World} {K : PySem.W.Frag} {mg : Str -> Option Value} {base : Heap} {CX : CXT} {k : Nat} {f : Addr} {fd : FuncData} {ps : List Str} {sp sp' : Sp} (F : FnOk P w K mg base CX k f fd ps sp)
  (h : ∀ vs H Q E,sp' vs H Q E -> sp vs H Q E) : FnOk P w K mg base CX k f fd ps sp' :=
 ⟨fun vs H Q E q => F.len vs H Q E (h _ _ _ _ q),fun A outer s H args us vs Q E hr he hb hv hs => F.run A outer s H args us vs Q E hr he hb hv (h _ _ _ _ hs)⟩
theorem Env0.in1 {P : Program} {w : World} {K : PySem.W.Frag} {mg : Str -> Option Value} {base : Heap} {A : Around} {outer : List Env} {s : Shared} {H : Hp} (e : Env0 P w K mg base A outer s H) :
  Env0 P w K mg base A.in1 outer s H := ⟨e.frames,e.mod,e.bs,e.bsz,e.funs,e.frf,e.hok,e.bare⟩
section
variable {X : Cx} {pins : List (Addr × Obj)} {σ : St} {H : Hp} {s s' : Shared}
theorem Inv.env0 (I : Inv X pins σ H s) : Env0 X.prog X.w X.K X.mg X.base X.A X.stack s H :=
 ⟨I.ok.frames,I.ok.mod,I.bs,Nat.le_trans I.ok.bsz I.sz,I.stack,I.stkFree,I.hok,I.bare⟩
theorem Inv.after {Q : VK} {u : Value} (I : Inv X pins σ H s) (h : CE X.stack X.prog X.w H s Q u s') : EP X pins σ Q u s' := by
 obtain ⟨v,H',os,bare,un,hok,r,q⟩ := h
 obtain ⟨hh,g,d,t,os'⟩ := s'
 obtain rfl : os' = s.os := os
 exact ⟨v,H',I.call (h' := hh) (g' := g) (d' := d) (t' := t) (ch := []) un hok bare (fun b z => absurd z (by simp)),r,q⟩
end
def tCall (sp : Sp) (dvs : List V) (E : XK) (t : TA) : TE := fun σ H Q => t σ H fun vs H1 => sp (vs ++ dvs) H1 Q E
def tMeth (C : Addr) (m : Str) (sp : Sp) (dvs : List V) (E : XK) (ta : TE) (t : TA) : TE := fun σ H Q => ta σ H fun x H1 => ∃ a dx fs,x = .ref a ∧ H1 a = some (.ins C dx fs) ∧ fs.lookup m = none ∧
 t σ H1 fun vs H2 => sp (x :: (vs ++ dvs)) H2 Q E
def tMake (C : Addr) (sp : Sp) (dvs : List V) (E : XK) (t : TA) : TE := fun σ H Q => t σ H fun vs H1 => ∀ x dx,H1 x = none -> H1 dx = none -> dx ≠ x ->
 sp (.ref x :: (vs ++ dvs)) (upd (upd H1 dx (.own x)) x (.ins C dx [])) (fun v H2 => v = .non ∧ Q (.ref x) H2) E
def Binds (K : PySem.W.Frag) (fd : FuncData) (ps : List Str) (ds : List Value) : Prop :=
 ∀ (s : Shared) (us : List Value),K.In s.heap -> (us ++ ds).length = ps.length -> BindsTo s fd ⟨us,[]⟩ (ps.zip (us ++ ds))
theorem Binds.all {K : PySem.W.Frag} {fd : FuncData} {ps : List Str} (h : ∀ us : List Value,us.length = ps.length -> bindArgs fd ⟨us,[]⟩ = pure (ps.zip us)) : Binds K fd ps [] := fun s us _ hl => by
 rw [List.append_nil] at hl ⊢
 exact .of_eq (h us hl)
def Passes (CX : CXT) (X : Cx) (E : XK) : Prop := ∀ (pins : List (Addr × Obj)) (σ : St) (H : Hp) (s : Shared) (e : Value) (s' : Shared),Inv X pins σ H s -> CX X.stack H s E e s' -> X.xe e s'
section
variable {X : Cx} {CX : CXT} {k : Nat} {f C : Addr} {fd : FuncData} {ps : List Str} {sp : Sp} {dvs : List V} {ds : List Value} {E : XK} {x m : Str} {p pos apos : Pos} {e o : Expr} {es : List Expr} {ta : TE} {t : TA}
theorem run_fn {pins : List (Addr × Obj)} {σ : St} {H : Hp} {s : Shared} {Q : VK} {us : List Value} {vs : List V} (F : FnOk X.prog X.w X.K X.mg X.base CX k f fd ps sp) (hr : Room k X.A) (hb : Binds X.K fd ps ds) (hd : Vals dvs ds) (hx : Passes CX X E)
  (I : Inv X pins σ H s) (r : Vals vs us) (h : sp (vs ++ dvs) H Q E) : wpAny (model X.prog X.w) X.A (call (.ref f) us) (EP X pins σ Q) X.xe s := by
 have r2 : Vals (vs ++ dvs) (us ++ ds) := r.append hd
 have hl : (us ++ ds).length = ps.length := by rw [← r2.length]; exact F.len _ _ _ _ h
 refine wpAny_call (codeAny_mono (F.run X.A X.stack s H ⟨us,[]⟩ (us ++ ds) (vs ++ dvs) Q E hr I.env0 (hb s us I.kIn hl) r2 h) fun r s' hq => ?_)
 cases r with
 | error e => exact hx pins σ H s e s' I hq
 | ok fl =>
  cases fl with
  | ret u => exact I.after hq
  | next => exact False.elim hq
  | brk => exact False.elim hq
  | cont => exact False.elim hq
theorem pe_call (F : FnOk X.prog X.w X.K X.mg X.base CX k f fd ps sp) (hr : Room k X.A) (hg : Gl X x) (hm : X.mg x = some (.ref f)) (hk : PySem.W.keepIn X.K (.ref f) = true) (hb : Binds X.K fd ps ds) (hd : Vals dvs ds) (hx : Passes CX X E)
  (ha : PA X (e :: es) t) (hdb : (x == ("__debug__" : Str)) = false := by decide) (he : starEach (e :: es) X.env = (false,eval e X.env) :: starEach es X.env := by rfl) (hpl : (backTo pos (starEach es X.env)).any (·.1) = false := by rfl) :
  PE X (.Call (.Name x p) (e :: es) [] pos) (tCall sp dvs E t) := by
 intro pins s σ H Q I h
 refine wpAny_Call_Name_kw (ld_glob I hg hm ?_ hdb)
 refine PySem.W.callWith_K (h₀ := X.base) I.ok.mod.kin hk (thn (ha pos pins s σ H _ I h) fun us s1 ⟨vs,H1,I1,r,q⟩ => ⟨I1.kIn,?_⟩) he hpl
 exact run_fn F hr hb hd hx I1 r q
theorem pe_meth {pl : Sem Bool} (he : PE X o ta) (c : Cls X.K C) (hm : Meth X.K C m f) (F : FnOk X.prog X.w X.K X.mg X.base CX k f fd ps sp) (hr : Room k X.A) (hb : Binds X.K fd ps ds) (hd : Vals dvs ds) (hx : Passes CX X E) (ha : PA X (e :: es) t)
  (hst : starEach (e :: es) X.env = (false,eval e X.env) :: starEach es X.env := by rfl) (hpl : (backTo pos (starEach es X.env)).any (·.1) = false := by rfl)
  (ht : eval (.Call (.Attribute o m apos) (e :: es) [] pos) X.env = (do
   let ov ← eval o X.env
   standAt apos.atName
   let (f,first) ← holding [ov] (getMethod ov m pl)
   callWith pos f first (backTo pos (starEach (e :: es) X.env)) (backToKw pos (keywordEach [] X.env))) := by rfl) :
  PE X (.Call (.Attribute o m apos) (e :: es) [] pos) (tMeth C m sp dvs E ta t) := by
 intro pins s σ H Q I h
 refine PySem.W.methodCall_KW (pl := pl) (thn (he pins s σ H _ I h) fun u s1 ⟨x,H1,I1,rx,a,dx,fs,ex,ea,l,q⟩ => ?_) ht
 subst ex
 obtain rfl : u = Value.ref a := rx
 refine getmeth_ok I1 ea c hm l ?_
 refine PySem.W.callWith_K (first := [.ref a]) (h₀ := X.base) I.ok.mod.kin hm.kp (thn (ha pos pins s1 σ H1 _ I1 q) fun us s2 ⟨vs,H2,I2,r,q2⟩ => ⟨I2.kIn,?_⟩) hst hpl
 exact run_fn (us := .ref a :: us) (vs := .ref a :: vs) F hr hb hd hx I2 (.cons rfl r) q2
theorem pe_meth0 {pl : Sem Bool} (he : PE X o ta) (c : Cls X.K C) (hm : Meth X.K C m f) (F : FnOk X.prog X.w X.K X.mg X.base CX k f fd ps sp) (hr : Room k X.A) (hb : Binds X.K fd ps ds) (hd : Vals dvs ds) (hx : Passes CX X E)
  (ht : eval (.Call (.Attribute o m apos) [] [] pos) X.env = (do
   let ov ← eval o X.env
   standAt apos.atName
   let (f,first) ← holding [ov] (getMethod ov m pl)
   callWith pos f first (backTo pos (starEach [] X.env)) (backToKw pos (keywordEach [] X.env))) := by rfl) :
  PE X (.Call (.Attribute o m apos) [] [] pos) (tMeth C m sp dvs E ta tNil) := by
 intro pins s σ H Q I h
 refine PySem.W.methodCall_KW (pl := pl) (thn (he pins s σ H _ I h) fun u s1 ⟨x,H1,I1,rx,a,dx,fs,ex,ea,l,q⟩ => ?_) ht
 subst ex
 obtain rfl : u = Value.ref a := rx
 refine getmeth_ok I1 ea c hm l ?_
 exact PySem.W.callWith_K0 (first := [.ref a]) I1.kIn hm.kp (run_fn (us := [.ref a]) (vs := [.ref a]) F hr hb hd hx I1 (.cons rfl .nil) q)
structure Mk (K : PySem.W.Frag) (C f : Addr) : Prop where
 makes : PySem.W.makesIn K C = true
 init : PySem.W.findIn K (.ref C) "__init__" = some (some (.ref f))
 fn : PySem.W.isFn K (.ref f) = true
 kp : PySem.W.keepIn K (.ref C) = true
end
def PK (X : Cx) (kws : List Keyword) (t : TA) : Prop :=
 ∀ (pos : Pos) (pins : List (Addr × Obj)) (s : Shared) (σ : St) (H : Hp) (Q : List V -> Hp -> Prop),Inv X pins σ H s -> t σ H Q -> wpAny (model X.prog X.w) X.A (evalAll ((backToKw pos (keywordEach kws X.env)).map (·.2))) (AP X pins σ Q) X.xe s
section
variable {X : Cx} {CX : CXT} {k : Nat} {f C : Addr} {fd : FuncData} {ps ks : List Str} {sp : Sp} {E : XK} {x m : Str} {p pos apos kpos : Pos} {e o : Expr} {es : List Expr} {kws : List Keyword} {te ta : TE} {t tk : TA} {nm : Option Str}
structure KBinds (K : PySem.W.Frag) (fd : FuncData) (ps ks : List Str) (g : List Value -> List Value -> List Value) (gV : List V -> List V -> List V) : Prop where
 to : ∀ (s : Shared) (us ws : List Value),K.In s.heap -> (g us ws).length = ps.length -> BindsTo s fd ⟨us,ks.zip ws⟩ (ps.zip (g us ws))
 rel : ∀ {vs : List V} {us : List Value} {zs : List V} {ws : List Value},Vals vs us -> Vals zs ws -> Vals (gV vs zs) (g us ws)
def tCallK (sp : Sp) (gV : List V -> List V -> List V) (E : XK) (t tk : TA) : TE := fun σ H Q => t σ H fun vs H1 => tk σ H1 fun zs H2 => sp (gV vs zs) H2 Q E
variable {g : List Value -> List Value -> List Value} {gV : List V -> List V -> List V}
end
structure FnScope (N P : List Str) (sc : Scope) : Prop where
 kind : sc.kind = .function
 co : sc.isCoroutine = false
 gen : sc.isGenerator = false
 nd : N.Nodup
 pre : N.take P.length = P
 par : ∀ x ∈ P,sc.names.lookup x = some .local ∨ sc.names.lookup x = some .cell
 nofree : ∀ y ∈ sc.names,y.2 ≠ .free
theorem bindL_out {kindOf : Str -> Option NameKind} {x : Str} : ∀ {binds : List (Str × Value)} {m : Str -> Option Value},(∀ v,(x,v) ∉ binds) -> bindL kindOf binds m x = m x
 | [],_,_ => rfl
 | (n,v) :: r,m,h => by
  unfold bindL
  rw [bindL_out fun w hw => h w (List.mem_cons_of_mem _ hw)]
  split
  ·have : x ≠ n := by rintro rfl; exact h v List.mem_cons_self
   simp [this]
  ·rfl
theorem bindC_out {kindOf : Str -> Option NameKind} {x : Str} : ∀ {binds : List (Str × Value)} {m : Str -> Option Value},(∀ v,(x,v) ∉ binds) -> bindC kindOf binds m x = m x
 | [],_,_ => rfl
 | (n,v) :: r,m,h => by
  unfold bindC
  rw [bindC_out fun w hw => h w (List.mem_cons_of_mem _ hw)]
  split
  ·rfl
  ·have : x ≠ n := by rintro rfl; exact h v List.mem_cons_self
   simp [this]
theorem bindL_get {kindOf : Str -> Option NameKind} {x : Str} {v : Value} : ∀ {P : List Str} {vs : List Value} {i : Nat} {m : Str -> Option Value},P.Nodup -> P[i]? = some x -> vs[i]? = some v -> kindOf x = some .local ->
  bindL kindOf (P.zip vs) m x = some v
 | [],_,_,_,_,h,_,_ => by simp at h
 | _ :: _,[],_,_,_,_,h,_ => by simp at h
 | p :: P,w :: vs,0,m,nd,h1,h2,hk => by
  simp at h1 h2; subst h1; subst h2
  show bindL kindOf ((p,w) :: P.zip vs) m p = _
  unfold bindL
  rw [bindL_out fun v hv => (List.nodup_cons.mp nd).1 (List.of_mem_zip hv).1,if_pos hk]
  simp
 | p :: P,w :: vs,i + 1,m,nd,h1,h2,hk => by
  show bindL kindOf ((p,w) :: P.zip vs) m x = _
  unfold bindL
  exact bindL_get (i := i) (List.nodup_cons.mp nd).2 (by simpa using h1) (by simpa using h2) hk
theorem bindC_get {kindOf : Str -> Option NameKind} {x : Str} {v : Value} : ∀ {P : List Str} {vs : List Value} {i : Nat} {m : Str -> Option Value},P.Nodup -> P[i]? = some x -> vs[i]? = some v -> kindOf x ≠ some .local ->
  bindC kindOf (P.zip vs) m x = some v
 | [],_,_,_,_,h,_,_ => by simp at h
 | _ :: _,[],_,_,_,_,h,_ => by simp at h
 | p :: P,w :: vs,0,m,nd,h1,h2,hk => by
  simp at h1 h2; subst h1; subst h2
  show bindC kindOf ((p,w) :: P.zip vs) m p = _
  unfold bindC
  rw [bindC_out fun v hv => (List.nodup_cons.mp nd).1 (List.of_mem_zip hv).1,if_neg hk]
  simp
 | p :: P,w :: vs,i + 1,m,nd,h1,h2,hk => by
  show bindC kindOf ((p,w) :: P.zip vs) m x = _
  unfold bindC
  exact bindC_get (i := i) (List.nodup_cons.mp nd).2 (by simpa using h1) (by simpa using h2) hk
def start (N : List Str) (vs : List V) : St := vs.map some ++ List.replicate (N.length - vs.length) none
def cxOf (CX : CXT) (P : Program) (w : World) (K : PySem.W.Frag) (mg : Str -> Option Value) (base : Heap) (N : List Str) (qual : Str) (scope : Scope) (f : Addr) (cd : Value) (A : Around) (outer : List Env) (s : Shared) (H : Hp) (E : XK) : Cx where
 prog := P
 w := w
 K := K
 mg := mg
 base := base
 A := A.deeper (envOfC qual scope s.heap.objs.size f cd)
 N := N
 s₀ := s
 H₀ := H
 env := envOfC qual scope s.heap.objs.size f cd
 outer := outer
 stack := envOfC qual scope s.heap.objs.size f cd :: outer
 ex := []
 calm := true
 fn := fun _ => true
 pn := []
 xe := fun e s' => wpAny (model P w) (A.deeper (envOfC qual scope s.heap.objs.size f cd)) (leaving (envOfC qual scope s.heap.objs.size f cd) e) (fun _ s'' => CX outer H s E e s'') (fun e' s'' => CX outer H s E e' s'') s'
theorem cell_has {sc : Scope} {n : Nat} {x : Str} (h : sc.names.lookup x = some .cell) : ∃ c,(cellsFrom n sc.names []).lookup x = some c := by
 have q := PySem.W.cellsFrom_some sc.names n [] (.inl h)
 exact Option.isSome_iff_exists.mp q
theorem inv_start {CX : CXT} {P : Program} {w : World} {K : PySem.W.Frag} {mg : Str -> Option Value} {base : Heap} {N ps : List Str} {qual : Str} {scope : Scope} {f : Addr} {cd : Value} {A : Around} {outer : List Env} {s s1 : Shared} {H : Hp} {E : XK} {us : List Value} {vs : List V}
  (S : FnScope N ps scope) (hd : A.handled = none) (e0 : Env0 P w K mg base A outer s H) (hl : vs.length = ps.length) (r : Vals vs us)
  (x : InCallC s s.heap.objs.size (bindL (envOfC qual scope s.heap.objs.size f cd).kindOf (ps.zip us) fun _ => none) (cellsFrom (s.heap.objs.size + 1) scope.names []) (bindC (envOfC qual scope s.heap.objs.size f cd).kindOf (ps.zip us) fun _ => none) s1) :
  Inv (cxOf CX P w K mg base N qual scope f cd A outer s H E) [] (start N vs) H s1 := by
 have hpl : ps.length ≤ N.length := by have := congrArg List.length S.pre; rw [List.length_take] at this; omega
 obtain ⟨h1,tk,rfl,hk⟩ := x.done
 have noA : ∀ b : Addr,b ∉ (cxOf CX P w K mg base N qual scope f cd A outer s H E).ex := fun b z => absurd (show b ∈ ([] : List Addr) from z) (by simp)
 refine ⟨⟨e0.mod,S.kind,rfl,rfl,Nat.le_refl _,fun y z c h1 h2 => ?_,fun y hy => ?_,fun y c _ h => ?_,fun _ => hd,Around.frames_deeper e0.frames,.inr ⟨rfl,rfl⟩,fun b z => absurd z (noA b),e0.bs,e0.bsz,fun b _ _ => noA b,fun b z => absurd z (noA b),e0.funs,e0.frf⟩,
  rfl,e0.bare,Un.kept hk,⟨_,x.toInCall.ns,fun i y v h1 h2 h3 => ?_⟩,fun y c h => ⟨_,x.cell y c h⟩,e0.hok.fresh (Nat.le_refl _),fun y c h => ?_,fun p hp => absurd (show p ∈ ([] : List (Addr × Obj)) from hp) (by simp),e0.hok.kept hk,?_⟩
 ·exact name_of_addr x.apart (PySem.mem_of_lookup h1) (PySem.mem_of_lookup h2)
 ·have hy : scope.names.lookup y = some .cell ∨ scope.names.lookup y = some .free := hy
  rcases hy with hy | hy
  ·exact cell_has hy
  ·exact absurd rfl (S.nofree _ (PySem.mem_of_lookup hy))
 ·exact Nat.le_of_lt (x.above y c (PySem.mem_of_lookup h))
 ·have hi : i < vs.length := by
   unfold start at h2
   by_cases hi : i < vs.length
   ·exact hi
   ·rw [List.getElem?_append_right (by simpa using hi)] at h2
    rw [List.getElem?_replicate] at h2
    split at h2 <;> cases h2
  have ha : vs[i]? = some v := by
   unfold start at h2
   rw [List.getElem?_append_left (by simpa using hi),List.getElem?_map] at h2
   cases e : vs[i]? with
   | none => rw [e] at h2; cases h2
   | some a => rw [e] at h2; cases h2; rfl
  obtain ⟨u,hu,rv⟩ := r.get ha
  have hp : ps[i]? = some y := by
   rw [← S.pre,List.getElem?_take_of_lt (by omega)]; exact h1
  have ndP : ps.Nodup := by rw [← S.pre]; exact S.nd.sublist (List.take_sublist _ _)
  refine ⟨u,rv,?_⟩
  rcases S.par y (List.mem_of_getElem? hp) with k | k
  ·exact .inl ⟨k,bindL_get ndP hp hu k⟩
  ·obtain ⟨c,e⟩ := cell_has (n := s.heap.objs.size + 1) k
   refine .inr ⟨.inl k,c,e,?_⟩
   have q := x.cell y c e
   rw [bindC_get ndP hp hu (by show scope.names.lookup y ≠ _; rw [k]; decide)] at q
   exact q
 ·exact e0.hok.fresh (Nat.le_of_lt (x.above y c (PySem.mem_of_lookup h)))
 ·unfold start
  show _ = N.length
  rw [List.length_append,List.length_map,List.length_replicate]
  omega
theorem fn_of {CX : CXT} {P : Program} {w : World} {K : PySem.W.Frag} {mg : Str -> Option Value} {base : Heap} {k : Nat} {f : Addr} {name qual : Str} {params : Arguments} {body : List Stmt} {scope : Scope} {dV kV doc pm cdv ct oc : Value} {an od : Option Addr}
  {osl : Array (Option Value)} {N ps : List Str} {sp : Sp} (lk : K.lookup f = some ⟨oc,od,.func (PySem.W.fnOf name qual params body scope dV kV doc pm an cdv ct),osl⟩) (hcd : PySem.W.codeIn K cdv qual = true) (S : FnScope N ps scope)
  (len : ∀ vs H Q E,sp vs H Q E -> vs.length = ps.length)
  (hbody : ∀ (A : Around) (outer : List Env) (s : Shared) (H : Hp) (vs : List V) (Q : VK) (E : XK),Room k (A.deeper (envOfC qual scope s.heap.objs.size f cdv)) -> sp vs H Q E ->
   ∃ t,PSs (cxOf CX P w K mg base N qual scope f cdv A outer s H E) body t ∧ t { nx := fun _ H' => Q .non H',rt := Q } (start N vs) H) :
  FnOk P w K mg base CX (k + 1) f (PySem.W.fnOf name qual params body scope dV kV doc pm an cdv ct) ps sp := by
 refine ⟨len,fun A outer s H args us vs Q E hr e0 hb r hsp => ?_⟩
 have hl := len _ _ _ _ hsp
 have KX : K.In s.heap := e0.mod.kin.keeps fun b o e => (e0.bs b o e).1
 have lim : s.heap.NoLimit := e0.mod.nolimit.keeps fun b o e => (e0.bs b o e).1
 have hkind : ∀ y ∈ ps.zip us,scope.names.lookup y.1 = some .local ∨ (scope.names.lookup y.1 = some .cell ∧ ((cellsFrom (s.heap.objs.size + 1) scope.names []).lookup y.1).isSome = true) := fun ⟨n,v⟩ hy => by
  rcases S.par n (List.of_mem_zip hy).1 with q | q
  ·exact .inl q
  ·exact .inr ⟨q,PySem.W.cellsFrom_some _ _ _ (.inl q)⟩
 refine codeAny_call_function hr.depth (KX _ _ lk) rfl S.co S.gen rfl (PySem.W.codeRec_of KX hcd) (hb _ _ _ _ ?_)
 refine wpAny_newFunctionEnv_cells S.kind hkind fun env he s1 x => ?_
 subst he
 refine ⟨lim.keeps x.toInCall.keep,codeAny_func ?_⟩
 obtain ⟨t,ht,hq⟩ := hbody A outer s H vs Q E (hr.deeper _) hsp
 have I : Inv (cxOf CX P w K mg base N qual scope f cdv A outer s H E) [] (start N vs) H s1 := inv_start S hr.hd e0 hl r x
 refine wpAny_mono (ht [] s1 (start N vs) H _ I hq) (fun fl s' hs => ?_) fun e s' hs => hs
 have fin : ∀ {σ' : St} {H' : Hp} {v : V} {u : Value},Inv (cxOf CX P w K mg base N qual scope f cdv A outer s H E) [] σ' H' s' -> RelV v u -> Q v H' -> CE outer P w H s Q u s' :=
  fun {σ' H' v u} J rv q => ⟨v,H',J.os,J.bare,J.base,J.hok,rv,q⟩
 cases fl with
 | ret u =>
  obtain ⟨v,σ',H',J,rv,q⟩ := hs
  exact fin J rv q
 | next =>
  obtain ⟨σ',H',J,q⟩ := hs
  exact fin (v := V.non) (u := Value.none) J rfl q
 | brk =>
  obtain ⟨_,_,_,q⟩ := hs
  exact False.elim q
 | cont =>
  obtain ⟨_,_,_,q⟩ := hs
  exact False.elim q
end L2
namespace L2
open PySem PySem.Spec PyProof.Rows
section
variable {X : Cx} {x : Str} {p pos : Pos} {e : Expr} {es : List Expr} {t : TA} {id T : String} {r : List V -> Hp -> VK -> Prop}
def tCB (r : List V -> Hp -> VK -> Prop) (t : TA) : TE := fun σ H Q => t σ H fun vs H1 => r vs H1 Q
theorem pe_callB (hc : CallR X (.builtin id) r) (hg : Gl X x) (hm : X.mg x = none) (hv : bootBuiltins x = some (.builtin id)) (ha : PA X (e :: es) t) (hn : x ≠ "__name__" := by decide) (hdb : (x == ("__debug__" : Str)) = false := by decide)
  (he : starEach (e :: es) X.env = (false,eval e X.env) :: starEach es X.env := by rfl) (hpl : (backTo pos (starEach es X.env)).any (·.1) = false := by rfl) : PE X (.Call (.Name x p) (e :: es) [] pos) (tCB r t) := by
 intro pins s σ H Q I h
 refine wpAny_Call_Name_kw (ld_blt I hg hm hv ?_ hn hdb)
 exact PyProof.Rows.callWith_builtin1 (thn (ha pos pins s σ H _ I h) fun us s1 ⟨vs,H1,I1,r1,q1⟩ => hc pins s1 σ H1 vs us Q I1 r1 q1) he hpl
theorem pe_callTy (hc : CallR X (.type T) r) (hg : Gl X x) (hm : X.mg x = none) (hv : bootBuiltins x = some (.type T)) (ha : PA X (e :: es) t) (hn : x ≠ "__name__" := by decide) (hdb : (x == ("__debug__" : Str)) = false := by decide)
  (he : starEach (e :: es) X.env = (false,eval e X.env) :: starEach es X.env := by rfl) (hpl : (backTo pos (starEach es X.env)).any (·.1) = false := by rfl) : PE X (.Call (.Name x p) (e :: es) [] pos) (tCB r t) := by
 intro pins s σ H Q I h
 refine wpAny_Call_Name_kw (ld_blt I hg hm hv ?_ hn hdb)
 exact PyProof.Rows.callWith_type1 (thn (ha pos pins s σ H _ I h) fun us s1 ⟨vs,H1,I1,r1,q1⟩ => hc pins s1 σ H1 vs us Q I1 r1 q1) he hpl
end
end L2
namespace HT
open PySem PyProof.Rows
def lexLt : List Int -> List Int -> Bool
 | [],[] => false
 | [],_ :: _ => true
 | _ :: _,[] => false
 | x :: xs,y :: ys => if x = y then lexLt xs ys else decide (x < y)
section
open PySem.SeqAt
open PySem.AutoSeq1 (wpAny_loadPart')
open PySem.MeetsSeq PySem.MeetsSeq2 PySem.MeetsSeq3
end
section
variable {prog : Program} {w : World} {A : Around} {E : Value -> Shared -> Prop} {s : Shared}
def sIx (n d : Nat) : Option Int -> Nat
 | none => d
 | some v => if v < 0 then (v + (n : Int)).toNat else min v.toNat n
theorem sIx_none (n d : Nat) : sIx n d none = d := rfl
theorem sIx_nat (n d k : Nat) : sIx n d (some (k : Int)) = min k n := by
 show (if (k : Int) < 0 then ((k : Int) + (n : Int)).toNat else min (k : Int).toNat n) = min k n
 rw [if_neg (by omega),Int.toNat_natCast]
end
end HT
namespace L2
open PySem PySem.Spec PyProof.Rows
abbrev TO := St -> Hp -> (Option Int -> Hp -> Prop) -> Prop
def PO (X : Cx) (e : Option Expr) (t : TO) : Prop :=
 ∀ (pins : List (Addr × Obj)) (s : Shared) (σ : St) (H : Hp) (Q : Option Int -> Hp -> Prop),Inv X pins σ H s -> t σ H Q ->
  wpAny (model X.prog X.w) X.A (evalPart e X.env) (fun u s' => ∃ o H',Inv X pins σ H' s' ∧ IsPart u o ∧ Q o H') X.xe s
def tNoPart : TO := fun _ H Q => Q none H
def tPart (t : TE) : TO := fun σ H Q => t σ H fun x H1 => ∃ i,x = .int i ∧ Q (some i) H1
section
variable {X : Cx} {e : Expr} {te : TE} {lo hi : Option Expr} {tl th : TO} {pos p2 : Pos}
theorem po_none : PO X none tNoPart := by
 intro pins s σ H Q I h
 rw [evalPart_none]
 exact wpAny_pure ⟨none,H,I,.none,h⟩
theorem po_some (h : PE X e te) : PO X (some e) (tPart te) := by
 intro pins s σ H Q I hw
 rw [evalPart_some]
 refine thn (h pins s σ H _ I hw) fun u s1 ⟨x,H1,I1,r1,q1⟩ => ?_
 obtain ⟨i,rfl,q⟩ := q1
 obtain ⟨t,rfl⟩ := r1
 exact ⟨some i,H1,I1,.int i t,q⟩
def SlR (X : Cx) (r : V -> Option Int -> Option Int -> Hp -> VK -> Prop) : Prop :=
 ∀ (pins : List (Addr × Obj)) (s : Shared) (σ : St) (H : Hp) (x : V) (v vl vu : Value) (lo hi : Option Int) (sl : Addr) (Q : VK),Inv X pins σ H s -> RelV x v -> s.heap.IsSliceOf sl vl vu .none -> IsPart vl lo -> IsPart vu hi -> r x lo hi H Q ->
  ∃ T id,typeLookup (.type T) "__getitem__" = pure (some (.builtin id)) ∧ s.TypeIs v T ∧ wpAny (model X.prog X.w) X.A (getItem v (.ref sl)) (EP X pins σ Q) X.xe s
theorem SlR.or {r r' : V -> Option Int -> Option Int -> Hp -> VK -> Prop} (h : SlR X r) (h' : SlR X r') : SlR X (fun x lo hi H Q => r x lo hi H Q ∨ r' x lo hi H Q) := by
 intro pins s σ H x v vl vu lo hi sl Q I rx hs pl pu q
 rcases q with q | q
 ·exact h pins s σ H x v vl vu lo hi sl Q I rx hs pl pu q
 ·exact h' pins s σ H x v vl vu lo hi sl Q I rx hs pl pu q
def tSl (r : V -> Option Int -> Option Int -> Hp -> VK -> Prop) (te : TE) (tl th : TO) : TE := fun σ H Q => te σ H fun x H1 => tl σ H1 fun l H2 => th σ H2 fun u H3 => r x l u H3 Q
theorem pe_slice {r : V -> Option Int -> Option Int -> Hp -> VK -> Prop} (hr : SlR X r) (he : PE X e te) (hl : PO X lo tl) (hu : PO X hi th) : PE X (.Subscript e (.Slice lo hi none p2) pos) (tSl r te tl th) := by
 intro pins s σ H Q I h
 refine Subscript_ (thn (he pins s σ H _ I h) fun v s1 ⟨x,H1,I1,r1,q1⟩ => ?_)
 refine wpAny_Slice (thn (hl pins s1 σ H1 _ I1 q1) fun vl s2 ⟨l,H2,I2,pl,q2⟩ => thn (hu pins s2 σ H2 _ I2 q2) fun vu s3 ⟨u,H3,I3,pu,q3⟩ => ?_)
 rw [evalPart_none]
 refine wpAny_pure ?_
 have I4 : Inv X pins σ H3 { s3 with heap := s3.heap.push { cls := .type "slice",data := .fields #[vl,vu,.none] } } := I3.kept (t' := s3.toks) fun b ob q => Heap.get?_push_of_some _ q
 obtain ⟨T,id,hT,ht,hg⟩ := hr pins { s3 with heap := s3.heap.push { cls := .type "slice",data := .fields #[vl,vu,.none] } } σ H3 x v vl vu l u s3.heap.objs.size Q I4 r1 (Heap.IsSliceOf.new ..) pl pu q3
 show wpAny (model X.prog X.w) X.A (subscriptTail e (.Slice lo hi none p2) v (.ref s3.heap.objs.size)) (EP X pins σ Q) X.xe { s3 with heap := s3.heap.push { cls := .type "slice",data := .fields #[vl,vu,.none] } }
 exact tail_any (ops := [.ref s3.heap.objs.size,v]) ht hT hg (by with_unfolding_all rfl)
def cutV (xs : List V) (lo hi : Option Int) : List V := (xs.drop (HT.sIx xs.length 0 lo)).take (HT.sIx xs.length xs.length hi - HT.sIx xs.length 0 lo)
theorem cutV_length (xs : List V) (lo hi : Option Int) : (cutV xs lo hi).length ≤ xs.length := by
 unfold cutV
 rw [List.length_take,List.length_drop]
 omega
def rSlT (K : PySem.W.Frag) : V -> Option Int -> Option Int -> Hp -> VK -> Prop := fun x lo hi H Q => ∃ a xs,x = .ref a ∧ SqT K H a xs ∧
 ¬ (HT.sIx xs.length 0 lo = 0 ∧ HT.sIx xs.length xs.length hi = xs.length) ∧ ∀ p,H p = none -> Q (.ref p) (upd H p (.tup (cutV xs lo hi)))
def rLtT (K : PySem.W.Frag) : R2 := fun x y H Q => ∃ a b ns ms,x = .ref a ∧ y = .ref b ∧ SqT K H a (ns.map V.int) ∧ SqT K H b (ms.map V.int) ∧ Q (.bl (HT.lexLt ns ms)) H
def rCatT (K : PySem.W.Frag) : R2 := fun x y H Q => ∃ a b xs ys,x = .ref a ∧ y = .ref b ∧ SqT K H a xs ∧ SqT K H b ys ∧ xs ≠ [] ∧ xs.length + ys.length ≤ sizeLine ∧
 (ys = [] -> Q (.ref a) H) ∧ (ys ≠ [] -> ∀ p,H p = none -> Q (.ref p) (upd H p (.tup (xs ++ ys))))
end
end L2
namespace L2
open PySem PySem.Spec PyProof.Rows
def ixN (n : Nat) (i : Int) : Option Nat := if 0 ≤ i then (if i < n then some i.toNat else none) else if -(n : Int) ≤ i then some (i + n).toNat else none
def atI {α : Type} (xs : List α) (i : Int) : Option α := (ixN xs.length i).bind fun j => xs[j]?
theorem ixN_seq {n : Nat} {i : Int} {j : Nat} (h : ixN n i = some j) : seqIndex? i n = some j ∧ j < n ∧ -(n : Int) ≤ i ∧ i < n := by
 unfold ixN at h
 by_cases h0 : 0 ≤ i
 ·rw [if_pos h0] at h
  by_cases h1 : i < n
  ·rw [if_pos h1] at h
   have e : i.toNat = j := Option.some.inj h
   exact ⟨by rw [seqIndex_of h0 h1,e],by omega,by omega,h1⟩
  ·rw [if_neg h1] at h; cases h
 ·rw [if_neg h0] at h
  by_cases h1 : -(n : Int) ≤ i
  ·rw [if_pos h1] at h
   have e : (i + n).toNat = j := Option.some.inj h
   exact ⟨by rw [seqIndex_neg (by omega) h1,e],by omega,h1,by omega⟩
  ·rw [if_neg h1] at h; cases h
theorem atI_get {α : Type} {xs : List α} {i : Int} {v : α} (h : atI xs i = some v) : ∃ j,seqIndex? i xs.length = some j ∧ xs[j]? = some v ∧ j < xs.length ∧ -(xs.length : Int) ≤ i ∧ i < xs.length := by
 unfold atI at h
 cases e : ixN xs.length i with
 | none => rw [e] at h; cases h
 | some j =>
  rw [e] at h
  obtain ⟨h1,h2,h3,h4⟩ := ixN_seq e
  exact ⟨j,h1,h,h2,h3,h4⟩
def PlainIx (b : Expr) : Prop := ∀ o i,subscripted b false o i = operate [o,i] (getItem o i)
def IxR (X : Cx) (r : R2) : Prop :=
 ∀ (value slice : Expr) (pins : List (Addr × Obj)) (s : Shared) (σ : St) (H : Hp) (x y : V) (v u : Value) (Q : VK),Inv X pins σ H s -> RelV x v -> RelV y u -> r x y H Q ->
  subscripted slice false v u = operate [v,u] (getItem v u) -> wpAny (model X.prog X.w) X.A (subscriptTail value slice v u) (EP X pins σ Q) X.xe s
def MtR (X : Cx) (id : String) (r : V -> List V -> Hp -> VK -> Prop) : Prop :=
 ∀ (pins : List (Addr × Obj)) (s : Shared) (σ : St) (H : Hp) (x : V) (xs : List V) (v : Value) (us : List Value) (Q : VK),Inv X pins σ H s -> RelV x v -> Vals xs us -> r x xs H Q ->
  wpAny (model X.prog X.w) X.A (call (.builtin id) (v :: us)) (EP X pins σ Q) X.xe s
section
variable {X : Cx} {a b : Expr} {ta tb : TE} {pos : Pos}
theorem IxR.or {r r' : R2} (h : IxR X r) (h' : IxR X r') : IxR X (fun x y H Q => r x y H Q ∨ r' x y H Q) := by
 intro value slice pins s σ H x y v u Q I rx ry q hs
 rcases q with q | q
 ·exact h value slice pins s σ H x y v u Q I rx ry q hs
 ·exact h' value slice pins s σ H x y v u Q I rx ry q hs
theorem MtR.or {id : String} {r r' : V -> List V -> Hp -> VK -> Prop} (h : MtR X id r) (h' : MtR X id r') : MtR X id (fun x xs H Q => r x xs H Q ∨ r' x xs H Q) := by
 intro pins s σ H x xs v us Q I rx rs q
 rcases q with q | q
 ·exact h pins s σ H x xs v us Q I rx rs q
 ·exact h' pins s σ H x xs v us Q I rx rs q
theorem pe_ix {r : R2} (hr : IxR X r) (ha : PE X a ta) (hb : PE X b tb) (hs : PlainIx b) : PE X (.Subscript a b pos) (tOp r ta tb) := by
 intro pins s σ H Q I h
 exact Subscript_ (binT ha hb I h fun v u s2 x y H2 I2 rx ry q => hr a b pins s2 σ H2 x y v u Q I2 rx ry q (hs _ _))
def rIxL (K : PySem.W.Frag) : R2 := fun x y H Q => ∃ p xs i v,x = .ref p ∧ y = .int i ∧ SqL K H p xs ∧ atI xs i = some v ∧ Q v H
def rIxT (K : PySem.W.Frag) : R2 := fun x y H Q => ∃ p xs i v,x = .ref p ∧ y = .int i ∧ SqT K H p xs ∧ atI xs i = some v ∧ Q v H
def rIxS : R2 := fun x y H Q => ∃ z i c,x = .str z ∧ y = .int i ∧ z.length ≤ sizeLine ∧ atI z.cps.toList i = some c ∧ Q (.str ⟨#[c]⟩) H
theorem ix_list : IxR X (rIxL X.K) := by
 intro value slice pins s σ H x y v u Q I rx ry h hs
 obtain ⟨p,xs,i,z,rfl,rfl,hq,he,q⟩ := h
 cases rx
 obtain ⟨t,rfl⟩ := ry
 obtain ⟨its,r,pl,hz⟩ := I.list hq
 obtain ⟨j,h1,h2,h3,h4,h5⟩ := atI_get he
 obtain ⟨w,ew,rw'⟩ := r.get h2
 have hl := r.length
 have hn := line63
 have fin : EP X pins σ Q w s := ⟨z,H,I,rw',q⟩
 by_cases h0 : 0 ≤ i
 ·have hj : i.toNat = j := by
   rw [seqIndex_of h0 h5] at h1
   exact Option.some.inj h1
  exact item_listR pl.isList h0 (by omega) (by rw [hj]; simpa using ew) fin hs
 ·have hj : (i + (its.toArray.size : Int)).toNat = j := by
   rw [seqIndex_neg (by omega) h4] at h1
   rw [List.size_toArray,← hl]
   exact Option.some.inj h1
  exact subscriptTail_builtinR (x := w) pl.isList.typeIs slot_list_getitem.lookup
   (wpAny_getItem_list_neg (Q := fun r s' => r = w ∧ EP X pins σ Q r s') pl.isList (by omega) (by rw [List.size_toArray] <;> omega) (by omega) (by rw [hj]; simpa using ew) ⟨rfl,fin⟩) hs
theorem ix_tup : IxR X (rIxT X.K) := by
 intro value slice pins s σ H x y v u Q I rx ry h hs
 obtain ⟨p,xs,i,z,rfl,rfl,hq,he,q⟩ := h
 cases rx
 obtain ⟨t,rfl⟩ := ry
 obtain ⟨its,r,pl,hz⟩ := I.tuple hq
 obtain ⟨j,h1,h2,h3,h4,h5⟩ := atI_get he
 obtain ⟨w,ew,rw'⟩ := r.get h2
 have hl := r.length
 have hn := line63
 have fin : EP X pins σ Q w s := ⟨z,H,I,rw',q⟩
 exact subscriptTail_builtinR (x := w) pl.typeIs slot_tuple_getitem.lookup
  (getItem_tuple (j := j) (Q := fun r s' => r = w ∧ EP X pins σ Q r s') pl (by omega) (by omega) (by rw [List.size_toArray,← hl]; exact h1) (by simpa using ew) ⟨rfl,fin⟩) hs
theorem ix_str : IxR X rIxS := by
 intro value slice pins s σ H x y v u Q I rx ry h hs
 obtain ⟨z,i,c,rfl,rfl,hz,he,q⟩ := h
 obtain ⟨t,rfl⟩ := rx
 obtain ⟨t',rfl⟩ := ry
 obtain ⟨j,h1,h2,h3,h4,h5⟩ := atI_get he
 have hl : z.cps.toList.length = z.length := by simp [Str.length]
 rw [hl] at h1 h4 h5
 have hn := line63
 exact tail_any (typeIs_str s z t) slot_str_getitem.lookup (getItem_str (c := c) (by
  have e1 : decide (i < -(2 ^ 63 : Int)) = false := decide_eq_false (by omega)
  have e2 : decide (i ≥ 2 ^ 63) = false := decide_eq_false (by omega)
  rw [e1,e2,Bool.or_false]) (by rw [h1]; simpa using h2) ⟨.str ⟨#[c]⟩,H,I.tok _,⟨_,rfl⟩,q⟩) hs
def rIx (K : PySem.W.Frag) : R2 := fun x y H Q => rIxL K x y H Q ∨ rIxT K x y H Q ∨ rIxS x y H Q
theorem ix_seq : IxR X (rIx X.K) := ix_list.or (ix_tup.or ix_str)
theorem mapSeq_set (its : List Value) (n j : Nat) (u : Value) : Obj.mapSeq (·.setIfInBounds j u) { cls := .type "list",data := .seq its.toArray n } = { cls := .type "list",data := .seq (its.set j u).toArray n } := by
 simp [Obj.mapSeq]
theorem Inv.lst {pins : List (Addr × Obj)} {σ : St} {H : Hp} {s : Shared} {p : Addr} {xs : List V} (I : Inv X pins σ H s) (h : H p = some (.lst xs)) :
  ∃ (its : List Value) (n : Nat),Vals xs its ∧ s.heap.get? p = some { cls := .type "list",data := .seq its.toArray n } ∧ xs.length ≤ sizeLine := by
 obtain ⟨z,its,n,r,e⟩ := I.hok p _ h
 exact ⟨its,n,r,e,z⟩
theorem Inv.lstUpd {pins : List (Addr × Obj)} {σ : St} {H : Hp} {s : Shared} {p : Addr} {xs ys : List V} {its its' : List Value} {n n' : Nat} {f : Obj -> Obj} (I : Inv X pins σ H s) (h : H p = some (.lst xs))
  (ho : s.heap.get? p = some { cls := .type "list",data := .seq its.toArray n }) (hf : f { cls := .type "list",data := .seq its.toArray n } = { cls := .type "list",data := .seq its'.toArray n' }) (r : Vals ys its') (hz : ys.length ≤ sizeLine) (t : Nat) :
  Inv X pins σ (upd H p (.lst ys)) { s with heap := s.heap.update p f,toks := t } := by
 have e : (s.heap.update p f).get? p = some { cls := .type "list",data := .seq its'.toArray n' } := by
  rw [Heap.get?_update_self f ho (by rw [hf] <;> rfl),hf]
 refine I.write (x := p) (e := p) (by rw [h]; trivial) (.inl rfl) (fun b u hb q => (Heap.get?_update_other _ _ (Ne.symm hb)).trans q) ⟨_,e⟩ ?_
 exact ⟨hz,its',n',r,e⟩
def rSetL : V -> V -> V -> Hp -> (Hp -> Prop) -> Prop := fun o i v H Q => ∃ p xs k j,o = .ref p ∧ i = .int k ∧ H p = some (.lst xs) ∧ ixN xs.length k = some j ∧ Q (upd H p (.lst (xs.set j v)))
theorem set_list : PSet X rSetL := by
 intro pins s σ H o i v ov iv u Q I ro ri rv h
 obtain ⟨p,xs,k,j,rfl,rfl,hp,hj,q⟩ := h
 cases ro
 obtain ⟨t,rfl⟩ := ri
 obtain ⟨its,n,r,ho,hz⟩ := I.lst hp
 obtain ⟨h1,h2,h3,h4⟩ := ixN_seq hj
 have hl := r.length
 have hn := line63
 have I' : Inv X pins σ (upd H p (.lst (xs.set j v))) { s with heap := s.heap.update p (Obj.mapSeq (·.setIfInBounds j u)) } :=
  I.lstUpd hp ho (mapSeq_set its n j u) (r.set rv j) (by rw [List.length_set]; exact hz) s.toks
 by_cases h0 : 0 ≤ k
 ·have hk : k.toNat = j := by
   rw [seqIndex_of h0 h4] at h1
   exact Option.some.inj h1
  exact PySem.W.ki_setAt ho h0 (by omega) (by rw [List.size_toArray,← hl]; exact h4) (by rw [hk]; exact ⟨_,I',q⟩)
 ·have hk : (k + (its.toArray.size : Int)).toNat = j := by
   rw [seqIndex_neg (by omega) h3] at h1
   rw [List.size_toArray,← hl]
   exact Option.some.inj h1
  exact PySem.W.ki_setBack ho (by omega) (by rw [List.size_toArray,← hl]; exact h3) (by omega) (by rw [hk]; exact ⟨_,I',q⟩)
theorem slice_bounds (lo hi : Option Int) (n : Nat) : (sliceBounds lo hi none n).1 = ((HT.sIx n 0 lo : Nat) : Int) ∧ (sliceBounds lo hi none n).2.1 = ((HT.sIx n n hi : Nat) : Int) ∧ (sliceBounds lo hi none n).2.2 = 1 := by
 refine ⟨?_,?_,rfl⟩
 ·cases lo with
  | none => simp [sliceBounds,HT.sIx]
  | some i =>
   simp only [sliceBounds,HT.sIx,Option.getD_none,show (1 : Int) > 0 by decide,if_true]
   by_cases h : i < 0
   ·simp only [h,if_true] <;> omega
   ·simp only [h,if_false] <;> omega
 ·cases hi with
  | none => simp [sliceBounds,HT.sIx]
  | some i =>
   simp only [sliceBounds,HT.sIx,Option.getD_none,show (1 : Int) > 0 by decide,if_true]
   by_cases h : i < 0
   ·simp only [h,if_true] <;> omega
   ·simp only [h,if_false] <;> omega
theorem slicePick_cut (its : List Value) (lo hi : Option Int) : slicePick its.toArray lo hi none = ((its.drop (HT.sIx its.length 0 lo)).take (HT.sIx its.length its.length hi - HT.sIx its.length 0 lo)).toArray := by
 obtain ⟨h1,h2,h3⟩ := slice_bounds lo hi its.toArray.size
 unfold slicePick
 rw [h1,h2,h3]
 simp only [sliceRange_one,pick_run,List.size_toArray] <;> rfl
def rSlL (K : PySem.W.Frag) : V -> Option Int -> Option Int -> Hp -> VK -> Prop := fun x lo hi H Q => ∃ a xs,x = .ref a ∧ SqL K H a xs ∧ ∀ p,H p = none -> Q (.ref p) (upd H p (.lst (cutV xs lo hi)))
theorem sl_list : SlR X (rSlL X.K) := by
 intro pins s σ H x v vl vu lo hi sl Q I rx hs pl pu h
 obtain ⟨a,xs,rfl,hx,q⟩ := h
 cases rx
 obtain ⟨its,r,ht,hz⟩ := I.list hx
 have hlen := r.length
 refine ⟨"list",_,slot_list_getitem.lookup,ht.isList.typeIs,?_⟩
 refine wpAny_getItem_list_slice ht.isList hs pl pu .none (by simp) ?_ (by rw [List.size_toArray] <;> omega)
 rw [slicePick_cut,← hlen]
 refine ⟨.ref s.heap.objs.size,_,I.laid (t' := s.toks) (o := .lst (cutV xs lo hi)) (fun b ob q => Heap.get?_push_of_some _ q) (Nat.le_refl _) ?_,rfl,q _ (I.hok.fresh (Nat.le_refl _))⟩
 exact ⟨Nat.le_trans (cutV_length xs lo hi) hz,_,0,(r.drop (HT.sIx xs.length 0 lo)).take (HT.sIx xs.length xs.length hi - HT.sIx xs.length 0 lo),Heap.get?_push_size _ rfl⟩
def flatV : V -> Bool
 | .non => true
 | .bl _ => true
 | .int _ => true
 | .str _ => true
 | _ => false
def eqV : V -> V -> Bool
 | .non,.non => true
 | .bl a,.bl b => a == b
 | .bl a,.int b => (if a then 1 else 0) == b
 | .int a,.bl b => a == (if b then 1 else 0)
 | .int a,.int b => a == b
 | .str a,.str b => a == b
 | _,_ => false
theorem eqAt_V {A : Around} {s : Shared} {y x : V} {u v : Value} (ry : RelV y u) (rx : RelV x v) (fy : flatV y = true) (fx : flatV x = true) : SeqAt.EqAt A s u v (eqV y x) := by
 cases y with
 | non =>
  cases ry
  cases x with
  | non => cases rx; exact SeqAt.EqAt.same _
  | bl b => cases rx; exact SeqAt.EqAt.none_bool b
  | int b => obtain ⟨t,rfl⟩ := rx; exact SeqAt.EqAt.none_int b t
  | str b => obtain ⟨t,rfl⟩ := rx; exact SeqAt.EqAt.none_str b t
  | _ => exact absurd (show false = true from fx) Bool.false_ne_true
 | bl a =>
  cases ry
  cases x with
  | non => cases rx; exact SeqAt.EqAt.bool_none a
  | bl b => cases rx; exact SeqAt.EqAt.bool_bool a b
  | int b => obtain ⟨t,rfl⟩ := rx; exact SeqAt.EqAt.bool_int a b t
  | str b => obtain ⟨t,rfl⟩ := rx; exact SeqAt.EqAt.bool_str a b t
  | _ => exact absurd (show false = true from fx) Bool.false_ne_true
 | int a =>
  obtain ⟨t',rfl⟩ := ry
  cases x with
  | non => cases rx; exact SeqAt.EqAt.int_none a t'
  | bl b => cases rx; exact SeqAt.EqAt.int_bool a t' b
  | int b => obtain ⟨t,rfl⟩ := rx; exact SeqAt.EqAt.int_int a t' b t
  | str b => obtain ⟨t,rfl⟩ := rx; exact SeqAt.EqAt.int_str a t' b t
  | _ => exact absurd (show false = true from fx) Bool.false_ne_true
 | str a =>
  obtain ⟨t',rfl⟩ := ry
  cases x with
  | non => cases rx; exact SeqAt.EqAt.str_none a t'
  | bl b => cases rx; exact SeqAt.EqAt.str_bool a t' b
  | int b => obtain ⟨t,rfl⟩ := rx; exact SeqAt.EqAt.str_int a t' b t
  | str b => obtain ⟨t,rfl⟩ := rx; exact SeqAt.EqAt.str_str a t' b t
  | _ => exact absurd (show false = true from fx) Bool.false_ne_true
 | _ => exact absurd (show false = true from fy) Bool.false_ne_true
def eqU (x : V) (u : Value) : Bool := match u with
 | .none => eqV .non x
 | .bool b => eqV (.bl b) x
 | .int i _ => eqV (.int i) x
 | .str z _ => eqV (.str z) x
 | _ => false
def inV (x : V) (xs : List V) : Bool := xs.any fun y => eqV y x
def rIn (K : PySem.W.Frag) (neg : Bool) : R2 := fun x y H Q => ∃ p xs,y = .ref p ∧ (SqL K H p xs ∨ SqT K H p xs) ∧ flatV x = true ∧ xs.all flatV = true ∧ Q (.bl (if neg then !inV x xs else inV x xs)) H
theorem call_len_seq : CallR X (.builtin "len") (fun xs H Q => ∃ p ys,xs = [.ref p] ∧ (SqL X.K H p ys ∨ SqT X.K H p ys) ∧ Q (.int ys.length) H) := by
 intro pins s σ H xs us Q I r h
 obtain ⟨p,ys,rfl,hq,q⟩ := h
 obtain ⟨u,rfl,rx⟩ := vals1 r
 cases rx
 have hn := line63
 rcases hq with hq | hq
 ·obtain ⟨its,r',pl,hz⟩ := I.list hq
  have hlen := r'.length
  exact Calls.call_len_list pl.isList (by simp only [List.size_toArray] <;> omega) ⟨.int ys.length,H,I.tok _,⟨s.toks + 1,by rw [List.size_toArray,hlen]⟩,q⟩
 ·obtain ⟨its,r',pl,hz⟩ := I.tuple hq
  have hlen := r'.length
  exact len_tuple pl (by simp only [List.size_toArray] <;> omega) ⟨.int ys.length,H,I.tok _,⟨s.toks + 1,by rw [List.size_toArray,hlen]⟩,q⟩
theorem call_len_str : CallR X (.builtin "len") (fun xs H Q => ∃ z,xs = [.str z] ∧ z.length ≤ sizeLine ∧ Q (.int z.length) H) := by
 intro pins s σ H xs us Q I r h
 obtain ⟨z,rfl,hz,q⟩ := h
 obtain ⟨u,rfl,t,rfl⟩ := vals1 r
 have hn := line63
 exact len_str (by omega) ⟨.int z.length,H,I.tok _,⟨_,rfl⟩,q⟩
theorem CallR.or {f : Value} {r r' : List V -> Hp -> VK -> Prop} (h : CallR X f r) (h' : CallR X f r') : CallR X f (fun xs H Q => r xs H Q ∨ r' xs H Q) := by
 intro pins s σ H xs us Q I rs q
 rcases q with q | q
 ·exact h pins s σ H xs us Q I rs q
 ·exact h' pins s σ H xs us Q I rs q
theorem call_list_of : CallR X (.type "list") (fun xs H Q => ∃ p ys,xs = [.ref p] ∧ (SqL X.K H p ys ∨ SqT X.K H p ys) ∧ ∀ l,H l = none -> Q (.ref l) (upd H l (.lst ys))) := by
 intro pins s σ H xs us Q I r h
 obtain ⟨p,ys,rfl,hq,q⟩ := h
 obtain ⟨u,rfl,rx⟩ := vals1 r
 cases rx
 have fin : ∀ (its : List Value),Vals ys its -> ys.length ≤ sizeLine -> ∀ (h' : Heap) (c' : Nat),(∀ b o',s.heap.get? b = some o' -> h'.get? b = some o') ->
   h'.get? s.heap.objs.size = some { cls := .type "list",dict := none,data := .seq its.toArray c',slots := #[] } -> EP X pins σ Q (.ref s.heap.objs.size) { s with heap := h' } := fun its r' hz h' c' kp e =>
  ⟨.ref s.heap.objs.size,_,I.laid (t' := s.toks) kp (Nat.le_refl _) (show ObjOk X.prog X.w _ h' _ (.lst ys) from ⟨hz,its,c',r',e⟩),rfl,q _ (I.hok.fresh (Nat.le_refl _))⟩
 rcases hq with hq | hq
 ·obtain ⟨its,r',pl,hz⟩ := I.list hq
  have hlen := r'.length
  obtain ⟨o,ho,hc,n,hd⟩ := pl.isList
  exact call_list_seq p (.inl rfl) ho hc hd (fun h' c' kp e => fin its r' hz h' c' kp e) (by simp only [List.size_toArray] <;> omega)
 ·obtain ⟨its,r',pl,hz⟩ := I.tuple hq
  have hlen := r'.length
  obtain ⟨o,ho,hc,n,hd⟩ := pl
  exact call_list_seq p (.inr rfl) ho hc hd (fun h' c' kp e => fin its r' hz h' c' kp e) (by simp only [List.size_toArray] <;> omega)
def tyV (K : PySem.W.Frag) (T : String) (x : V) (H : Hp) : Prop := match x with
 | .str _ => T = "str"
 | .int _ => T = "int"
 | .ref p => (T = "list" ∧ ∃ xs,SqL K H p xs) ∨ (T = "tuple" ∧ ∃ o,K.lookup p = some o ∧ o.cls = .type "tuple" ∧ o.dict = none) ∨
   (T = "dict" ∧ ((∃ kvs,H p = some (.dK kvs)) ∨ ∃ kvs,H p = some (.dT kvs))) ∨ (T = "set" ∧ ∃ S n,H p = some (.set S n))
 | _ => False
theorem tyV_is {pins : List (Addr × Obj)} {σ : St} {H : Hp} {s : Shared} {T : String} {x : V} {v : Value} (I : Inv X pins σ H s) (r : RelV x v) (ty : tyV X.K T x H) :
  s.TypeIs v T ∧ ∀ a,v = .ref a -> ∃ ob,s.heap.get? a = some ob ∧ ob.dict = none := by
 cases x with
 | str z =>
  obtain ⟨t,rfl⟩ := r
  cases (show T = "str" from ty)
  exact ⟨typeIs_str s z t,fun _ e => nomatch e⟩
 | int i =>
  obtain ⟨t,rfl⟩ := r
  cases (show T = "int" from ty)
  exact ⟨typeIs_int s i t,fun _ e => nomatch e⟩
 | ref p =>
  cases r
  rcases ty with ⟨rfl,xs,hq⟩ | ⟨rfl,o,hk,hc,hd⟩ | ⟨rfl,hk⟩ | ⟨rfl,S,n,hk⟩
  ·obtain ⟨its,_,pl,_⟩ := I.list hq
   refine ⟨pl.isList.typeIs,fun a e => ?_⟩
   cases e
   obtain ⟨o,n,e,c,hd,_⟩ := pl
   exact ⟨o,e,hd⟩
  ·refine ⟨⟨o,I.kIn p o hk,hc⟩,fun a e => ?_⟩
   cases e
   exact ⟨o,I.kIn _ o hk,hd⟩
  ·have z : ∃ o,s.heap.get? p = some o ∧ o.ExactDict := by
    rcases hk with ⟨kvs,hk⟩ | ⟨kvs,hk⟩
    ·obtain ⟨_,_,_,_,o,_,_,e,ex,_⟩ := I.hok p _ hk
     exact ⟨o,e,ex⟩
    ·obtain ⟨_,_,_,_,o,_,_,e,ex,_⟩ := I.hok p _ hk
     exact ⟨o,e,ex⟩
   obtain ⟨o,e,ex⟩ := z
   refine ⟨⟨o,e,ex.1⟩,fun a e2 => ?_⟩
   cases e2
   exact ⟨o,e,ex.2.1⟩
  ·obtain ⟨o,_,_,_,e,ex,_⟩ := I.hok p _ hk
   refine ⟨⟨o,e,ex.1⟩,fun a e2 => ?_⟩
   cases e2
   exact ⟨o,e,ex.2.1⟩
 | _ => exact False.elim ty
def tBM0 (K : PySem.W.Frag) (T : String) (r : V -> List V -> Hp -> VK -> Prop) (to : TE) : TE := fun σ H Q => to σ H fun x H1 => tyV K T x H1 ∧ r x [] H1 Q
def tBM (K : PySem.W.Frag) (T : String) (r : V -> List V -> Hp -> VK -> Prop) (to : TE) (t : TA) : TE := fun σ H Q => to σ H fun x H1 => tyV K T x H1 ∧ t σ H1 fun xs H2 => r x xs H2 Q
variable {o e : Expr} {es : List Expr} {to : TE} {t : TA} {name : Str} {apos cpos : Pos} {T id : String} {r : V -> List V -> Hp -> VK -> Prop}
theorem pe_bm0 (pa : PlainAttrs T) (slot : Slot T name id) (hty : typeOf (.builtin id) = pure (.type "method_descriptor")) (hm : MtR X id r) (ho : PE X o to)
  (hbase : attributeBase o name X.env (eval o X.env) = eval o X.env := by rfl) (hline : (apos.endLine == cpos.line) = true := by rfl) : PE X (.Call (.Attribute o name apos) [] [] cpos) (tBM0 X.K T r to) := by
 intro pins s σ H Q I h
 refine wpAny_Call_method0_late hbase hline (thn (ho pins s σ H _ I h) fun v s1 ⟨x,H1,I1,r1,ty,q1⟩ => ?_)
 obtain ⟨h1,h2⟩ := tyV_is I1 r1 ty
 exact ⟨T,id,pa,slot,hty,h1,h2,Calls.callWith_builtin rfl (PySem.evalArgs_none (hm pins s1 σ H1 x [] v [] Q I1 r1 .nil q1))⟩
theorem pe_bm (pa : PlainAttrs T) (slot : Slot T name id) (hty : typeOf (.builtin id) = pure (.type "method_descriptor")) (hm : MtR X id r) (ho : PE X o to) (ha : PA X (e :: es) t)
  (hbase : attributeBase o name X.env (eval o X.env) = eval o X.env := by rfl)
  (hfew : ((backTo cpos (starEach (e :: es) X.env)).all (fun x => !x.1) && (backToKw cpos (keywordEach [] X.env)).all (fun x => x.1.isSome)
   && decide ((e :: es).length + ([] : List Keyword).length + (if ([] : List Keyword).isEmpty then 0 else 1) < 30)) = true := by rfl)
  (hline : (apos.endLine == cpos.line) = true := by rfl) (hs : starEach (e :: es) X.env = (false,eval e X.env) :: starEach es X.env := by rfl) (hplain : (backTo cpos (starEach es X.env)).any (·.1) = false := by rfl) :
  PE X (.Call (.Attribute o name apos) (e :: es) [] cpos) (tBM X.K T r to t) := by
 intro pins s σ H Q I h
 refine wpAny_Call_method_late hbase hfew hline rfl (thn (ho pins s σ H _ I h) fun v s1 ⟨x,H1,I1,r1,ty,q1⟩ => ?_)
 obtain ⟨h1,h2⟩ := tyV_is I1 r1 ty
 refine ⟨T,id,pa,slot,hty,h1,h2,?_⟩
 have hA := ha cpos pins s1 σ H1 _ I1 q1
 rw [hs] at hA ⊢
 refine Calls.callWith_builtin (by show (false || (backTo cpos (starEach es X.env)).any (·.1)) = false; rw [hplain] <;> rfl) (Calls.evalArgs_plain ?_)
 exact thn hA fun us s2 ⟨vs,H2,I2,r2,q2⟩ => hm pins s2 σ H2 x vs v us Q I2 r1 r2 q2
end
end L2
namespace L2
open PySem PySem.Spec PyProof.Rows
def MtM (X : Cx) (id : String) (r : V -> List V -> Hp -> VK -> Prop) : Prop :=
 ∀ (pins : List (Addr × Obj)) (s : Shared) (σ : St) (H : Hp) (x : V) (xs : List V) (v : Value) (us : List Value) (Q : VK),Inv X pins σ H s -> RelV x v -> Vals xs us -> r x xs H Q ->
  wpAny (model X.prog X.w) X.A (call (.builtin id) (v :: us)) (EP X pins σ Q) X.xe s
theorem Vals.one : ∀ {x : V} {us : List Value},Vals [x] us -> ∃ u,us = [u] ∧ RelV x u
 | _,_,.cons r .nil => ⟨_,rfl,r⟩
theorem Vals.two : ∀ {x y : V} {us : List Value},Vals [x,y] us -> ∃ u v,us = [u,v] ∧ RelV x u ∧ RelV y v
 | _,_,_,.cons r (.cons q .nil) => ⟨_,_,rfl,r,q⟩
theorem Vals.zero : ∀ {us : List Value},Vals [] us -> us = []
 | _,.nil => rfl
theorem Vals.dropLast {xs : List V} {us : List Value} (h : Vals xs us) : Vals xs.dropLast us.dropLast := by
 induction h with
 | nil => exact .nil
 | cons r t ih =>
  cases t with
  | nil => exact .nil
  | cons q t' => exact .cons r ih
theorem Vals.eraseIdx : ∀ {xs : List V} {us : List Value} (i : Nat),Vals xs us -> Vals (xs.eraseIdx i) (us.eraseIdx i)
 | _,_,_,.nil => .nil
 | _,_,0,.cons _ t => t
 | _,_,i + 1,.cons r t => .cons r (Vals.eraseIdx i t)
theorem Vals.reverse {xs : List V} {us : List Value} (h : Vals xs us) : Vals xs.reverse us.reverse := by
 induction h with
 | nil => exact .nil
 | cons r t ih => rw [List.reverse_cons,List.reverse_cons]; exact Vals.append ih (.cons r .nil)
theorem Vals.rep {xs : List V} {us : List Value} (h : Vals xs us) : ∀ k : Nat,Vals (List.replicate k xs).flatten (List.replicate k us).flatten
 | 0 => .nil
 | k + 1 => by
  rw [List.replicate_succ,List.replicate_succ,List.flatten_cons,List.flatten_cons]
  exact Vals.append h (Vals.rep h k)
section
variable {X : Cx} {pins : List (Addr × Obj)} {σ : St} {H : Hp} {s : Shared} {l b : Addr} {xs ys zs : List V}
theorem Inv.lset {its its' : List Value} {n : Nat} {f : Array Value -> Array Value} {t' : Nat} (I : Inv X pins σ H s) (hH : H l = some (.lst xs))
  (e : s.heap.get? l = some { cls := .type "list",data := .seq its.toArray n }) (hf : f its.toArray = its'.toArray) (hv : Vals ys its') (hz : ys.length ≤ sizeLine) :
  Inv X pins σ (upd H l (.lst ys)) { s with heap := s.heap.update l (Obj.mapSeq f),toks := t' } := by
 have q := PySem.IsL.update e f
 rw [hf] at q
 refine I.write (x := l) (e := l) (by rw [hH]; exact trivial) (.inl rfl) (fun b' u hb hu => (Heap.get?_update_other s.heap (Obj.mapSeq f) (Ne.symm hb)).trans hu) ⟨_,q⟩ ?_
 exact ⟨hz,its',_,hv,q⟩
theorem Inv.fresh (I : Inv X pins σ H s) : H s.heap.objs.size = none := I.hok.fresh (Nat.le_refl _)
theorem Inv.lstM (I : Inv X pins σ H s) (hH : H l = some (.lst xs)) : xs.length ≤ sizeLine ∧ ∃ (its : List Value) (n : Nat),Vals xs its ∧ xs.length = its.length ∧ s.heap.get? l = some { cls := .type "list",data := .seq its.toArray n } := by
 obtain ⟨z,its,n,r,e⟩ := I.hok l _ hH
 exact ⟨z,its,n,r,r.length,e⟩
end
section
variable {X : Cx}
def rAppend : V -> List V -> Hp -> VK -> Prop := fun x vs H Q => ∃ l xs y,x = .ref l ∧ vs = [y] ∧ H l = some (.lst xs) ∧ xs.length < sizeLine ∧ Q .non (upd H l (.lst (xs ++ [y])))
theorem mt_append : MtM X "list.append" rAppend := by
 intro pins s σ H x vs v us Q I rx rv h
 obtain ⟨l,xs,y,rfl,rfl,hH,hz,q⟩ := h
 cases rx
 obtain ⟨u,rfl,ru⟩ := rv.one
 obtain ⟨z,its,n,r,hl,e⟩ := I.lstM hH
 refine call_meets F.slot_list_append ⟨_,e,rfl⟩ F.entry_list_append (F.args_list_append_2 _ _) (PySem.list_append l its.toArray n u (by rw [List.size_toArray]; omega)) ⟨e,?_⟩
 refine ⟨.non,_,I.lset (its' := its ++ [u]) hH e (by simp) (r.append (.cons ru .nil)) ?_,rfl,q⟩
 rw [List.length_append,List.length_singleton]
 omega
def rExtend : V -> List V -> Hp -> VK -> Prop := fun x vs H Q => ∃ l b xs zs,x = .ref l ∧ vs = [.ref b] ∧ H l = some (.lst xs) ∧ H b = some (.lst zs) ∧ xs.length + zs.length ≤ sizeLine ∧ Q .non (upd H l (.lst (xs ++ zs)))
def rPop : V -> List V -> Hp -> VK -> Prop := fun x vs H Q => ∃ l xs y,x = .ref l ∧ vs = [] ∧ H l = some (.lst xs) ∧ xs[xs.length - 1]? = some y ∧ Q y (upd H l (.lst xs.dropLast))
def rPopAt : V -> List V -> Hp -> VK -> Prop := fun x vs H Q => ∃ l xs i k y,x = .ref l ∧ vs = [.int i] ∧ H l = some (.lst xs) ∧ -(2 ^ 63) ≤ i ∧ i < 2 ^ 63 ∧ seqIndex? i xs.length = some k ∧ xs[k]? = some y ∧ Q y (upd H l (.lst (xs.eraseIdx k)))
def rReverse : V -> List V -> Hp -> VK -> Prop := fun x vs H Q => ∃ l xs,x = .ref l ∧ vs = [] ∧ H l = some (.lst xs) ∧ Q .non (upd H l (.lst xs.reverse))
def rClear : V -> List V -> Hp -> VK -> Prop := fun x vs H Q => ∃ l xs,x = .ref l ∧ vs = [] ∧ H l = some (.lst xs) ∧ Q .non (upd H l (.lst []))
def rCat : R2 := fun x y H Q => ∃ l b xs zs,x = .ref l ∧ y = .ref b ∧ H l = some (.lst xs) ∧ H b = some (.lst zs) ∧ xs.length + zs.length ≤ sizeLine ∧ ∀ p,H p = none -> Q (.ref p) (upd H p (.lst (xs ++ zs)))
def rRep : R2 := fun x y H Q => ∃ l k xs,x = .ref l ∧ y = .int k ∧ H l = some (.lst xs) ∧ -(2 ^ 63) ≤ k ∧ k < 2 ^ 63 ∧ xs.length * k.toNat ≤ sizeLine ∧
 ∀ p,H p = none -> Q (.ref p) (upd H p (.lst (List.replicate k.toNat xs).flatten))
end
section
variable {prog : Program} {w : World} {A : Around} {E : Value -> Shared -> Prop} {s : Shared}
end
section
variable {X : Cx}
end
end L2
namespace Att
open PySem PySem.W PySem.Calls PyProof.Rows
theorem ints_of_wellAll {P : Params} {h : Heap} : ∀ (ns : List Int) (vs : List Value),WellAll P h vs (ns.map WData.int) -> IntsAre vs ns := by
 intro ns
 induction ns with
 | nil =>
  intro vs w
  rw [List.map_nil] at w
  cases w
  exact .nil
 | cons n ns ih =>
  intro vs w
  rw [List.map_cons] at w
  cases w with
  | cons a b =>
   cases a
   exact .cons _ _ (ih _ b)
theorem script_of {l : OpenLaw} {n : Nat} (hn : l.most = some n) {P : Params} {h : Heap} {args : List WData} {vals : List Value}
  (hpre : l.row.toRowW.claim.pre args = true) (hwl : WellAll P h vals args) :
  ∃ a vs ns,vals = [Value.ref a] ∧ args = [WData.list (ns.map WData.int)] ∧ h.get? a = some { cls := .type "list",data := .seq vs.toArray } ∧ IntsAre vs ns ∧ ns.length ≤ n := by
 have hsh : WShape.hasAll [] args [.list .int] = true := (pre_splitW hpre).1
 have hc : l.pre.holds [] { args := args } = true := (pre_splitW hpre).2
 obtain ⟨d,r,rfl,h1,h2⟩ := hasAllW_cons hsh
 obtain rfl := hasAllW_nil h2
 obtain ⟨xs,rfl,h3⟩ := hasW_list h1
 obtain ⟨ns,rfl⟩ := items_int h3
 have hlen : ns.length ≤ n := by
  unfold OpenLaw.pre at hc
  have h4 : (WTm.not (.lt (.lit (.int (n : Int))) (.len (.arg 0)))).holds [] { args := [.list (ns.map .int)] } = true := by
   have h4 := (holds_andW hc).1
   rw [hn] at h4
   exact h4
  have h5 := condW_of h4 (w_not (w_lt w_lit (w_len_list (w_arg rfl))))
  rw [List.length_map] at h5
  refine Nat.le_of_not_lt fun q => ?_
  have q' : (n : Int) < ((ns.length : Nat) : Int) := by omega
  first
   | (rw [decide_eq_true q'] at h5; exact absurd h5 (by decide))
   | (simp at h5; omega)
 cases hwl with
 | cons w1 w2 =>
  cases w2
  cases w1 with
  | list ho hall => exact ⟨_,_,ns,rfl,rfl,ho,ints_of_wellAll ns _ hall,hlen⟩
theorem post_true (l : OpenLaw) (args : List WData) : l.row.toRowW.claim.post args (.bool true) args = true :=
 postW_of (r := l.row.toRowW) (X := (true == true))
  (show WShape.has [] (.bool true) .bool = true by first | rfl | decide | simp [WShape.has,WShape.arms,WShape.armsAll])
  (show (WTm.eq .res (.lit (.bool true))).value [] { args := args,res := some (.bool true),after := args } = some (.bool (true == true)) from w_eq_bool (w_res rfl) w_lit) rfl
theorem attach_call {l : OpenLaw} {n : Nat} {q : Program} {loose : List Str} {XP : (Str -> Option Value) -> Heap -> Prop} {YP : World -> Heap -> Prop} {d : DefRec}
  (hn : l.most = some n) (hdf : d.params.defaults = [])
  (call : ∀ (w : World) (s₀ s₁ : Shared) (mg mb : Str -> Option Value) (fa : Addr) (o : Obj) (pm cd doc : Value) (a : Addr) (vs : List Value) (ns : List Int),
   Ground q loose [] XP w s₀ mg mb s₁.heap -> YP w s₁.heap ->
   s₁.heap.get? fa = some o -> o.data = .func (docDef d.name d.params d.body d.scope pm cd doc) -> s₁.heap.CodeRec cd d.name -> mg d.name = some (.ref fa) ->
   s₁.heap.get? a = some { cls := .type "list",data := .seq vs.toArray } -> IntsAre vs ns -> ns.length ≤ n -> s₁.gens = #[] ->
   codeAny (model l.prog w) callerA (.call (.ref fa) ⟨[.ref a],[]⟩) (fun r s' => r = .ok (.ret (.bool true)) ∧ OldK s₁.heap s'.heap ∧ s'.os = s₁.os ∧ AllBare s'.gens) s₁) :
  WalkO q loose XP YP l.row.toRowW d [] (fun f vs => PySem.call f vs) := by
 intro w s₀ s₁ mg mb G Y fa o pm cd doc dV kV ho hd hcd hD hmg hg args vals as hpre hlay hrd hwl hlo
 obtain rfl : dV = .none := Dflts.none hD hdf
 obtain rfl : kV = .none := Dflts.noKw hD
 obtain ⟨a,vs,ns,rfl,rfl,hobj,hints,hlen⟩ := script_of hn hpre hwl
 refine enter_call (codeAny_mono (call w s₀ s₁ mg mb fa o pm cd doc a vs ns G Y ho (fd_plain hd) hcd hmg hobj hints hlen hg) fun r s' hq => ?_)
 obtain ⟨rfl,h2,h3,h4⟩ := hq
 exact ⟨.inl ⟨.bool true,.bool true,[],rfl,fun _ => rfl,.bool true,post_true l _,fun _ => ⟨List.Pairwise.nil,fun _ hm => (nomatch hm)⟩⟩,h2,h3,h4⟩
section
variable {prog : Program} {w : World} {A : Around} {E : Value -> Shared -> Prop} {s : Shared} {K : Frag}
def noObjs (h : Heap) : Heap := { h with objs := #[] }
theorem noObjs_get (h : Heap) (b : Addr) : (noObjs h).get? b = none := by
 cases e : (noObjs h).get? b with
 | none => rfl
 | some o => exact absurd (Heap.lt_size e) (Nat.not_lt_zero _)
def ledger (h : Heap) (L d : Addr) : List (Addr × Obj) := (List.range h.objs.size).filterMap fun a => if a = L ∨ a = d then none else (h.get? a).map fun o => (a,o)
theorem mem_ledger {h : Heap} {L d a : Addr} {o : Obj} : (a,o) ∈ ledger h L d ↔ a ≠ L ∧ a ≠ d ∧ h.get? a = some o := by
 unfold ledger
 rw [List.mem_filterMap]
 constructor
 ·rintro ⟨b,_,e⟩
  split at e
  ·cases e
  ·rename_i hb
   obtain ⟨o',ho,e'⟩ := Option.map_eq_some_iff.mp e
   cases e'
   exact ⟨fun q => hb (.inl q),fun q => hb (.inr q),ho⟩
 ·rintro ⟨n1,n2,ho⟩
  refine ⟨a,List.mem_range.mpr (Heap.lt_size ho),?_⟩
  rw [if_neg (show ¬ (a = L ∨ a = d) from fun q => q.elim n1 n2),ho] <;> rfl
theorem fr_all {h : Heap} {L : Addr} {m : Str -> Option Value} (n : h.Ns L m) : Fr (noObjs h) L h m :=
 ⟨n,fun b o e => (by rw [noObjs_get] at e; cases e),Nat.zero_le _⟩
end
end Att
namespace L2
open PySem PySem.Spec PyProof.Rows
theorem vals_ints : ∀ {vs : List Value} {ns : List Int},IntsAre vs ns -> Vals (ns.map V.int) vs
 | _,_,.nil => .nil
 | _,_,.cons n t h => .cons ⟨t,rfl⟩ (vals_ints h)
def Only (H : Hp) : Prop := ∀ b,H b = none ∨ ∃ o xs,H b = some (.frz o (.lst xs))
theorem law_call {P : Program} {w : World} {K : PySem.W.Frag} {mg mb : Str -> Option Value} {CX : CXT} {k : Nat} {fa a : Addr} {fd : FuncData} {x : Str} {sp : Sp} {s₁ : Shared} {vs : List Value} {ns : List Int}
  (KX : K.In s₁.heap) (hns : s₁.heap.Ns mainGlobals mg) (hb : s₁.heap.Ns builtinsNs mb) (hbb : ∀ x : Str,x ≠ "__name__" -> mb x = bootBuiltins x) (hlim : s₁.heap.NoLimit) (hg : s₁.gens = #[])
  (ha : s₁.heap.get? a = some { cls := .type "list",data := .seq vs.toArray }) (hi : IntsAre vs ns) (hl : ns.length ≤ sizeLine) (hr : Room k callerA)
  (F : ∀ base : Heap,K.In base -> base.Ns mainGlobals mg -> FnOk P w K mg base CX k fa fd [x] sp) (hbind : ∀ (s : Shared) (u : Value),BindsTo s fd ⟨[u],[]⟩ [(x,u)])
  (hsp : ∀ H : Hp,Only H -> SqL K H a (ns.map V.int) -> sp [.ref a] H (fun v _ => v = .bl true) fun _ _ _ => False)
  (hCX : ∀ H e s',CX [] H s₁ (fun _ _ _ => False) e s' -> False) :
  codeAny (model P w) callerA (.call (.ref fa) ⟨[.ref a],[]⟩) (fun r s' => r = .ok (.ret (.bool true)) ∧ OldK s₁.heap s'.heap ∧ s'.os = s₁.os ∧ AllBare s'.gens) s₁ := by
 have rv := vals_ints hi
 have lenV := hi.length
 have core : ∀ H : Hp,Only H -> SqL K H a (ns.map V.int) -> HOk P w H s₁.heap -> (∀ b,H b ≠ none -> b = a) -> (H a ≠ none -> K.lookup a = none) ->
   codeAny (model P w) callerA (.call (.ref fa) ⟨[.ref a],[]⟩) (fun r s' => r = .ok (.ret (.bool true)) ∧ OldK s₁.heap s'.heap ∧ s'.os = s₁.os ∧ AllBare s'.gens) s₁ := by
  intro H hO hS hok hA hK
  have base_of : ∀ {b : Addr} {o : Obj},s₁.heap.get? b = some o -> H b = none -> (hidT s₁.heap H).get? b = some o := fun e n => hidT_get e n
  have noA : ∀ {b : Addr} {o : Obj} {es : Array DictEntry} {ep : Nat},s₁.heap.get? b = some o -> o.data = .dict es ep -> H b = none := fun {b o es ep} e d => by
   cases q : H b with
   | none => rfl
   | some u =>
    have e' : b = a := hA b (by rw [q]; simp)
    subst e'
    rw [ha] at e; cases e
    have d' : Data.seq vs.toArray _ = Data.dict es ep := d
    cases d'
  have nsK : ∀ {b : Addr} {m : Str -> Option Value},s₁.heap.Ns b m -> (hidT s₁.heap H).Ns b m := fun {b m} ⟨o,es,ep,e,d,r⟩ => ⟨o,es,ep,base_of e (noA e d),d,r⟩
  have hKb : K.In (hidT s₁.heap H) := fun b o e => base_of (KX b o e) (by
   cases q : H b with
   | none => rfl
   | some u =>
    have e' : b = a := hA b (by rw [q]; simp)
    subst e'
    rw [hK (by rw [q]; simp)] at e; cases e)
  have hM : Mod K mg (hidT s₁.heap H) := ⟨hKb,nsK hns,⟨mb,nsK hb,hbb⟩,let ⟨mc,h1,h2⟩ := hlim; ⟨mc,nsK h1,h2⟩⟩
  have e0 : Env0 P w K mg (hidT s₁.heap H) callerA [] s₁ H := ⟨rfl,hM,fun b o e => of_hidT e,Nat.le_of_eq (hidT_size _ _),trivial,fun b hb => absurd (show b ∈ ([] : List Addr) from hb) (by simp),hok,.of_eq hg⟩
  refine codeAny_mono ((F _ hKb (nsK hns)).run callerA [] s₁ H ⟨[.ref a],[]⟩ [.ref a] [.ref a] _ _ hr e0 (hbind s₁ (.ref a)) (.cons rfl .nil) (hsp H hO hS)) fun r s' h => ?_
  cases r with
  | error e => exact (hCX H e s' h).elim
  | ok fl =>
   cases fl with
   | next => exact False.elim h
   | brk => exact False.elim h
   | cont => exact False.elim h
   | ret u =>
    obtain ⟨v,H',os,bare,un,hok',r',q⟩ := h
    have q' : v = .bl true := q
    subst q'
    obtain rfl : u = Value.bool true := r'
    refine ⟨rfl,OldK.of_keep fun b o e => ?_,os,bare⟩
    cases q : H b with
    | none => exact un.keep b o e q (by intro z; exact absurd (show b ∈ ([] : List Addr) from z) (by simp)) (by simp)
    | some u =>
     rcases hO b with z | ⟨ob,xs,z⟩
     ·rw [q] at z; cases z
     ·have z2 := un.frzs b ob _ z
      obtain ⟨e1,_⟩ := hok b _ z
      obtain ⟨e2,_⟩ := hok' b _ z2
      rw [e] at e1; cases e1
      exact e2
 cases hk : K.lookup a with
 | some o =>
  have e := KX a o hk
  rw [ha] at e
  cases e
  refine core (fun _ => none) (fun _ => .inl rfl) (.inr ⟨_,vs.toArray,_,hk,rfl,rfl,rfl,by rw [List.size_toArray,lenV]; exact hl,by simpa using rv⟩) (fun b u z => by have z' : (none : Option HO) = some u := z; cases z') (fun b z => absurd rfl z) fun z => absurd rfl z
 | none =>
  refine core (fun b => if b = a then some (.frz { cls := .type "list",data := .seq vs.toArray } (.lst (ns.map V.int))) else none) (fun b => ?_) (.inl (.inr ⟨{ cls := .type "list",data := .seq vs.toArray },if_pos rfl⟩)) (fun b u z => ?_) (fun b z => ?_) fun _ => hk
  ·by_cases hb : b = a
   ·exact .inr ⟨_,_,if_pos hb⟩
   ·exact .inl (if_neg hb)
  ·by_cases hb : b = a
   ·have z' := (if_pos hb).symm.trans z
    cases z'
    subst hb
    exact ⟨ha,by rw [List.length_map]; exact hl,vs,_,rv,ha⟩
   ·have z' := (if_neg hb).symm.trans z
    cases z'
  ·by_cases hb : b = a
   ·exact hb
   ·exact absurd (if_neg hb) z
end L2
namespace L2
open PySem PySem.Spec PyProof.Rows
abbrev KOf {K : PySem.W.Frag} {h : Heap} (_ : K.In h) : PySem.W.Frag := K
theorem walk_of {l : PySem.W.OpenLaw} {n k : Nat} {q : Program} {loose : List Str} {XP : (Str -> Option Value) -> Heap -> Prop} {YP : World -> Heap -> Prop} {d : DefRec} {K : Params -> PySem.W.Frag} {CX : World -> CXT} {sp : World -> Sp} {x : Str}
  (hn : l.most = some n) (hn2 : n ≤ sizeLine) (hdf : d.params.defaults = []) (hr : Room k callerA)
  (hY : ∀ (w : World) (h : Heap),YP w h -> (K w.params).In h)
  (F : ∀ (w : World) (mg : Str -> Option Value) (fa : Addr) (h : Heap),(K w.params).In h -> h.Ns mainGlobals mg -> mg d.name = some (.ref fa) ->
   ∃ fd : FuncData,(∀ (s : Shared) (u : Value),BindsTo s fd ⟨[u],[]⟩ [(x,u)]) ∧
    ∀ base : Heap,(K w.params).In base -> base.Ns mainGlobals mg -> FnOk l.prog w (K w.params) mg base (CX w) k fa fd [x] (sp w))
  (hsp : ∀ (w : World) (H : Hp) (a : Addr) (ns : List Int),ns.length ≤ n -> Only H -> SqL (K w.params) H a (ns.map V.int) -> sp w [.ref a] H (fun v _ => v = .bl true) fun _ _ _ => False)
  (hCX : ∀ (w : World) (H : Hp) (s : Shared) (e : Value) (s' : Shared),CX w [] H s (fun _ _ _ => False) e s' -> False) :
  PySem.W.WalkO q loose XP YP l.row.toRowW d [] (fun f vs => PySem.call f vs) := by
 refine Att.attach_call hn hdf fun w s₀ s₁ mg mb fa o pm cd doc a vs ns G Y ho hd hcd hmg hobj hints hlen hg => ?_
 have KX := hY w _ Y
 obtain ⟨fd,hb,hF⟩ := F w mg fa _ KX G.T.g hmg
 exact law_call KX G.T.g G.T.b G.T.builtins G.T.nolimit hg hobj hints (Nat.le_trans hlen hn2) hr hF hb (fun H hO hS => hsp w H a ns hlen hO hS) fun H e s' => hCX w H s₁ e s'
end L2
namespace L2
open PySem PySem.Spec PyProof.Rows
def inClass (s : Stmt) (j : Nat) : Stmt := match s with
 | .ClassDef _ _ _ body _ _ _ _ _ _ _ => body.getD j (.Pass ⟨0,0,0,0⟩)
 | _ => .Pass ⟨0,0,0,0⟩
def defArgs (s : Stmt) : Arguments := match s with
 | .FunctionDef _ a _ _ _ _ _ _ _ _ => a
 | _ => { posonlyargs := [],args := [],vararg := none,kwonlyargs := [],kw_defaults := [],kwarg := none,defaults := [] }
def defBody (s : Stmt) : List Stmt := match s with
 | .FunctionDef _ _ b _ _ _ _ _ _ _ => b
 | _ => []
def defScope (s : Stmt) : Scope := match s with
 | .FunctionDef _ _ _ _ _ _ sc _ _ _ => sc
 | _ => { kind := .function,names := [],isGenerator := false,isCoroutine := false }
abbrev CX0 : CXT := fun _ _ _ _ _ _ => False
abbrev E0 : XK := fun _ _ _ => False
theorem pass0 {X : Cx} : Passes CX0 X E0 := fun _ _ _ _ _ _ _ h => h.elim
structure Fun (K : PySem.W.Frag) (x qual : Str) (st : Stmt) (f : Addr) (fd : FuncData) : Prop where
 ex : ∃ (oc : Value) (od : Option Addr) (kV doc pm : Value) (an : Option Addr) (cdv ct : Value) (osl : Array (Option Value)),
  fd = PySem.W.fnOf x qual (defArgs st) (defBody st) (defScope st) .none kV doc pm an cdv ct ∧ K.lookup f = some ⟨oc,od,.func fd,osl⟩ ∧ PySem.W.codeIn K cdv qual = true
 kp : PySem.W.keepIn K (.ref f) = true
section
variable {P : Program} {w : World} {K : PySem.W.Frag} {mg : Str -> Option Value} {base : Heap}
theorem Fun.ok {x qual : Str} {st : Stmt} {f : Addr} {fd : FuncData} {N ps : List Str} {k : Nat} {sp : Sp} (F : Fun K x qual st f fd) (S : FnScope N ps (defScope st)) (len : ∀ vs H Q E,sp vs H Q E -> vs.length = ps.length)
  (hbody : ∀ (cdv : Value) (A : Around) (outer : List Env) (s : Shared) (H : Hp) (vs : List V) (Q : VK) (E : XK),Room k (A.deeper (envOfC qual (defScope st) s.heap.objs.size f cdv)) -> sp vs H Q E ->
   ∃ t,PSs (cxOf CX0 P w K mg base N qual (defScope st) f cdv A outer s H E).nox (defBody st) t ∧ t { nx := fun _ H' => Q .non H',rt := Q } (start N vs) H) : FnOk P w K mg base CX0 (k + 1) f fd ps sp := by
 obtain ⟨oc,od,kV,doc,pm,an,cdv,ct,osl,rfl,lk,hcd⟩ := F.ex
 refine fn_of lk hcd S len fun A outer s H vs Q E hr hsp => ?_
 obtain ⟨t,h,q⟩ := hbody cdv A outer s H vs Q E hr hsp
 exact ⟨t,h.nox,q⟩
theorem Fun.binds {x qual : Str} {st : Stmt} {f : Addr} {fd : FuncData} {ps : List Str} (F : Fun K x qual st f fd)
  (h : ∀ (kV doc pm : Value) (an : Option Addr) (cdv ct : Value) (us : List Value),us.length = ps.length -> bindArgs (PySem.W.fnOf x qual (defArgs st) (defBody st) (defScope st) .none kV doc pm an cdv ct) ⟨us,[]⟩ = pure (ps.zip us)) : Binds K fd ps [] := by
 obtain ⟨oc,od,kV,doc,pm,an,cdv,ct,osl,rfl,lk,hcd⟩ := F.ex
 exact .all (h kV doc pm an cdv ct)
theorem fun_mk {x qual : Str} {st : Stmt} {f : Addr} {oc : Value} {od an : Option Addr} {osl : Array (Option Value)} {kV doc pm cdv ct : Value} (l : K.lookup f = some ⟨oc,od,.func (PySem.W.fnOf x qual (defArgs st) (defBody st) (defScope st) .none kV doc pm an cdv ct),osl⟩)
  (c : PySem.W.codeIn K cdv qual = true) (k : PySem.W.keepIn K (.ref f) = true) : Fun K x qual st f (PySem.W.fnOf x qual (defArgs st) (defBody st) (defScope st) .none kV doc pm an cdv ct) := ⟨⟨oc,od,kV,doc,pm,an,cdv,ct,osl,rfl,l,c⟩,k⟩
end
theorem small1000 {n : Nat} (h : n ≤ 1000) : n < sizeLine := Nat.lt_of_le_of_lt h (by decide)
section
variable {X : Cx}
theorem pv (i : Nat) {x : Str} {pos : Pos} (hN : X.N[i]? = some x := by rfl) (hv : Vis X.env.scope x := by first | exact Or.inl rfl | exact Or.inr (Or.inl rfl) | exact Or.inr (Or.inr rfl)) (hd : (x == ("__debug__" : Str)) = false := by decide)
  (hcd : (x == ("__classdict__" : Str)) = false := by decide) : PE X (.Name x pos) (tVar i) := pe_var hN hv hd hcd
end
def Same (H H' : Hp) : Prop := ∀ b o,H b = some o -> H' b = some o
theorem Same.refl (H : Hp) : Same H H := fun _ _ h => h
theorem Same.trans {H H1 H2 : Hp} (a : Same H H1) (b : Same H1 H2) : Same H H2 := fun c o h => b c o (a c o h)
theorem Same.free {H H' : Hp} (e : Same H H') {l : Addr} (h : H' l = Option.none) : H l = Option.none := by
 cases q : H l with
 | none => rfl
 | some o =>
  rw [e l o q] at h
  cases h
theorem Same.seq {K : PySem.W.Frag} {H H' : Hp} {a : Addr} {xs : List V} (e : Same H H') (h : SqL K H a xs) : SqL K H' a xs := by
 rcases h with (h | ⟨o,h⟩) | h
 ·exact .inl (.inl (e _ _ h))
 ·exact .inl (.inr ⟨o,e _ _ h⟩)
 ·exact .inr h
end L2
namespace L2
open PySem PySem.Spec PyProof.Rows
section
variable {κ : Type} [DecidableEq κ]
def valV (kvs : List (κ × V)) (k : κ) : Option V := (kvs.find? fun kv => decide (kv.1 = k)).map (·.2)
def putK (kvs : List (κ × V)) (k : κ) (v : V) : List (κ × V) :=
 if (kvs.any fun kv => decide (kv.1 = k)) = true then kvs.map (fun kv => if kv.1 = k then (kv.1,v) else kv) else kvs ++ [(k,v)]
def dropK (kvs : List (κ × V)) (k : κ) : List (κ × V) := kvs.filter fun kv => decide (kv.1 ≠ k)
theorem valV_pos {p : κ × V} {r : List (κ × V)} {k : κ} (e : p.1 = k) : valV (p :: r) k = some p.2 := by simp [valV,List.find?_cons,e]
theorem valV_neg {p : κ × V} {r : List (κ × V)} {k : κ} (e : ¬ p.1 = k) : valV (p :: r) k = valV r k := by simp [valV,List.find?_cons,e]
theorem valV_any (k : κ) : ∀ kvs : List (κ × V),(kvs.any fun kv => decide (kv.1 = k)) = (valV kvs k).isSome
 | [] => rfl
 | p :: r => by
  rw [List.any_cons]
  by_cases e : p.1 = k
  ·simp only [valV_pos e,decide_eq_true e,Bool.true_or,Option.isSome_some]
  ·rw [valV_neg e,decide_eq_false e,Bool.false_or]; exact valV_any k r
theorem RelO.isSome_eq {o : Option V} {u : Option Value} (r : RelO o u) : o.isSome = u.isSome := by
 cases o with
 | none => cases u with
  | none => rfl
  | some _ => exact (show False from r).elim
 | some _ => cases u with
  | none => exact (show False from r).elim
  | some _ => rfl
theorem RelO.getD {o : Option V} {u : Option Value} {d : V} {d' : Value} (r : RelO o u) (rd : RelV d d') : RelV (o.getD d) (u.getD d') := by
 cases o with
 | none => cases u with
  | none => exact rd
  | some _ => exact (show False from r).elim
 | some _ => cases u with
  | none => exact (show False from r).elim
  | some _ => exact r
theorem KV.val {kvs : List (κ × V)} {vs : List (κ × Value)} (r : KV kvs vs) (k : κ) : RelO (valV kvs k) (valueAt vs k) := by
 unfold KV at r
 induction r with
 | nil => exact True.intro
 | @cons p q ps qs h t ih =>
  obtain ⟨h1,h2⟩ := h
  by_cases e : p.1 = k
  ·have e' : q.1 = k := h1.symm.trans e
   have b : valueAt (q :: qs) k = some q.2 := by simp [valueAt,List.find?_cons,e']
   rw [valV_pos e,b]; exact h2
  ·have e' : ¬ q.1 = k := fun z => e (h1.trans z)
   have b : valueAt (q :: qs) k = valueAt qs k := by simp [valueAt,List.find?_cons,e']
   rw [valV_neg e,b]; exact ih
theorem KV.any {kvs : List (κ × V)} {vs : List (κ × Value)} (r : KV kvs vs) (k : κ) : (kvs.any fun kv => decide (kv.1 = k)) = vs.any fun kv => decide (kv.1 = k) := by
 unfold KV at r
 induction r with
 | nil => rfl
 | cons h t ih => rw [List.any_cons,List.any_cons,ih,h.1]
theorem KV.repl {kvs : List (κ × V)} {vs : List (κ × Value)} (r : KV kvs vs) (k : κ) {y : V} {u : Value} (ry : RelV y u) :
  KV (kvs.map fun kv => if kv.1 = k then (kv.1,y) else kv) (vs.map fun kv => if kv.1 = k then (kv.1,u) else kv) := by
 unfold KV at r ⊢
 induction r with
 | nil => exact .nil
 | @cons p q ps qs h t ih =>
  rw [List.map_cons,List.map_cons]
  refine .cons ?_ ih
  obtain ⟨h1,h2⟩ := h
  by_cases e : p.1 = k
  ·rw [if_pos e,if_pos (h1.symm.trans e)]; exact ⟨h1,ry⟩
  ·rw [if_neg e,if_neg (fun z => e (h1.trans z))]; exact ⟨h1,h2⟩
theorem KV.put {kvs : List (κ × V)} {vs : List (κ × Value)} (r : KV kvs vs) (k : κ) {y : V} {u : Value} (ry : RelV y u) : KV (putK kvs k y) (stored vs k u) := by
 unfold putK stored
 rw [r.any k]
 by_cases e : (vs.any fun kv => decide (kv.1 = k)) = true
 ·rw [if_pos e,if_pos e]; exact r.repl k ry
 ·rw [if_neg e,if_neg e]; exact Paired.snoc r ⟨rfl,ry⟩
theorem KV.drop {kvs : List (κ × V)} {vs : List (κ × Value)} (r : KV kvs vs) (k : κ) : KV (dropK kvs k) (without vs k) := by
 unfold KV at r ⊢
 unfold dropK without
 induction r with
 | nil => exact .nil
 | @cons p q ps qs h t ih =>
  obtain ⟨h1,h2⟩ := h
  rw [List.filter_cons,List.filter_cons]
  by_cases e : p.1 = k
  ·have a : ¬ decide (p.1 ≠ k) = true := by simp [e]
   have b : ¬ decide (q.1 ≠ k) = true := by simp [h1.symm.trans e]
   rw [if_neg a,if_neg b]; exact ih
  ·have e' : ¬ q.1 = k := fun z => e (h1.trans z)
   have a : decide (p.1 ≠ k) = true := by simp [e]
   have b : decide (q.1 ≠ k) = true := by simp [e']
   rw [if_pos a,if_pos b]; exact .cons ⟨h1,h2⟩ ih
theorem KV.keys {kvs : List (κ × V)} {vs : List (κ × Value)} (r : KV kvs vs) : kvs.map (·.1) = vs.map (·.1) := by
 unfold KV at r
 induction r with
 | nil => rfl
 | cons h t ih => rw [List.map_cons,List.map_cons,ih,h.1]
theorem KV.length {kvs : List (κ × V)} {vs : List (κ × Value)} (r : KV kvs vs) : kvs.length = vs.length := Paired.length r
end
abbrev KT (H : Hp) : List (List Key × V) -> List (List Key × Addr × Value) -> Prop := Paired fun p q => p.1 = q.1 ∧ H q.2.1 = some (.tup (p.1.map kV)) ∧ RelV p.2 q.2.2
theorem KT.val {H : Hp} {kvs : List (List Key × V)} {xs : List (List Key × Addr × Value)} (r : KT H kvs xs) (k : List Key) : RelO (valV kvs k) ((atKey xs k).map (·.2)) := by
 induction r with
 | nil => exact True.intro
 | @cons p q ps qs h t ih =>
  obtain ⟨h1,_,h2⟩ := h
  by_cases e : p.1 = k
  ·have e' : q.1 = k := h1.symm.trans e
   have b : atKey (q :: qs) k = some q.2 := by simp [atKey,List.find?_cons,e']
   rw [valV_pos e,b]; exact h2
  ·have e' : ¬ q.1 = k := fun z => e (h1.trans z)
   have b : atKey (q :: qs) k = atKey qs k := by simp [atKey,List.find?_cons,e']
   rw [valV_neg e,b]; exact ih
theorem KT.repl {H : Hp} {kvs : List (List Key × V)} {xs : List (List Key × Addr × Value)} (r : KT H kvs xs) (k : List Key) {y : V} {u : Value} (ry : RelV y u) :
  KT H (kvs.map fun kv => if kv.1 = k then (kv.1,y) else kv) (xs.map (putAt k u)) := by
 induction r with
 | nil => exact .nil
 | @cons p q ps qs h t ih =>
  rw [List.map_cons,List.map_cons]
  refine .cons ?_ ih
  obtain ⟨h1,h2,h3⟩ := h
  unfold putAt
  by_cases e : p.1 = k
  ·rw [if_pos e,if_pos (h1.symm.trans e)]; exact ⟨h1,h2,ry⟩
  ·rw [if_neg e,if_neg (fun z => e (h1.trans z))]; exact ⟨h1,h2,h3⟩
theorem KT.put {H : Hp} {kvs : List (List Key × V)} {xs : List (List Key × Addr × Value)} (r : KT H kvs xs) (k : List Key) {b : Addr} {y : V} {u : Value} (hb : H b = some (.tup (k.map kV))) (ry : RelV y u) :
  KT H (putK kvs k y) (storedH xs k b u) := by
 have e : (kvs.any fun kv => decide (kv.1 = k)) = (atKey xs k).isSome := by
  rw [valV_any,(r.val k).isSome_eq,Option.isSome_map]
 unfold putK storedH
 rw [e]
 by_cases q : (atKey xs k).isSome = true
 ·rw [if_pos q,if_pos q]; exact r.repl k ry
 ·rw [if_neg q,if_neg q]; exact Paired.snoc r ⟨rfl,hb,ry⟩
theorem KT.keeps {H H' : Hp} {kvs : List (List Key × V)} {xs : List (List Key × Addr × Value)} (r : KT H kvs xs) (ht : ∀ b ys,H b = some (.tup ys) -> H' b = some (.tup ys)) : KT H' kvs xs :=
 Paired.mapP r fun _ _ z => ⟨z.1,ht _ _ z.2.1,z.2.2⟩
section
variable {P : Program} {w : World} {H : Hp} {h : Heap} {a : Addr}
theorem rd_of {u : HO} (ok : HOk P w H h) (e : Rd H a u) : ObjOk P w H h a u := e.ok ok
theorem dk_rd {kvs : List (Key × V)} (ok : HOk P w H h) (e : Rd H a (.dK kvs)) : kvs.length ≤ sizeLine ∧ (a == sysModules) = false ∧ ∃ vs,KV kvs vs ∧ h.DictOf (mixKind P w) a vs :=
 show ObjOk P w H h a (.dK kvs) from rd_of ok e
end
def DGet (H : Hp) (a : Addr) (y : V) (r : Option V) : Prop :=
 (∃ kvs k,Rd H a (.dK kvs) ∧ y = kV k ∧ r = valV kvs k) ∨ ∃ kvs k b,Rd H a (.dT kvs) ∧ y = .ref b ∧ H b = some (.tup (k.map kV)) ∧ r = valV kvs k
def DPut (H : Hp) (a : Addr) (y v : V) (H' : Hp) : Prop :=
 (∃ kvs k,H a = some (.dK kvs) ∧ y = kV k ∧ kvs.length < sizeLine ∧ H' = upd H a (.dK (putK kvs k v))) ∨
 ∃ kvs k b,H a = some (.dT kvs) ∧ y = .ref b ∧ H b = some (.tup (k.map kV)) ∧ kvs.length < sizeLine ∧ H' = upd H a (.dT (putK kvs k v))
theorem DGet.k {H : Hp} {a : Addr} {kvs : List (Key × V)} {k : Key} (e : H a = some (.dK kvs)) : DGet H a (kV k) (valV kvs k) := .inl ⟨kvs,k,.inl e,rfl,rfl⟩
theorem DGet.t {H : Hp} {a b : Addr} {kvs : List (List Key × V)} {k : List Key} (e : H a = some (.dT kvs)) (eb : H b = some (.tup (k.map kV))) : DGet H a (.ref b) (valV kvs k) := .inr ⟨kvs,k,b,.inl e,rfl,eb,rfl⟩
theorem DPut.k {H : Hp} {a : Addr} {kvs : List (Key × V)} {k : Key} {v : V} (e : H a = some (.dK kvs)) (hl : kvs.length < sizeLine) : DPut H a (kV k) v (upd H a (.dK (putK kvs k v))) := .inl ⟨kvs,k,e,rfl,hl,rfl⟩
theorem DPut.t {H : Hp} {a b : Addr} {kvs : List (List Key × V)} {k : List Key} {v : V} (e : H a = some (.dT kvs)) (eb : H b = some (.tup (k.map kV))) (hl : kvs.length < sizeLine) :
  DPut H a (.ref b) v (upd H a (.dT (putK kvs k v))) := .inr ⟨kvs,k,b,e,rfl,eb,hl,rfl⟩
section
variable {X : Cx} {pins : List (Addr × Obj)} {σ : St} {H : Hp} {s : Shared} {a : Addr} {y v : V} {u r : Value} {o : Option V} {A : Around} {E : Value -> Shared -> Prop}
end
section
variable {X : Cx} {pins : List (Addr × Obj)} {σ : St} {H : Hp} {s : Shared} {a : Addr} {kvs : List (Key × V)} {k : Key} {u : Value} {A : Around} {E : Value -> Shared -> Prop}
theorem d_len {Q : Value -> Shared -> Prop} (I : Inv X pins σ H s) (e : Rd H a (.dK kvs)) (h : ∀ t s',Inv X pins σ H s' -> Q (.int kvs.length t) s') : wpAny (model X.prog X.w) A (call (.builtin "len") [.ref a]) Q E s := by
 obtain ⟨z,hd,vs,rel,dd⟩ := dk_rd I.hok e
 refine call_len_dict hd dd (by rw [← rel.length]; rw [sizeLine_eq] at z; omega) ?_
 rw [← rel.length]
 exact h _ _ (I.tok _)
end
def NoSl (i : Expr) : Prop := ∀ ov iv,subscripted i false ov iv = operate [ov,iv] (getItem ov iv)
def tDGet (td ty : TE) : TE := fun σ H Q => td σ H fun x H1 => ty σ H1 fun y H2 => ∃ a v,x = .ref a ∧ DGet H2 a y (some v) ∧ Q v H2
def tDIn (ty td : TE) : TE := fun σ H Q => ty σ H fun y H1 => td σ H1 fun x H2 => ∃ a o,x = .ref a ∧ DGet H2 a y o ∧ Q (.bl o.isSome) H2
def tDNotIn (ty td : TE) : TE := fun σ H Q => ty σ H fun y H1 => td σ H1 fun x H2 => ∃ a o,x = .ref a ∧ DGet H2 a y o ∧ Q (.bl (!o.isSome)) H2
def sDPut (td ty tv : TE) : TS := fun D σ H => tv σ H fun v H1 => td σ H1 fun x H2 => ty σ H2 fun y H3 => ∃ a H4,x = .ref a ∧ DPut H3 a y v H4 ∧ D.nx σ H4
def sDAug (td ty tv : TE) (rd : V -> V -> Hp -> VK -> Prop) : TS := fun D σ H => td σ H fun x H1 => ty σ H1 fun y H2 => ∃ a v,x = .ref a ∧ DGet H2 a y (some v) ∧
 tv σ H2 fun y2 H3 => rd v y2 H3 fun z H4 => ∃ H5,DPut H4 a y z H5 ∧ D.nx σ H5
def sDDel (td ty : TE) : TS := fun D σ H => td σ H fun x H1 => ty σ H1 fun y H2 => ∃ a kvs k,x = .ref a ∧ H2 a = some (.dK kvs) ∧ y = kV k ∧ (valV kvs k).isSome = true ∧ D.nx σ (upd H2 a (.dK (dropK kvs k)))
section
variable {X : Cx} {o i e value : Expr} {pos pos' tpos : Pos} {td ty tv : TE}
end
def tDNewK : TE := fun _ H Q => ∀ p,H p = none -> Q (.ref p) (upd H p (.dK []))
def tDNewT : TE := fun _ H Q => ∀ p,H p = none -> Q (.ref p) (upd H p (.dT []))
section
variable {X : Cx} {pos : Pos}
end
def tPairs : List (TE × TE) -> St -> Hp -> (List (V × V) -> Hp -> Prop) -> Prop
 | [],_,H,Q => Q [] H
 | (tk,tv) :: r,σ,H,Q => tk σ H fun x H1 => tv σ H1 fun y H2 => tPairs r σ H2 fun ps H3 => Q ((x,y) :: ps) H3
abbrev VV : List (V × V) -> List (Value × Value) -> Prop := Paired fun p q => RelV p.1 q.1 ∧ RelV p.2 q.2
def PPs (X : Cx) (pos : Pos) (keys : List (Option Expr)) (values : List Expr) (trs : List (TE × TE)) : Prop :=
 ∀ (pins : List (Addr × Obj)) (s : Shared) (σ : St) (H : Hp) (Q : List (V × V) -> Hp -> Prop),Inv X pins σ H s -> tPairs trs σ H Q ->
  wpAny (model X.prog X.w) X.A (evalPairs (pairTrees keys values X.env pos)) (fun vs s' => ∃ ps H',Inv X pins σ H' s' ∧ VV ps vs ∧ Q ps H') X.xe s
def mergeK (kvs more : List (Key × V)) : List (Key × V) := more.foldl (fun acc kv => putK acc kv.1 kv.2) kvs
def tDisp (trs : List (TE × TE)) : TE := fun σ H Q => ∀ p,H p = none -> tPairs trs σ (upd H p (.dK [])) fun ps H2 => H2 p = some (.dK []) ∧ ∃ kvs : List (Key × V),ps = kvs.map (fun kv => (kV kv.1,kv.2)) ∧ kvs.length ≤ 15 ∧ Q (.ref p) (upd H2 p (.dK (mergeK [] kvs)))
structure M1 (X : Cx) (o : Expr) (m : Str) (apos : Pos) (e : Expr) (cpos : Pos) : Prop where
 base : attributeBase o m X.env (eval o X.env) = eval o X.env
 few : ((backTo cpos (starEach [e] X.env)).all (fun x => !x.1) && (backToKw cpos (keywordEach [] X.env)).all (fun x => x.1.isSome)
  && decide (([e] : List Expr).length + ([] : List Keyword).length + (if ([] : List Keyword).isEmpty then 0 else 1) < 30)) = true
 line : (apos.endLine == cpos.line) = true
 trees : backTo cpos (starEach [e] X.env) = [(false,eval e X.env)]
structure M2 (X : Cx) (o : Expr) (m : Str) (apos : Pos) (e f : Expr) (cpos : Pos) : Prop where
 base : attributeBase o m X.env (eval o X.env) = eval o X.env
 few : ((backTo cpos (starEach [e,f] X.env)).all (fun x => !x.1) && (backToKw cpos (keywordEach [] X.env)).all (fun x => x.1.isSome)
  && decide (([e,f] : List Expr).length + ([] : List Keyword).length + (if ([] : List Keyword).isEmpty then 0 else 1) < 30)) = true
 line : (apos.endLine == cpos.line) = true
 trees : backTo cpos (starEach [e,f] X.env) = [(false,eval e X.env),(false,eval f X.env)]
def IsD (H : Hp) (a : Addr) : Prop := (∃ kvs,Rd H a (.dK kvs)) ∨ ∃ kvs,Rd H a (.dT kvs)
section
variable {X : Cx} {pins : List (Addr × Obj)} {σ : St} {H : Hp} {s : Shared} {a : Addr} {y d : V} {u r : Value} {o : Option V} {A : Around} {E : Value -> Shared -> Prop}
end
def tDGet1 (td ty : TE) : TE := fun σ H Q => td σ H fun x H1 => ∃ a,x = .ref a ∧ IsD H1 a ∧ ty σ H1 fun y H2 => ∃ o,DGet H2 a y o ∧ Q (o.getD .non) H2
def tDGet2 (td ty tx : TE) : TE := fun σ H Q => td σ H fun x H1 => ∃ a,x = .ref a ∧ IsD H1 a ∧ ty σ H1 fun y H2 => tx σ H2 fun z H3 => ∃ o,DGet H3 a y o ∧ Q (o.getD z) H3
def tDPop1 (td ty : TE) : TE := fun σ H Q => td σ H fun x H1 => ∃ a,x = .ref a ∧ IsD H1 a ∧ ty σ H1 fun y H2 => ∃ kvs k v,H2 a = some (.dK kvs) ∧ y = kV k ∧ valV kvs k = some v ∧ Q v (upd H2 a (.dK (dropK kvs k)))
def tDPop2 (td ty tx : TE) : TE := fun σ H Q => td σ H fun x H1 => ∃ a,x = .ref a ∧ IsD H1 a ∧ ty σ H1 fun y H2 => tx σ H2 fun z H3 => ∃ kvs k,H3 a = some (.dK kvs) ∧ y = kV k ∧
 (∀ v,valV kvs k = some v -> Q v (upd H3 a (.dK (dropK kvs k)))) ∧ (valV kvs k = none -> Q z H3)
section
variable {X : Cx} {o e f : Expr} {apos cpos : Pos} {td ty tx : TE}
end
section
variable {X : Cx} {pins : List (Addr × Obj)} {σ : St} {H : Hp} {s : Shared} {a : Addr} {kvs : List (Key × V)} {A : Around} {E : Value -> Shared -> Prop}
end
section
variable {X : Cx} {pins : List (Addr × Obj)} {σ : St} {H : Hp} {s : Shared} {a : Addr} {y : V} {u : Value} {A : Around} {E : Value -> Shared -> Prop}
end
section
variable {X : Cx}
end
section
variable {κ : Type} [DecidableEq κ]
end
end L2
set_option maxRecDepth 100000
namespace L2
open PySem PySem.Spec PyProof.Rows
section
variable {X : Cx}
theorem PE.imp {e : Expr} {t t' : TE} (h : PE X e t) (hi : ∀ σ H Q,t' σ H Q -> t σ H Q) : PE X e t' := fun pins s σ H Q I q => h pins s σ H Q I (hi _ _ _ q)
theorem PT.imp {e : Expr} {t t' : TT} (h : PT X e t) (hi : ∀ σ H Q,t' σ H Q -> t σ H Q) : PT X e t' := fun pins s σ H Q I q => h pins s σ H Q I (hi _ _ _ q)
theorem PW.imp {e : Expr} {t t' : TT} (h : PW X e t) (hi : ∀ σ H Q,t' σ H Q -> t σ H Q) : PW X e t' := fun wh pins s σ H Q I q => h wh pins s σ H Q I (hi _ _ _ q)
theorem PA.imp {e : List Expr} {t t' : TA} (h : PA X e t) (hi : ∀ σ H Q,t' σ H Q -> t σ H Q) : PA X e t' := fun pos pins s σ H Q I q => h pos pins s σ H Q I (hi _ _ _ q)
theorem PS.imp {e : Stmt} {t t' : TS} (h : PS X e t) (hi : ∀ D σ H,t' D σ H -> t D σ H) : PS X e t' := fun pins s σ H D I q => h pins s σ H D I (hi _ _ _ q)
theorem PSs.imp {e : List Stmt} {t t' : TS} (h : PSs X e t) (hi : ∀ D σ H,t' D σ H -> t D σ H) : PSs X e t' := fun pins s σ H D I q => h pins s σ H D I (hi _ _ _ q)
theorem PG.imp {e : Expr} {t t' : TG} (h : PG X e t) (hi : ∀ v σ H Q,t' v σ H Q -> t v σ H Q) : PG X e t' := fun pins s σ H v u Q I r q => h pins s σ H v u Q I r (hi _ _ _ _ q)
end
end L2
namespace L2
open PySem PySem.Spec PyProof.Rows
section
variable {prog : Program} {w : World} {A : Around} {R : Result -> Shared -> Prop} {s : Shared}
theorem comp_loop {elt target iter : Expr} {ifs : List Expr} {scope : Scope} {pos : Pos} {it acc : Value} {env : Env} (I : Nat -> Shared -> Prop)
  (turn : ∀ n s,I n s -> wpAny (model prog w) A (pyNext it) (fun r s₁ => match r with
   | none => R (.ok .next) s₁
   | some v => wpAny (model prog w) A (letOwnedTupleGo target it v) (fun _ s₁' => wpAny (model prog w) A (assign target env v) (fun _ s₂ =>
     wpAny (model prog w) A (forIn ifs true fun c r => if r = true then do let ok ← isTrue c env (eval c env); pure (ForInStep.yield ok) else pure (ForInStep.yield r)) (fun ok s₃ =>
      if ok = true then wpAny (model prog w) A (eval elt env) (fun x s₄ =>
       wpAny (model prog w) A (call (.builtin "list.append") [acc,x]) (fun _ s₅ => ∃ m,m < n ∧ I m s₅) (fun _ _ => False) s₄) (fun _ _ => False) s₃
      else ∃ m,m < n ∧ I m s₃) (fun _ _ => False) s₂) (fun _ _ => False) s₁') (fun _ _ => False) s₁) (fun _ _ => False) s)
  (n : Nat) (h : I n s) : codeAny (model prog w) A (.compLoop (.ListComp elt [⟨target,iter,ifs,0⟩] scope pos) 0 it acc env) R s := by
 refine codeAny_loop rfl I (fun n s hI => ?_) n h
 show wpAny _ A ((compTurn (.ListComp elt [⟨target,iter,ifs,0⟩] scope pos) 0 it acc env).onRaise (fun x => do noteFrame x env; theTreesLotGoes x)) _ _ s
 refine wpAny_noted ?_
 rw [compTurn_list]
 refine wpAny_mono (E := fun _ _ => False) ?_ (fun _ _ q => q) (fun _ _ q => q.elim)
 refine wpAny_bind (wpAny_standAt (wpAny_bind (wpAny_mono (turn n s hI) (fun r s₁ h₁ => ?_) fun _ _ h' => h')))
 cases r with
 | none => exact wpAny_pure h₁
 | some v =>
  refine wpAny_bind (wpAny_mono h₁ (fun _ s₁' h₁' => ?_) fun _ _ h' => h')
  refine wpAny_bind (wpAny_mono h₁' (fun _ s₂ h₂ => wpAny_bind (wpAny_mono h₂ (fun ok s₃ h₃ => ?_) fun _ _ h' => h')) fun _ _ h' => h')
  cases ok with
  | false => exact wpAny_pure ⟨rfl,h₃⟩
  | true =>
   exact wpAny_bind (wpAny_bind (wpAny_mono h₃ (fun x s₄ h₄ => wpAny_bind (wpAny_mono h₄ (fun _ s₅ h₅ => wpAny_pure (wpAny_pure ⟨rfl,h₅⟩)) fun _ _ h' => h')) fun _ _ h' => h'))
end
def clOf (f : Str -> Option Addr) : List (Str × NameKind) -> List (Str × Addr) -> List (Str × Addr)
 | [],acc => acc
 | (n,k) :: r,acc => if k == .free then (match f n with
  | some c => clOf f r ((n,c) :: acc)
  | none => clOf f r acc) else clOf f r acc
theorem clOf_mem {f : Str -> Option Addr} : ∀ {names : List (Str × NameKind)} {acc : List (Str × Addr)} {x : Str} {c : Addr},(x,c) ∈ clOf f names acc -> (x,c) ∈ acc ∨ f x = some c
 | [],acc,x,c,h => .inl h
 | (n,k) :: r,acc,x,c,h => by
  unfold clOf at h
  split at h
  ·cases e : f n with
   | none => rw [e] at h; exact clOf_mem h
   | some c' =>
    rw [e] at h
    rcases clOf_mem h with z | z
    ·rcases List.mem_cons.mp z with z | z
     ·cases z; exact .inr e
     ·exact .inl z
    ·exact .inr z
  ·exact clOf_mem h
theorem clOf_acc {f : Str -> Option Addr} : ∀ {names : List (Str × NameKind)} {acc : List (Str × Addr)} {p : Str × Addr},p ∈ acc -> p ∈ clOf f names acc
 | [],acc,p,h => h
 | (n,k) :: r,acc,p,h => by
  unfold clOf
  split
  ·cases e : f n with
   | none => exact clOf_acc h
   | some c' => exact clOf_acc (List.mem_cons_of_mem _ h)
  ·exact clOf_acc h
theorem clOf_has {f : Str -> Option Addr} : ∀ {names : List (Str × NameKind)} {acc : List (Str × Addr)} {x : Str} {c : Addr},(x,NameKind.free) ∈ names -> f x = some c -> ∃ c',(x,c') ∈ clOf f names acc
 | [],acc,x,c,h,_ => nomatch h
 | (n,k) :: r,acc,x,c,h,hf => by
  unfold clOf
  rcases List.mem_cons.mp h with z | z
  ·cases z
   rw [if_pos (by decide),hf]
   exact ⟨c,clOf_acc List.mem_cons_self⟩
  ·split
   ·cases e : f n with
    | none => exact clOf_has z hf
    | some c' => exact clOf_has z hf
   ·exact clOf_has z hf
theorem closure_is {scope : Scope} {env : Env} (h : ∀ y ∈ scope.names,y.2 = .free -> ∃ c,env.cells.lookup y.1 = some c) : closureFor scope env = pure (clOf (fun x => env.cells.lookup x) scope.names []) := by
 unfold closureFor
 suffices H : ∀ (names : List (Str × NameKind)) (acc : List (Str × Addr)),(∀ y ∈ names,y.2 = .free -> ∃ c,env.cells.lookup y.1 = some c) ->
   (forIn names acc fun x cs => do
    match x with
    | (name,kind) => if (kind == .free) = true then do
      let a ← cellOf env name
      pure (ForInStep.yield ((name,a) :: cs)) else pure (ForInStep.yield cs) : Sem (List (Str × Addr))) = pure (clOf (fun x => env.cells.lookup x) names acc) by
  have := H scope.names [] h
  simp only [bind_pure] at this ⊢
  exact this
 intro names
 induction names with
 | nil => intro acc _; rfl
 | cons y r ih =>
  intro acc hh
  obtain ⟨n,k⟩ := y
  rw [List.forIn_cons]
  by_cases hk : (k == NameKind.free) = true
  ·obtain ⟨c,hc⟩ := hh (n,k) List.mem_cons_self (by simpa using hk)
   simp only [hk,if_true,cellOf,hc,pure_bind,clOf]
   exact ih _ fun z hz => hh z (List.mem_cons_of_mem _ hz)
  ·have hk' : (k == NameKind.free) = false := by simpa using hk
   simp only [hk',Bool.false_eq_true,if_false,pure_bind,clOf]
   exact ih _ fun z hz => hh z (List.mem_cons_of_mem _ hz)
theorem relabel_kind {env : Env} : ∀ {names : List (Str × NameKind)} {x : Str},(∀ y ∈ names,y.2 ≠ .cell) ->
  ((names.map fun (n,k) => if (k == NameKind.free && env.scope.kind == .function && env.kindOf n == some .cell) then (n,NameKind.cell) else (n,k)).lookup x = some .cell ∨
   (names.map fun (n,k) => if (k == NameKind.free && env.scope.kind == .function && env.kindOf n == some .cell) then (n,NameKind.cell) else (n,k)).lookup x = some .free) -> (x,NameKind.free) ∈ names
 | [],x,_,h => by simp at h
 | (n,k) :: r,x,hc,h => by
  have ih := @relabel_kind env r x fun y hy => hc y (List.mem_cons_of_mem _ hy)
  simp only [List.map_cons] at h
  by_cases hk : (k == NameKind.free && env.scope.kind == .function && env.kindOf n == some .cell) = true
  ·rw [if_pos hk] at h
   by_cases hx : (x == n) = true
   ·have : x = n := by simpa using hx
    subst this
    have hkf : k = .free := by
     simp only [Bool.and_eq_true,beq_iff_eq] at hk
     exact hk.1.1
    subst hkf
    exact List.mem_cons_self
   ·have hx' : (x == n) = false := by simpa using hx
    simp only [List.lookup_cons,hx'] at h
    exact List.mem_cons_of_mem _ (ih h)
  ·rw [if_neg hk] at h
   by_cases hx : (x == n) = true
   ·have : x = n := by simpa using hx
    subst this
    simp only [List.lookup_cons,beq_self_eq_true] at h
    rcases h with h | h
    ·have := hc (x,k) List.mem_cons_self
     exact absurd (Option.some.inj h) this
    ·have hkf : k = .free := Option.some.inj h
     subst hkf
     exact List.mem_cons_self
   ·have hx' : (x == n) = false := by simpa using hx
    simp only [List.lookup_cons,hx'] at h
    exact List.mem_cons_of_mem _ (ih h)
theorem mem_lookup {l : List (Str × Addr)} {x : Str} {c : Addr} (h : (x,c) ∈ l) : ∃ c',l.lookup x = some c' := by
 induction l with
 | nil => cases h
 | cons p r ih =>
  obtain ⟨n,a⟩ := p
  by_cases hx : (x == n) = true
  ·exact ⟨a,by simp only [List.lookup_cons,hx]⟩
  ·have hx' : (x == n) = false := by simpa using hx
   simp only [List.lookup_cons,hx']
   rcases List.mem_cons.mp h with z | z
   ·cases z; simp at hx
   ·exact ih z
structure CNames (X : Cx) (scope : Scope) (N' : List Str) (k : Nat) (ix : List Nat) : Prop where
 cell : ∀ y ∈ scope.names,y.2 ≠ .cell
 kind : scope.kind = .function
 loc : ∀ y ∈ scope.names,y.2 = .local -> scope.names.lookup y.1 = some .local
 fre : ∀ y ∈ scope.names,y.2 = .free -> X.env.kindOf y.1 = some .cell ∨ X.env.kindOf y.1 = some .free
 len : N'.length = k + ix.length
 ref : ∀ (j i : Nat) (x : Str),ix[j]? = some i -> N'[k + j]? = some x -> X.N[i]? = some x ∧ (X.env.kindOf x = some .cell ∨ X.env.kindOf x = some .free) ∧ (relabel scope X.env).names.lookup x ≠ some .local
abbrev clX (X : Cx) (scope : Scope) : List (Str × Addr) := clOf (fun x => X.env.cells.lookup x) scope.names []
def blk (X : Cx) (N' : List Str) (scope : Scope) (C : Addr) (s2 : Shared) (H2 : Hp) (fp : List Addr) (pins : List (Addr × Obj)) : Cx :=
 { X with N := N',s₀ := s2,H₀ := H2,env := compEnvC scope (clX X scope) C X.env,outer := X.stack,ex := fp,fn := fun _ => false,pn := X.pn ++ pins,xe := fun _ _ => False }
def σin (k : Nat) (ix : List Nat) (σ : St) : St := List.replicate k none ++ ix.map fun i => (σ[i]?).join
section
variable {X : Cx} {pins : List (Addr × Obj)} {σ : St} {H2 : Hp} {s2 : Shared} {scope : Scope} {N' : List Str} {k : Nat} {ix : List Nat} {fp : List Addr}
theorem clX_sub {x : Str} {c : Addr} (h : (clX X scope).lookup x = some c) : X.env.cells.lookup x = some c := by
 rcases clOf_mem (PySem.mem_of_lookup h) with z | z
 ·cases z
 ·exact z
theorem blk_start {C D : Addr} {h1 : Heap} {tk : Nat} {m0 : Str -> Option Value} (I : Inv X pins σ H2 s2) (hf : ∀ b ∈ fp,FpOk X pins H2 b) (hfo : ∀ b ∈ fp,b < s2.heap.objs.size) (S : CNames X scope N' k ix) (hD : D = s2.heap.objs.size) (hC : s2.heap.objs.size < C)
  (hns : h1.Ns C m0) (hk : ∀ b o,s2.heap.get? b = some o -> h1.get? b = some o) (hl : h1.get? D = some { cls := .type "list",data := .seq ([] : List Value).toArray }) :
  Inv (blk X N' scope C s2 H2 fp pins) [] (σin k ix σ) (upd H2 D (.lst [])) { s2 with heap := h1,toks := tk } := by
 have hDn : H2 D = none := I.hok.fresh (by rw [hD]; exact Nat.le_refl _)
 have hCD : C ≠ D := by rw [hD]; exact Nat.ne_of_gt hC
 have freshC : H2 C = none := I.hok.fresh (Nat.le_of_lt hC)
 have has : ∀ x,((compEnvC scope (clX X scope) C X.env).kindOf x = some .cell ∨ (compEnvC scope (clX X scope) C X.env).kindOf x = some .free) -> ∃ c,(clX X scope).lookup x = some c := fun x hx => by
  have hm := relabel_kind (env := X.env) S.cell hx
  obtain ⟨c,hc⟩ := I.ok.has x (S.fre _ hm rfl)
  obtain ⟨c',hc'⟩ := clOf_has (f := fun x => X.env.cells.lookup x) (acc := []) hm hc
  exact mem_lookup hc'
 refine ⟨⟨I.ok.mod,S.kind,I.ok.glob,I.ok.blt,Nat.le_of_lt hC,fun x y c h1 h2 => I.ok.inj x y c (clX_sub h1) (clX_sub h2),has,fun x c z _ => absurd z Bool.false_ne_true,I.ok.hd,I.ok.frames,.inl rfl,fun b hb => ?_,I.bs,Nat.le_trans I.ok.bsz I.sz,fun b o e hb => ?_,fun b hb hs => ?_,I.stack,I.stkFree⟩,
  rfl,I.bare,?_,⟨m0,hns,fun i x v e1 e2 e3 => ?_⟩,fun x c e => ?_,?_,fun x c e => ?_,fun p hp => ?_,?_,?_⟩
 ·exact ⟨Nat.ne_of_lt (Nat.lt_trans (hfo b hb) hC),fun x c e z => (hf b hb).2.2.2.2.1 x c (clX_sub e) z⟩
 ·rcases (hf b hb).2.2.2.1 with z | z
  ·exact I.ok.noex b o e z
  ·exact absurd (Nat.lt_of_lt_of_le (Heap.lt_size e) (Nat.le_trans I.ok.bsz z)) (Nat.lt_irrefl _)
 ·rcases List.mem_cons.mp (I.stkSub b hs) with z | z
  ·exact (hf b hb).2.1 z
  ·exact (hf b hb).2.2.1 z
 ·exact (Un.laid (fun b u q => hk b u q) (by rw [hD]; exact Nat.le_refl _) hDn)
 ·have e2' : (List.replicate k none ++ ix.map fun i => (σ[i]?).join)[i]? = some (some v) := e2
  have hik : k ≤ i := by
   rcases Nat.lt_or_ge i k with z | z
   ·rw [List.getElem?_append_left (by simpa using z),List.getElem?_replicate,if_pos z] at e2'
    cases e2'
   ·exact z
  obtain ⟨j,rfl⟩ : ∃ j,i = k + j := ⟨i - k,by lia⟩
  rw [List.getElem?_append_right (by simp),List.length_replicate,Nat.add_sub_cancel_left,List.getElem?_map] at e2'
  cases ej : ix[j]? with
  | none => rw [ej] at e2'; cases e2'
  | some i0 =>
   rw [ej] at e2'
   have e4 : (σ[i0]?).join = some v := Option.some.inj e2'
   have e5 : σ[i0]? = some (some v) := by
    cases q : σ[i0]? with
    | none => rw [q] at e4; cases e4
    | some z => rw [q] at e4; exact congrArg some e4
   obtain ⟨r1,r2,r3⟩ := S.ref j i0 x ej e1
   obtain ⟨m,_,hl'⟩ := I.loc
   obtain ⟨u,hu,lk⟩ := hl' i0 x v r1 e5 (by rcases r2 with z | z; exact .inr (.inl z); exact .inr (.inr z))
   refine ⟨u,hu,?_⟩
   rcases lk with ⟨z,_⟩ | ⟨_,c,hc,hcell⟩
   ·rcases r2 with q | q <;> rw [z] at q <;> cases q
   ·have kk : (compEnvC scope (clX X scope) C X.env).kindOf x = some .cell ∨ (compEnvC scope (clX X scope) C X.env).kindOf x = some .free := by
     rcases e3 with q | q
     ·exact absurd q r3
     ·exact q
    obtain ⟨c',hc'⟩ := has x kk
    have := clX_sub hc'
    rw [hc] at this; cases this
    obtain ⟨o,ho,hd⟩ := hcell
    exact .inr ⟨kk,c,hc',o,hk _ _ ho,hd⟩
 ·obtain ⟨v,hv⟩ := I.cell x c (clX_sub e)
  obtain ⟨o,ho,hd⟩ := hv
  exact ⟨v,o,hk _ _ ho,hd⟩
 ·show upd H2 D (.lst []) C = none
  rw [upd_ne hCD]; exact freshC
 ·have e' := clX_sub (X := X) e
  show upd H2 D (.lst []) c = none
  obtain ⟨v,o,ho,_⟩ := I.cell x c e'
  rw [upd_ne (by rw [hD]; exact Nat.ne_of_lt (Heap.lt_size ho))]
  exact I.freeC x c e'
 ·have hp' : p ∈ X.pn ++ pins := by
   have z : p ∈ (X.pn ++ pins) ++ [] := hp
   rwa [List.append_nil] at z
  obtain ⟨q1,q2,q3,q4,q5⟩ := I.pin p hp'
  have lt := Heap.lt_size q1
  refine ⟨hk _ _ q1,?_,Nat.ne_of_lt (Nat.lt_trans lt hC),fun z => ?_,q5⟩
  ·show upd H2 D (.lst []) p.1 = none
   rw [upd_ne (by rw [hD]; exact Nat.ne_of_lt lt)]; exact q2
  ·rcases List.mem_cons.mp (I.stkSub p.1 z) with y | y
   ·exact q3 y
   ·exact q4 y
 ·exact I.hok.laid hk (by rw [hD]; exact Nat.le_refl _) ⟨by simp,[],0,.nil,hl⟩
 ·show (List.replicate k none ++ ix.map fun i => (σ[i]?).join).length = N'.length
  rw [S.len]; simp
def PCs (X : Cx) (ifs : List Expr) (t : TT) : Prop := ∀ (pins : List (Addr × Obj)) (s : Shared) (σ : St) (H : Hp) (Q : Bool -> Hp -> Prop),Inv X pins σ H s -> t σ H Q ->
 wpAny (model X.prog X.w) X.A (forIn ifs true fun c r => if r = true then do let ok ← isTrue c X.env (eval c X.env); pure (ForInStep.yield ok) else pure (ForInStep.yield r)) (TP X pins σ Q) X.xe s
def tYes : TT := fun _ H Q => Q true H
theorem pcs_nil {X : Cx} : PCs X [] tYes := fun pins s σ H Q I h => wpAny_tests_nil ⟨H,I,h⟩
theorem pcs_one {X : Cx} {c : Expr} {t : TT} (h : PT X c t) : PCs X [c] t := fun pins s σ H Q I q => wpAny_tests_one (h pins s σ H Q I q)
def tComp (wi : TI) (g : TG) (gt : TT) (te : TE) (k : Nat) (ix : List Nat) : TE := fun σ H Q => wi σ H fun J H1 => ∀ D,H1 D = none -> ∃ W : Nat -> Nat -> St -> List V -> Hp -> Prop,(∃ m,W 0 m (σin k ix σ) [] (upd H1 D (.lst []))) ∧
 ∀ i m σ ys H,W i m σ ys H -> H D = some (.lst ys) ∧ ((J.stop i H ∧ Q (.ref D) H) ∨ (J.go i H ∧ ys.length < sizeLine ∧ ∃ N : St -> List V -> Hp -> Prop,(∀ σ' ys' H',N σ' ys' H' -> ∃ m',m' < m ∧ W (i + 1) m' σ' ys' H') ∧
  ∀ x H',J.yld i H x H' -> g x σ H' fun σ2 H2 => gt σ2 H2 fun b H3 => if b = true then te σ2 H3 fun y H4 => H4 D = some (.lst ys) ∧ N σ2 (ys ++ [y]) (upd H4 D (.lst (ys ++ [y]))) else N σ2 ys H3))
theorem comp_any {iter elt tg : Expr} {ifs : List Expr} {pos cpos : Pos} {wi : TI} {g : TG} {gt : TT} {te : TE} (hc : X.calm = true) (S : CNames X scope N' k ix) (hi : PI X tg iter wi)
  (hb : ∀ C s2 H2 fp pins,PG (blk X N' scope C s2 H2 fp pins) tg g ∧ PCs (blk X N' scope C s2 H2 fp pins) ifs gt ∧ PE (blk X N' scope C s2 H2 fp pins) elt te)
  (hs : ∀ x,foldedSetIterable iter X.env x = pure x) {use : Option (Value -> Sem Unit)} {Q' : Value -> Shared -> Prop} {pins : List (Addr × Obj)} {s : Shared} {σ : St} {H : Hp} {Q : VK} (I : Inv X pins σ H s) (h : tComp wi g gt te k ix σ H Q)
  (fin : ∀ (D C : Addr) (H4 : Hp) (s5 : Shared),FpOk X pins H4 C -> (∃ m,s5.heap.Ns C m) -> (∀ h',Heap.SameBut C s5.heap h' -> Inv X pins σ H4 { s5 with heap := h' }) -> Q (.ref D) H4 -> compPost (model X.prog X.w) X.A X.xe use Q' (.ref D) C (.ok .next) s5) :
  wpAny (model X.prog X.w) X.A (comprehension (.ListComp elt [⟨tg,iter,ifs,0⟩] scope pos) scope X.env cpos (newList []) false (eval iter X.env) use) Q' X.xe s := by
 have hcl : closureFor scope X.env = pure (clX X scope) := closure_is fun y hy hk => I.ok.has y.1 (S.fre y hy hk)
 refine wpAny_comprehension_free (use := use) rfl hs hcl S.kind S.loc (wpAny_mono (hi pins s σ H _ I h) (fun v s1 h1 => wpAny_mono h1 (fun itv s2 h2 => ?_) fun _ _ e => e) fun _ _ e => e)
 obtain ⟨it,fp,tn,J,H2,e,I2,T,st2,f2,q⟩ := h2
 subst e
 refine wpAny_newObj_type (wpAny_newFunctionEnv S.cell (by intro y hy; simp at hy) (fun h₁ hns₁ hsb₁ => ?_) S.kind)
 dsimp only at hns₁ hsb₁ ⊢
 generalize hH2 : s2.heap.push { cls := .type "list",dict := none,data := .seq ([] : List Value).toArray } = G2 at hns₁ hsb₁ ⊢
 have hC : G2.objs.size = s2.heap.objs.size + 1 := by rw [← hH2,Heap.size_push]
 have hDC : s2.heap.objs.size ≠ G2.objs.size := by rw [hC]; exact Nat.ne_of_lt (Nat.lt_succ_self _)
 have below : ∀ b,b < s2.heap.objs.size -> b ≠ G2.objs.size := fun b hb => by rw [hC]; exact Nat.ne_of_lt (Nat.lt_succ_of_lt hb)
 have old : ∀ b o,s2.heap.get? b = some o -> h₁.get? b = some o := fun b o e => hsb₁.extBut b o (below b (Heap.lt_size e)) (Heap.get?_push_of_some _ (hH2 ▸ Heap.get?_push_of_some _ e))
 have hacc : h₁.get? s2.heap.objs.size = some { cls := .type "list",data := .seq ([] : List Value).toArray } := hsb₁.extBut _ _ hDC (Heap.get?_push_of_some _ (hH2 ▸ Heap.get?_push_size _ rfl))
 obtain ⟨W,⟨m0,w0⟩,turn⟩ := q s2.heap.objs.size (I2.hok.fresh (Nat.le_refl _))
 have hfo : ∀ b ∈ fp,b < s2.heap.objs.size := fun b hb => by
  obtain ⟨o,ho,_⟩ := T.obj _ _ st2 b hb
  exact Heap.lt_size ho
 have I3 := blk_start (C := G2.objs.size) (D := s2.heap.objs.size) (h1 := h₁) (tk := s2.toks + ([] : List (Str × Value)).length) I2 f2 hfo S rfl (by rw [hC]; exact Nat.lt_succ_self _) hns₁ old hacc
 have st3 : tn 0 h₁ := T.keep _ _ _ st2 fun b hb o e => old b o e
 obtain ⟨hg,hcs,he⟩ := hb G2.objs.size s2 H2 fp pins
 have fpo : ∀ {H' : Hp},(∀ b ∈ fp,H' b = none) -> ∀ b ∈ fp,FpOk (blk X N' scope G2.objs.size s2 H2 fp pins) [] H' b := fun hn b hb => by
  obtain ⟨_,q1,q2,_,q4,q5⟩ := f2 b hb
  refine ⟨hn b hb,Nat.ne_of_lt (Nat.lt_trans (hfo b hb) (by rw [hC]; exact Nat.lt_succ_self _)),fun z => ?_,.inl hb,fun x c e z => q4 x c (clX_sub e) z,fun p hp => ?_⟩
  ·rcases List.mem_cons.mp (I2.stkSub b z) with y | y
   ·exact q1 y
   ·exact q2 y
  ·have z : p ∈ (X.pn ++ pins) ++ [] := hp
   rw [List.append_nil] at z
   exact q5 p z
 have loop : ∀ s3 : Shared,s3 = { s2 with heap := h₁,toks := s2.toks + ([] : List (Str × Value)).length } ->
   codeAny (model X.prog X.w) X.A (.compLoop (.ListComp elt [⟨tg,iter,ifs,0⟩] scope pos) 0 (.ref it) (.ref s2.heap.objs.size) (compEnvC scope (clX X scope) G2.objs.size X.env))
    (compPost (model X.prog X.w) X.A X.xe use Q' (.ref s2.heap.objs.size) G2.objs.size) s3 := by
  rintro s3 rfl
  refine comp_loop (fun n s' => ∃ i σ' ys H',Inv (blk X N' scope G2.objs.size s2 H2 fp pins) [] σ' H' s' ∧ tn i s'.heap ∧ (∀ b ∈ fp,H' b = none) ∧ W i n σ' ys H') ?_ m0 ⟨0,_,[],_,I3,st3,fun b hb => ?_,w0⟩
  ·rintro n s4 ⟨i,σ4,ys,H4,I4,st4,fr4,w4⟩
   obtain ⟨hD4,w5⟩ := turn i n σ4 ys H4 w4
   rcases w5 with ⟨stop,qn⟩ | ⟨go,hlen,N,hN,step⟩
   ·refine thn (T.done (blk X N' scope G2.objs.size s2 H2 fp pins) rfl rfl rfl hc i [] s4 σ4 H4 (fun _ _ => False) I4 (fpo fr4) st4 stop) fun r s5 ⟨hr,I5⟩ => ?_
    subst hr
    obtain ⟨m5,ns5,_⟩ := I5.loc
    have nC0 : H4 G2.objs.size = none := I5.free
    refine fin _ _ H4 s5 (I2.fpOk (by rw [hC]; exact Nat.le_succ _) nC0) ⟨m5,ns5⟩ (fun h' hs' => ?_) qn
    have off : ∀ b o,b ≠ G2.objs.size -> s5.heap.get? b = some o -> h'.get? b = some o := fun b o hb e => hs'.extBut b o hb e
    have nC : H4 G2.objs.size = none := I5.free
    have ne2 : ∀ b o,s2.heap.get? b = some o -> b ≠ G2.objs.size := fun b o e => below b (Heap.lt_size e)
    have u5 := I5.base
    have un : Un (frs X.stack) fp H2 H4 s2.heap h' := ⟨fun b o e n hb hx => off b o (ne2 b o e) (u5.keep b o e n hb hx),fun b o e n hb hx => by
      obtain ⟨sl,q⟩ := u5.slot b o e n hb hx
      exact ⟨sl,off b _ (ne2 b o e) q⟩,u5.free,fun b o e hx => by
      obtain ⟨o',q⟩ := u5.there b o e hx
      exact ⟨o',off b o' (ne2 b o e) q⟩,u5.tups,u5.frzs,u5.tbls⟩
    have hok : HOk X.prog X.w H4 h' := fun b u e => (I5.hok b u e).stay (fun c v hc q => off c v (fun z => by
      rcases hc with y | y
      ·rw [← y,z,nC] at e; cases e
      ·rw [z,nC] at y; cases y) q) (fun _ q => q) fun _ _ q => q
    exact I2.call' (s' := { s5 with heap := h' }) (ch := fp) I5.os un hok I5.bare (fun b hb => by
     obtain ⟨_,q1,_,q3,q4,q5⟩ := f2 b hb
     exact ⟨q3,q1,q4,q5⟩)
   ·refine thn (T.item (blk X N' scope G2.objs.size s2 H2 fp pins) rfl rfl rfl hc i [] s4 σ4 H4 (fun _ _ => False) I4 (fpo fr4) st4 go) fun r s5 ⟨u,hr,h5⟩ => ?_
    subst hr
    refine thn h5 fun _ s6 ⟨x,H6,I6,r6,y6,st6,fr6⟩ => ?_
    have I6' := I6.pinned (fpo fr6) (T.obj _ _ st6)
    refine thn (hg _ s6 σ4 H6 x u _ I6' r6 (step x H6 y6)) fun _ s7 ⟨σ7,H7,I7,q7⟩ => ?_
    refine thn (hcs _ s7 σ7 H7 _ I7 q7) fun ok s8 ⟨H8,I8,q8⟩ => ?_
    have again : ∀ {σ9 : St} {zs : List V} {H9 : Hp} {s9 : Shared},Inv (blk X N' scope G2.objs.size s2 H2 fp pins) ([] ++ pinsAt fp s6.heap) σ9 H9 s9 -> N σ9 zs H9 ->
      ∃ m,m < n ∧ ∃ i σ' ys H',Inv (blk X N' scope G2.objs.size s2 H2 fp pins) [] σ' H' s9 ∧ tn i s9.heap ∧ (∀ b ∈ fp,H' b = none) ∧ W i m σ' ys H' := fun {σ9 zs H9 s9} I9 n9 => by
     obtain ⟨m',hm,w9⟩ := hN σ9 zs H9 n9
     refine ⟨m',hm,i + 1,σ9,zs,H9,I9.unpinned,T.keep _ _ _ st6 fun b hb o e => (I9.pin (b,o) (List.mem_append_right _ (List.mem_append_right _ (mem_pinsAt hb e)))).1,fun b hb => ?_,w9⟩
     obtain ⟨o,e,d⟩ := T.obj _ _ st6 b hb
     exact (I9.pin (b,o) (List.mem_append_right _ (List.mem_append_right _ (mem_pinsAt hb e)))).2.1
    cases ok with
    | false => exact again I8 q8
    | true =>
     refine thn (he _ s8 σ7 H8 _ I8 q8) fun xv s9 ⟨y,H9,I9,r9,hD9,n9⟩ => ?_
     exact thn (mt_append (X := blk X N' scope G2.objs.size s2 H2 fp pins) _ s9 σ7 H9 (.ref s2.heap.objs.size) [y] _ _ (fun v H' => H' = upd H9 s2.heap.objs.size (.lst (ys ++ [y]))) I9 rfl (.cons r9 .nil) ⟨_,ys,y,rfl,rfl,hD9,hlen,rfl⟩)
      fun _ s10 ⟨v10,H10,I10,_,e10⟩ => by subst e10; exact again I10 n9
  ·show upd H2 s2.heap.objs.size (.lst []) b = none
   rw [upd_ne (Nat.ne_of_lt (hfo b hb))]
   exact (f2 b hb).1
 exact codeAny_compStart_list (loop _ rfl) (T.self _ 0 _ _ _ st3 (loop _ rfl))
theorem pe_comp {iter elt tg : Expr} {ifs : List Expr} {pos : Pos} {wi : TI} {g : TG} {gt : TT} {te : TE} (hc : X.calm = true) (S : CNames X scope N' k ix) (hi : PI X tg iter wi)
  (hb : ∀ C s2 H2 fp pins,PG (blk X N' scope C s2 H2 fp pins) tg g ∧ PCs (blk X N' scope C s2 H2 fp pins) ifs gt ∧ PE (blk X N' scope C s2 H2 fp pins) elt te)
  (hs : ∀ x,foldedSetIterable iter X.env x = pure x := by intro _; rfl) : PE X (.ListComp elt [⟨tg,iter,ifs,0⟩] scope pos) (tComp wi g gt te k ix) := by
 intro pins s σ H Q I h
 rw [eval_ListComp]
 refine comp_any hc S hi hb hs I h fun D C H4 s5 _ ⟨m5,ns5⟩ iv q => ⟨m5,ns5,fun h' hs' => ⟨.ref D,H4,iv h' hs',rfl,q⟩⟩
theorem ps_comp {i : Nat} {x : Str} {pos' spos : Pos} {iter elt tg : Expr} {ifs : List Expr} {pos : Pos} {wi : TI} {g : TG} {gt : TT} {te : TE} (hN : X.N.Nodup) (hx0 : X.N[i]? = some x) (hx : Loc X.env.scope x)
  (hsw : swapsWith (.ListComp elt [⟨tg,iter,ifs,0⟩] scope pos) (some (.Name x pos')) spos.line X.env = pure true)
  (hf : X.fn x = true ∨ X.env.scope.names.lookup x = some .local) (hc : X.calm = true) (S : CNames X scope N' k ix) (hi : PI X tg iter wi)
  (hb : ∀ C s2 H2 fp pins,PG (blk X N' scope C s2 H2 fp pins) tg g ∧ PCs (blk X N' scope C s2 H2 fp pins) ifs gt ∧ PE (blk X N' scope C s2 H2 fp pins) elt te)
  (hs : ∀ x,foldedSetIterable iter X.env x = pure x := by intro _; rfl) : PS X (.Assign [.Name x pos'] (.ListComp elt [⟨tg,iter,ifs,0⟩] scope pos) spos) (tAsg (tComp wi g gt te k ix) (gName i)) := by
 intro pins s σ H D I h
 rw [exec_Assign_Name_used _ _ _ _ hsw]
 refine wpAny_bind (wpAny_standAt (wpAny_bind ?_))
 show wpAny _ X.A (do let _ ← comprehension (.ListComp elt [⟨tg,iter,ifs,0⟩] scope pos) scope X.env _ (newList []) false (eval iter X.env) (some (assign (.Name x pos') X.env))) _ _ s
 refine wpAny_bind (wpAny_mono (comp_any (use := some (assign (.Name x pos') X.env)) (Q' := fun _ s' => SP X pins D .next s') hc S hi hb hs I h fun D' C H4 s5 fp ⟨m5,ns5⟩ iv q => ?_) (fun _ s' hq => wpAny_pure (wpAny_pure hq)) fun _ _ e => e)
 show wpAny _ X.A (assign (.Name x pos') X.env (.ref D')) _ _ s5
 have J : Inv X pins σ H4 s5 := iv s5.heap (Heap.SameBut.refl _ _)
 obtain ⟨oC,e1,e2,hoC,e3⟩ := id ns5
 have J' : Inv X (pins ++ pinsAt [C] s5.heap) σ H4 s5 := J.pinned (fp := [C]) (fun b hb => by rw [List.mem_singleton.mp hb]; exact fp) fun b hb => by
  rw [List.mem_singleton.mp hb]
  refine ⟨oC,hoC,fun v hv => ?_⟩
  rw [hv] at e3
  simp at e3
 refine wpAny_assign_Name (store_ok J' hN hx0 hx (show RelV (.ref D') (.ref D') from rfl) (fun s6 I6 => ?_) hf)
 have pC := I6.pin (C,oC) (List.mem_append_right _ (List.mem_append_right _ (mem_pinsAt List.mem_cons_self hoC)))
 refine ⟨m5,⟨oC,e1,e2,pC.1,e3⟩,fun h' hs' => ?_⟩
 obtain ⟨q0,q1,q2,q3,q4,q5⟩ := fp
 have off : ∀ b o,b ≠ C -> s6.heap.get? b = some o -> h'.get? b = some o := fun b o hb e => hs'.extBut b o hb e
 have un : Un (frs X.stack) [C] H4 H4 s6.heap h' := ⟨fun b o e _ _ hx => off b o (fun z => hx (by rw [z]; exact List.mem_cons_self)) e,fun b o e _ _ hx => ⟨o.slots,off b o (fun z => hx (by rw [z]; exact List.mem_cons_self)) e⟩,
  fun _ _ _ n _ => n,fun b o e hx => ⟨o,off b o (fun z => hx (by rw [z]; exact List.mem_cons_self)) e⟩,fun _ _ e => e,fun _ _ _ e => e,fun b ps e => ⟨#[],by rw [Array.append_empty]; exact e⟩⟩
 have hok : HOk X.prog X.w H4 h' := fun b u e => (I6.hok b u e).stay (fun c v hc q => off c v (fun z => by
   rcases hc with y | y
   ·rw [← y,z,q0] at e; cases e
   ·rw [z,q0] at y; cases y) q) (fun _ q => q) fun _ _ q => q
 exact ⟨_,H4,I6.unpinned.call' (s' := { s6 with heap := h' }) (ch := [C]) rfl un hok I6.bare (fun b hb => by
  rw [List.mem_singleton.mp hb]
  exact ⟨q3,q1,q4,q5⟩),q⟩
structure CompR (X : Cx) (e : Expr) (te : TE) : Prop where
 pe : PE X e te
 ps : ∀ (i : Nat) (x : Str) (pos' spos : Pos),X.N.Nodup -> X.N[i]? = some x -> Loc X.env.scope x -> swapsWith e (some (.Name x pos')) spos.line X.env = pure true -> (X.fn x = true ∨ X.env.scope.names.lookup x = some .local) -> PS X (.Assign [.Name x pos'] e spos) (tAsg te (gName i))
theorem CompR.imp {e : Expr} {te te' : TE} (h : CompR X e te) (k : ∀ σ H Q,te' σ H Q -> te σ H Q) : CompR X e te' :=
 ⟨h.pe.imp k,fun i x pos' spos a b c d f => (h.ps i x pos' spos a b c d f).imp fun D σ H q => k σ H _ q⟩
theorem comp_r {iter elt tg : Expr} {ifs : List Expr} {pos : Pos} {wi : TI} {g : TG} {gt : TT} {te : TE} (hc : X.calm = true) (S : CNames X scope N' k ix) (hi : PI X tg iter wi)
  (hb : ∀ C s2 H2 fp pins,PG (blk X N' scope C s2 H2 fp pins) tg g ∧ PCs (blk X N' scope C s2 H2 fp pins) ifs gt ∧ PE (blk X N' scope C s2 H2 fp pins) elt te)
  (hs : ∀ x,foldedSetIterable iter X.env x = pure x := by intro _; rfl) : CompR X (.ListComp elt [⟨tg,iter,ifs,0⟩] scope pos) (tComp wi g gt te k ix) :=
 ⟨pe_comp hc S hi hb hs,fun i x pos' spos a b c d f => ps_comp a b c d f hc S hi hb hs⟩
end
end L2
namespace DL
open PySem PySem.Spec PyProof.Rows L2
abbrev St := L2.St
inductive D where
 | non | bl (b : Bool) | int (i : Int) | str (x : Str) | tup (xs : List D) | lst (xs : List D) | frl (xs : List D) | dic (ks : List Key) (ds : List D) | obj (c : Str) | dip (ks : List (List Key)) (ds : List D) | exc (c : Str) (ks : List Str) (ds : List D)
 deriving Inhabited
structure Exn where
 cls : Str
 args : List D
inductive Ou (α : Type) where
 | ok (a : α) | ex (e : Exn) | bad
def Ou.bind {α β : Type} : Ou α -> (α -> Ou β) -> Ou β
 | .ok a,f => f a
 | .ex e,_ => .ex e
 | .bad,_ => .bad
@[simp] theorem bind_ok {α β : Type} (a : α) (f : α -> Ou β) : (Ou.ok a).bind f = f a := rfl
@[simp] theorem bind_ex {α β : Type} (e : Exn) (f : α -> Ou β) : (Ou.ex e : Ou α).bind f = .ex e := rfl
@[simp] theorem bind_bad {α β : Type} (f : α -> Ou β) : (Ou.bad : Ou α).bind f = .bad := rfl
inductive Sl where
 | un | val (d : D) | own (d : D)
abbrev DS := List Sl
abbrev Fn := DS -> Ou D
def FrK (K : PySem.W.Frag) (H : Hp) (a : Addr) (xs : List V) : Prop :=
 (∃ o,H a = some (.frz o (.lst xs))) ∨
  ∃ (o : Obj) (its : Array Value) (n : Nat),K.lookup a = some o ∧ o.cls = .type "list" ∧ o.dict = none ∧ o.data = .seq its n ∧ its.size ≤ sizeLine ∧ Vals xs its.toList
theorem FrK.sq {K : PySem.W.Frag} {H : Hp} {a : Addr} {xs : List V} (h : FrK K H a xs) : SqL K H a xs := by
 rcases h with ⟨o,h⟩ | h
 ·exact .inl (.inr ⟨o,h⟩)
 ·exact .inr h
def ExcAt (H : Hp) (a C : Addr) (dx : Option Addr) : Prop := ∃ φ,H a = some (.ext φ) ∧ ∀ h : Heap,φ h -> ∃ o,h.get? a = some o ∧ o.cls = .ref C ∧ o.dict = dx
mutual
def Rep (K : PySem.W.Frag) (B : Addr -> Prop) (H : Hp) : D -> V -> Prop
 | .non,v => v = .non
 | .bl b,v => v = .bl b
 | .int i,v => v = .int i
 | .str x,v => v = .str x
 | .tup ds,v => ∃ a xs,v = .ref a ∧ SqT K H a xs ∧ Reps K B H ds xs
 | .lst ds,v => ∃ a xs,v = .ref a ∧ B a ∧ H a = some (.lst xs) ∧ Reps K B H ds xs
 | .frl ds,v => ∃ a xs,v = .ref a ∧ FrK K H a xs ∧ Reps K B H ds xs
 | .dic ks ds,v => ∃ a kvs,v = .ref a ∧ B a ∧ Rd H a (.dK kvs) ∧ kvs.map (·.1) = ks ∧ Reps K B H ds (kvs.map (·.2))
 | .obj c,v => ∃ a C dx,v = .ref a ∧ PySem.W.nsIn K mainGlobals c = some (some (.ref C)) ∧ B a ∧ H a = some (.ins C dx [])
 | .dip ks ds,v => ∃ a kvs,v = .ref a ∧ B a ∧ H a = some (.dT kvs) ∧ kvs.map (·.1) = ks ∧ Reps K B H ds (kvs.map (·.2))
 | .exc c ks ds,v => ∃ a C dx fs,v = .ref a ∧ PySem.W.nsIn K mainGlobals c = some (some (.ref C)) ∧ B a ∧ ExcAt H a C dx ∧ fs.map (·.1) = ks ∧ (ks = [] ∨ ∃ d,dx = some d ∧ B d ∧ H d = some (.xd fs)) ∧ Reps K B H ds (fs.map (·.2))
def Reps (K : PySem.W.Frag) (B : Addr -> Prop) (H : Hp) : List D -> List V -> Prop
 | [],vs => vs = []
 | d :: ds,vs => ∃ v r,vs = v :: r ∧ Rep K B H d v ∧ Reps K B H ds r
end
section
variable {K : PySem.W.Frag} {B B' : Addr -> Prop} {H H' : Hp}
theorem same_tup (e : Same H H') {a : Addr} {xs : List V} (h : SqT K H a xs) : SqT K H' a xs := by
 rcases h with (h | ⟨o,h⟩) | h
 ·exact .inl (.inl (e _ _ h))
 ·exact .inl (.inr ⟨o,e _ _ h⟩)
 ·exact .inr h
structure Stay (K : PySem.W.Frag) (B : Addr -> Prop) (H H' : Hp) : Prop where
 tup : ∀ a xs,SqT K H a xs -> SqT K H' a xs
 frz : ∀ a xs,FrK K H a xs -> FrK K H' a xs
 keep : ∀ a o,B a -> H a = some o -> H' a = some o
theorem same_frz (e : Same H H') {a : Addr} {xs : List V} (h : FrK K H a xs) : FrK K H' a xs := by
 rcases h with ⟨o,h⟩ | h
 ·exact .inl ⟨o,e _ _ h⟩
 ·exact .inr h
theorem Stay.of_same (e : Same H H') : Stay K B H H' := ⟨fun _ _ h => same_tup e h,fun _ _ h => same_frz e h,fun _ _ _ h => e _ _ h⟩
mutual
theorem Rep.mono (hB : ∀ a o,B a -> H a = some o -> B' a) (hs : Stay K B H H') : ∀ (d : D) (v : V),Rep K B H d v -> Rep K B' H' d v
 | .non,_,h => by simpa [Rep] using h
 | .bl _,_,h => by simpa [Rep] using h
 | .int _,_,h => by simpa [Rep] using h
 | .str _,_,h => by simpa [Rep] using h
 | .tup ds,v,h => by
  simp only [Rep] at h ⊢
  obtain ⟨a,xs,e,h1,h2⟩ := h
  exact ⟨a,xs,e,hs.tup _ _ h1,Reps.mono hB hs ds xs h2⟩
 | .lst ds,v,h => by
  simp only [Rep] at h ⊢
  obtain ⟨a,xs,e,hb,h1,h2⟩ := h
  exact ⟨a,xs,e,hB _ _ hb h1,hs.keep _ _ hb h1,Reps.mono hB hs ds xs h2⟩
 | .frl ds,v,h => by
  simp only [Rep] at h ⊢
  obtain ⟨a,xs,e,h1,h2⟩ := h
  exact ⟨a,xs,e,hs.frz _ _ h1,Reps.mono hB hs ds xs h2⟩
 | .dic ks ds,v,h => by
  simp only [Rep] at h ⊢
  obtain ⟨a,kvs,e,hb,h1,hk,h2⟩ := h
  rcases h1 with h1 | ⟨o,h1⟩
  ·exact ⟨a,kvs,e,hB _ _ hb h1,.inl (hs.keep _ _ hb h1),hk,Reps.mono hB hs ds _ h2⟩
  ·exact ⟨a,kvs,e,hB _ _ hb h1,.inr ⟨o,hs.keep _ _ hb h1⟩,hk,Reps.mono hB hs ds _ h2⟩
 | .obj c,v,h => by
  simp only [Rep] at h ⊢
  obtain ⟨a,C,dx,e,hn,hb,h1⟩ := h
  exact ⟨a,C,dx,e,hn,hB _ _ hb h1,hs.keep _ _ hb h1⟩
 | .dip ks ds,v,h => by
  simp only [Rep] at h ⊢
  obtain ⟨a,kvs,e,hb,h1,hk,h2⟩ := h
  exact ⟨a,kvs,e,hB _ _ hb h1,hs.keep _ _ hb h1,hk,Reps.mono hB hs ds _ h2⟩
 | .exc c ks ds,v,h => by
  simp only [Rep] at h ⊢
  obtain ⟨a,C,dx,fs,e,hn,hb,⟨φ,h1,h2⟩,hk,h3,h4⟩ := h
  refine ⟨a,C,dx,fs,e,hn,hB _ _ hb h1,⟨φ,hs.keep _ _ hb h1,h2⟩,hk,?_,Reps.mono hB hs ds _ h4⟩
  rcases h3 with h3 | ⟨d,h5,h6,h7⟩
  ·exact .inl h3
  ·exact .inr ⟨d,h5,hB _ _ h6 h7,hs.keep _ _ h6 h7⟩
theorem Reps.mono (hB : ∀ a o,B a -> H a = some o -> B' a) (hs : Stay K B H H') : ∀ (ds : List D) (vs : List V),Reps K B H ds vs -> Reps K B' H' ds vs
 | [],_,h => by simpa [Reps] using h
 | d :: ds,vs,h => by
  simp only [Reps] at h ⊢
  obtain ⟨v,r,e,h1,h2⟩ := h
  exact ⟨v,r,e,Rep.mono hB hs d v h1,Reps.mono hB hs ds r h2⟩
end
theorem Rep.same {d : D} {v : V} (r : Rep K B H d v) (e : Same H H') : Rep K B H' d v := Rep.mono (fun _ _ h _ => h) (.of_same e) d v r
theorem Reps.same {ds : List D} {vs : List V} (r : Reps K B H ds vs) (e : Same H H') : Reps K B H' ds vs := Reps.mono (fun _ _ h _ => h) (.of_same e) ds vs r
theorem Rep.weak {d : D} {v : V} (r : Rep K B H d v) (hB : ∀ a,B a -> B' a) : Rep K B' H d v := Rep.mono (fun a _ h _ => hB a h) (.of_same (Same.refl H)) d v r
theorem Reps.weak {ds : List D} {vs : List V} (r : Reps K B H ds vs) (hB : ∀ a,B a -> B' a) : Reps K B' H ds vs := Reps.mono (fun a _ h _ => hB a h) (.of_same (Same.refl H)) ds vs r
theorem Reps.length : ∀ {ds : List D} {vs : List V},Reps K B H ds vs -> vs.length = ds.length
 | [],_,h => by simp only [Reps] at h; rw [h]; rfl
 | d :: ds,vs,h => by
  simp only [Reps] at h
  obtain ⟨v,r,rfl,_,h2⟩ := h
  simp [Reps.length h2]
theorem Reps.get : ∀ {ds : List D} {vs : List V},Reps K B H ds vs -> ∀ (i : Nat) (d : D),ds[i]? = some d -> ∃ v,vs[i]? = some v ∧ Rep K B H d v
 | [],_,_ => fun i d e => by simp at e
 | d0 :: ds,vs,h => fun i d e => by
  simp only [Reps] at h
  obtain ⟨v,r,rfl,h1,h2⟩ := h
  cases i with
  | zero => simp at e; subst e; exact ⟨v,rfl,h1⟩
  | succ i => simpa using Reps.get h2 i d (by simpa using e)
theorem Reps.append : ∀ {ds es : List D} {vs us : List V},Reps K B H ds vs -> Reps K B H es us -> Reps K B H (ds ++ es) (vs ++ us)
 | [],es,vs,us,h,h' => by simp only [Reps] at h; subst h; simpa using h'
 | d :: ds,es,vs,us,h,h' => by
  simp only [Reps] at h
  obtain ⟨v,r,rfl,h1,h2⟩ := h
  show Reps K B H (d :: (ds ++ es)) (v :: (r ++ us))
  simp only [Reps]
  exact ⟨v,r ++ us,rfl,h1,Reps.append h2 h'⟩
theorem Reps.one {d : D} {v : V} (h : Rep K B H d v) : Reps K B H [d] [v] := by
 simp only [Reps]; exact ⟨v,[],rfl,h,rfl⟩
theorem Reps.take : ∀ {ds : List D} {vs : List V} (n : Nat),Reps K B H ds vs -> Reps K B H (ds.take n) (vs.take n)
 | [],_,n,h => by simp only [Reps] at h; subst h; simp [Reps]
 | d :: ds,vs,0,h => by simp [Reps]
 | d :: ds,vs,n + 1,h => by
  simp only [Reps] at h
  obtain ⟨v,r,rfl,h1,h2⟩ := h
  simp only [List.take_succ_cons,Reps]
  exact ⟨v,r.take n,rfl,h1,Reps.take n h2⟩
theorem Reps.drop : ∀ {ds : List D} {vs : List V} (n : Nat),Reps K B H ds vs -> Reps K B H (ds.drop n) (vs.drop n)
 | [],_,n,h => by simp only [Reps] at h; subst h; simp [Reps]
 | d :: ds,vs,0,h => by simpa using h
 | d :: ds,vs,n + 1,h => by
  simp only [Reps] at h
  obtain ⟨v,r,rfl,h1,h2⟩ := h
  simpa using Reps.drop n h2
theorem Reps.set : ∀ {ds : List D} {vs : List V} (i : Nat) {d : D} {v : V},Reps K B H ds vs -> Rep K B H d v -> Reps K B H (ds.set i d) (vs.set i v)
 | [],_,i,_,_,h,_ => by simp only [Reps] at h; subst h; simp [Reps]
 | d0 :: ds,vs,0,d,v,h,h' => by
  simp only [Reps] at h
  obtain ⟨v0,r,rfl,h1,h2⟩ := h
  simp only [List.set_cons_zero,Reps]
  exact ⟨v,r,rfl,h',h2⟩
 | d0 :: ds,vs,i + 1,d,v,h,h' => by
  simp only [Reps] at h
  obtain ⟨v0,r,rfl,h1,h2⟩ := h
  simp only [List.set_cons_succ,Reps]
  exact ⟨v0,r.set i v,rfl,h1,Reps.set i h2 h'⟩
theorem Reps.reverse : ∀ {ds : List D} {vs : List V},Reps K B H ds vs -> Reps K B H ds.reverse vs.reverse
 | [],_,h => by simp only [Reps] at h; subst h; simp [Reps]
 | d :: ds,vs,h => by
  simp only [Reps] at h
  obtain ⟨v,r,rfl,h1,h2⟩ := h
  rw [List.reverse_cons,List.reverse_cons]
  exact Reps.append (Reps.reverse h2) (Reps.one h1)
theorem Reps.ints (ns : List Int) : Reps K B H (ns.map D.int) (ns.map V.int) := by
 induction ns with
 | nil => simp [Reps]
 | cons n r ih => simp only [List.map_cons,Reps]; exact ⟨_,_,rfl,by simp [Rep],ih⟩
end
def toV : D -> V
 | .bl b => .bl b
 | .int i => .int i
 | .str x => .str x
 | _ => .non
def isS : D -> Bool
 | .non => true
 | .bl _ => true
 | .int _ => true
 | .str _ => true
 | _ => false
theorem Rep.ofS {K : PySem.W.Frag} {B : Addr -> Prop} {H : Hp} {d : D} (h : isS d = true) : Rep K B H d (toV d) := by
 cases d <;> simp [isS,Rep,toV] at h ⊢
theorem Rep.toS {K : PySem.W.Frag} {B : Addr -> Prop} {H : Hp} {d : D} {v : V} (h : isS d = true) (r : Rep K B H d v) : v = toV d := by
 cases d <;> simp [isS,Rep,toV] at h r ⊢ <;> exact r
mutual
def imm : D -> Bool
 | .tup ds => imms ds
 | .frl ds => imms ds
 | .lst _ => false
 | .dic _ _ => false
 | .obj _ => false
 | .dip _ _ => false
 | .exc _ _ _ => false
 | _ => true
def imms : List D -> Bool
 | [] => true
 | d :: ds => imm d && imms ds
end
mutual
theorem Rep.imm {K : PySem.W.Frag} {B B' : Addr -> Prop} {H : Hp} : ∀ (d : D) (v : V),imm d = true -> Rep K B H d v -> Rep K B' H d v
 | .non,_,_,h => by simpa [Rep] using h
 | .bl _,_,_,h => by simpa [Rep] using h
 | .int _,_,_,h => by simpa [Rep] using h
 | .str _,_,_,h => by simpa [Rep] using h
 | .tup ds,v,hi,h => by
  simp only [Rep] at h ⊢
  obtain ⟨a,xs,e,h1,h2⟩ := h
  exact ⟨a,xs,e,h1,Reps.imm ds xs (by simpa [DL.imm] using hi) h2⟩
 | .frl ds,v,hi,h => by
  simp only [Rep] at h ⊢
  obtain ⟨a,xs,e,h1,h2⟩ := h
  exact ⟨a,xs,e,h1,Reps.imm ds xs (by simpa [DL.imm] using hi) h2⟩
 | .lst ds,v,hi,h => by simp [DL.imm] at hi
 | .dic ks ds,v,hi,h => by simp [DL.imm] at hi
 | .obj C,v,hi,h => by simp [DL.imm] at hi
 | .dip ks ds,v,hi,h => by simp [DL.imm] at hi
 | .exc c ks ds,v,hi,h => by simp [DL.imm] at hi
theorem Reps.imm {K : PySem.W.Frag} {B B' : Addr -> Prop} {H : Hp} : ∀ (ds : List D) (vs : List V),imms ds = true -> Reps K B H ds vs -> Reps K B' H ds vs
 | [],_,_,h => by simpa [Reps] using h
 | d :: ds,vs,hi,h => by
  simp only [Reps] at h ⊢
  obtain ⟨v,r,e,h1,h2⟩ := h
  simp only [imms,Bool.and_eq_true] at hi
  exact ⟨v,r,e,Rep.imm d v hi.1 h1,Reps.imm ds r hi.2 h2⟩
end
def RepO (K : PySem.W.Frag) (B : Addr -> Prop) (H : Hp) : D -> HO -> Prop
 | .lst ds,o => ∃ xs,o = .lst xs ∧ Reps K B H ds xs
 | .dic ks ds,o => ∃ kvs,o = .dK kvs ∧ kvs.map (·.1) = ks ∧ Reps K B H ds (kvs.map (·.2))
 | .dip ks ds,o => ∃ kvs,o = .dT kvs ∧ kvs.map (·.1) = ks ∧ Reps K B H ds (kvs.map (·.2))
 | _,_ => False
section
variable {K : PySem.W.Frag} {B B' : Addr -> Prop} {H H' : Hp}
theorem RepO.mono {d : D} {o : HO} (hB : ∀ a o,B a -> H a = some o -> B' a) (hs : Stay K B H H') (r : RepO K B H d o) : RepO K B' H' d o := by
 cases d <;> first | exact r.elim | skip
 ·obtain ⟨xs,h1,h2⟩ := r
  exact ⟨xs,h1,Reps.mono hB hs _ _ h2⟩
 ·obtain ⟨kvs,h1,h2,h3⟩ := r
  exact ⟨kvs,h1,h2,Reps.mono hB hs _ _ h3⟩
 ·obtain ⟨kvs,h1,h2,h3⟩ := r
  exact ⟨kvs,h1,h2,Reps.mono hB hs _ _ h3⟩
theorem RepO.same {d : D} {o : HO} (r : RepO K B H d o) (e : Same H H') : RepO K B H' d o := r.mono (fun _ _ h _ => h) (.of_same e)
theorem RepO.weak {d : D} {o : HO} (r : RepO K B H d o) (hB : ∀ a,B a -> B' a) : RepO K B' H d o := r.mono (fun a _ h _ => hB a h) (.of_same (Same.refl H))
theorem RepO.rep {d : D} {o : HO} {p : Addr} (r : RepO K B H d o) (h : H p = some o) (hp : B p) : Rep K B H d (.ref p) := by
 cases d <;> first | exact r.elim | skip
 ·obtain ⟨xs,rfl,h2⟩ := r
  simp only [Rep]
  exact ⟨p,xs,rfl,hp,h,h2⟩
 ·obtain ⟨kvs,rfl,h2,h3⟩ := r
  simp only [Rep]
  exact ⟨p,kvs,rfl,hp,.inl h,h2,h3⟩
 ·obtain ⟨kvs,rfl,h2,h3⟩ := r
  simp only [Rep]
  exact ⟨p,kvs,rfl,hp,h,h2,h3⟩
theorem RepO.noT {d : D} {o : HO} (r : RepO K B H d o) (xs : List V) : HO.tup xs ≠ o := by
 cases d <;> first | exact r.elim | skip
 ·obtain ⟨xs,rfl,h2⟩ := r; intro w; cases w
 ·obtain ⟨kvs,rfl,h2,h3⟩ := r; intro w; cases w
 ·obtain ⟨kvs,rfl,h2,h3⟩ := r; intro w; cases w
theorem RepO.noF {d : D} {o : HO} (r : RepO K B H d o) (ob : Obj) (u : HO) : HO.frz ob u ≠ o := by
 cases d <;> first | exact r.elim | skip
 ·obtain ⟨xs,rfl,h2⟩ := r; intro w; cases w
 ·obtain ⟨kvs,rfl,h2,h3⟩ := r; intro w; cases w
 ·obtain ⟨kvs,rfl,h2,h3⟩ := r; intro w; cases w
end
structure Cn where
 K : PySem.W.Frag
 B : Addr -> Prop
 H₀ : Hp
 G : List (D × V)
 P : Option (Nat × Addr) := none
def Own (σ : St) (δ : DS) (p : Addr) : Prop := ∃ (i : Nat) (ds : D),δ[i]? = some (Sl.own ds) ∧ σ[i]? = some (some (V.ref p))
def Av (c : Cn) (σ : St) (δ : DS) (a : Addr) : Prop := c.B a ∧ ¬ Own σ δ a
structure Abs (c : Cn) (σ : St) (δ : DS) (H : Hp) : Prop where
 same : Same c.H₀ H
 fr : ∀ a,H a = none -> c.B a
 len : δ.length = σ.length
 val : ∀ (i : Nat) (d : D),δ[i]? = some (Sl.val d) -> ∃ v,σ[i]? = some (some v) ∧ Rep c.K (Av c σ δ) H d v
 own : ∀ (i : Nat) (ds : D),δ[i]? = some (Sl.own ds) -> ∃ p xs,σ[i]? = some (some (V.ref p)) ∧ H p = some xs ∧ (c.H₀ p = none ∧ c.B p) ∧ RepO c.K (Av c σ δ) H ds xs
 gho : ∀ d v,(d,v) ∈ c.G -> Rep c.K (Av c σ δ) H d v
 inj : ∀ (i j : Nat) (di dj : D) (p : Addr),δ[i]? = some (Sl.own di) -> δ[j]? = some (Sl.own dj) -> σ[i]? = some (some (V.ref p)) -> σ[j]? = some (some (V.ref p)) -> i = j
 pin : ∀ (i : Nat) (p : Addr),c.P = some (i,p) -> ∀ d,δ[i]? = some (Sl.own d) -> σ[i]? = some (some (V.ref p))
section
variable {c : Cn} {σ : St} {δ : DS} {H H' : Hp}
theorem Abs.grow (a : Abs c σ δ H) (e : Same H H') : Abs c σ δ H' where
 same := a.same.trans e
 fr := fun b h => a.fr b (e.free h)
 len := a.len
 val := fun i d h => by obtain ⟨v,h1,h2⟩ := a.val i d h; exact ⟨v,h1,h2.same e⟩
 own := fun i ds h => by obtain ⟨p,xs,h1,h2,h3,h4⟩ := a.own i ds h; exact ⟨p,xs,h1,e _ _ h2,h3,h4.same e⟩
 gho := fun d v h => (a.gho d v h).same e
 inj := a.inj
 pin := a.pin
theorem Own.is (a : Abs c σ δ H) {p : Addr} (o : Own σ δ p) : ∃ xs,H p = some xs ∧ c.H₀ p = none := by
 obtain ⟨i,ds,h1,h2⟩ := o
 obtain ⟨p',xs,h3,h4,h5,_⟩ := a.own i ds h1
 rw [h2] at h3; cases h3
 exact ⟨xs,h4,h5.1⟩
theorem Abs.av_new (a : Abs c σ δ H) {p : Addr} (h : H p = none) : Av c σ δ p := by
 refine ⟨a.fr p h,fun o => ?_⟩
 obtain ⟨xs,h1,_⟩ := Own.is a o
 rw [h] at h1; cases h1
end
inductive Md where
 | W | S | F
def Post (c : Cn) (σ : St) (δ : DS) (H : Hp) (m : Md) (d : D) (v : V) (H' : Hp) : Prop :=
 match m with
 | .W => Rep c.K c.B H' d v
 | .S => Rep c.K (Av c σ δ) H' d v
 | .F => ∃ p xs,v = .ref p ∧ H p = none ∧ H' p = some xs ∧ RepO c.K (fun a => Av c σ δ a ∧ a ≠ p) H' d xs
def Wish (K : PySem.W.Frag) (E : XK) (H₀ : Hp) (e : Exn) : Prop := ∃ C,PySem.W.nsIn K mainGlobals e.cls = some (some (.ref C)) ∧ ∀ H',Same H₀ H' -> E (.ref C) none H'
def Res {α : Type} (K : PySem.W.Frag) (E : XK) (H₀ : Hp) (o : Ou α) (k : α -> Prop) : Prop :=
 match o with
 | .ok a => k a
 | .ex e => Wish K E H₀ e
 | .bad => False
theorem Res.bind {α β : Type} {K : PySem.W.Frag} {E : XK} {H₀ : Hp} {o : Ou α} {f : α -> Ou β} {k : β -> Prop} (h : Res K E H₀ (o.bind f) k) : Res K E H₀ o fun a => Res K E H₀ (f a) k := by
 cases o with
 | ok a => exact h
 | ex e => exact h
 | bad => exact h
theorem Res.imp {α : Type} {K : PySem.W.Frag} {E : XK} {H₀ : Hp} {o : Ou α} {k k' : α -> Prop} (h : Res K E H₀ o k) (hi : ∀ a,o = .ok a -> k a -> k' a) : Res K E H₀ o k' := by
 cases o with
 | ok a => exact hi a rfl h
 | ex e => exact h
 | bad => exact h
def tX (K : PySem.W.Frag) (E : XK) (m : Md) (f : Fn) : TE := fun σ H Q => ∃ c δ,c.K = K ∧ Abs c σ δ H ∧ Res K E c.H₀ (f δ) fun d => ∀ v H',Same H H' -> Post c σ δ H m d v H' -> Q v H'
theorem tX.intro {K : PySem.W.Frag} {E : XK} {m : Md} {f : Fn} {c : Cn} {δ : DS} {σ : St} {H : Hp} {Q : VK} (hK : c.K = K) (a : Abs c σ δ H) (h : Res K E c.H₀ (f δ) fun d => ∀ v H',Same H H' -> Post c σ δ H m d v H' -> Q v H') : tX K E m f σ H Q := ⟨c,δ,hK,a,h⟩
theorem Post.toW {c : Cn} {σ : St} {δ : DS} {H H' : Hp} {m : Md} {d : D} {v : V} (a : Abs c σ δ H) (e : Same H H') (p : Post c σ δ H m d v H') : Rep c.K c.B H' d v := by
 cases m with
 | W => exact p
 | S => exact Rep.weak p fun _ h => h.1
 | F =>
  obtain ⟨p,xs,rfl,h1,h2,h3⟩ := p
  exact (h3.weak fun _ h => h.1.1).rep h2 (a.fr p h1)
theorem Post.toS {c : Cn} {σ : St} {δ : DS} {H H' : Hp} {d : D} {v : V} (a : Abs c σ δ H) (p : Post c σ δ H .F d v H') : Post c σ δ H .S d v H' := by
 obtain ⟨p,xs,rfl,h1,h2,h3⟩ := p
 show Rep _ _ _ _ _
 exact (h3.weak fun _ h => h.1).rep h2 (a.av_new h1)
def notF : Md -> Bool
 | .F => false
 | _ => true
theorem Post.ofS {c : Cn} {σ : St} {δ : DS} {H H' : Hp} {m : Md} {d : D} (hm : notF m = true) (h : isS d = true) : Post c σ δ H m d (toV d) H' := by
 cases m with
 | W => exact Rep.ofS h
 | S => exact Rep.ofS h
 | F => simp [notF] at hm
def fVar (i : Nat) : Fn := fun δ => match δ[i]? with
 | some (.val d) => .ok d
 | some (.own d) => .ok d
 | _ => .bad
def fVarS (i : Nat) : Fn := fun δ => match δ[i]? with
 | some (.val d) => .ok d
 | _ => .bad
def fC (d : D) : Fn := fun _ => .ok d
section
variable {X : Cx} {E : XK} {m : Md} {a b : Expr} {fa fb : Fn} {pos : Pos}
theorem rd_var {K : PySem.W.Frag} {i : Nat} {σ : St} {H : Hp} {Q : VK} (h : tX K E .W (fVar i) σ H Q) : tVar i σ H Q := by
 obtain ⟨c,δ,rfl,ab,h⟩ := h
 unfold fVar at h
 cases e : δ[i]? with
 | none => rw [e] at h; exact h.elim
 | some s =>
  rw [e] at h
  cases s with
  | un => exact h.elim
  | val d =>
   obtain ⟨v,h1,h2⟩ := ab.val i d e
   exact ⟨v,h1,h v H (Same.refl H) (Rep.weak h2 fun _ z => z.1)⟩
  | own ds =>
   obtain ⟨p,xs,h1,h2,h3,h4⟩ := ab.own i ds e
   refine ⟨.ref p,h1,h (.ref p) H (Same.refl H) ?_⟩
   show Rep _ _ _ _ _
   exact (h4.weak fun _ z => z.1).rep h2 h3.2
theorem rd_varS {K : PySem.W.Frag} {i : Nat} {σ : St} {H : Hp} {Q : VK} (h : tX K E .S (fVarS i) σ H Q) : tVar i σ H Q := by
 obtain ⟨c,δ,rfl,ab,h⟩ := h
 unfold fVarS at h
 cases e : δ[i]? with
 | none => rw [e] at h; exact h.elim
 | some s =>
  rw [e] at h
  cases s with
  | un => exact h.elim
  | val d =>
   obtain ⟨v,h1,h2⟩ := ab.val i d e
   exact ⟨v,h1,h v H (Same.refl H) h2⟩
  | own ds => exact h.elim
theorem xv (i : Nat) {x : Str} (hN : X.N[i]? = some x := by rfl) (hv : Vis X.env.scope x := by first | exact Or.inl rfl | exact Or.inr (Or.inl rfl) | exact Or.inr (Or.inr rfl)) (hd : (x == ("__debug__" : Str)) = false := by decide)
  (hcd : (x == ("__classdict__" : Str)) = false := by decide) : PE X (.Name x pos) (tX X.K E .W (fVar i)) := PE.imp (pv i hN hv hd hcd) fun _ _ _ h => rd_var h
theorem xvS (i : Nat) {x : Str} (hN : X.N[i]? = some x := by rfl) (hv : Vis X.env.scope x := by first | exact Or.inl rfl | exact Or.inr (Or.inl rfl) | exact Or.inr (Or.inr rfl)) (hd : (x == ("__debug__" : Str)) = false := by decide)
  (hcd : (x == ("__classdict__" : Str)) = false := by decide) : PE X (.Name x pos) (tX X.K E .S (fVarS i)) := PE.imp (pv i hN hv hd hcd) fun _ _ _ h => rd_varS h
theorem rd_c {K : PySem.W.Frag} {d : D} {σ : St} {H : Hp} {Q : VK} (hm : notF m = true) (hs : isS d = true) (h : tX K E m (fC d) σ H Q) : tC (toV d) σ H Q := by
 obtain ⟨c,δ,rfl,ab,h⟩ := h
 exact h _ H (Same.refl H) (Post.ofS hm hs)
theorem xint {i j} (hm : notF m = true := by rfl) : PE X (.Constant (.int i) j pos) (tX X.K E m (fC (.int i))) := PE.imp pe_int fun _ _ _ h => rd_c hm rfl h
theorem xbl {i j} (hm : notF m = true := by rfl) : PE X (.Constant (.bool i) j pos) (tX X.K E m (fC (.bl i))) := PE.imp pe_bl fun _ _ _ h => rd_c hm rfl h
theorem xnon {j} (hm : notF m = true := by rfl) : PE X (.Constant .none j pos) (tX X.K E m (fC .non)) := PE.imp pe_non fun _ _ _ h => rd_c hm rfl h
theorem xstr {i j} (hm : notF m = true := by rfl) : PE X (.Constant (.str i) j pos) (tX X.K E m (fC (.str i))) := PE.imp pe_str fun _ _ _ h => rd_c hm rfl h
theorem toW (h : PE X a (tX X.K E m fa)) : PE X a (tX X.K E .W fa) := h.imp fun σ H Q q => by
 obtain ⟨c,δ,hK,ab,q⟩ := q
 exact ⟨c,δ,hK,ab,q.imp fun d _ k v H' e p => k v H' e (Post.toW ab e p)⟩
theorem toS (h : PE X a (tX X.K E .F fa)) : PE X a (tX X.K E .S fa) := h.imp fun σ H Q q => by
 obtain ⟨c,δ,hK,ab,q⟩ := q
 exact ⟨c,δ,hK,ab,q.imp fun d _ k v H' e p => k v H' e (Post.toS ab p)⟩
def fUp (f : Fn) : Fn := fun δ => (f δ).bind fun d => if imm d = true then .ok d else .bad
def f2 (g : D -> D -> Ou D) (fa fb : Fn) : Fn := fun δ => (fa δ).bind fun x => (fb δ).bind fun y => g x y
def OpD (X : Cx) (f : Value -> Value -> Sem Value) (g : D -> D -> Ou D) : Prop :=
 ∃ r,OpR X f r ∧ ∀ (B : Addr -> Prop) (H : Hp) (dx dy : D) (x y : V) (Q : VK),Rep X.K B H dx x -> Rep X.K B H dy y -> match g dx dy with
  | .ok d => isS d = true ∧ (Q (toV d) H -> r x y H Q)
  | .ex _ => False
  | .bad => True
theorem rd_2 {r : R2} {g : D -> D -> Ou D} {σ : St} {H : Hp} {Q : VK} (hr : ∀ (B : Addr -> Prop) (H : Hp) (dx dy : D) (x y : V) (Q : VK),Rep X.K B H dx x -> Rep X.K B H dy y -> match g dx dy with
  | .ok d => isS d = true ∧ (Q (toV d) H -> r x y H Q)
  | .ex _ => False
  | .bad => True) (hm : notF m = true) (h : tX X.K E m (f2 g fa fb) σ H Q) : tOp r (tX X.K E .W fa) (tX X.K E .W fb) σ H Q := by
 obtain ⟨c,δ,hK,ab,h⟩ := h
 refine ⟨c,δ,hK,ab,(Res.bind h).imp fun dx _ k x H1 e1 r1 => ?_⟩
 refine ⟨c,δ,hK,ab.grow e1,(Res.bind k).imp fun dy _ k y H2 e2 r2 => ?_⟩
 have r1' : Rep X.K c.B H2 dx x := by
  have z : Rep c.K c.B H1 dx x := r1
  rw [hK] at z; exact z.same e2
 have r2' : Rep X.K c.B H2 dy y := by
  have z : Rep c.K c.B H2 dy y := r2
  rw [hK] at z; exact z
 have q := hr c.B H2 dx dy x y Q r1' r2'
 cases e : g dx dy with
 | ok d =>
  rw [e] at q k
  exact q.2 (k (toV d) H2 (e1.trans e2) (Post.ofS hm q.1))
 | ex z => rw [e] at q; exact q.elim
 | bad => rw [e] at k; exact k.elim
theorem xop {op : Operator} {g : D -> D -> Ou D} (ho : OpD X (binaryOp op) g) (ha : PE X a (tX X.K E .W fa)) (hb : PE X b (tX X.K E .W fb)) (hm : notF m = true := by rfl) : PE X (.BinOp a op b pos) (tX X.K E m (f2 g fa fb)) := by
 obtain ⟨r,h1,h2⟩ := ho
 exact (pe_op h1 ha hb).imp fun σ H Q q => rd_2 h2 hm q
theorem xcmp {op : CmpOp} {g : D -> D -> Ou D} (ho : OpD X (compareOp op) g) (ha : PE X a (tX X.K E .W fa)) (hb : PE X b (tX X.K E .W fb)) (hk : behindInMarks op b = false) (hm : notF m = true := by rfl) : PE X (.Compare a [op] [b] pos) (tX X.K E m (f2 g fa fb)) := by
 obtain ⟨r,h1,h2⟩ := ho
 exact (pe_cmpR h1 ha hb hk).imp fun σ H Q q => rd_2 h2 hm q
def gAdd : D -> D -> Ou D
 | .int i,.int j => .ok (.int (i + j))
 | .str x,.str y => if x.length + y.length ≤ sizeLine then .ok (.str (x ++ y)) else .bad
 | _,_ => .bad
theorem od_add : OpD X (binaryOp .Add) gAdd := by
 refine ⟨_,OpR.or op_add op_add_str,fun B H dx dy x y Q rx ry => ?_⟩
 cases dx <;> cases dy <;> simp only [gAdd]
 ·rename_i i j
  simp only [Rep] at rx ry
  subst rx; subst ry
  exact ⟨rfl,fun q => .inl ⟨i,j,rfl,rfl,q⟩⟩
 ·rename_i i j
  simp only [Rep] at rx ry
  subst rx; subst ry
  by_cases hl : i.length + j.length ≤ sizeLine
  ·rw [if_pos hl]
   exact ⟨rfl,fun q => .inr ⟨i,j,rfl,rfl,hl,q⟩⟩
  ·rw [if_neg hl]
   trivial
def tT (K : PySem.W.Frag) (E : XK) (f : DS -> Ou Bool) : TT := fun σ H Q => ∃ c δ,c.K = K ∧ Abs c σ δ H ∧ Res K E c.H₀ (f δ) fun b => ∀ H',Same H H' -> Q b H'
def asB : D -> Ou Bool
 | .bl b => .ok b
 | _ => .bad
def fAndV (fa fb : Fn) : Fn := fun δ => (fa δ).bind fun x => (asB x).bind fun b => if b = true then fb δ else .ok (.bl false)
def fOrV (fa fb : Fn) : Fn := fun δ => (fa δ).bind fun x => (asB x).bind fun b => if b = true then .ok (.bl true) else fb δ
def fNotV (fa : Fn) : Fn := fun δ => (fa δ).bind fun x => (asB x).bind fun b => .ok (.bl (!b))
theorem Res.asB {K K' : PySem.W.Frag} {H₀ : Hp} {B : Addr -> Prop} {H : Hp} {d : D} {v : V} {k : Bool -> Prop} (h : Res K E H₀ (asB d) k) (r : Rep K' B H d v) : ∃ b,d = .bl b ∧ v = .bl b ∧ k b := by
 cases d <;> first | exact h.elim | skip
 rename_i b
 simp only [Rep] at r
 exact ⟨b,rfl,r,h⟩
variable {rest : List Expr}
theorem xone {op} (h : PE X a (tX X.K E m fa)) : PE X (.BoolOp op [a] pos) (tX X.K E m fa) := pe_one h
theorem xand (ha : PE X a (tX X.K E .W fa)) (hb : PE X (.BoolOp .And (b :: rest) pos) (tX X.K E m fb)) (hm : notF m = true := by rfl) : PE X (.BoolOp .And (a :: b :: rest) pos) (tX X.K E m (fAndV fa fb)) := (pe_and ha hb).imp fun σ H Q q => by
 obtain ⟨c,δ,hK,ab,q⟩ := q
 refine ⟨c,δ,hK,ab,(Res.bind q).imp fun dx _ k x H1 e1 r1 => ?_⟩
 obtain ⟨z,rfl,rfl,k⟩ := Res.asB (Res.bind k) (show Rep c.K c.B H1 dx x from r1)
 refine ⟨z,rfl,?_⟩
 cases z with
 | true => exact ⟨c,δ,hK,ab.grow e1,k.imp fun d _ k v H' e p => k v H' (e1.trans e) (by
   cases m with
   | W => exact p
   | S => exact p
   | F => simp [notF] at hm)⟩
 | false => exact k _ H1 e1 (Post.ofS hm rfl)
theorem xnot (ha : PE X a (tX X.K E .W fa)) (hm : notF m = true := by rfl) : PE X (.UnaryOp .Not a pos) (tX X.K E m (fNotV fa)) := (pe_not ha).imp fun σ H Q q => by
 obtain ⟨c,δ,hK,ab,q⟩ := q
 refine ⟨c,δ,hK,ab,(Res.bind q).imp fun dx _ k x H1 e1 r1 => ?_⟩
 obtain ⟨z,rfl,rfl,k⟩ := Res.asB (Res.bind k) (show Rep c.K c.B H1 dx x from r1)
 exact ⟨z,rfl,k _ H1 e1 (Post.ofS hm rfl)⟩
def truD : D -> Ou Bool
 | .non => .ok false
 | .bl b => .ok b
 | .int i => .ok (i != 0)
 | .str y => if y.length ≤ sizeLine then .ok ((y.length : Int) != 0) else .bad
 | .tup ds => .ok (!ds.isEmpty)
 | .lst ds => .ok (!ds.isEmpty)
 | .frl ds => .ok (!ds.isEmpty)
 | .dic _ _ => .bad
 | .obj _ => .bad
 | .dip _ _ => .bad
 | .exc _ _ _ => .bad
def fTru (fa : Fn) : DS -> Ou Bool := fun δ => (fa δ).bind truD
def fAsB (fa : Fn) : DS -> Ou Bool := fun δ => (fa δ).bind asB
theorem empty_of {K : PySem.W.Frag} {B : Addr -> Prop} {H : Hp} {ds : List D} {xs : List V} (r : Reps K B H ds xs) : (!ds.isEmpty) = !xs.isEmpty := by
 have h := r.length
 cases ds <;> cases xs <;> simp at h ⊢
theorem rd_tru {K : PySem.W.Frag} {H₀ : Hp} {B : Addr -> Prop} {H : Hp} {d : D} {v : V} {k : Bool -> Prop} (h : Res K E H₀ (truD d) k) (r : Rep K B H d v) : ∃ b,TruV K v H b ∧ k b := by
 cases d <;> simp only [Rep] at r
 ·subst r; exact ⟨_,rfl,h⟩
 ·subst r; exact ⟨_,rfl,h⟩
 ·subst r; exact ⟨_,rfl,h⟩
 ·subst r
  rename_i y
  simp only [truD] at h
  by_cases hl : y.length ≤ sizeLine
  ·rw [if_pos hl] at h; exact ⟨_,⟨hl,rfl⟩,h⟩
  ·rw [if_neg hl] at h; exact h.elim
 ·obtain ⟨a,xs,rfl,h1,h2⟩ := r
  exact ⟨_,.inr (.inl ⟨xs,h1,rfl⟩),by rw [← empty_of h2]; exact h⟩
 ·obtain ⟨a,xs,rfl,hb,h1,h2⟩ := r
  exact ⟨_,.inl ⟨xs,.of h1,rfl⟩,by rw [← empty_of h2]; exact h⟩
 ·obtain ⟨a,xs,rfl,h1,h2⟩ := r
  exact ⟨_,.inl ⟨xs,h1.sq,rfl⟩,by rw [← empty_of h2]; exact h⟩
 ·exact h.elim
 ·exact h.elim
 ·exact h.elim
 ·exact h.elim
theorem xt (ha : PE X a (tX X.K E .W fa)) (he : ∀ whole,isTrue a X.env whole = (do let v ← whole; standAt a.pos; holding [v] (truthy v)) := by intro _; rfl) : PT X a (tT X.K E (fTru fa)) := (pt_truth ha he).imp fun σ H Q q => by
 obtain ⟨c,δ,hK,ab,q⟩ := q
 refine ⟨c,δ,hK,ab,(Res.bind q).imp fun dx _ k x H1 e1 r1 => ?_⟩
 obtain ⟨z,h1,h2⟩ := rd_tru k (show Rep X.K c.B H1 dx x by rw [← hK]; exact r1)
 exact ⟨z,h1,h2 H1 e1⟩
theorem xt_cmp {op : CmpOp} {g : D -> D -> Ou D} (ho : OpD X (compareOp op) g) (ha : PE X a (tX X.K E .W fa)) (hb : PE X b (tX X.K E .W fb)) (hk : behindInMarks op b = false) : PT X (.Compare a [op] [b] pos) (tT X.K E (fAsB (f2 g fa fb))) := by
 obtain ⟨r,h1,h2⟩ := ho
 refine (pt_cmpR h1 ha hb hk).imp fun σ H Q q => ?_
 refine rd_2 (m := .W) (E := E) (fa := fa) (fb := fb) h2 rfl ?_
 obtain ⟨c,δ,hK,ab,q⟩ := q
 refine ⟨c,δ,hK,ab,(Res.bind q).imp fun d _ k v H' e p => ?_⟩
 obtain ⟨z,rfl,rfl,k⟩ := Res.asB k (show Rep c.K c.B H' d v from p)
 exact ⟨z,rfl,k H' e⟩
variable {ga gb : DS -> Ou Bool}
def fAndT (ga gb : DS -> Ou Bool) : DS -> Ou Bool := fun δ => (ga δ).bind fun b => if b = true then gb δ else .ok false
def fOrT (ga gb : DS -> Ou Bool) : DS -> Ou Bool := fun δ => (ga δ).bind fun b => if b = true then .ok true else gb δ
def fNotT (ga : DS -> Ou Bool) : DS -> Ou Bool := fun δ => (ga δ).bind fun b => .ok (!b)
theorem xw_and1 (ha : PT X a (tT X.K E ga)) : PW X (.BoolOp .And [a] pos) (tT X.K E ga) := pw_and1 ha
theorem xw_or1 (ha : PT X a (tT X.K E ga)) : PW X (.BoolOp .Or [a] pos) (tT X.K E ga) := pw_or1 ha
theorem xw_and (ha : PT X a (tT X.K E ga)) (hb : PW X (.BoolOp .And (b :: rest) pos) (tT X.K E gb)) : PW X (.BoolOp .And (a :: b :: rest) pos) (tT X.K E (fAndT ga gb)) := (pw_and ha hb).imp fun σ H Q q => by
 obtain ⟨c,δ,hK,ab,q⟩ := q
 refine ⟨c,δ,hK,ab,(Res.bind q).imp fun z _ k H1 e1 => ?_⟩
 cases z with
 | true => exact ⟨c,δ,hK,ab.grow e1,k.imp fun d _ k H' e => k H' (e1.trans e)⟩
 | false => exact k H1 e1
theorem xw_or (ha : PT X a (tT X.K E ga)) (hb : PW X (.BoolOp .Or (b :: rest) pos) (tT X.K E gb)) : PW X (.BoolOp .Or (a :: b :: rest) pos) (tT X.K E (fOrT ga gb)) := (pw_or ha hb).imp fun σ H Q q => by
 obtain ⟨c,δ,hK,ab,q⟩ := q
 refine ⟨c,δ,hK,ab,(Res.bind q).imp fun z _ k H1 e1 => ?_⟩
 cases z with
 | false => exact ⟨c,δ,hK,ab.grow e1,k.imp fun d _ k H' e => k H' (e1.trans e)⟩
 | true => exact k H1 e1
theorem xt_not (ha : PT X a (tT X.K E ga)) : PT X (.UnaryOp .Not a pos) (tT X.K E (fNotT ga)) := (pt_not ha).imp fun σ H Q q => by
 obtain ⟨c,δ,hK,ab,q⟩ := q
 exact ⟨c,δ,hK,ab,(Res.bind q).imp fun z _ k H1 e1 => k H1 e1⟩
def fIfE (gc : DS -> Ou Bool) (fa fb : Fn) : Fn := fun δ => (gc δ).bind fun b => if b = true then fa δ else fb δ
theorem Post.early {c : Cn} {σ : St} {δ : DS} {H H1 H' : Hp} {d : D} {v : V} (e : Same H H1) (p : Post c σ δ H1 m d v H') : Post c σ δ H m d v H' := by
 cases m with
 | W => exact p
 | S => exact p
 | F =>
  obtain ⟨p,xs,rfl,h1,h2,h3⟩ := p
  exact ⟨p,xs,rfl,e.free h1,h2,h3⟩
theorem xife {t : Expr} (hc : PT X t (tT X.K E ga)) (ha : PE X a (tX X.K E m fa)) (hb : PE X b (tX X.K E m fb)) : PE X (.IfExp t a b pos) (tX X.K E m (fIfE ga fa fb)) := (pe_ifExp hc ha hb).imp fun σ H Q q => by
 obtain ⟨c,δ,hK,ab,q⟩ := q
 refine ⟨c,δ,hK,ab,(Res.bind q).imp fun z _ k H1 e1 => ?_⟩
 cases z with
 | true => exact ⟨c,δ,hK,ab.grow e1,k.imp fun d _ k v H' e p => k v H' (e1.trans e) (p.early e1)⟩
 | false => exact ⟨c,δ,hK,ab.grow e1,k.imp fun d _ k v H' e p => k v H' (e1.trans e) (p.early e1)⟩
def BOf (c : Cn) (σ : St) (δ : DS) : Md -> Addr -> Prop
 | .W => c.B
 | _ => Av c σ δ
def fArgs : List Fn -> DS -> Ou (List D)
 | [],_ => .ok []
 | f :: fs,δ => (f δ).bind fun d => (fArgs fs δ).bind fun ds => .ok (d :: ds)
def tXA (K : PySem.W.Frag) (E : XK) (m : Md) (fs : List Fn) : TA := fun σ H Q => ∃ c δ,c.K = K ∧ Abs c σ δ H ∧ Res K E c.H₀ (fArgs fs δ) fun ds => ∀ vs H',Same H H' -> Reps c.K (BOf c σ δ m) H' ds vs -> Q vs H'
variable {es : List Expr} {fs : List Fn} {e : Expr} {fe : Fn}
theorem xa_nil : PA X [] (tXA X.K E m []) := pa_nil.imp fun σ H Q q => by
 obtain ⟨c,δ,hK,ab,q⟩ := q
 exact q [] H (Same.refl H) (by simp [Reps])
theorem Post.bOf {c : Cn} {σ : St} {δ : DS} {H H' : Hp} {d : D} {v : V} (hm : notF m = true) (p : Post c σ δ H m d v H') : Rep c.K (BOf c σ δ m) H' d v := by
 cases m with
 | W => exact p
 | S => exact p
 | F => simp [notF] at hm
theorem xa_cons (ha : PE X e (tX X.K E m fe)) (hr : PA X es (tXA X.K E m fs)) (hs : starEach (e :: es) X.env = (false,eval e X.env) :: starEach es X.env := by rfl) (hm : notF m = true := by rfl) : PA X (e :: es) (tXA X.K E m (fe :: fs)) := (pa_cons ha hr hs).imp fun σ H Q q => by
 obtain ⟨c,δ,hK,ab,q⟩ := q
 refine ⟨c,δ,hK,ab,(Res.bind q).imp fun d _ k v H1 e1 r1 => ?_⟩
 refine ⟨c,δ,hK,ab.grow e1,(Res.bind k).imp fun ds _ k vs H2 e2 r2 => ?_⟩
 refine k (v :: vs) H2 (e1.trans e2) ?_
 simp only [Reps]
 exact ⟨v,vs,rfl,(Post.bOf hm r1).same e2,r2⟩
theorem fArgs_len : ∀ {fs : List Fn} {δ : DS} {ds : List D},fArgs fs δ = .ok ds -> ds.length = fs.length
 | [],δ,ds,h => by simp only [fArgs] at h; cases h; rfl
 | f :: fs,δ,ds,h => by
  simp only [fArgs] at h
  cases e : f δ with
  | ok d =>
   rw [e] at h
   cases e2 : fArgs fs δ with
   | ok r => rw [e2] at h; simp only [bind_ok] at h; cases h; simp [fArgs_len e2]
   | ex z => rw [e2] at h; simp at h
   | bad => rw [e2] at h; simp at h
  | ex z => rw [e] at h; simp at h
  | bad => rw [e] at h; simp at h
def fTup (fs : List Fn) : Fn := fun δ => (fArgs fs δ).bind fun ds => .ok (.tup ds)
def fLst (fs : List Fn) : Fn := fun δ => (fArgs fs δ).bind fun ds => .ok (.lst ds)
theorem same_new {H : Hp} {p : Addr} (h : H p = none) (o : HO) : Same H (upd H p o) := fun b u q => by rw [upd_ne (ne_of_none q h)]; exact q
theorem xtup {x1} (h : PA X es (tXA X.K E m fs)) (hl : fs.length ≤ sizeLine := by decide) (hm : notF m = true := by rfl) : PE X (.Tuple es x1 pos) (tX X.K E m (fTup fs)) := (pe_tup h).imp fun σ H Q q => by
 obtain ⟨c,δ,hK,ab,q⟩ := q
 refine ⟨c,δ,hK,ab,(Res.bind q).imp fun ds hds k vs H1 e1 r1 => ⟨by rw [r1.length,fArgs_len hds]; exact hl,fun p hp => ?_⟩⟩
 refine k (.ref p) _ (e1.trans (same_new hp _)) ?_
 have r2 : Rep c.K (BOf c σ δ m) (upd H1 p (.tup vs)) (.tup ds) (.ref p) := by
  simp only [Rep]
  exact ⟨p,vs,rfl,.inl (.inl upd_same),r1.same (same_new hp _)⟩
 cases m with
 | W => exact r2
 | S => exact r2
 | F => simp [notF] at hm
theorem Reps.off {K : PySem.W.Frag} {B : Addr -> Prop} {H : Hp} {ds : List D} {vs : List V} {p : Addr} (r : Reps K B H ds vs) (hp : H p = none) : Reps K (fun a => B a ∧ a ≠ p) H ds vs :=
 Reps.mono (fun a o h z => ⟨h,fun e => by subst e; rw [hp] at z; cases z⟩) (.of_same (Same.refl H)) ds vs r
theorem xlst (h : PA X es (tXA X.K E .S fs)) (hl : fs.length ≤ sizeLine := by decide) : PE X (.List es pos) (tX X.K E .F (fLst fs)) := (pe_lst h).imp fun σ H Q q => by
 obtain ⟨c,δ,hK,ab,q⟩ := q
 refine ⟨c,δ,hK,ab,(Res.bind q).imp fun ds hds k vs H1 e1 r1 => ⟨by rw [r1.length,fArgs_len hds]; exact hl,fun p hp => ?_⟩⟩
 exact k (.ref p) _ (e1.trans (same_new hp _)) ⟨p,_,rfl,e1.free hp,upd_same,vs,rfl,(Reps.off r1 hp).same (same_new hp _)⟩
def gIx : D -> D -> Ou D
 | .tup ds,.int i => match atI ds i with
  | some d => .ok d
  | none => .bad
 | .lst ds,.int i => match atI ds i with
  | some d => .ok d
  | none => .bad
 | .frl ds,.int i => match atI ds i with
  | some d => .ok d
  | none => .bad
 | .str z,.int i => if z.length ≤ sizeLine then (match atI z.cps.toList i with
  | some c => .ok (.str ⟨#[c]⟩)
  | none => .bad) else .bad
 | _,_ => .bad
theorem Reps.at {K : PySem.W.Frag} {B : Addr -> Prop} {H : Hp} {ds : List D} {vs : List V} {i : Int} {d : D} (r : Reps K B H ds vs) (h : atI ds i = some d) : ∃ v,atI vs i = some v ∧ Rep K B H d v := by
 unfold atI at h ⊢
 rw [r.length]
 cases e : ixN ds.length i with
 | none => rw [e] at h; cases h
 | some j =>
  rw [e] at h
  exact r.get j d h
theorem rd_ix {K : PySem.W.Frag} {H₀ : Hp} {B : Addr -> Prop} {H : Hp} {dx dy : D} {x y : V} {Q : VK} (rx : Rep K B H dx x) (ry : Rep K B H dy y) (h : Res K E H₀ (gIx dx dy) fun d => ∀ v,Rep K B H d v -> Q v H) : rIx K x y H Q := by
 cases dy <;> first | (cases dx <;> exact h.elim) | skip
 rename_i i
 simp only [Rep] at ry
 subst ry
 cases dx <;> first | exact h.elim | skip
 ·rename_i z
  simp only [Rep] at rx
  subst rx
  simp only [gIx] at h
  by_cases hl : z.length ≤ sizeLine
  ·rw [if_pos hl] at h
   cases e : atI z.cps.toList i with
   | none => rw [e] at h; exact h.elim
   | some ch => rw [e] at h; exact .inr (.inr ⟨z,i,ch,rfl,rfl,hl,e,h _ (by simp [Rep])⟩)
  ·rw [if_neg hl] at h; exact h.elim
 ·rename_i ds
  simp only [Rep] at rx
  obtain ⟨a,xs,rfl,h1,h2⟩ := rx
  simp only [gIx] at h
  cases e : atI ds i with
  | none => simp only [e] at h; exact h.elim
  | some d =>
   simp only [e] at h
   obtain ⟨v,e2,r2⟩ := h2.at e
   exact .inr (.inl ⟨a,xs,i,v,rfl,rfl,h1,e2,h v r2⟩)
 ·rename_i ds
  simp only [Rep] at rx
  obtain ⟨a,xs,rfl,hb,h1,h2⟩ := rx
  simp only [gIx] at h
  cases e : atI ds i with
  | none => simp only [e] at h; exact h.elim
  | some d =>
   simp only [e] at h
   obtain ⟨v,e2,r2⟩ := h2.at e
   exact .inl ⟨a,xs,i,v,rfl,rfl,.of h1,e2,h v r2⟩
 ·rename_i ds
  simp only [Rep] at rx
  obtain ⟨a,xs,rfl,h1,h2⟩ := rx
  simp only [gIx] at h
  cases e : atI ds i with
  | none => simp only [e] at h; exact h.elim
  | some d =>
   simp only [e] at h
   obtain ⟨v,e2,r2⟩ := h2.at e
   exact .inl ⟨a,xs,i,v,rfl,rfl,h1.sq,e2,h v r2⟩
theorem xix (ha : PE X a (tX X.K E m fa)) (hb : PE X b (tX X.K E .W fb)) (hs : PlainIx b := by exact fun _ _ => rfl) (hm : notF m = true := by rfl) : PE X (.Subscript a b pos) (tX X.K E m (f2 gIx fa fb)) := (pe_ix ix_seq ha hb hs).imp fun σ H Q q => by
 obtain ⟨c,δ,hK,ab,q⟩ := q
 refine ⟨c,δ,hK,ab,(Res.bind q).imp fun dx _ k x H1 e1 r1 => ?_⟩
 refine ⟨c,δ,hK,ab.grow e1,(Res.bind k).imp fun dy hy k y H2 e2 r2 => ?_⟩
 have z1 : Rep X.K (BOf c σ δ m) H2 dx x := by rw [← hK]; exact (Post.bOf hm r1).same e2
 by_cases hd : ∃ i,dy = .int i
 ·obtain ⟨i,rfl⟩ := hd
  have z2 : Rep X.K (BOf c σ δ m) H2 (.int i) y := by
   have z : Rep c.K c.B H2 (.int i) y := r2
   simp only [Rep] at z ⊢; exact z
  refine rd_ix z1 z2 (k.imp fun d _ k v r => k v H2 (e1.trans e2) ?_)
  rw [← hK] at r
  cases m with
  | W => exact r
  | S => exact r
  | F => simp [notF] at hm
 ·exfalso
  have : gIx dx dy = .bad := by
   cases dy <;> first | (cases dx <;> rfl) | exact absurd ⟨_,rfl⟩ hd
  rw [this] at k
  exact k
def fIxO (i : Nat) (fb : Fn) : Fn := fun δ => match δ[i]? with
 | some (.own (.lst ds)) => (fb δ).bind fun y => gIx (.lst ds) y
 | _ => .bad
inductive Fl where
 | nx (δ : DS) | rt (d : D) | bk (δ : DS) | ct (δ : DS)
abbrev Sm := DS -> Ou Fl
structure Rm where
 new : Bool
 pin : Option Nat
instance : Coe Bool Rm := ⟨fun b => ⟨b,none⟩⟩
def RtP (K : PySem.W.Frag) (B : Addr -> Prop) (H₀ : Hp) (fr : Bool) (d : D) (v : V) (H' : Hp) : Prop :=
 match fr with
 | true => ∃ p xs,v = .ref p ∧ H₀ p = none ∧ H' p = some xs ∧ RepO K (fun a => B a ∧ a ≠ p) H' d xs
 | false => Rep K B H' d v
def RtM (c : Cn) (fr : Rm) (d : D) (v : V) (H' : Hp) : Prop :=
 match c.P with
 | none => RtP c.K c.B c.H₀ fr.new d v H'
 | some (_,p) => ∃ dv dO o,d = .tup [dv,dO] ∧ Rep c.K (fun a => c.B a ∧ a ≠ p) H' dv v ∧ H' p = some o ∧ RepO c.K (fun a => c.B a ∧ a ≠ p) H' dO o
def EndP (c : Cn) (fr : Rm) (D : Ends) : Fl -> Prop
 | .nx δ' => ∀ σ' H',Abs c σ' δ' H' -> D.nx σ' H'
 | .bk δ' => ∀ σ' H',Abs c σ' δ' H' -> D.bk σ' H'
 | .ct δ' => ∀ σ' H',Abs c σ' δ' H' -> D.ct σ' H'
 | .rt d => ∀ v H',Same c.H₀ H' -> RtM c fr d v H' -> D.rt v H'
structure AbsF (rm : Rm) (c : Cn) (σ : St) (δ : DS) (H : Hp) : Prop extends Abs c σ δ H where
 pi : c.P.map (·.1) = rm.pin
instance {fr : Rm} {c : Cn} {σ : St} {δ : DS} {H : Hp} : CoeOut (AbsF fr c σ δ H) (Abs c σ δ H) := ⟨AbsF.toAbs⟩
def tS (K : PySem.W.Frag) (E : XK) (fr : Rm) (F : Sm) : TS := fun D σ H => ∃ c δ,c.K = K ∧ AbsF fr c σ δ H ∧ Res K E c.H₀ (F δ) (EndP c fr D)
theorem AbsF.none {fr : Rm} {c : Cn} {σ : St} {δ : DS} {H : Hp} (a : AbsF fr c σ δ H) (h : fr.pin = Option.none) : c.P = Option.none := by
 have := a.pi
 rw [h] at this
 cases e : c.P with
 | none => rfl
 | some x => rw [e] at this; cases this
theorem AbsF.ne {fr : Rm} {c : Cn} {σ : St} {δ : DS} {H : Hp} (a : AbsF fr c σ δ H) {i : Nat} (h : fr.pin ≠ some i) (q : Addr) : c.P ≠ some (i,q) := fun z => h (by rw [← a.pi,z]; rfl)
theorem RtM.of {c : Cn} {fr : Rm} {d : D} {v : V} {H' : Hp} (h : c.P = Option.none) (r : RtP c.K c.B c.H₀ fr.new d v H') : RtM c fr d v H' := by
 unfold RtM; rw [h]; exact r
variable {fr : Rm} {F G : Sm} {st : Stmt} {sts : List Stmt}
def sNext : Sm := fun δ => .ok (.nx δ)
def sSeq (F G : Sm) : Sm := fun δ => (F δ).bind fun r => match r with
 | .nx δ' => G δ'
 | r => .ok r
def sIf (gc : DS -> Ou Bool) (F G : Sm) : Sm := fun δ => (gc δ).bind fun b => if b = true then F δ else G δ
def sBreak : Sm := fun δ => .ok (.bk δ)
def sCont : Sm := fun δ => .ok (.ct δ)
def sRet (f : Fn) : Sm := fun δ => (f δ).bind fun d => .ok (.rt d)
def sDrop (f : Fn) : Sm := fun δ => (f δ).bind fun _ => .ok (.nx δ)
theorem xs_nil : PSs X [] (tS X.K E fr sNext) := pss_nil.imp fun D σ H q => by
 obtain ⟨c,δ,hK,ab,q⟩ := q
 exact q σ H ab
theorem xs_cons (h1 : PS X st (tS X.K E fr F)) (h2 : PSs X sts (tS X.K E fr G)) : PSs X (st :: sts) (tS X.K E fr (sSeq F G)) := (pss_cons h1 h2).imp fun D σ H q => by
 obtain ⟨c,δ,hK,ab,q⟩ := q
 refine ⟨c,δ,hK,ab,(Res.bind q).imp fun r _ k => ?_⟩
 cases r with
 | nx δ' => exact fun σ' H' ab' => ⟨c,δ',hK,⟨ab',ab.pi⟩,k⟩
 | rt d => exact k
 | bk δ' => exact k
 | ct δ' => exact k
theorem xs_if {t : Expr} {sa sb : List Stmt} (hc : PT X t (tT X.K E ga)) (ha : PSs X sa (tS X.K E fr F)) (hb : PSs X sb (tS X.K E fr G)) : PS X (.If t sa sb pos) (tS X.K E fr (sIf ga F G)) := (ps_if hc ha hb).imp fun D σ H q => by
 obtain ⟨c,δ,hK,ab,q⟩ := q
 refine ⟨c,δ,hK,ab,(Res.bind q).imp fun z _ k H1 e1 => ?_⟩
 cases z with
 | true => exact ⟨c,δ,hK,⟨ab.grow e1,ab.pi⟩,k⟩
 | false => exact ⟨c,δ,hK,⟨ab.grow e1,ab.pi⟩,k⟩
theorem xs_ret (h : PE X e (tX X.K E .W fe)) : PS X (.Return (some e) pos) (tS X.K E false (sRet fe)) := (ps_ret h).imp fun D σ H q => by
 obtain ⟨c,δ,hK,ab,q⟩ := q
 exact ⟨c,δ,hK,ab,(Res.bind q).imp fun d _ k v H1 e1 r1 => k v H1 (ab.same.trans e1) (.of (ab.none rfl) r1)⟩
theorem xs_retF (h : PE X e (tX X.K E .F fe)) : PS X (.Return (some e) pos) (tS X.K E true (sRet fe)) := (ps_ret h).imp fun D σ H q => by
 obtain ⟨c,δ,hK,ab,q⟩ := q
 refine ⟨c,δ,hK,ab,(Res.bind q).imp fun d _ k v H1 e1 r1 => k v H1 (ab.same.trans e1) (.of (ab.none rfl) ?_)⟩
 obtain ⟨p,xs,rfl,h1,h2,h3⟩ := r1
 exact ⟨p,xs,rfl,ab.same.free h1,h2,h3.weak fun a z => ⟨z.1.1,z.2⟩⟩
def sRetO (i : Nat) : Sm := fun δ => match δ[i]? with
 | some (.own ds) => .ok (.rt ds)
 | _ => .bad
theorem xs_retO (i : Nat) {x : Str} {px : Pos} (hN : X.N[i]? = some x := by rfl) (hv : Vis X.env.scope x := by first | exact Or.inl rfl | exact Or.inr (Or.inl rfl) | exact Or.inr (Or.inr rfl)) (hd : (x == ("__debug__" : Str)) = false := by decide)
  (hcd : (x == ("__classdict__" : Str)) = false := by decide) : PS X (.Return (some (.Name x px)) pos) (tS X.K E true (sRetO i)) := (ps_ret (pv i hN hv hd hcd)).imp fun D σ H q => by
 obtain ⟨c,δ,hK,ab,q⟩ := q
 unfold sRetO at q
 cases e : δ[i]? with
 | none => rw [e] at q; exact q.elim
 | some s =>
  rw [e] at q
  cases s with
  | un => exact q.elim
  | val d => exact q.elim
  | own ds =>
   obtain ⟨p,xs,h1,h2,h3,h4⟩ := ab.own i ds e
   refine ⟨.ref p,h1,q (.ref p) H ab.same (.of (ab.none rfl) ⟨p,xs,rfl,h3.1,h2,h4.weak fun a z => ⟨z.1,fun w => z.2 ⟨i,ds,e,by rw [w]; exact h1⟩⟩⟩)⟩
theorem get_set {α : Type} {l : List α} {i j : Nat} {x y : α} (h : (l.set i x)[j]? = some y) : (j = i ∧ y = x ∧ i < l.length) ∨ (j ≠ i ∧ l[j]? = some y) := by
 rw [List.getElem?_set] at h
 by_cases e : i = j
 ·rw [if_pos e] at h
  by_cases hl : i < l.length
  ·rw [if_pos hl] at h
   exact .inl ⟨e.symm,(Option.some.inj h).symm,hl⟩
  ·rw [if_neg hl] at h; cases h
 ·rw [if_neg e] at h
  exact .inr ⟨fun z => e z.symm,h⟩
theorem set_ne {α : Type} {l : List α} {i j : Nat} {x : α} (h : j ≠ i) : (l.set i x)[j]? = l[j]? := by
 rw [List.getElem?_set,if_neg fun z => h z.symm]
theorem set_eq {α : Type} {l : List α} {i : Nat} {x : α} (h : i < l.length) : (l.set i x)[i]? = some x := by
 rw [List.getElem?_set,if_pos rfl,if_pos h]
theorem own_set_val {σ : St} {δ : DS} {i : Nat} {v : V} {d : D} {q : Addr} (o : Own (σ.set i (some v)) (δ.set i (.val d)) q) : Own σ δ q := by
 obtain ⟨j,ds,h1,h2⟩ := o
 rcases get_set h1 with ⟨_,z,_⟩ | ⟨ne,h1⟩
 ·cases z
 ·rw [set_ne ne] at h2
  exact ⟨j,ds,h1,h2⟩
theorem Abs.set_val {c : Cn} {σ : St} {δ : DS} {H H' : Hp} {i : Nat} {d : D} {v : V} (a : Abs c σ δ H) (e : Same H H') (r : Rep c.K (Av c σ δ) H' d v) : Abs c (σ.set i (some v)) (δ.set i (.val d)) H' := by
 have av : ∀ q,Av c σ δ q -> Av c (σ.set i (some v)) (δ.set i (.val d)) q := fun q h => ⟨h.1,fun o => h.2 (own_set_val o)⟩
 refine ⟨a.same.trans e,fun b h => a.fr b (e.free h),by rw [List.length_set,List.length_set]; exact a.len,fun j d' h => ?_,fun j ds h => ?_,fun d' v' h => ?_,fun j k dj dk p h1 h2 h3 h4 => ?_,fun j p hP d' h => ?_⟩
 ·rcases get_set h with ⟨rfl,z,hl⟩ | ⟨ne,h⟩
  ·cases z
   exact ⟨v,set_eq (by rw [← a.len]; exact hl),r.weak av⟩
  ·obtain ⟨u,h1,h2⟩ := a.val j d' h
   exact ⟨u,by rw [set_ne ne]; exact h1,(h2.same e).weak av⟩
 ·rcases get_set h with ⟨rfl,z,hl⟩ | ⟨ne,h⟩
  ·cases z
  ·obtain ⟨p,xs,h1,h2,h3,h4⟩ := a.own j ds h
   exact ⟨p,xs,by rw [set_ne ne]; exact h1,e _ _ h2,h3,(h4.same e).weak av⟩
 ·exact ((a.gho d' v' h).same e).weak av
 ·rcases get_set h1 with ⟨_,z,_⟩ | ⟨n1,h1⟩
  ·cases z
  rcases get_set h2 with ⟨_,z,_⟩ | ⟨n2,h2⟩
  ·cases z
  rw [set_ne n1] at h3
  rw [set_ne n2] at h4
  exact a.inj j k dj dk p h1 h2 h3 h4
 ·rcases get_set h with ⟨_,z,_⟩ | ⟨ne,h⟩
  ·cases z
  ·rw [set_ne ne]; exact a.pin j p hP d' h
theorem own_set_own {σ : St} {δ : DS} {i : Nat} {p : Addr} {ds : D} {q : Addr} (o : Own (σ.set i (some (.ref p))) (δ.set i (.own ds)) q) : Own σ δ q ∨ q = p := by
 obtain ⟨j,es,h1,h2⟩ := o
 rcases get_set h1 with ⟨rfl,z,_⟩ | ⟨ne,h1⟩
 ·rcases get_set h2 with ⟨_,z2,_⟩ | ⟨n2,_⟩
  ·cases z2; exact .inr rfl
  ·exact absurd rfl n2
 ·rw [set_ne ne] at h2
  exact .inl ⟨j,es,h1,h2⟩
theorem Abs.set_own {c : Cn} {σ : St} {δ : DS} {H H' : Hp} {i : Nat} {ds : D} {p : Addr} {xs : HO} (a : Abs c σ δ H) (e : Same H H') (hp : H p = none) (h' : H' p = some xs) (r : RepO c.K (fun q => Av c σ δ q ∧ q ≠ p) H' ds xs) (hj : ∀ q,c.P ≠ some (i,q)) :
  Abs c (σ.set i (some (.ref p))) (δ.set i (.own ds)) H' := by
 have av : ∀ q,Av c σ δ q ∧ q ≠ p -> Av c (σ.set i (some (.ref p))) (δ.set i (.own ds)) q := fun q h => ⟨h.1.1,fun o => (own_set_own o).elim h.1.2 h.2⟩
 have avH : ∀ (q : Addr) (o : HO),Av c σ δ q -> H q = some o -> Av c (σ.set i (some (.ref p))) (δ.set i (.own ds)) q := fun q o h z => av q ⟨h,ne_of_none z hp⟩
 have up : ∀ d v,Rep c.K (Av c σ δ) H d v -> Rep c.K (Av c (σ.set i (some (.ref p))) (δ.set i (.own ds))) H' d v := fun d v h => Rep.mono avH (.of_same e) d v h
 have ups : ∀ d v,RepO c.K (Av c σ δ) H d v -> RepO c.K (Av c (σ.set i (some (.ref p))) (δ.set i (.own ds))) H' d v := fun d v h => RepO.mono avH (.of_same e) h
 have no : ∀ (j : Nat) dj,δ[j]? = some (Sl.own dj) -> σ[j]? = some (some (.ref p)) -> False := fun j dj h1 h2 => by
  obtain ⟨p',ys,h3,h4,_⟩ := a.own j dj h1
  rw [h2] at h3; cases h3
  rw [hp] at h4; cases h4
 refine ⟨a.same.trans e,fun b h => a.fr b (e.free h),by rw [List.length_set,List.length_set]; exact a.len,fun j d' h => ?_,fun j es h => ?_,fun d' v' h => up _ _ (a.gho d' v' h),fun j k dj dk q h1 h2 h3 h4 => ?_,fun j q hP d' h => ?_⟩
 ·rcases get_set h with ⟨rfl,z,hl⟩ | ⟨ne,h⟩
  ·cases z
  ·obtain ⟨u,h1,h2⟩ := a.val j d' h
   exact ⟨u,by rw [set_ne ne]; exact h1,up _ _ h2⟩
 ·rcases get_set h with ⟨rfl,z,hl⟩ | ⟨ne,h⟩
  ·cases z
   exact ⟨p,xs,set_eq (by rw [← a.len]; exact hl),h',⟨a.same.free hp,a.fr p hp⟩,r.weak av⟩
  ·obtain ⟨q,ys,h1,h2,h3,h4⟩ := a.own j es h
   exact ⟨q,ys,by rw [set_ne ne]; exact h1,e _ _ h2,h3,ups _ _ h4⟩
 ·rcases get_set h1 with ⟨e1,_,_⟩ | ⟨n1,h1⟩
  ·rcases get_set h2 with ⟨e2,_,_⟩ | ⟨n2,h2⟩
   ·rw [e1,e2]
   ·subst e1
    rcases get_set h3 with ⟨_,z,_⟩ | ⟨n3,_⟩
    ·cases z
     rw [set_ne n2] at h4
     exact (no k dk (by assumption) h4).elim
    ·exact absurd rfl n3
  ·rw [set_ne n1] at h3
   rcases get_set h2 with ⟨e2,_,_⟩ | ⟨n2,h2⟩
   ·subst e2
    rcases get_set h4 with ⟨_,z,_⟩ | ⟨n3,_⟩
    ·cases z
     exact (no j dj (by assumption) h3).elim
    ·exact absurd rfl n3
   ·rw [set_ne n2] at h4
    exact a.inj j k dj dk q h1 h2 h3 h4
 ·rcases get_set h with ⟨rfl,_,_⟩ | ⟨ne,h⟩
  ·exact absurd hP (hj q)
  ·rw [set_ne ne]; exact a.pin j q hP d' h
theorem Abs.mut {c : Cn} {σ : St} {δ : DS} {H : Hp} {i : Nat} {ds ds' : D} {p : Addr} {xs' : HO} (a : Abs c σ δ H) (h : δ[i]? = some (Sl.own ds)) (hs : σ[i]? = some (some (V.ref p))) (r : RepO c.K (Av c σ δ) H ds' xs') :
  Abs c σ (δ.set i (.own ds')) (upd H p xs') := by
 have hi : i < δ.length := (List.getElem?_eq_some_iff.mp h).1
 have ow : Own σ δ p := ⟨i,ds,h,hs⟩
 have oi : ∀ {q},Own σ (δ.set i (.own ds')) q -> Own σ δ q := fun {q} o => by
  obtain ⟨j,es,h1,h2⟩ := o
  rcases get_set h1 with ⟨rfl,_,_⟩ | ⟨_,h1⟩
  ·exact ⟨j,ds,h,h2⟩
  ·exact ⟨j,es,h1,h2⟩
 have av : ∀ q,Av c σ δ q -> Av c σ (δ.set i (.own ds')) q := fun q z => ⟨z.1,fun o => z.2 (oi o)⟩
 have hne : ∀ q,Av c σ δ q -> q ≠ p := fun q z e => by subst e; exact z.2 ow
 obtain ⟨p',ys,g1,g2,g3,g4⟩ := a.own i ds h
 rw [hs] at g1; cases g1
 have st : Stay c.K (Av c σ δ) H (upd H p xs') := ⟨fun q ys z => by
   rcases z with (z | ⟨o,z⟩) | z
   ·exact .inl (.inl (by rw [upd_ne (ne_of z g2 (g4.noT _))]; exact z))
   ·exact .inl (.inr ⟨o,by rw [upd_ne (ne_of z g2 (g4.noF _ _))]; exact z⟩)
   ·exact .inr z,fun q ys z => by
   rcases z with ⟨o,z⟩ | z
   ·exact .inl ⟨o,by rw [upd_ne (ne_of z g2 (g4.noF _ _))]; exact z⟩
   ·exact .inr z,fun q o z w => by rw [upd_ne (hne q z)]; exact w⟩
 have up : ∀ d v,Rep c.K (Av c σ δ) H d v -> Rep c.K (Av c σ (δ.set i (.own ds'))) (upd H p xs') d v := fun d v z => Rep.mono (fun q _ w _ => av q w) st d v z
 have ups : ∀ d v,RepO c.K (Av c σ δ) H d v -> RepO c.K (Av c σ (δ.set i (.own ds'))) (upd H p xs') d v := fun d v z => RepO.mono (fun q _ w _ => av q w) st z
 refine ⟨fun b o z => ?_,fun b z => a.fr b (by
   by_cases hb : b = p
   ·subst hb; rw [upd_same] at z; cases z
   ·rw [upd_ne hb] at z; exact z),by rw [List.length_set]; exact a.len,fun j d' z => ?_,fun j es z => ?_,fun d' v' z => up _ _ (a.gho d' v' z),fun j k dj dk q h1 h2 h3 h4 => ?_,fun j q hP d' z => ?_⟩
 ·rw [upd_ne (ne_of_none z g3.1)]; exact a.same b o z
 ·rcases get_set z with ⟨_,w,_⟩ | ⟨ne,z⟩
  ·cases w
  ·obtain ⟨u,z1,z2⟩ := a.val j d' z
   exact ⟨u,z1,up _ _ z2⟩
 ·rcases get_set z with ⟨rfl,w,_⟩ | ⟨ne,z⟩
  ·cases w
   exact ⟨p,xs',hs,upd_same,g3,ups _ _ r⟩
  ·obtain ⟨q,zs,z1,z2,z3,z4⟩ := a.own j es z
   refine ⟨q,zs,z1,?_,z3,ups _ _ z4⟩
   rw [upd_ne fun w => ne (a.inj j i es ds p z h (by rw [← w]; exact z1) hs)]
   exact z2
 ·have go : ∀ {j : Nat} {dj : D},(δ.set i (.own ds'))[j]? = some (Sl.own dj) -> ∃ dj',δ[j]? = some (Sl.own dj') := fun {j dj} z => by
   rcases get_set z with ⟨rfl,_,_⟩ | ⟨_,z⟩
   ·exact ⟨ds,h⟩
   ·exact ⟨_,z⟩
  obtain ⟨dj',h1⟩ := go h1
  obtain ⟨dk',h2⟩ := go h2
  exact a.inj j k dj' dk' q h1 h2 h3 h4
 ·rcases get_set z with ⟨rfl,_,_⟩ | ⟨_,z⟩
  ·exact a.pin j q hP ds h
  ·exact a.pin j q hP d' z
def thaw (i : Nat) (δ : DS) : DS := match δ[i]? with
 | some (.own ds) => δ.set i (.val ds)
 | _ => δ
theorem Abs.thaw {c : Cn} {σ : St} {δ : DS} {H : Hp} (i : Nat) (a : Abs c σ δ H) : Abs c σ (thaw i δ) H := by
 unfold DL.thaw
 cases e : δ[i]? with
 | none => exact a
 | some s =>
  cases s with
  | un => exact a
  | val d => exact a
  | own ds =>
   obtain ⟨p,xs,h1,h2,h3,h4⟩ := a.own i ds e
   have oi : ∀ {q},Own σ (δ.set i (.val ds)) q -> Own σ δ q ∧ q ≠ p := fun {q} o => by
    obtain ⟨j,es,z1,z2⟩ := o
    rcases get_set z1 with ⟨_,w,_⟩ | ⟨ne,z1⟩
    ·cases w
    ·exact ⟨⟨j,es,z1,z2⟩,fun w => ne (a.inj j i es ds p z1 e (by rw [← w]; exact z2) h1)⟩
   have av : ∀ q,Av c σ δ q -> Av c σ (δ.set i (.val ds)) q := fun q z => ⟨z.1,fun o => z.2 (oi o).1⟩
   refine ⟨a.same,a.fr,by rw [List.length_set]; exact a.len,fun j d' z => ?_,fun j es z => ?_,fun d' v' z => (a.gho d' v' z).weak av,fun j k dj dk q z1 z2 z3 z4 => ?_,fun j q hP d' z => ?_⟩
   ·rcases get_set z with ⟨rfl,w,_⟩ | ⟨ne,z⟩
    ·cases w
     refine ⟨.ref p,h1,?_⟩
     exact (h4.weak av).rep h2 ⟨h3.2,fun o => (oi o).2 rfl⟩
    ·obtain ⟨u,z1,z2⟩ := a.val j d' z
     exact ⟨u,z1,z2.weak av⟩
   ·rcases get_set z with ⟨_,w,_⟩ | ⟨ne,z⟩
    ·cases w
    ·obtain ⟨q,zs,z1,z2,z3,z4⟩ := a.own j es z
     exact ⟨q,zs,z1,z2,z3,z4.weak av⟩
   ·rcases get_set z1 with ⟨_,w,_⟩ | ⟨_,z1⟩
    ·cases w
    rcases get_set z2 with ⟨_,w,_⟩ | ⟨_,z2⟩
    ·cases w
    exact a.inj j k dj dk q z1 z2 z3 z4
   ·rcases get_set z with ⟨_,w,_⟩ | ⟨_,z⟩
    ·cases w
    ·exact a.pin j q hP d' z
theorem xs_thaw (i : Nat) (h : PS X st (tS X.K E fr F)) : PS X st (tS X.K E fr fun δ => F (thaw i δ)) := h.imp fun D σ H q => by
 obtain ⟨c,δ,hK,ab,q⟩ := q
 exact ⟨c,_,hK,⟨ab.toAbs.thaw i,ab.pi⟩,q⟩
def sSet (i : Nat) (f : Fn) : Sm := fun δ => (f δ).bind fun d => .ok (.nx (δ.set i (.val d)))
def sOwn (i : Nat) (f : Fn) : Sm := fun δ => (f δ).bind fun d => .ok (.nx (δ.set i (.own d)))
theorem xs_set (i : Nat) {x : Str} {pos' : Pos} (hN : X.N.Nodup) (he : PE X e (tX X.K E .S fe)) (hi : X.N[i]? = some x := by rfl) (hx : Loc X.env.scope x := by first | exact Or.inl rfl | exact Or.inr rfl) (hs : swapsWith e (some (.Name x pos')) pos.line X.env = pure false := by rfl)
  (hf : X.fn x = true ∨ X.env.scope.names.lookup x = some .local := by first | exact .inl rfl | exact .inr rfl) : PS X (.Assign [.Name x pos'] e pos) (tS X.K E fr (sSet i fe)) := (ps_set hN hi hx he hs hf).imp fun D σ H q => by
 obtain ⟨c,δ,hK,ab,q⟩ := q
 exact ⟨c,δ,hK,ab,(Res.bind q).imp fun d _ k v H1 e1 r1 => k _ H1 (ab.set_val e1 r1)⟩
theorem xs_own (i : Nat) {x : Str} {pos' : Pos} (hN : X.N.Nodup) (he : PE X e (tX X.K E .F fe)) (hi : X.N[i]? = some x := by rfl) (hx : Loc X.env.scope x := by first | exact Or.inl rfl | exact Or.inr rfl) (hs : swapsWith e (some (.Name x pos')) pos.line X.env = pure false := by rfl)
  (hf : X.fn x = true ∨ X.env.scope.names.lookup x = some .local := by first | exact .inl rfl | exact .inr rfl) (hpi : fr.pin ≠ some i := by decide) : PS X (.Assign [.Name x pos'] e pos) (tS X.K E fr (sOwn i fe)) := (ps_set hN hi hx he hs hf).imp fun D σ H q => by
 obtain ⟨c,δ,hK,ab,q⟩ := q
 refine ⟨c,δ,hK,ab,(Res.bind q).imp fun d _ k v H1 e1 r1 => ?_⟩
 obtain ⟨p,xs,rfl,h1,h2,h3⟩ := r1
 exact k _ H1 (ab.set_own e1 h1 h2 h3 (ab.ne hpi))
def tG (K : PySem.W.Frag) (E : XK) (g : D -> DS -> Ou DS) : TG := fun v σ H Q => ∃ c δ d,c.K = K ∧ Abs c σ δ H ∧ Rep c.K (Av c σ δ) H d v ∧ Res K E c.H₀ (g d δ) fun δ' => ∀ σ' H',Same H H' -> Abs c σ' δ' H' -> Q σ' H'
def gNm (i : Nat) : D -> DS -> Ou DS := fun d δ => .ok (δ.set i (.val d))
theorem xg_name (i : Nat) {x : Str} (hN : X.N.Nodup) (hi : X.N[i]? = some x := by rfl) (hx : Loc X.env.scope x := by first | exact Or.inl rfl | exact Or.inr rfl) (hf : X.fn x = true ∨ X.env.scope.names.lookup x = some .local := by first | exact .inl rfl | exact .inr rfl) : PG X (.Name x pos) (tG X.K E (gNm i)) := (pg_name hN hi hx hf).imp fun v σ H Q q => by
 obtain ⟨c,δ,d,hK,ab,r,q⟩ := q
 exact q _ H (Same.refl H) (ab.set_val (Same.refl H) r)
def forL (g : D -> DS -> Ou DS) (body : Sm) : List D -> DS -> Ou Fl
 | [],δ => .ok (.nx δ)
 | x :: xs,δ => (g x δ).bind fun δ1 => (body δ1).bind fun r => match r with
  | .nx δ2 => forL g body xs δ2
  | .ct δ2 => forL g body xs δ2
  | .bk δ2 => .ok (.nx δ2)
  | .rt d => .ok (.rt d)
def sFor (fl : Fn) (g : D -> DS -> Ou DS) (body : Sm) : Sm := fun δ => (fl δ).bind fun d => match d with
 | .lst ds => forL g body ds δ
 | .frl ds => forL g body ds δ
 | _ => .bad
def sForT (fl : Fn) (g : D -> DS -> Ou DS) (body : Sm) : Sm := fun δ => (fl δ).bind fun d => match d with
 | .tup ds => forL g body ds δ
 | _ => .bad
theorem Abs.drop {c : Cn} {σ : St} {δ : DS} {H : Hp} {g : List (D × V)} (a : Abs { c with G := g } σ δ H) (hg : ∀ z ∈ c.G,z ∈ g) : Abs c σ δ H :=
 ⟨a.same,a.fr,a.len,a.val,a.own,fun d v h => a.gho d v (hg _ h),a.inj,a.pin⟩
theorem for_turn {c : Cn} {g : D -> DS -> Ou DS} {body : Sm} {tg : TG} {tb : TS} {D : Ends} {K : PySem.W.Frag} {gh : List (DL.D × V)} (htg : ∀ v σ H Q,tG K E g v σ H Q -> tg v σ H Q) (htb : ∀ D σ H,tS K E fr body D σ H -> tb D σ H) (hK : c.K = K) (hg : ∀ z ∈ c.G,z ∈ gh)
  {d : DL.D} {ds : List DL.D} {v : V} {σ : St} {δ : DS} {H : Hp} (ab : Abs { c with G := gh } σ δ H) (r : Rep c.K (Av c σ δ) H d v) (h : Res K E c.H₀ (forL g body (d :: ds) δ) (EndP c fr D)) (hp : c.P.map (·.1) = fr.pin := by assumption) :
  tg v σ H fun σ2 H2 => tb { D with nx := fun σ' H' => ∃ δ',Abs { c with G := gh } σ' δ' H' ∧ Res K E c.H₀ (forL g body ds δ') (EndP c fr D),ct := fun σ' H' => ∃ δ',Abs { c with G := gh } σ' δ' H' ∧ Res K E c.H₀ (forL g body ds δ') (EndP c fr D),bk := D.nx } σ2 H2 := by
 refine htg _ _ _ _ ⟨{ c with G := gh },δ,d,hK,ab,r,(Res.bind h).imp fun δ1 _ k σ2 H2 _ ab2 => htb _ _ _ ⟨{ c with G := gh },δ1,hK,⟨ab2,hp⟩,(Res.bind k).imp fun r _ k => ?_⟩⟩
 cases r with
 | nx δ2 => exact fun σ' H' ab' => ⟨δ2,ab',k⟩
 | ct δ2 => exact fun σ' H' ab' => ⟨δ2,ab',k⟩
 | bk δ2 => exact fun σ' H' ab' => k σ' H' (ab'.drop hg)
 | rt z => exact k
theorem for_goes {c : Cn} {g : D -> DS -> Ou DS} {body : Sm} {J : It} {tg : TG} {tb : TS} {D : Ends} {K : PySem.W.Frag} {gh : List (DL.D × V)} (htg : ∀ v σ H Q,tG K E g v σ H Q -> tg v σ H Q) (htb : ∀ D σ H,tS K E fr body D σ H -> tb D σ H) (hK : c.K = K) (hg : ∀ z ∈ c.G,z ∈ gh)
  {ds : List DL.D} {σ : St} {δ : DS} {H : Hp} (ab : Abs { c with G := gh } σ δ H) (h : Res K E c.H₀ (forL g body ds δ) (EndP c fr D))
  (go : ∀ (i : Nat) σ δ H d,Abs { c with G := gh } σ δ H -> ds[i]? = some d -> J.go i H ∧ ∀ x H',J.yld i H x H' -> H' = H ∧ Rep c.K (Av c σ δ) H d x)
  (stop : ∀ σ δ H,Abs { c with G := gh } σ δ H -> J.stop ds.length H) (hp : c.P.map (·.1) = fr.pin := by assumption) :
  ∃ W : Nat -> Nat -> St -> Hp -> Prop,(∃ m,W 0 m σ H) ∧ ∀ i m σ H,W i m σ H ->
   (J.stop i H ∧ D.nx σ H) ∨ (J.go i H ∧ ∃ N : St -> Hp -> Prop,(∀ σ' H',N σ' H' -> ∃ m',m' < m ∧ W (i + 1) m' σ' H') ∧ ∀ x H',J.yld i H x H' -> tg x σ H' fun σ2 H2 => tb { D with nx := N,ct := N,bk := D.nx } σ2 H2) := by
 refine ⟨fun i m σ H => m = ds.length - i ∧ i ≤ ds.length ∧ ∃ δ,Abs { c with G := gh } σ δ H ∧ Res K E c.H₀ (forL g body (ds.drop i) δ) (EndP c fr D),⟨ds.length,by simp,Nat.zero_le _,δ,ab,by simpa using h⟩,?_⟩
 rintro i m σ H ⟨rfl,hi,δ,ab,h⟩
 by_cases hlt : i < ds.length
 ·have hd : ds[i]? = some ds[i] := by simp [hlt]
  obtain ⟨g1,g2⟩ := go i σ δ H _ ab hd
  rw [List.drop_eq_getElem_cons hlt] at h
  refine .inr ⟨g1,_,fun σ' H' p' => ⟨ds.length - (i + 1),by lia,rfl,hlt,p'⟩,fun x H' y => ?_⟩
  obtain ⟨rfl,r⟩ := g2 x H' y
  exact for_turn htg htb hK hg ab r h
 ·have e : i = ds.length := by lia
  subst e
  rw [List.drop_length] at h
  exact .inl ⟨stop σ δ H ab,h σ H (ab.drop hg)⟩
theorem rd_for {c : Cn} {g : D -> DS -> Ou DS} {D : Ends} {K : PySem.W.Frag} {σ : St} {δ : DS} {H : Hp} {a : Addr} {d : DL.D} {ds : List DL.D} (hK : c.K = K) (ab : Abs c σ δ H) (r : Rep c.K (Av c σ δ) H d (.ref a))
  (all : ∀ B H,Rep c.K B H d (.ref a) -> ∃ xs,SqL K H a xs ∧ Reps c.K B H ds xs) (h : Res K E c.H₀ (forL g F ds δ) (EndP c fr D)) (hp : c.P.map (·.1) = fr.pin := by assumption) :
  ∃ W : Nat -> Nat -> St -> Hp -> Prop,(∃ m,W 0 m σ H) ∧ ∀ i m σ H,W i m σ H ->
   ((Itl K a).stop i H ∧ D.nx σ H) ∨ ((Itl K a).go i H ∧ ∃ N : St -> Hp -> Prop,(∀ σ' H',N σ' H' -> ∃ m',m' < m ∧ W (i + 1) m' σ' H') ∧ ∀ x H',(Itl K a).yld i H x H' -> tG K E g x σ H' fun σ2 H2 => tS K E fr F { D with nx := N,ct := N,bk := D.nx } σ2 H2) := by
 have ab' : Abs { c with G := (d,.ref a) :: c.G } σ δ H := by
  refine ⟨ab.same,ab.fr,ab.len,ab.val,ab.own,fun d' v' hm => ?_,ab.inj,ab.pin⟩
  rcases List.mem_cons.mp hm with e | hm
  ·cases e; exact r
  ·exact ab.gho d' v' hm
 refine for_goes (gh := (d,.ref a) :: c.G) (fun _ _ _ _ z => z) (fun _ _ _ z => z) hK (fun _ z => List.mem_cons_of_mem _ z) ab' h (fun i σ δ H d z hd => ?_) fun σ δ H z => ?_
 ·obtain ⟨ys,w1,w2⟩ := all _ _ (z.gho _ _ List.mem_cons_self)
  obtain ⟨u,w3,w4⟩ := w2.get i d hd
  refine ⟨⟨ys,u,w1,w3⟩,fun x H' y => ⟨y.1,?_⟩⟩
  have w5 := y.2 ys w1
  rw [w3] at w5; cases w5
  exact w4
 ·obtain ⟨ys,w1,w2⟩ := all _ _ (z.gho _ _ List.mem_cons_self)
  exact ⟨ys,w1,Nat.le_of_eq w2.length⟩
theorem xs_for {tg iter : Expr} {body : List Stmt} {fl : Fn} {g : D -> DS -> Ou DS} (hp : PassesOwn (model X.prog X.w) X.A X.env X.xe) (hc : X.calm = true) (hi : PE X iter (tX X.K E .S fl)) (hg : PG X tg (tG X.K E g)) (hb : PSs X body (tS X.K E fr F))
  (hs : ∀ x,foldedSetIterable iter X.env x = pure x := by intro _; rfl) : PS X (.For tg iter body [] pos) (tS X.K E fr (sFor fl g F)) := (ps_for hp hc (pi_list hi) hg hb hs).imp fun D σ H q => by
 obtain ⟨c,δ,hK,ab,q⟩ := q
 have hp := ab.pi
 refine ⟨c,δ,hK,ab,(Res.bind q).imp fun d hd0 k v H1 e1 r1 => ?_⟩
 have r1' : Rep c.K (Av c σ δ) H1 d v := r1
 cases d <;> first | exact k.elim | skip
 ·rename_i ds
  have r2 := r1'
  simp only [Rep] at r2
  obtain ⟨a,xs,rfl,hb,h1,h2⟩ := r2
  refine ⟨a,rfl,⟨xs,.of h1⟩,rd_for hK (ab.grow e1) r1' (fun B H z => ?_) k⟩
  simp only [Rep] at z
  obtain ⟨b,ys,e,_,w1,w2⟩ := z
  cases e
  exact ⟨ys,.of w1,w2⟩
 ·rename_i ds
  have r2 := r1'
  simp only [Rep] at r2
  obtain ⟨a,xs,rfl,h1,h2⟩ := r2
  refine ⟨a,rfl,⟨xs,by rw [← hK]; exact h1.sq⟩,rd_for hK (ab.grow e1) r1' (fun B H z => ?_) k⟩
  simp only [Rep] at z
  obtain ⟨b,ys,e,w1,w2⟩ := z
  cases e
  exact ⟨ys,by rw [← hK]; exact w1.sq,w2⟩
def rng (lo : Int) (n : Nat) : List D := (List.range n).map fun (k : Nat) => D.int (lo + (k : Int))
theorem rng_get {lo : Int} {n i : Nat} {d : D} (h : (rng lo n)[i]? = some d) : i < n ∧ d = .int (lo + (i : Int)) := by
 unfold rng at h
 rw [List.getElem?_map] at h
 cases e : (List.range n)[i]? with
 | none => rw [e] at h; cases h
 | some k =>
  rw [e] at h
  have e2 := List.getElem?_eq_some_iff.mp e
  obtain ⟨hl,e3⟩ := e2
  simp at e3 hl
  subst e3
  exact ⟨hl,(Option.some.inj h).symm⟩
theorem rng_len (lo : Int) (n : Nat) : (rng lo n).length = n := by simp [rng]
def rOk (i : Int) : Bool := decide (-(2 ^ 62) ≤ i ∧ i < 2 ^ 62)
def sRng (fs : List Fn) (g : D -> DS -> Ou DS) (body : Sm) : Sm := fun δ => (fArgs fs δ).bind fun ds => match ds with
 | [.int j] => if rOk j = true then forL g body (rng 0 j.toNat) δ else .bad
 | [.int i,.int j] => if rOk i = true ∧ rOk j = true then forL g body (rng i (j - i).toNat) δ else .bad
 | _ => .bad
theorem rd_rng1 {c : Cn} {g : D -> DS -> Ou DS} {D : Ends} {K : PySem.W.Frag} {σ : St} {δ : DS} {H : Hp} {lo : Int} {n : Nat} (hK : c.K = K) (ab : Abs c σ δ H) (h : Res K E c.H₀ (forL g F (rng lo n) δ) (EndP c fr D)) (hp : c.P.map (·.1) = fr.pin := by assumption) :
  ∃ W : Nat -> Nat -> St -> Hp -> Prop,(∃ m,W 0 m σ H) ∧ ∀ i m σ H,W i m σ H ->
   ((Itr lo n).stop i H ∧ D.nx σ H) ∨ ((Itr lo n).go i H ∧ ∃ N : St -> Hp -> Prop,(∀ σ' H',N σ' H' -> ∃ m',m' < m ∧ W (i + 1) m' σ' H') ∧ ∀ x H',(Itr lo n).yld i H x H' -> tG K E g x σ H' fun σ2 H2 => tS K E fr F { D with nx := N,ct := N,bk := D.nx } σ2 H2) := by
 refine for_goes (gh := c.G) (fun _ _ _ _ z => z) (fun _ _ _ z => z) hK (fun _ z => z) ab h (fun i σ δ H d z hd => ?_) fun σ δ H z => ?_
 ·obtain ⟨h1,rfl⟩ := rng_get hd
  exact ⟨h1,fun x H' y => ⟨y.1,by rw [y.2]; simp [Rep]⟩⟩
 ·show n ≤ _
  rw [rng_len]; exact Nat.le_refl _
def whileF (gc : DS -> Ou Bool) (body : Sm) : Nat -> Sm
 | 0,_ => .bad
 | n + 1,δ => (gc δ).bind fun b => if b = true then (body δ).bind fun r => match r with
   | .nx δ2 => whileF gc body n δ2
   | .ct δ2 => whileF gc body n δ2
   | .bk δ2 => .ok (.nx δ2)
   | .rt d => .ok (.rt d)
  else .ok (.nx δ)
theorem xs_while (n : Nat) {t : Expr} {body : List Stmt} (hp : PassesOwn (model X.prog X.w) X.A X.env X.xe) (hc : PT X t (tT X.K E ga)) (hb : PSs X body (tS X.K E fr F)) : PS X (.While t body [] pos) (tS X.K E fr (whileF ga F n)) := (ps_while hp hc hb).imp fun D σ H q => by
 obtain ⟨c,δ,hK,ab,q⟩ := q
 have hp := ab.pi
 refine ⟨fun m σ H => ∃ δ,Abs c σ δ H ∧ Res X.K E c.H₀ (whileF ga F m δ) (EndP c fr D),⟨n,δ,ab.toAbs,q⟩,?_⟩
 rintro m σ H ⟨δ,ab,q⟩
 cases m with
 | zero => exact q.elim
 | succ m =>
  refine ⟨c,δ,hK,ab,(Res.bind q).imp fun z _ k H1 e1 => ?_⟩
  cases z with
  | true =>
   refine ⟨fun σ' H' => ∃ δ',Abs c σ' δ' H' ∧ Res X.K E c.H₀ (whileF ga F m δ') (EndP c fr D),fun σ' H' z => ⟨m,Nat.lt_succ_self m,z⟩,c,δ,hK,⟨ab.grow e1,hp⟩,(Res.bind k).imp fun r _ k => ?_⟩
   cases r with
   | nx δ2 => exact fun σ' H' ab' => ⟨δ2,ab',k⟩
   | ct δ2 => exact fun σ' H' ab' => ⟨δ2,ab',k⟩
   | bk δ2 => exact k
   | rt d => exact k
  | false => exact k σ H1 (ab.grow e1)
end
end DL
namespace DL
open PySem PySem.Spec PyProof.Rows L2
section
variable {X : Cx} {E : XK} {m : Md} {a b e : Expr} {fa fb fe : Fn} {pos : Pos} {es : List Expr} {fs : List Fn} {fr : Rm} {F G : Sm} {ga gb : DS -> Ou Bool} {st : Stmt}
def gI (C : Int -> Int -> Bool) (g : Int -> Int -> D) : D -> D -> Ou D
 | .int i,.int j => if C i j = true then .ok (g i j) else .bad
 | _,_ => .bad
def gI0 (g : Int -> Int -> D) : D -> D -> Ou D
 | .int i,.int j => .ok (g i j)
 | _,_ => .bad
theorem od_I {f : Value -> Value -> Sem Value} {C' : Int -> Int -> Prop} {C : Int -> Int -> Bool} {g : Int -> Int -> D} (h : OpR X f (rI C' fun i j => toV (g i j))) (hC : ∀ i j,C i j = true -> C' i j) (hs : ∀ i j,isS (g i j) = true) : OpD X f (gI C g) := by
 refine ⟨_,h,fun B H dx dy x y Q rx ry => ?_⟩
 cases dx <;> cases dy <;> simp only [gI]
 rename_i i j
 simp only [Rep] at rx ry
 subst rx; subst ry
 by_cases hc : C i j = true
 ·rw [if_pos hc]
  exact ⟨hs i j,fun q => ⟨i,j,rfl,rfl,hC i j hc,q⟩⟩
 ·rw [if_neg hc]; trivial
theorem od_I0 {f : Value -> Value -> Sem Value} {g : Int -> Int -> D} (h : OpR X f (rI0 fun i j => toV (g i j))) (hs : ∀ i j,isS (g i j) = true) : OpD X f (gI0 g) := by
 refine ⟨_,h,fun B H dx dy x y Q rx ry => ?_⟩
 cases dx <;> cases dy <;> simp only [gI0]
 rename_i i j
 simp only [Rep] at rx ry
 subst rx; subst ry
 exact ⟨hs i j,fun q => ⟨i,j,rfl,rfl,q⟩⟩
def gSub := gI0 fun i j => .int (i - j)
def cMul (i j : Int) : Bool := decide ((-(2 ^ 64) < i ∧ i < 2 ^ 64) ∨ (-(2 ^ 64) < j ∧ j < 2 ^ 64))
def gMul := gI cMul fun i j => .int (i * j)
def cDiv (_ j : Int) : Bool := decide (0 < j ∧ j < 2 ^ 64)
def gDiv := gI cDiv fun i j => .int (i / j)
def cMod (_ j : Int) : Bool := decide (0 < j)
def gMod := gI cMod fun i j => .int (i % j)
def cPow (i j : Int) : Bool := decide (0 ≤ j ∧ j ≤ 1000000 ∧ i.natAbs < 2 ^ 64)
def gPow := gI cPow fun i j => .int (i ^ j.toNat)
def gShl := gI cPow fun i j => .int (i * 2 ^ j.toNat)
def cShr (_ j : Int) : Bool := decide (0 ≤ j)
def gShr := gI cShr fun i j => .int (i / 2 ^ j.toNat)
def gAnd := gI0 fun i j => .int (Builtin.bitAnd i j)
def gOr := gI0 fun i j => .int (Builtin.bitOr i j)
def gXor := gI0 fun i j => .int (Builtin.bitXor i j)
theorem od_sub : OpD X (binaryOp .Sub) gSub := od_I0 op_sub fun _ _ => rfl
theorem od_mul : OpD X (binaryOp .Mult) gMul := od_I op_mul (fun i j h => by have z := of_decide_eq_true h; exact z) fun _ _ => rfl
theorem log2_64 {j : Int} (h0 : 0 < j) (h : j < 2 ^ 64) : j.natAbs.log2 < 9000 := by
 have h1 : j.natAbs ≠ 0 := by lia
 have h2 : j.natAbs < 2 ^ 64 := by lia
 have := (Nat.log2_lt h1).mpr h2
 lia
theorem op_fdiv64 : OpR X (binaryOp .FloorDiv) (rI (fun _ j => 0 < j ∧ j < 2 ^ 64) fun i j => .int (i / j)) := opI fun i j _ _ _ _ _ hc q => by
 have h1 : (0 : Int) < j := hc.1
 exact floordiv_int (by lia) (by rw [Int.fdiv_eq_ediv_of_nonneg i (by lia)]; exact q) (.inl (PyProof.noPylong_of_log2 (log2_64 hc.1 hc.2)))
theorem od_div : OpD X (binaryOp .FloorDiv) gDiv := od_I op_fdiv64 (fun _ _ h => of_decide_eq_true h) fun _ _ => rfl
theorem od_mod : OpD X (binaryOp .Mod) gMod := od_I op_mod (fun _ _ h => of_decide_eq_true h) fun _ _ => rfl
theorem od_pow : OpD X (binaryOp .Pow) gPow := od_I op_pow (fun i j h => by have z := of_decide_eq_true h; exact z) fun _ _ => rfl
theorem od_shl : OpD X (binaryOp .LShift) gShl := od_I op_shl (fun i j h => by have z := of_decide_eq_true h; exact z) fun _ _ => rfl
theorem od_xor : OpD X (binaryOp .BitXor) gXor := od_I0 op_xor fun _ _ => rfl
def gLt := gI0 fun i j => .bl (decide (i < j))
def gLe := gI0 fun i j => .bl (decide (i ≤ j))
def gGt := gI0 fun i j => .bl (decide (j < i))
def gGe := gI0 fun i j => .bl (decide (j ≤ i))
theorem od_lt : OpD X (compareOp .Lt) gLt := od_I0 op_lt fun _ _ => rfl
theorem od_le : OpD X (compareOp .LtE) gLe := od_I0 op_le fun _ _ => rfl
theorem od_gt : OpD X (compareOp .Gt) gGt := od_I0 op_gt fun _ _ => rfl
def f1 (g : D -> Ou D) (fa : Fn) : Fn := fun δ => (fa δ).bind g
def gNeg : D -> Ou D
 | .int i => .ok (.int (-i))
 | _ => .bad
theorem xneg (ha : PE X a (tX X.K E .W fa)) (hm : notF m = true := by rfl) : PE X (.UnaryOp .USub a pos) (tX X.K E m (f1 gNeg fa)) := (pe_un un_neg ha).imp fun σ H Q q => by
 obtain ⟨c,δ,hK,ab,q⟩ := q
 refine ⟨c,δ,hK,ab,(Res.bind q).imp fun d _ k v H1 e1 r1 => ?_⟩
 have r1' : Rep c.K c.B H1 d v := r1
 cases d <;> first | exact k.elim | skip
 simp only [Rep] at r1'
 subst r1'
 exact ⟨_,rfl,k _ H1 e1 (Post.ofS hm rfl)⟩
def gIsN : D -> Ou D
 | .non => .ok (.bl true)
 | _ => .ok (.bl false)
def gNotN : D -> Ou D
 | .non => .ok (.bl false)
 | _ => .ok (.bl true)
theorem non_iff {K : PySem.W.Frag} {B : Addr -> Prop} {H : Hp} {d : D} {v : V} (r : Rep K B H d v) : gIsN d = .ok (.bl (decide (v = .non))) ∧ gNotN d = .ok (.bl (!decide (v = .non))) := by
 cases d <;> simp only [Rep] at r <;> first | (subst r; exact ⟨rfl,rfl⟩) | (obtain ⟨a,_,rfl,_⟩ := r; exact ⟨rfl,rfl⟩) | (obtain ⟨a,_,_,rfl,_⟩ := r; exact ⟨rfl,rfl⟩) | (obtain ⟨a,_,_,_,rfl,_⟩ := r; exact ⟨rfl,rfl⟩)
theorem xt_isN {j p} (ha : PE X a (tX X.K E .W fa)) : PT X (.Compare a [.Is] [.Constant .none j p] pos) (tT X.K E (fAsB (f1 gIsN fa))) := (pt_cmp (pc_isN ha)).imp fun σ H Q q => by
 obtain ⟨c,δ,hK,ab,q⟩ := q
 refine ⟨c,δ,hK,ab,(Res.bind (Res.bind q)).imp fun d _ k v H1 e1 r1 => ?_⟩
 rw [(non_iff (show Rep c.K c.B H1 d v from r1)).1] at k
 exact ⟨_,rfl,k H1 e1⟩
theorem xt_notN {j p} (ha : PE X a (tX X.K E .W fa)) : PT X (.Compare a [.IsNot] [.Constant .none j p] pos) (tT X.K E (fAsB (f1 gNotN fa))) := (pt_cmp (pc_notN ha)).imp fun σ H Q q => by
 obtain ⟨c,δ,hK,ab,q⟩ := q
 refine ⟨c,δ,hK,ab,(Res.bind (Res.bind q)).imp fun d _ k v H1 e1 r1 => ?_⟩
 rw [(non_iff (show Rep c.K c.B H1 d v from r1)).2] at k
 exact ⟨_,rfl,k H1 e1⟩
def fChn (g g' : D -> D -> Ou D) (fa fb fc : Fn) : Fn := fun δ => (fa δ).bind fun x => (fb δ).bind fun y => (g x y).bind fun z => (asB z).bind fun k => if k = true then (fc δ).bind fun w => g' y w else .ok (.bl false)
theorem rd_chn {r r' : R2} {g g' : D -> D -> Ou D} {fc : Fn} {σ : St} {H : Hp} {Q : VK} (hr : ∀ (B : Addr -> Prop) (H : Hp) (dx dy : D) (x y : V) (Q : VK),Rep X.K B H dx x -> Rep X.K B H dy y -> match g dx dy with
  | .ok d => isS d = true ∧ (Q (toV d) H -> r x y H Q)
  | .ex _ => False
  | .bad => True) (hr' : ∀ (B : Addr -> Prop) (H : Hp) (dx dy : D) (x y : V) (Q : VK),Rep X.K B H dx x -> Rep X.K B H dy y -> match g' dx dy with
  | .ok d => isS d = true ∧ (Q (toV d) H -> r' x y H Q)
  | .ex _ => False
  | .bad => True) (hm : notF m = true) (h : tX X.K E m (fChn g g' fa fb fc) σ H Q) : tChain r r' (tX X.K E .W fa) (tX X.K E .W fb) (tX X.K E .W fc) σ H Q := by
 obtain ⟨c,δ,hK,ab,h⟩ := h
 refine ⟨c,δ,hK,ab,(Res.bind h).imp fun dx _ k x H1 e1 r1 => ?_⟩
 refine ⟨c,δ,hK,ab.grow e1,(Res.bind k).imp fun dy _ k y H2 e2 r2 => ?_⟩
 have r1' : Rep X.K c.B H2 dx x := by
  have z : Rep c.K c.B H1 dx x := r1
  rw [hK] at z; exact z.same e2
 have r2' : Rep X.K c.B H2 dy y := by
  have z : Rep c.K c.B H2 dy y := r2
  rw [hK] at z; exact z
 have q := hr c.B H2 dx dy x y (fun z H3 => ∃ k,z = .bl k ∧ (if k = true then tX X.K E .W fc σ H3 fun w' H4 => r' y w' H4 Q else Q (.bl false) H3)) r1' r2'
 cases e : g dx dy with
 | ex z => rw [e] at q; exact q.elim
 | bad => rw [e] at k; exact k.elim
 | ok d =>
  rw [e] at q k
  refine q.2 ?_
  simp only [bind_ok] at k
  cases d <;> first | exact k.elim | skip
  rename_i z
  refine ⟨z,rfl,?_⟩
  cases z with
  | false => exact k _ H2 (e1.trans e2) (Post.ofS hm rfl)
  | true =>
   refine ⟨c,δ,hK,(ab.grow e1).grow e2,(Res.bind (show Res X.K E c.H₀ ((fc δ).bind fun w => g' dy w) _ from k)).imp fun dw _ k w H3 e3 r3 => ?_⟩
   have r3' : Rep X.K c.B H3 dw w := by
    have z : Rep c.K c.B H3 dw w := r3
    rw [hK] at z; exact z
   have q' := hr' c.B H3 dy dw y w Q (r2'.same e3) r3'
   cases e' : g' dy dw with
   | ex z => rw [e'] at q'; exact q'.elim
   | bad => rw [e'] at k; exact k.elim
   | ok d =>
    rw [e'] at q' k
    exact q'.2 (k (toV d) H3 ((e1.trans e2).trans e3) (Post.ofS hm q'.1))
theorem xchn {op op' : CmpOp} {g g' : D -> D -> Ou D} {c : Expr} {fc : Fn} (ho : OpD X (compareOp op) g) (ho' : OpD X (compareOp op') g') (ha : PE X a (tX X.K E .W fa)) (hb : PE X b (tX X.K E .W fb)) (hc : PE X c (tX X.K E .W fc)) (hk : lastMarks [op,op'] [b,c] = false := by rfl) (hm : notF m = true := by rfl) :
  PE X (.Compare a [op,op'] [b,c] pos) (tX X.K E m (fChn g g' fa fb fc)) := by
 obtain ⟨r,h1,h2⟩ := ho
 obtain ⟨r',h1',h2'⟩ := ho'
 exact (pe_chain h1 h1' ha hb hc hk).imp fun σ H Q q => rd_chn h2 h2' hm q
end
end DL
namespace DL
open PySem PySem.Spec PyProof.Rows L2
def zipO (f : D -> D -> Option Bool) : List D -> List D -> Option (List Bool)
 | x :: xs,y :: ys => (f x y).bind fun b => (zipO f xs ys).bind fun bs => some (b :: bs)
 | _,_ => some []
def eqT (f : D -> D -> Option Bool) (xs ys : List D) : Option Bool := (zipO f xs ys).bind fun bs => some (bs.all id && xs.length == ys.length)
def eqL (f : D -> D -> Option Bool) (xs ys : List D) : Option Bool := if xs.length = ys.length then (zipO f xs ys).bind fun bs => some (bs.all id) else some false
def rk : D -> Nat
 | .tup _ => 1
 | .lst _ => 2
 | .frl _ => 2
 | .dic _ _ => 3
 | .obj _ => 3
 | .dip _ _ => 3
 | .exc _ _ _ => 3
 | _ => 0
def its : D -> List D
 | .tup xs => xs
 | .lst xs => xs
 | .frl xs => xs
 | _ => []
def eqF (f : D -> D -> Option Bool) (x y : D) : Option Bool :=
 match rk x,rk y with
 | 0,0 => some (eqV (toV x) (toV y))
 | 1,1 => eqT f (its x) (its y)
 | 2,2 => eqL f (its x) (its y)
 | 3,_ => none
 | _,3 => none
 | _,_ => some false
def eqD : Nat -> D -> D -> Option Bool
 | 0 => fun _ _ => none
 | n + 1 => eqF (eqD n)
theorem zipO_len {f : D -> D -> Option Bool} : ∀ {xs ys : List D} {bs : List Bool},zipO f xs ys = some bs -> bs.length = min xs.length ys.length
 | [],ys,bs,h => by
  have : bs = [] := by simpa [zipO] using h.symm
  subst this; simp
 | x :: xs,[],bs,h => by
  have : bs = [] := by simpa [zipO] using h.symm
  subst this; simp
 | x :: xs,y :: ys,bs,h => by
  simp only [zipO] at h
  cases e : f x y with
  | none => rw [e] at h; cases h
  | some b =>
   rw [e] at h
   cases e2 : zipO f xs ys with
   | none => rw [e2] at h; cases h
   | some bs' =>
    rw [e2] at h
    cases h
    have := zipO_len e2
    simp only [List.length_cons,this]
    lia
theorem zipO_get {f : D -> D -> Option Bool} : ∀ {xs ys : List D} {bs : List Bool},zipO f xs ys = some bs -> ∀ (j : Nat) (x y : D),xs[j]? = some x -> ys[j]? = some y -> ∃ b,bs[j]? = some b ∧ f x y = some b
 | [],ys,bs,h,j,x,y,hx,hy => by simp at hx
 | x :: xs,[],bs,h,j,_,y,hx,hy => by simp at hy
 | x :: xs,y :: ys,bs,h,j,x',y',hx,hy => by
  simp only [zipO] at h
  cases e : f x y with
  | none => rw [e] at h; cases h
  | some b =>
   rw [e] at h
   cases e2 : zipO f xs ys with
   | none => rw [e2] at h; cases h
   | some bs' =>
    rw [e2] at h
    cases h
    cases j with
    | zero =>
     simp at hx hy
     subst hx; subst hy
     exact ⟨b,rfl,e⟩
    | succ j =>
     obtain ⟨b',h1,h2⟩ := zipO_get e2 j x' y' (by simpa using hx) (by simpa using hy)
     exact ⟨b',by simpa using h1,h2⟩
theorem all_range {bs : List Bool} {n : Nat} (h : bs.length = n) : (List.range n).all (fun j => bs.getD j true) = bs.all id := by
 subst h
 rw [Bool.eq_iff_iff]
 simp only [List.all_eq_true,List.mem_range,id]
 constructor
 ·intro h b hb
  obtain ⟨j,hj,rfl⟩ := List.getElem_of_mem hb
  have := h j hj
  simpa [List.getD,hj] using this
 ·intro h j hj
  have := h bs[j] (List.getElem_mem hj)
  simpa [List.getD,hj] using this
section
variable {X : Cx} {pins : List (Addr × Obj)} {σ : St} {H : Hp} {s : Shared} {B : Addr -> Prop} {A : Around}
structure Eq3 (A : Around) (s : Shared) (u v : Value) (b : Bool) : Prop where
 rc : SeqAt.RcAt A s u v b
 ne : SeqAt.RcNeAt A s u v (!b)
 eq : SeqAt.EqAt A s u v b
theorem rc_sc {x y : V} {u v : Value} (rx : L2.RelV x u) (ry : L2.RelV y v) (fx : flatV x = true) (fy : flatV y = true) : SeqAt.RcAt A s u v (eqV x y) := by
 cases x with
 | non =>
  cases rx
  cases y with
  | non => cases ry; exact .none_none
  | bl b => cases ry; exact .none_bool b
  | int b => obtain ⟨tb,rfl⟩ := ry; exact .none_int b tb
  | str b => obtain ⟨tb,rfl⟩ := ry; exact .none_str b tb
  | _ => exact absurd (show false = true from fy) Bool.false_ne_true
 | bl a =>
  cases rx
  cases y with
  | non => cases ry; exact .bool_none a
  | bl b => cases ry; exact .bool_bool a b
  | int b => obtain ⟨tb,rfl⟩ := ry; exact .bool_int a b tb
  | str b => obtain ⟨tb,rfl⟩ := ry; exact .bool_str a b tb
  | _ => exact absurd (show false = true from fy) Bool.false_ne_true
 | int a =>
  obtain ⟨ta,rfl⟩ := rx
  cases y with
  | non => cases ry; exact .int_none a ta
  | bl b => cases ry; exact .int_bool a ta b
  | int b => obtain ⟨tb,rfl⟩ := ry; exact .int_int a ta b tb
  | str b => obtain ⟨tb,rfl⟩ := ry; exact .int_str a ta b tb
  | _ => exact absurd (show false = true from fy) Bool.false_ne_true
 | str a =>
  obtain ⟨ta,rfl⟩ := rx
  cases y with
  | non => cases ry; exact .str_none a ta
  | bl b => cases ry; exact .str_bool a ta b
  | int b => obtain ⟨tb,rfl⟩ := ry; exact .str_int a ta b tb
  | str b => obtain ⟨tb,rfl⟩ := ry; exact .str_str a ta b tb
  | _ => exact absurd (show false = true from fy) Bool.false_ne_true
 | _ => exact absurd (show false = true from fx) Bool.false_ne_true
theorem rcn_sc {x y : V} {u v : Value} (rx : L2.RelV x u) (ry : L2.RelV y v) (fx : flatV x = true) (fy : flatV y = true) : SeqAt.RcNeAt A s u v (!eqV x y) := by
 cases x with
 | non =>
  cases rx
  cases y with
  | non => cases ry; exact .none_none
  | bl b => cases ry; exact .none_bool b
  | int b => obtain ⟨tb,rfl⟩ := ry; exact .none_int b tb
  | str b => obtain ⟨tb,rfl⟩ := ry; exact .none_str b tb
  | _ => exact absurd (show false = true from fy) Bool.false_ne_true
 | bl a =>
  cases rx
  cases y with
  | non => cases ry; exact .bool_none a
  | bl b => cases ry; exact .bool_bool a b
  | int b => obtain ⟨tb,rfl⟩ := ry; exact .bool_int a b tb
  | str b => obtain ⟨tb,rfl⟩ := ry; exact .bool_str a b tb
  | _ => exact absurd (show false = true from fy) Bool.false_ne_true
 | int a =>
  obtain ⟨ta,rfl⟩ := rx
  cases y with
  | non => cases ry; exact .int_none a ta
  | bl b => cases ry; exact .int_bool a ta b
  | int b => obtain ⟨tb,rfl⟩ := ry; exact .int_int a ta b tb
  | str b => obtain ⟨tb,rfl⟩ := ry; exact .int_str a ta b tb
  | _ => exact absurd (show false = true from fy) Bool.false_ne_true
 | str a =>
  obtain ⟨ta,rfl⟩ := rx
  cases y with
  | non => cases ry; exact .str_none a ta
  | bl b => cases ry; exact .str_bool a ta b
  | int b => obtain ⟨tb,rfl⟩ := ry; exact .str_int a ta b tb
  | str b => obtain ⟨tb,rfl⟩ := ry; exact .str_str a ta b tb
  | _ => exact absurd (show false = true from fy) Bool.false_ne_true
 | _ => exact absurd (show false = true from fx) Bool.false_ne_true
theorem eq3_sc {x y : V} {u v : Value} (rx : L2.RelV x u) (ry : L2.RelV y v) (fx : flatV x = true) (fy : flatV y = true) : Eq3 A s u v (eqV x y) := ⟨rc_sc rx ry fx fy,rcn_sc rx ry fx fy,eqAt_V rx ry fx fy⟩
theorem eq3_tup_sc {l : Addr} {items : Array Value} {y : V} {v : Value} (hl : s.heap.IsTuple l items) (hu : A.units < cLine) (ry : L2.RelV y v) (fy : flatV y = true) : Eq3 A s (.ref l) v false ∧ Eq3 A s v (.ref l) false := by
 cases y <;> first | exact absurd (show false = true from fy) Bool.false_ne_true | skip
 all_goals simp only [L2.RelV] at ry
 all_goals first | subst ry | (obtain ⟨t',rfl⟩ := ry)
 ·exact ⟨⟨.tuple_none hl hu,.tuple_none hl hu,.tuple_none hl hu⟩,.none_tuple hl hu,.none_tuple hl hu,.none_tuple hl hu⟩
 ·exact ⟨⟨.tuple_bool _ hl hu,.tuple_bool _ hl hu,.tuple_bool _ hl hu⟩,.bool_tuple _ hl hu,.bool_tuple _ hl hu,.bool_tuple _ hl hu⟩
 ·exact ⟨⟨.tuple_int _ _ hl hu,.tuple_int _ _ hl hu,.tuple_int _ _ hl hu⟩,.int_tuple _ _ hl hu,.int_tuple _ _ hl hu,.int_tuple _ _ hl hu⟩
 ·exact ⟨⟨.tuple_str _ _ hl hu,.tuple_str _ _ hl hu,.tuple_str _ _ hl hu⟩,.str_tuple _ _ hl hu,.str_tuple _ _ hl hu,.str_tuple _ _ hl hu⟩
theorem eq3_lst_sc {l : Addr} {items : Array Value} {y : V} {v : Value} (hl : s.heap.IsList l items) (hu : A.units < cLine) (ry : L2.RelV y v) (fy : flatV y = true) : Eq3 A s (.ref l) v false ∧ Eq3 A s v (.ref l) false := by
 cases y <;> first | exact absurd (show false = true from fy) Bool.false_ne_true | skip
 all_goals simp only [L2.RelV] at ry
 all_goals first | subst ry | (obtain ⟨t',rfl⟩ := ry)
 ·exact ⟨⟨.list_none hl hu,.list_none hl hu,.list_none hl hu⟩,.none_list hl hu,.none_list hl hu,.none_list hl hu⟩
 ·exact ⟨⟨.list_bool _ hl hu,.list_bool _ hl hu,.list_bool _ hl hu⟩,.bool_list _ hl hu,.bool_list _ hl hu,.bool_list _ hl hu⟩
 ·exact ⟨⟨.list_int _ _ hl hu,.list_int _ _ hl hu,.list_int _ _ hl hu⟩,.int_list _ _ hl hu,.int_list _ _ hl hu,.int_list _ _ hl hu⟩
 ·exact ⟨⟨.list_str _ _ hl hu,.list_str _ _ hl hu,.list_str _ _ hl hu⟩,.str_list _ _ hl hu,.str_list _ _ hl hu,.str_list _ _ hl hu⟩
theorem rk0 {K : PySem.W.Frag} {d : D} {x : V} (h : rk d = 0) (r : Rep K B H d x) : x = toV d ∧ flatV x = true := by
 cases d <;> simp [rk] at h <;> simp only [Rep] at r <;> subst r <;> exact ⟨rfl,rfl⟩
theorem rk1 {K : PySem.W.Frag} {d : D} {x : V} (h : rk d = 1) (r : Rep K B H d x) : ∃ a xs,x = .ref a ∧ SqT K H a xs ∧ Reps K B H (its d) xs := by
 cases d <;> simp [rk] at h
 simpa only [Rep,its] using r
theorem rk2 {K : PySem.W.Frag} {d : D} {x : V} (h : rk d = 2) (r : Rep K B H d x) : ∃ a xs,x = .ref a ∧ SqL K H a xs ∧ Reps K B H (its d) xs := by
 cases d <;> simp [rk] at h <;> simp only [Rep] at r
 ·obtain ⟨a,xs,e,_,h1,h2⟩ := r; exact ⟨a,xs,e,.of h1,h2⟩
 ·obtain ⟨a,xs,e,h1,h2⟩ := r; exact ⟨a,xs,e,h1.sq,h2⟩
theorem rk_le (d : D) : rk d = 0 ∨ rk d = 1 ∨ rk d = 2 ∨ rk d = 3 := by cases d <;> simp [rk]
theorem eq_items {f : D -> D -> Option Bool} {dxs dys : List D} {xs ys : List V} {us vs : List Value} {bs : List Bool} (hz : zipO f dxs dys = some bs) (rx : Reps X.K B H dxs xs) (ry : Reps X.K B H dys ys) (ru : Vals xs us) (rv : Vals ys vs)
  (ih : ∀ dx dy x y u v b,Rep X.K B H dx x -> Rep X.K B H dy y -> L2.RelV x u -> L2.RelV y v -> f dx dy = some b -> SeqAt.EqAt A s u v b) :
  ∀ j (h1 : j < us.toArray.size) (h2 : j < vs.toArray.size),SeqAt.EqAt A s us.toArray[j] vs.toArray[j] (bs.getD j true) := by
 intro j h1 h2
 have hl1 := rx.length; have hl2 := ry.length; have hl3 := ru.length; have hl4 := rv.length
 have h1' : j < us.length := by simpa using h1
 have h2' : j < vs.length := by simpa using h2
 have k1 : dxs[j]? = some (dxs[j]'(by lia)) := List.getElem?_eq_getElem (by lia)
 have k2 : dys[j]? = some (dys[j]'(by lia)) := List.getElem?_eq_getElem (by lia)
 obtain ⟨b,e1,e2⟩ := zipO_get hz j _ _ k1 k2
 obtain ⟨x,g1,g2⟩ := rx.get j _ k1
 obtain ⟨y,g3,g4⟩ := ry.get j _ k2
 obtain ⟨u,g5,g6⟩ := ru.get g1
 obtain ⟨v,g7,g8⟩ := rv.get g3
 have eu : us.toArray[j] = u := by
  have := List.getElem?_eq_getElem h1'
  rw [g5] at this
  simpa using (Option.some.inj this).symm
 have ev : vs.toArray[j] = v := by
  have := List.getElem?_eq_getElem h2'
  rw [g7] at this
  simpa using (Option.some.inj this).symm
 have eb : bs.getD j true = b := by simp [List.getD,e1]
 rw [eu,ev,eb]
 exact ih _ _ x y u v b g2 g4 g6 g8 e2
theorem same_true (I : Inv X pins σ H s) : ∀ (n : Nat) (dx dy : D) (x : V) (b : Bool), Rep X.K B H dx x → Rep X.K B H dy x → eqD n dx dy = some b → b = true
  | 0, _, _, _, _, _, _, e => nomatch e
  | n + 1, dx, dy, x, b, rx, ry, e => by
    have go : ∀ (dxs dys : List D) (xs : List V) (bs : List Bool), Reps X.K B H dxs xs → Reps X.K B H dys xs → zipO (eqD n) dxs dys = some bs → bs.all id = true := by
      intro dxs dys xs bs r1 r2 hz
      have hl := zipO_len hz
      have l1 := r1.length; have l2 := r2.length
      rw [List.all_eq_true]
      intro b hb
      obtain ⟨j, hj, rfl⟩ := List.getElem_of_mem hb
      have k1 : dxs[j]? = some (dxs[j]'(by lia)) := List.getElem?_eq_getElem (by lia)
      have k2 : dys[j]? = some (dys[j]'(by lia)) := List.getElem?_eq_getElem (by lia)
      obtain ⟨b', e1, e2⟩ := zipO_get hz j _ _ k1 k2
      obtain ⟨v, g1, g2⟩ := r1.get j _ k1
      obtain ⟨v', g3, g4⟩ := r2.get j _ k2
      rw [g1] at g3; cases g3
      have := same_true I n _ _ _ _ g2 g4 e2
      subst this
      rw [List.getElem?_eq_getElem hj] at e1
      simpa using Option.some.inj e1
    have e' : eqF (eqD n) dx dy = some b := e
    unfold eqF at e'
    rcases rk_le dx with hx | hx | hx | hx <;> rcases rk_le dy with hy | hy | hy | hy <;> rw [hx, hy] at e' <;> simp only at e'
    all_goals try cases e'
    · obtain ⟨h1, h2⟩ := rk0 hx rx
      obtain ⟨h3, _⟩ := rk0 hy ry
      rw [← h1, ← h3]
      cases x <;> simp [eqV, flatV] at h2 ⊢
    all_goals first
      | (obtain ⟨_, h2⟩ := rk0 hx rx
         first | (obtain ⟨a, xs, rfl, _⟩ := rk1 hy ry; simp [flatV] at h2) | (obtain ⟨a, xs, rfl, _⟩ := rk2 hy ry; simp [flatV] at h2))
      | (obtain ⟨_, h2⟩ := rk0 hy ry
         first | (obtain ⟨a, xs, rfl, _⟩ := rk1 hx rx; simp [flatV] at h2) | (obtain ⟨a, xs, rfl, _⟩ := rk2 hx rx; simp [flatV] at h2))
      | skip
    · obtain ⟨a, xs, rfl, h1, h2⟩ := rk1 hx rx
      obtain ⟨a', xs', z, h3, h4⟩ := rk1 hy ry
      cases z
      have := I.tuple_inj h1 h3
      subst this
      unfold eqT at e'
      cases ez : zipO (eqD n) (its dx) (its dy) with
      | none => rw [ez] at e'; cases e'
      | some bs =>
        rw [ez] at e'
        cases e'
        have l1 := h2.length; have l2 := h4.length
        rw [go _ _ _ _ h2 h4 ez]
        simp; lia
    · obtain ⟨a, xs, rfl, h1, h2⟩ := rk1 hx rx
      obtain ⟨a', xs', z, h3, h4⟩ := rk2 hy ry
      cases z
      obtain ⟨_, _, p1, _⟩ := I.tuple h1
      obtain ⟨_, _, p2, _⟩ := I.list h3
      exact absurd rfl (SeqAt.ne_of_list_tuple p2.isList p1)
    · obtain ⟨a, xs, rfl, h1, h2⟩ := rk2 hx rx
      obtain ⟨a', xs', z, h3, h4⟩ := rk1 hy ry
      cases z
      obtain ⟨_, _, p1, _⟩ := I.tuple h3
      obtain ⟨_, _, p2, _⟩ := I.list h1
      exact absurd rfl (SeqAt.ne_of_list_tuple p2.isList p1)
    · obtain ⟨a, xs, rfl, h1, h2⟩ := rk2 hx rx
      obtain ⟨a', xs', z, h3, h4⟩ := rk2 hy ry
      cases z
      have := I.list_inj h1 h3
      subst this
      have l1 := h2.length; have l2 := h4.length
      unfold eqL at e'
      rw [if_pos (by lia)] at e'
      cases ez : zipO (eqD n) (its dx) (its dy) with
      | none => rw [ez] at e'; cases e'
      | some bs =>
        rw [ez] at e'
        cases e'
        exact go _ _ _ _ h2 h4 ez
theorem eq_at (I : Inv X pins σ H s) : ∀ (n : Nat) (A : Around) (dx dy : D) (x y : V) (u v : Value) (b : Bool),A.units + n < cLine -> Rep X.K B H dx x -> Rep X.K B H dy y -> L2.RelV x u -> L2.RelV y v -> eqD n dx dy = some b -> Eq3 A s u v b
 | 0,_,_,_,_,_,_,_,_,_,_,_,_,_,e => nomatch e
 | n + 1,A,dx,dy,x,y,u,v,b,hu,rx,ry,ru,rv,e => by
  have hu0 : A.units < cLine := by lia
  have ih := fun dx dy x y u v b => fun h1 h2 h3 h4 h5 => (eq_at I n A.in1 dx dy x y u v b (by show A.units + 1 + n < cLine; lia) h1 h2 h3 h4 h5).eq
  have e0 := e
  have e' : eqF (eqD n) dx dy = some b := e
  unfold eqF at e'
  rcases rk_le dx with hx | hx | hx | hx <;> rcases rk_le dy with hy | hy | hy | hy <;> rw [hx,hy] at e' <;> simp only at e'
  all_goals try cases e'
  ·obtain ⟨h1,h2⟩ := rk0 hx rx
   obtain ⟨h3,h4⟩ := rk0 hy ry
   rw [← h1,← h3]
   exact eq3_sc ru rv h2 h4
  ·obtain ⟨h1,h2⟩ := rk0 hx rx
   obtain ⟨a,xs,rfl,h3,h4⟩ := rk1 hy ry
   obtain rfl : v = Value.ref a := rv
   obtain ⟨_,_,p,_⟩ := I.tuple h3
   exact (eq3_tup_sc p hu0 ru h2).2
  ·obtain ⟨h1,h2⟩ := rk0 hx rx
   obtain ⟨a,xs,rfl,h3,h4⟩ := rk2 hy ry
   obtain rfl : v = Value.ref a := rv
   obtain ⟨_,_,p,_⟩ := I.list h3
   exact (eq3_lst_sc p.isList hu0 ru h2).2
  ·obtain ⟨h1,h2⟩ := rk0 hy ry
   obtain ⟨a,xs,rfl,h3,h4⟩ := rk1 hx rx
   obtain rfl : u = Value.ref a := ru
   obtain ⟨_,_,p,_⟩ := I.tuple h3
   exact (eq3_tup_sc p hu0 rv h2).1
  ·obtain ⟨a,xs,rfl,h1,h2⟩ := rk1 hx rx
   obtain ⟨a',ys,rfl,h3,h4⟩ := rk1 hy ry
   obtain rfl : u = Value.ref a := ru
   obtain rfl : v = Value.ref a' := rv
   obtain ⟨us,r1,p1,_⟩ := I.tuple h1
   obtain ⟨vs,r2,p2,_⟩ := I.tuple h3
   unfold eqT at e'
   cases ez : zipO (eqD n) (its dx) (its dy) with
   | none => rw [ez] at e'; cases e'
   | some bs =>
    rw [ez] at e'
    have eb := Option.some.inj e'
    have hit := eq_items (A := A.in1) (s := s) ez h2 h4 r1 r2 ih
    have hl := zipO_len ez
    have l1 := h2.length; have l2 := h4.length; have l3 := r1.length; have l4 := r2.length
    have el : bs.length = min us.toArray.size vs.toArray.size := by simp; lia
    have es : (us.toArray.size == vs.toArray.size) = ((its dx).length == (its dy).length) := by
     rw [Bool.eq_iff_iff]; simp; lia
    have h5 := SeqAt.RcAt.tuples p1 p2 hu0 hit
    have h6 := SeqAt.RcNeAt.tuples p1 p2 hu0 hit
    rw [all_range el,es,eb] at h5 h6
    refine ⟨h5,h6,?_⟩
    by_cases ha : a = a'
    ·subst ha
     rw [same_true I (n + 1) dx dy (.ref a) b rx ry e0]
     exact .same _
    ·exact .of_refs ha h5
  ·obtain ⟨a,xs,rfl,h1,h2⟩ := rk1 hx rx
   obtain ⟨a',ys,rfl,h3,h4⟩ := rk2 hy ry
   obtain rfl : u = Value.ref a := ru
   obtain rfl : v = Value.ref a' := rv
   obtain ⟨us,r1,p1,_⟩ := I.tuple h1
   obtain ⟨vs,r2,p2,_⟩ := I.list h3
   exact ⟨.tuple_list p1 p2.isList hu0,.tuple_list p1 p2.isList hu0,.tuple_list p1 p2.isList hu0⟩
  ·obtain ⟨h1,h2⟩ := rk0 hy ry
   obtain ⟨a,xs,rfl,h3,h4⟩ := rk2 hx rx
   obtain rfl : u = Value.ref a := ru
   obtain ⟨_,_,p,_⟩ := I.list h3
   exact (eq3_lst_sc p.isList hu0 rv h2).1
  ·obtain ⟨a,xs,rfl,h1,h2⟩ := rk2 hx rx
   obtain ⟨a',ys,rfl,h3,h4⟩ := rk1 hy ry
   obtain rfl : u = Value.ref a := ru
   obtain rfl : v = Value.ref a' := rv
   obtain ⟨us,r1,p1,_⟩ := I.list h1
   obtain ⟨vs,r2,p2,_⟩ := I.tuple h3
   exact ⟨.list_tuple p1.isList p2 hu0,.list_tuple p1.isList p2 hu0,.list_tuple p1.isList p2 hu0⟩
  ·obtain ⟨a,xs,rfl,h1,h2⟩ := rk2 hx rx
   obtain ⟨a',ys,rfl,h3,h4⟩ := rk2 hy ry
   obtain rfl : u = Value.ref a := ru
   obtain rfl : v = Value.ref a' := rv
   obtain ⟨us,r1,p1,_⟩ := I.list h1
   obtain ⟨vs,r2,p2,_⟩ := I.list h3
   have l1 := h2.length; have l2 := h4.length; have l3 := r1.length; have l4 := r2.length
   have key : SeqAt.RcAt A s (.ref a) (.ref a') b ∧ SeqAt.RcNeAt A s (.ref a) (.ref a') (!b) := by
    unfold eqL at e'
    by_cases hl : (its dx).length = (its dy).length
    ·rw [if_pos hl] at e'
     cases ez : zipO (eqD n) (its dx) (its dy) with
     | none => rw [ez] at e'; cases e'
     | some bs =>
      rw [ez] at e'
      have eb := Option.some.inj e'
      have hit := eq_items (A := A.in1) (s := s) ez h2 h4 r1 r2 ih
      have hlz := zipO_len ez
      have el : bs.length = us.toArray.size := by simp; lia
      have esz : us.toArray.size = vs.toArray.size := by simp; lia
      have h5 := SeqAt.RcAt.lists p1.isList p2.isList esz hu0 hit
      have h6 := SeqAt.RcNeAt.lists p1.isList p2.isList esz hu0 hit
      rw [all_range el,eb] at h5 h6
      exact ⟨h5,h6⟩
    ·rw [if_neg hl] at e'
     cases e'
     have esz : (us.toArray.size != vs.toArray.size) = true := by simp; lia
     exact ⟨.lists_lengths p1.isList p2.isList esz hu0,.lists_lengths p1.isList p2.isList esz hu0⟩
   refine ⟨key.1,key.2,?_⟩
   by_cases ha : a = a'
   ·subst ha
    rw [same_true I (n + 1) dx dy (.ref a) b rx ry e0]
    exact .same _
   ·exact .of_refs ha key.1
end
section
variable {X : Cx}
def gEq (x y : D) : Ou D := match eqD 60 x y with
 | some b => .ok (.bl b)
 | none => .bad
def gNe (x y : D) : Ou D := match eqD 60 x y with
 | some b => .ok (.bl (!b))
 | none => .bad
def rEqD (K : PySem.W.Frag) (neg : Bool) : R2 := fun x y H Q => ∃ (B : Addr -> Prop) (dx dy : D) (b : Bool),Rep K B H dx x ∧ Rep K B H dy y ∧ eqD 60 dx dy = some b ∧ Q (.bl (if neg then !b else b)) H
theorem op_eqD (hu : X.A.units + 64 < cLine) : OpR X (compareOp .Eq) (rEqD X.K false) := by
 intro pins s σ H x y v u Q I rx ry h
 obtain ⟨B,dx,dy,b,h1,h2,h3,q⟩ := h
 exact EqBoolInt.of_rc (eq_at I 60 X.A dx dy x y v u b (by lia) h1 h2 rx ry h3).rc ⟨.bl b,H,I,rfl,q⟩
theorem op_neD (hu : X.A.units + 64 < cLine) : OpR X (compareOp .NotEq) (rEqD X.K true) := by
 intro pins s σ H x y v u Q I rx ry h
 obtain ⟨B,dx,dy,b,h1,h2,h3,q⟩ := h
 exact EqBoolInt.of_rcne (eq_at I 60 X.A dx dy x y v u b (by lia) h1 h2 rx ry h3).ne ⟨.bl (!b),H,I,rfl,q⟩
theorem od_eq (hu : X.A.units + 64 < cLine) : OpD X (compareOp .Eq) gEq := by
 refine ⟨_,op_eqD hu,fun B H dx dy x y Q rx ry => ?_⟩
 unfold gEq
 cases e : eqD 60 dx dy with
 | none => trivial
 | some b => exact ⟨rfl,fun q => ⟨B,dx,dy,b,rx,ry,e,q⟩⟩
theorem od_ne (hu : X.A.units + 64 < cLine) : OpD X (compareOp .NotEq) gNe := by
 refine ⟨_,op_neD hu,fun B H dx dy x y Q rx ry => ?_⟩
 unfold gNe
 cases e : eqD 60 dx dy with
 | none => trivial
 | some b => exact ⟨rfl,fun q => ⟨B,dx,dy,b,rx,ry,e,q⟩⟩
end
end DL
namespace DL
open PySem PySem.Spec PyProof.Rows L2
structure Src (K : PySem.W.Frag) (mg : Str -> Option Value) (x : Str) (st : Stmt) (ps : List Str) : Prop where
 ex : ∃ f fd,Fun K x x st f fd ∧ Binds K fd ps [] ∧ mg x = some (.ref f)
def spD (K : PySem.W.Frag) (fr : Bool) (n : Nat) (mm : List D -> Ou D) : Sp := fun vs H Q _ => ∃ (B : Addr -> Prop) (ds : List D),ds.length = n ∧ Reps K B H ds vs ∧
 Res K E0 H (mm ds) fun d => ∀ v H',Same H H' -> RtP K (fun a => B a ∨ H a = none) H fr d v H' -> Q v H'
structure Df (P : Program) (w : World) (K : PySem.W.Frag) (mg : Str -> Option Value) (base : Heap) (x : Str) (k : Nat) (ps : List Str) (fr : Bool) (mm : List D -> Ou D) : Prop where
 ex : ∃ f fd,FnOk P w K mg base CX0 k f fd ps (spD K fr ps.length mm) ∧ Binds K fd ps [] ∧ PySem.W.keepIn K (.ref f) = true ∧ mg x = some (.ref f)
section
variable {P : Program} {w : World} {K : PySem.W.Frag} {mg : Str -> Option Value} {base : Heap}
theorem Df.mono {x : Str} {j k : Nat} {ps : List Str} {fr : Bool} {mm : List D -> Ou D} (h : Df P w K mg base x j ps fr mm) (hj : j ≤ k) : Df P w K mg base x k ps fr mm := by
 obtain ⟨f,fd,h1,h2⟩ := h.ex
 exact ⟨f,fd,h1.mono hj,h2⟩
def startD (n : Nat) (ds : List D) : DS := ds.map Sl.val ++ List.replicate (n - ds.length) Sl.un
def runD (fr : Bool) (n : Nat) (F : Sm) (ds : List D) : Ou D := (F (startD n ds)).bind fun r => match r with
 | .rt d => .ok d
 | .nx _ => (match fr with
  | true => .bad
  | false => .ok .non)
 | _ => .bad
theorem start_abs {N : List Str} {B : Addr -> Prop} {H : Hp} {ds : List D} {vs : List V} (r : Reps K B H ds vs) (hl : ds.length ≤ N.length) : Abs { K := K,B := fun a => B a ∨ H a = none,H₀ := H,G := [] } (start N vs) (startD N.length ds) H := by
 have hv := r.length
 have no : ∀ (i : Nat) (z : D),(startD N.length ds)[i]? = some (Sl.own z) -> False := fun i z h => by
  unfold startD at h
  rw [List.getElem?_append] at h
  split at h
  ·rw [List.getElem?_map] at h
   cases e : ds[i]? with
   | none => rw [e] at h; cases h
   | some d => rw [e] at h; cases h
  ·rw [List.getElem?_replicate] at h
   split at h <;> cases h
 have nown : ∀ q,¬ Own (start N vs) (startD N.length ds) q := fun q ⟨i,z,h,_⟩ => no i z h
 refine ⟨Same.refl H,fun a h => .inr h,?_,fun i d h => ?_,fun i z h => (no i z h).elim,fun d v h => (nomatch h),fun i j di dj p h => (no i di h).elim,fun i p hP => (nomatch hP)⟩
 ·unfold startD L2.start
  simp [hv]
 ·unfold startD at h
  rw [List.getElem?_append] at h
  split at h
  ·rename_i hi
   rw [List.getElem?_map] at h
   cases e : ds[i]? with
   | none => rw [e] at h; cases h
   | some d' =>
    rw [e] at h
    cases h
    obtain ⟨v,h1,h2⟩ := r.get i d e
    refine ⟨v,?_,h2.weak fun a z => ⟨.inl z,nown a⟩⟩
    unfold L2.start
    rw [List.getElem?_append_left (by rw [List.length_map]; exact (List.getElem?_eq_some_iff.mp h1).1),List.getElem?_map,h1]
    rfl
  ·rw [List.getElem?_replicate] at h
   split at h <;> cases h
theorem fn_ofD {N ps : List Str} {st : Stmt} {x : Str} {k : Nat} {fr : Bool} {F : Sm} {f : Addr} {fd : FuncData} (Fn : Fun K x x st f fd) (sc : FnScope N ps (defScope st)) (hn : ps.length ≤ N.length)
  (hbody : ∀ (f : Addr) (cdv : Value) (A : Around) (outer : List Env) (s : Shared) (H : Hp) (E : XK),Room k (A.deeper (envOfC x (defScope st) s.heap.objs.size f cdv)) ->
   PSs (cxOf CX0 P w K mg base N x (defScope st) f cdv A outer s H E).nox (defBody st) (tS K E0 fr F)) : FnOk P w K mg base CX0 (k + 1) f fd ps (spD K fr ps.length (runD fr N.length F)) := by
 refine Fn.ok sc (fun vs H Q E h => ?_) (fun cdv A outer s H vs Q E hr h => ⟨_,hbody f cdv A outer s H E hr,?_⟩)
 ·obtain ⟨B,ds,hl,r,_⟩ := h
  rw [r.length]; exact hl
 ·obtain ⟨B,ds,hl,r,h⟩ := h
  refine ⟨_,startD N.length ds,rfl,⟨start_abs r (by rw [hl]; exact hn),rfl⟩,(Res.bind h).imp fun z _ k => ?_⟩
  cases z with
  | rt d => exact k
  | nx δ =>
   cases fr with
   | true => exact k.elim
   | false => exact fun σ' H' ab => k .non H' ab.same (by show Rep _ _ _ _ _; simp [Rep])
  | bk δ => exact k.elim
  | ct δ => exact k.elim
theorem fn_ofM {N ps : List Str} {st : Stmt} {x qual : Str} {k : Nat} {fr : Bool} {F : Sm} {f : Addr} {fd : FuncData} (Fn : Fun K x qual st f fd) (sc : FnScope N ps (defScope st)) (hn : ps.length ≤ N.length)
  (hbody : ∀ (f : Addr) (cdv : Value) (A : Around) (outer : List Env) (s : Shared) (H : Hp) (E : XK),Room k (A.deeper (envOfC qual (defScope st) s.heap.objs.size f cdv)) ->
   PSs (cxOf CX0 P w K mg base N qual (defScope st) f cdv A outer s H E).nox (defBody st) (tS K E0 fr F)) : FnOk P w K mg base CX0 (k + 1) f fd ps (spD K fr ps.length (runD fr N.length F)) := by
 refine Fn.ok sc (fun vs H Q E h => ?_) (fun cdv A outer s H vs Q E hr h => ⟨_,hbody f cdv A outer s H E hr,?_⟩)
 ·obtain ⟨B,ds,hl,r,_⟩ := h
  rw [r.length]; exact hl
 ·obtain ⟨B,ds,hl,r,h⟩ := h
  refine ⟨_,startD N.length ds,rfl,⟨start_abs r (by rw [hl]; exact hn),rfl⟩,(Res.bind h).imp fun z _ k => ?_⟩
  cases z with
  | rt d => exact k
  | nx δ =>
   cases fr with
   | true => exact k.elim
   | false => exact fun σ' H' ab => k .non H' ab.same (by show Rep _ _ _ _ _; simp [Rep])
  | bk δ => exact k.elim
  | ct δ => exact k.elim
theorem df_of {N ps : List Str} {st : Stmt} {x : Str} {k : Nat} {fr : Bool} {F : Sm} (S : Src K mg x st ps) (sc : FnScope N ps (defScope st)) (hn : ps.length ≤ N.length)
  (hbody : ∀ (f : Addr) (cdv : Value) (A : Around) (outer : List Env) (s : Shared) (H : Hp) (E : XK),Room k (A.deeper (envOfC x (defScope st) s.heap.objs.size f cdv)) ->
   PSs (cxOf CX0 P w K mg base N x (defScope st) f cdv A outer s H E).nox (defBody st) (tS K E0 fr F)) : Df P w K mg base x (k + 1) ps fr (runD fr N.length F) := by
 obtain ⟨f,fd,Fn,b,hm⟩ := S.ex
 exact ⟨f,fd,fn_ofD Fn sc hn hbody,b,Fn.kp,hm⟩
end
section
variable {X : Cx} {m : Md} {e : Expr} {es : List Expr} {fs : List Fn} {p pos : Pos} {x : Str} {ps : List Str} {k : Nat} {mm : List D -> Ou D}
def fCall (mm : List D -> Ou D) (fs : List Fn) : Fn := fun δ => (fArgs fs δ).bind mm
theorem wish_mono {α : Type} {K : PySem.W.Frag} {E : XK} {H H' : Hp} {o : Ou α} {q : α -> Prop} (h : Res K E H o q) (e : Same H H') : Res K E H' o q := by
 cases o with
 | ok a => exact h
 | ex z =>
  obtain ⟨C,hc,h⟩ := h
  exact ⟨C,hc,fun H2 e2 => h H2 (e.trans e2)⟩
 | bad => exact h
theorem xcall (h : Df X.prog X.w X.K X.mg X.base x k ps false mm) (hr : Room k X.A) (ha : PA X (e :: es) (tXA X.K E0 m fs)) (hl : fs.length = ps.length := by rfl) (hg : Gl X x := by rfl) (hdb : (x == ("__debug__" : Str)) = false := by decide)
  (he : starEach (e :: es) X.env = (false,eval e X.env) :: starEach es X.env := by rfl) (hpl : (backTo pos (starEach es X.env)).any (·.1) = false := by rfl) (hm : notF m = true := by rfl) : PE X (.Call (.Name x p) (e :: es) [] pos) (tX X.K E0 m (fCall mm fs)) := by
 obtain ⟨f,fd,h1,h2,h3,h4⟩ := h.ex
 refine (pe_call h1 hr hg h4 h3 h2 .nil pass0 ha hdb he hpl).imp fun σ H Q q => ?_
 obtain ⟨c,δ,hK,ab,q⟩ := q
 refine ⟨c,δ,hK,ab,(Res.bind q).imp fun ds hds k vs H1 e1 r1 => ?_⟩
 refine ⟨BOf c σ δ m,ds,by rw [fArgs_len hds]; exact hl,by rw [List.append_nil,← hK]; exact r1,(wish_mono k (ab.same.trans e1)).imp fun d _ k v H' e2 r2 => k v H' (e1.trans e2) ?_⟩
 have ab1 := ab.grow e1
 rw [← hK] at r2
 have r3 : Rep c.K (BOf c σ δ m) H' d v := Rep.weak r2 fun a z => by
  rcases z with z | z
  ·exact z
  ·have := ab1.av_new z
   cases m with
   | W => exact this.1
   | S => exact this
   | F => simp [notF] at hm
 cases m with
 | W => exact r3
 | S => exact r3
 | F => simp [notF] at hm
theorem xcallF (h : Df X.prog X.w X.K X.mg X.base x k ps true mm) (hr : Room k X.A) (ha : PA X (e :: es) (tXA X.K E0 .S fs)) (hl : fs.length = ps.length := by rfl) (hg : Gl X x := by rfl) (hdb : (x == ("__debug__" : Str)) = false := by decide)
  (he : starEach (e :: es) X.env = (false,eval e X.env) :: starEach es X.env := by rfl) (hpl : (backTo pos (starEach es X.env)).any (·.1) = false := by rfl) : PE X (.Call (.Name x p) (e :: es) [] pos) (tX X.K E0 .F (fCall mm fs)) := by
 obtain ⟨f,fd,h1,h2,h3,h4⟩ := h.ex
 refine (pe_call h1 hr hg h4 h3 h2 .nil pass0 ha hdb he hpl).imp fun σ H Q q => ?_
 obtain ⟨c,δ,hK,ab,q⟩ := q
 refine ⟨c,δ,hK,ab,(Res.bind q).imp fun ds hds k vs H1 e1 r1 => ?_⟩
 refine ⟨Av c σ δ,ds,by rw [fArgs_len hds]; exact hl,by rw [List.append_nil,← hK]; exact r1,(wish_mono k (ab.same.trans e1)).imp fun d _ k v H' e2 r2 => k v H' (e1.trans e2) ?_⟩
 have ab1 := ab.grow e1
 rw [← hK] at r2
 obtain ⟨q,xs,rfl,z1,z2,z3⟩ := r2
 exact ⟨q,xs,rfl,e1.free z1,z2,z3.weak fun a z => ⟨z.1.elim id fun w => ab1.av_new w,z.2⟩⟩
theorem xglob {E : XK} {d : D} {u : Value} (hm : X.mg x = some u) (hr : RelV (toV d) u) (hs : isS d = true := by rfl) (hg : Gl X x := by rfl) (hf : notF m = true := by rfl) (hdb : (x == ("__debug__" : Str)) = false := by decide) : PE X (.Name x pos) (tX X.K E m (fC d)) :=
 (pe_glob hg hm hr hdb).imp fun _ _ _ q => rd_c hf hs q
end
end DL
namespace DL
open PySem PySem.Spec PyProof.Rows L2
section
variable {X : Cx} {E : XK} {m : Md} {a b e : Expr} {fa fb fe : Fn} {pos p : Pos} {es : List Expr} {fs : List Fn} {fr : Rm} {F G : Sm} {ga gb : DS -> Ou Bool} {st : Stmt} {x : Str}
def CallD (X : Cx) (f : Value) (g : List D -> Ou D) : Prop :=
 ∃ r,CallR X f r ∧ ∀ (B : Addr -> Prop) (H : Hp) (ds : List D) (vs : List V) (Q : VK),Reps X.K B H ds vs -> (∀ d,g ds = .ok d -> isS d = true ∧ (Q (toV d) H -> r vs H Q)) ∧ ∀ z,g ds ≠ .ex z
theorem rd_cb {r : List V -> Hp -> VK -> Prop} {g : List D -> Ou D} {σ : St} {H : Hp} {Q : VK} (hr : ∀ (B : Addr -> Prop) (H : Hp) (ds : List D) (vs : List V) (Q : VK),Reps X.K B H ds vs -> (∀ d,g ds = .ok d -> isS d = true ∧ (Q (toV d) H -> r vs H Q)) ∧ ∀ z,g ds ≠ .ex z) (hm : notF m = true) (h : tX X.K E m (fCall g fs) σ H Q) : tCB r (tXA X.K E .W fs) σ H Q := by
 obtain ⟨c,δ,hK,ab,h⟩ := h
 refine ⟨c,δ,hK,ab,(Res.bind h).imp fun ds _ k vs H1 e1 r1 => ?_⟩
 have r1' : Reps X.K c.B H1 ds vs := by rw [← hK]; exact r1
 have q := hr c.B H1 ds vs Q r1'
 cases e : g ds with
 | ok d =>
  rw [e] at k
  exact (q.1 d e).2 (k (toV d) H1 e1 (Post.ofS hm (q.1 d e).1))
 | ex z => exact (q.2 z e).elim
 | bad => rw [e] at k; exact k.elim
theorem xb {id : String} {g : List D -> Ou D} (hc : CallD X (.builtin id) g) (hm : X.mg x = none) (ha : PA X (e :: es) (tXA X.K E .W fs)) (hg : Gl X x := by rfl) (hv : bootBuiltins x = some (.builtin id) := by decide +kernel) (hn : x ≠ "__name__" := by decide) (hdb : (x == ("__debug__" : Str)) = false := by decide)
  (he : starEach (e :: es) X.env = (false,eval e X.env) :: starEach es X.env := by rfl) (hpl : (backTo pos (starEach es X.env)).any (·.1) = false := by rfl) (hf : notF m = true := by rfl) : PE X (.Call (.Name x p) (e :: es) [] pos) (tX X.K E m (fCall g fs)) := by
 obtain ⟨r,h1,h2⟩ := hc
 exact (pe_callB h1 hg hm hv ha hn hdb he hpl).imp fun σ H Q q => rd_cb h2 hf q
def gLen : List D -> Ou D
 | [.tup ds] => .ok (.int (ds.length : Nat))
 | [.lst ds] => .ok (.int (ds.length : Nat))
 | [.frl ds] => .ok (.int (ds.length : Nat))
 | [.dic _ ds] => .ok (.int (ds.length : Nat))
 | [.str z] => if z.length ≤ sizeLine then .ok (.int (z.length : Nat)) else .bad
 | _ => .bad
theorem Reps.one' {K : PySem.W.Frag} {B : Addr -> Prop} {H : Hp} {d : D} {vs : List V} (r : Reps K B H [d] vs) : ∃ v,vs = [v] ∧ Rep K B H d v := by
 simp only [Reps] at r
 obtain ⟨v,r',rfl,h1,rfl⟩ := r
 exact ⟨v,rfl,h1⟩
theorem Reps.two' {K : PySem.W.Frag} {B : Addr -> Prop} {H : Hp} {d d' : D} {vs : List V} (r : Reps K B H [d,d'] vs) : ∃ v v',vs = [v,v'] ∧ Rep K B H d v ∧ Rep K B H d' v' := by
 simp only [Reps] at r
 obtain ⟨v,r',rfl,h1,v',r'',rfl,h2,rfl⟩ := r
 exact ⟨v,v',rfl,h1,h2⟩
theorem call_lenR : CallR X (.builtin "len") (fun xs H Q => ∃ a kvs,xs = [V.ref a] ∧ Rd H a (.dK kvs) ∧ Q (.int kvs.length) H) := by
 intro pins s σ H xs us Q I r h
 obtain ⟨a,kvs,rfl,ha,q⟩ := h
 obtain ⟨u,rfl,ru⟩ := vals1 r
 cases ru
 exact d_len I ha fun t s' I' => ⟨.int kvs.length,H,I',⟨t,rfl⟩,q⟩
theorem cd_len : CallD X (.builtin "len") gLen := by
 refine ⟨_,CallR.or call_len_seq (CallR.or call_len_str call_lenR),fun B H ds vs Q r => ⟨fun d h => ?_,fun z h => ?_⟩⟩
 ·unfold gLen at h
  split at h
  ·cases h
   obtain ⟨v,rfl,r2⟩ := r.one'
   simp only [Rep] at r2
   obtain ⟨a,xs,rfl,h1,h2⟩ := r2
   exact ⟨rfl,fun q => .inl ⟨a,xs,rfl,.inr h1,by rw [h2.length]; exact q⟩⟩
  ·cases h
   obtain ⟨v,rfl,r2⟩ := r.one'
   simp only [Rep] at r2
   obtain ⟨a,xs,rfl,_,h1,h2⟩ := r2
   exact ⟨rfl,fun q => .inl ⟨a,xs,rfl,.inl (.of h1),by rw [h2.length]; exact q⟩⟩
  ·cases h
   obtain ⟨v,rfl,r2⟩ := r.one'
   simp only [Rep] at r2
   obtain ⟨a,xs,rfl,h1,h2⟩ := r2
   exact ⟨rfl,fun q => .inl ⟨a,xs,rfl,.inl h1.sq,by rw [h2.length]; exact q⟩⟩
  ·cases h
   obtain ⟨v,rfl,r2⟩ := r.one'
   simp only [Rep] at r2
   obtain ⟨a,kvs,rfl,_,h1,_,h2⟩ := r2
   have hl := h2.length
   rw [List.length_map] at hl
   exact ⟨rfl,fun q => .inr (.inr ⟨a,kvs,rfl,h1,by rw [hl]; exact q⟩)⟩
  ·split at h
   ·rename_i z hl
    cases h
    obtain ⟨v,rfl,r2⟩ := r.one'
    simp only [Rep] at r2
    subst r2
    exact ⟨rfl,fun q => .inr (.inl ⟨_,rfl,hl,q⟩)⟩
   ·cases h
  ·cases h
 ·unfold gLen at h
  split at h <;> first | cases h | (split at h <;> cases h)
def gMin : List D -> Ou D
 | [.int i,.int j] => .ok (.int (if j < i then j else i))
 | _ => .bad
def gMax : List D -> Ou D
 | [.int i,.int j] => .ok (.int (if j > i then j else i))
 | _ => .bad
theorem cd_min (hc : X.calm = true := by rfl) : CallD X (.builtin "min") gMin := by
 refine ⟨_,call_min2 hc,fun B H ds vs Q r => ⟨fun d h => ?_,fun z h => ?_⟩⟩
 ·unfold gMin at h
  split at h
  ·cases h
   obtain ⟨v,v',rfl,r1,r2⟩ := r.two'
   simp only [Rep] at r1 r2
   subst r1; subst r2
   exact ⟨rfl,fun q => ⟨_,_,rfl,q⟩⟩
  ·cases h
 ·unfold gMin at h
  split at h <;> cases h
theorem cd_max (hc : X.calm = true := by rfl) : CallD X (.builtin "max") gMax := by
 refine ⟨_,call_max2 hc,fun B H ds vs Q r => ⟨fun d h => ?_,fun z h => ?_⟩⟩
 ·unfold gMax at h
  split at h
  ·cases h
   obtain ⟨v,v',rfl,r1,r2⟩ := r.two'
   simp only [Rep] at r1 r2
   subst r1; subst r2
   exact ⟨rfl,fun q => ⟨_,_,rfl,q⟩⟩
  ·cases h
 ·unfold gMax at h
  split at h <;> cases h
def gStr : List D -> Ou D
 | [.int i] => if i.natAbs.log2 < 1920 then .ok (.str (toString i)) else .bad
 | _ => .bad
def kitTT (t T : String) : Option Bool := if (Value.type t == Value.type T) = true then some true else if PySem.W.kitMeta T = true then (PySem.fastBuiltinMro t).map (·.contains (.type T)) else none
inductive TyV (K : PySem.W.Frag) (H : Hp) : V -> String -> Prop where
 | non : TyV K H .non "NoneType"
 | bl (x : Bool) : TyV K H (.bl x) "bool"
 | int (i : Int) : TyV K H (.int i) "int"
 | str (x : Str) : TyV K H (.str x) "str"
 | lst {a : Addr} {xs : List V} (e : SqL K H a xs) : TyV K H (.ref a) "list"
 | tup {a : Addr} {xs : List V} (e : SqT K H a xs) : TyV K H (.ref a) "tuple"
theorem call_isT : CallR X (.builtin "isinstance") (fun vs H Q => ∃ v t T k,vs = [v,.ty T] ∧ TyV X.K H v t ∧ kitTT t T = some k ∧ Q (.bl k) H) := by
 intro pins s σ H xs us Q I r h
 obtain ⟨v,t,T,k,rfl,ty,hk,q⟩ := h
 obtain ⟨u,w',rfl,ru,rw'⟩ := vals2 r
 obtain rfl : w' = Value.type T := rw'
 have e : PySem.W.kitOne X.K (.type t) (.type T) = some k := hk
 have fin : ∀ tk,EP X pins σ Q (.bool k) { s with toks := tk } := fun tk => ⟨.bl k,H,I.tok tk,rfl,q⟩
 cases ty with
 | non => cases (show u = Value.none from ru); exact PySem.W.kia_one PySem.W.kitx_none I.kIn True.intro e (fun z => nomatch z) fin
 | bl y => cases (show u = Value.bool y from ru); exact PySem.W.kia_one PySem.W.kitx_bool I.kIn True.intro e (fun z => nomatch z) fin
 | int i => obtain ⟨t,z⟩ := (show ∃ t,u = Value.int i t from ru); cases z; exact PySem.W.kia_one PySem.W.kitx_int I.kIn True.intro e (fun z => nomatch z) fin
 | str y => obtain ⟨t,z⟩ := (show ∃ t,u = Value.str y t from ru); cases z; exact PySem.W.kia_one PySem.W.kitx_str I.kIn True.intro e (fun z => nomatch z) fin
 | @lst a xs ea =>
  cases (show u = Value.ref a from ru)
  obtain ⟨its,_,⟨o,n,h1,h2,_⟩,_⟩ := I.list ea
  exact PySem.W.kia_one PySem.W.kitx_list I.kIn ⟨o,h1,h2⟩ e (fun z => nomatch z) fin
 | @tup a xs ea =>
  cases (show u = Value.ref a from ru)
  obtain ⟨its,_,⟨o,h1,h2,_⟩,_⟩ := I.tuple ea
  exact PySem.W.kia_one PySem.W.kitx_tuple I.kIn ⟨o,h1,h2⟩ e (fun z => nomatch z) fin
def tyN : D -> String
 | .non => "NoneType"
 | .bl _ => "bool"
 | .int _ => "int"
 | .str _ => "str"
 | .tup _ => "tuple"
 | .lst _ => "list"
 | .frl _ => "list"
 | .dic _ _ => "dict"
 | .obj _ => "object"
 | .dip _ _ => "dict"
 | .exc _ _ _ => "object"
def isT (t T : String) : Bool := t == T || (t == "bool" && T == "int")
def gIs (T : String) : D -> Ou D
 | .obj _ => .bad
 | .dic _ _ => .bad
 | .dip _ _ => .bad
 | .exc _ _ _ => .bad
 | d => .ok (.bl (isT (tyN d) T))
theorem ty_of {K : PySem.W.Frag} {B : Addr -> Prop} {H : Hp} {d : D} {v : V} (r : Rep K B H d v) (hd : rk d ≠ 3) : TyV K H v (tyN d) ∧ tyN d ∈ ["NoneType","bool","int","str","tuple","list"] := by
 cases d <;> simp only [Rep] at r
 ·subst r; exact ⟨.non,by decide⟩
 ·subst r; exact ⟨.bl _,by simp [tyN]⟩
 ·subst r; exact ⟨.int _,by simp [tyN]⟩
 ·subst r; exact ⟨.str _,by simp [tyN]⟩
 ·obtain ⟨a,xs,rfl,h1,_⟩ := r; exact ⟨.tup h1,by simp [tyN]⟩
 ·obtain ⟨a,xs,rfl,_,h1,_⟩ := r; exact ⟨.lst (.of h1),by simp [tyN]⟩
 ·obtain ⟨a,xs,rfl,h1,_⟩ := r; exact ⟨.lst h1.sq,by simp [tyN]⟩
 ·exact absurd rfl hd
 ·exact absurd rfl hd
 ·exact absurd rfl hd
 ·exact absurd rfl hd
theorem xis {T : String} {tx : Str} {p2 : Pos} (z1 : X.mg "isinstance" = none) (z2 : X.mg tx = none) (ha : PE X a (tX X.K E .W fa)) (hb : bootBuiltins tx = some (.type T) := by decide +kernel)
  (hT : ∀ t ∈ ["NoneType","bool","int","str","tuple","list"],kitTT t T = some (isT t T) := by decide +kernel) (hg1 : Gl X "isinstance" := by rfl) (hg2 : Gl X tx := by rfl) (hn : tx ≠ "__name__" := by decide) (hdb : (tx == ("__debug__" : Str)) = false := by decide)
  (he : starEach [a,.Name tx p2] X.env = (false,eval a X.env) :: starEach [.Name tx p2] X.env := by rfl) (he2 : starEach [.Name tx p2] X.env = (false,eval (.Name tx p2) X.env) :: starEach [] X.env := by rfl) (hpl : (backTo pos (starEach [.Name tx p2] X.env)).any (·.1) = false := by rfl) (hf : notF m = true := by rfl) :
  PE X (.Call (.Name "isinstance" p) [a,.Name tx p2] [] pos) (tX X.K E m (f1 (gIs T) fa)) := by
 have hty : PE X (.Name tx p2) (tC (.ty T)) := pe_bltn hg2 z2 hb rfl hn hdb
 refine (pe_callB call_isT hg1 z1 (by decide +kernel) (pa_cons ha (pa_cons hty pa_nil he2) he) (by decide) (by decide) he hpl).imp fun σ H Q q => ?_
 obtain ⟨c,δ,hK,ab,q⟩ := q
 refine ⟨c,δ,hK,ab,(Res.bind q).imp fun d _ k v H1 e1 r1 => ?_⟩
 have r1' : Rep X.K c.B H1 d v := by rw [← hK]; exact r1
 by_cases hd : rk d = 3
 ·cases d <;> first | exact k.elim | (simp [rk] at hd)
 ·have hg : gIs T d = .ok (.bl (isT (tyN d) T)) := by
   cases d <;> first | rfl | exact absurd rfl hd
  rw [hg] at k
  obtain ⟨t1,t2⟩ := ty_of r1' hd
  exact ⟨v,tyN d,T,_,rfl,t1,hT _ t2,k _ H1 e1 (Post.ofS hf rfl)⟩
def gBits : D -> Ou D
 | .int i => .ok (.int (Builtin.Int.intBits i : Nat))
 | _ => .bad
theorem mt_bits : MtR X "int.bit_length" (fun x xs H Q => ∃ i,x = .int i ∧ xs = [] ∧ Q (.int (Builtin.Int.intBits i : Nat)) H) := by
 intro pins s σ H x xs v us Q I rx rs h
 obtain ⟨i,rfl,rfl,q⟩ := h
 obtain ⟨t,rfl⟩ := rx
 cases rs
 exact call_int_bit_length ⟨.int _,H,I.tok _,⟨_,rfl⟩,q⟩
theorem xbits {apos cpos : Pos} (ha : PE X a (tX X.K E .W fa)) (hbase : attributeBase a "bit_length" X.env (eval a X.env) = eval a X.env := by rfl) (hline : (apos.endLine == cpos.line) = true := by rfl) (hf : notF m = true := by rfl) : PE X (.Call (.Attribute a "bit_length" apos) [] [] cpos) (tX X.K E m (f1 gBits fa)) :=
 (pe_bm0 PySem.F.plainAttrs_int PySem.F.slot_int_bit_length PySem.F.type_int_bit_length mt_bits ha hbase hline).imp fun σ H Q q => by
 obtain ⟨c,δ,hK,ab,q⟩ := q
 refine ⟨c,δ,hK,ab,(Res.bind q).imp fun d _ k v H1 e1 r1 => ?_⟩
 have r1' : Rep c.K c.B H1 d v := r1
 cases d <;> first | exact k.elim | skip
 simp only [Rep] at r1'
 subst r1'
 exact ⟨rfl,_,rfl,rfl,k _ H1 e1 (Post.ofS hf rfl)⟩
theorem xs_rng1 {tg : Expr} {body : List Stmt} {g : D -> DS -> Ou DS} (hp : PassesOwn (model X.prog X.w) X.A X.env X.xe) (hc : X.calm = true) (hm : X.mg "range" = none) (ha : PA X [a] (tXA X.K E .W [fa])) (hg : PG X tg (tG X.K E g)) (hb : PSs X body (tS X.K E fr F))
  (hgl : Gl X "range" := by rfl) (hse : starEach [a] X.env = [(false,eval a X.env)] := by rfl) (hs : ∀ x,foldedSetIterable (.Call (.Name "range" p) [a] [] pos) X.env x = pure x := by intro _; rfl) {fpos : Pos} :
  PS X (.For tg (.Call (.Name "range" p) [a] [] pos) body [] fpos) (tS X.K E fr (sRng [fa] g F)) := (ps_for hp hc (pi_range1 hgl hm ha hse) hg hb hs).imp fun D σ H q => by
 obtain ⟨c,δ,hK,ab,q⟩ := q
 refine ⟨c,δ,hK,ab,(Res.bind q).imp fun ds hds k vs H1 e1 r1 => ?_⟩
 have hl : ds.length = 1 := fArgs_len hds
 obtain ⟨d,rfl⟩ : ∃ d,ds = [d] := by
  cases ds with
  | nil => cases hl
  | cons d r =>
   cases r with
   | nil => exact ⟨d,rfl⟩
   | cons d' r => simp at hl
 obtain ⟨v,rfl,r2⟩ := r1.one'
 cases d <;> first | exact k.elim | skip
 simp only [Rep] at r2
 subst r2
 rename_i j
 by_cases hj : rOk j = true
 ·simp only [hj,if_true] at k
  have hj' := of_decide_eq_true hj
  exact ⟨j,rfl,hj'.1,hj'.2,rd_rng1 hK (ab.grow e1) k ab.pi⟩
 ·simp only [if_neg hj] at k
  exact k.elim
def fPart : Option Fn -> DS -> Ou (Option Int)
 | none,_ => .ok none
 | some f,δ => (f δ).bind fun d => match d with
  | .int i => .ok (some i)
  | _ => .bad
def tP (K : PySem.W.Frag) (E : XK) (f : Option Fn) : TO := fun σ H Q => ∃ c δ,c.K = K ∧ Abs c σ δ H ∧ Res K E c.H₀ (fPart f δ) fun i => ∀ H',Same H H' -> Q i H'
theorem PO.imp {e : Option Expr} {t t' : TO} (h : PO X e t) (hi : ∀ σ H Q,t' σ H Q -> t σ H Q) : PO X e t' := fun pins s σ H Q I q => h pins s σ H Q I (hi _ _ _ q)
theorem po_none' : PO X none (tP X.K E none) := PO.imp po_none fun σ H Q q => by
 obtain ⟨c,δ,hK,ab,q⟩ := q
 exact q H (Same.refl H)
theorem po_some' (h : PE X e (tX X.K E .W fe)) : PO X (some e) (tP X.K E (some fe)) := PO.imp (po_some h) fun σ H Q q => by
 obtain ⟨c,δ,hK,ab,q⟩ := q
 refine ⟨c,δ,hK,ab,(Res.bind q).imp fun d _ k v H1 e1 r1 => ?_⟩
 have r1' : Rep c.K c.B H1 d v := r1
 cases d <;> first | exact k.elim | skip
 simp only [Rep] at r1'
 exact ⟨_,r1',k H1 e1⟩
def cutD (xs : List D) (lo hi : Option Int) : List D := (xs.drop (HT.sIx xs.length 0 lo)).take (HT.sIx xs.length xs.length hi - HT.sIx xs.length 0 lo)
def fSl (f : Fn) (lo hi : Option Fn) : Fn := fun δ => (f δ).bind fun d => (fPart lo δ).bind fun l => (fPart hi δ).bind fun u => match d with
 | .lst ds => .ok (.lst (cutD ds l u))
 | .frl ds => .ok (.lst (cutD ds l u))
 | _ => .bad
theorem Reps.cut {K : PySem.W.Frag} {B : Addr -> Prop} {H : Hp} {ds : List D} {vs : List V} (lo hi : Option Int) (r : Reps K B H ds vs) : Reps K B H (cutD ds lo hi) (cutV vs lo hi) := by
 unfold cutD cutV
 rw [r.length]
 exact Reps.take _ (Reps.drop _ r)
theorem xsl {lo hi : Option Expr} {flo fhi : Option Fn} {p2 : Pos} (he : PE X e (tX X.K E .S fe)) (hl : PO X lo (tP X.K E flo)) (hu : PO X hi (tP X.K E fhi)) : PE X (.Subscript e (.Slice lo hi none p2) pos) (tX X.K E .F (fSl fe flo fhi)) := (pe_slice sl_list he hl hu).imp fun σ H Q q => by
 obtain ⟨c,δ,hK,ab,q⟩ := q
 refine ⟨c,δ,hK,ab,(Res.bind q).imp fun d hd k v H1 e1 r1 => ?_⟩
 refine ⟨c,δ,hK,ab.grow e1,(Res.bind k).imp fun l _ k H2 e2 => ?_⟩
 refine ⟨c,δ,hK,(ab.grow e1).grow e2,(Res.bind k).imp fun u _ k H3 e3 => ?_⟩
 have r1' : Rep c.K (Av c σ δ) H3 d v := Rep.same (Rep.same (show Rep c.K (Av c σ δ) H1 d v from r1) e2) e3
 have e13 := (e1.trans e2).trans e3
 cases d <;> first | exact k.elim | skip
 ·rename_i ds
  simp only [Rep] at r1'
  obtain ⟨a,xs,rfl,_,h1,h2⟩ := r1'
  exact ⟨a,xs,rfl,.of h1,fun p hp => k (.ref p) _ (e13.trans (same_new hp _)) ⟨p,_,rfl,e13.free hp,upd_same,_,rfl,(Reps.off (Reps.cut l u h2) hp).same (same_new hp _)⟩⟩
 ·rename_i ds
  simp only [Rep] at r1'
  obtain ⟨a,xs,rfl,h1,h2⟩ := r1'
  exact ⟨a,xs,rfl,by rw [← hK]; exact h1.sq,fun p hp => k (.ref p) _ (e13.trans (same_new hp _)) ⟨p,_,rfl,e13.free hp,upd_same,_,rfl,(Reps.off (Reps.cut l u h2) hp).same (same_new hp _)⟩⟩
def gCat : D -> D -> Ou D
 | .lst xs,.lst ys => if xs.length + ys.length ≤ sizeLine then .ok (.lst (xs ++ ys)) else .bad
 | .frl xs,.lst ys => if xs.length + ys.length ≤ sizeLine then .ok (.lst (xs ++ ys)) else .bad
 | _,_ => .bad
def sApp (i : Nat) (f : Fn) : Sm := fun δ => match δ[i]? with
 | some (.own (.lst ds)) => (f δ).bind fun d => if ds.length < sizeLine then .ok (.nx (δ.set i (.own (.lst (ds ++ [d]))))) else .bad
 | _ => .bad
theorem xs_app (i : Nat) {px apos cpos : Pos} (he : PE X e (tX X.K E .S fe)) (hN : X.N[i]? = some x := by rfl) (hv : Vis X.env.scope x := by first | exact Or.inl rfl | exact Or.inr (Or.inl rfl) | exact Or.inr (Or.inr rfl)) (hd : (x == ("__debug__" : Str)) = false := by decide) (hcd : (x == ("__classdict__" : Str)) = false := by decide)
  (hst : starEach [e] X.env = (false,eval e X.env) :: starEach [] X.env := by rfl) (hs : swapsWith (.Call (.Attribute (.Name x px) "append" apos) [e] [] cpos) none pos.line X.env = pure false := by rfl) (hb : attributeBase (.Name x px) "append" X.env (eval (.Name x px) X.env) = eval (.Name x px) X.env := by rfl) (h1 : (apos.endLine == cpos.line) = true := by rfl)
  (h2 : (backTo cpos (starEach ([] : List Expr) X.env)).any (·.1) = false := by rfl)
  (hfew : ((backTo cpos (starEach [e] X.env)).all (fun x => !x.1) && (backToKw cpos (keywordEach [] X.env)).all (fun x => x.1.isSome) && decide (([e] : List Expr).length + ([] : List Keyword).length + (if ([] : List Keyword).isEmpty then 0 else 1) < 30)) = true := by rfl) :
  PS X (.Expr (.Call (.Attribute (.Name x px) "append" apos) [e] [] cpos) pos) (tS X.K E fr (sApp i fe)) :=
 (ps_expr (pe_bm PySem.F.plainAttrs_list PySem.F.slot_list_append PySem.F.type_list_append mt_append (pv i hN hv hd hcd) (pa_cons he pa_nil hst) hb hfew h1 hst h2) hs).imp fun D σ H q => by
 obtain ⟨c,δ,hK,ab,q⟩ := q
 unfold sApp at q
 cases e0 : δ[i]? with
 | none => rw [e0] at q; exact q.elim
 | some s =>
  rw [e0] at q
  cases s with
  | un => exact q.elim
  | val d => exact q.elim
  | own d =>
   cases d <;> first | exact q.elim | skip
   rename_i ds
   obtain ⟨p,o,g1,g2,g3,xs,rfl,g4⟩ := ab.own i _ e0
   refine ⟨.ref p,g1,.inl ⟨rfl,xs,.of g2⟩,c,δ,hK,ab,(Res.bind q).imp fun d _ k v H1 e1 r1 => ?_⟩
   by_cases hl : ds.length < sizeLine
   ·simp only [if_pos hl] at k
    have z2 := e1 _ _ g2
    exact ⟨p,xs,v,rfl,rfl,z2,by rw [g4.length]; exact hl,k σ _ ((ab.grow e1).mut e0 g1 ⟨_,rfl,Reps.append (g4.same e1) (Reps.one r1)⟩)⟩
   ·simp only [if_neg hl] at k
    exact k.elim
def sPut (i : Nat) (fk fv : Fn) : Sm := fun δ => (fv δ).bind fun d => match δ[i]? with
 | some (.own (.lst ds)) => (fk δ).bind fun k => match k with
  | .int j => (match ixN ds.length j with
   | some n => .ok (.nx (δ.set i (.own (.lst (ds.set n d)))))
   | none => .bad)
  | _ => .bad
 | _ => .bad
def gNm2 (i j : Nat) : D -> DS -> Ou DS := fun d δ => match d with
 | .tup [x,y] => .ok ((δ.set i (.val x)).set j (.val y))
 | _ => .bad
theorem xg_2 (i j : Nat) {y : Str} {px py : Pos} {k2 : _} (hN : X.N.Nodup) (hc : X.calm = true := by rfl) (hi : X.N[i]? = some x := by rfl) (hj : X.N[j]? = some y := by rfl) (hx : Loc X.env.scope x := by first | exact Or.inl rfl | exact Or.inr rfl) (hy : Loc X.env.scope y := by first | exact Or.inl rfl | exact Or.inr rfl)
  (hfx : X.fn x = true ∨ X.env.scope.names.lookup x = some .local := by first | exact .inl rfl | exact .inr rfl) (hfy : X.fn y = true ∨ X.env.scope.names.lookup y = some .local := by first | exact .inl rfl | exact .inr rfl)
  (h1 : (assignEach [.Name x px,.Name y py] X.env).map (·.2) = assign (.Name x px) X.env :: (assignEach [.Name y py] X.env).map (·.2) := by rfl) (h2 : (assignEach [.Name y py] X.env).map (·.2) = assign (.Name y py) X.env :: (assignEach [] X.env).map (·.2) := by rfl)
  (hn : (assignEach [.Name x px,.Name y py] X.env).length = 2 := by rfl) (hst : (assignEach [.Name x px,.Name y py] X.env).findIdx? (·.1) = none := by rfl) : PG X (.Tuple [.Name x px,.Name y py] k2 pos) (tG X.K E (gNm2 i j)) :=
 (pg_tup hc (pgs_cons (pg_name hN hi hx hfx) (pgs_cons (pg_name hN hj hy hfy) pgs_nil h2) h1) hn hst).imp fun v σ H Q q => by
 obtain ⟨c,δ,d,hK,ab,r,q⟩ := q
 unfold gNm2 at q
 split at q
 ·rename_i d1 d2
  simp only [Rep] at r
  obtain ⟨a,xs,rfl,h1,h2⟩ := r
  obtain ⟨v1,v2,rfl,r1,r2⟩ := h2.two'
  refine ⟨a,[v1,v2],rfl,by rw [← hK]; exact h1,rfl,v1,[v2],rfl,v2,[],rfl,rfl,?_⟩
  have ab1 := ab.set_val (i := i) (Same.refl H) r1
  exact q _ H (Same.refl H) (ab1.set_val (i := j) (Same.refl H) (r2.weak fun a z => ⟨z.1,fun o => z.2 (own_set_val o)⟩))
 ·exact q.elim
def sAsg (f : Fn) (g : D -> DS -> Ou DS) : Sm := fun δ => (f δ).bind fun d => (g d δ).bind fun δ' => .ok (.nx δ')
end
end DL
namespace DL
open PySem PySem.Spec PyProof.Rows L2
def compL (g : D -> DS -> Ou DS) (gc : DS -> Ou Bool) (fe : Fn) : List D -> DS -> Ou (List D)
 | [],_ => .ok []
 | x :: xs,δ => (g x δ).bind fun δ1 => (gc δ1).bind fun b => if b = true then (fe δ1).bind fun y => (compL g gc fe xs δ1).bind fun ys => .ok (y :: ys) else compL g gc fe xs δ1
def slIn : Option Sl -> Sl
 | some (.val d) => .val d
 | _ => .un
def dsIn (k : Nat) (ix : List Nat) (δ : DS) : DS := List.replicate k .un ++ ix.map fun i => slIn δ[i]?
def fYes : DS -> Ou Bool := fun _ => .ok true
def fComp (fi : DS -> Ou (List D)) (g : D -> DS -> Ou DS) (gc : DS -> Ou Bool) (fe : Fn) (k : Nat) (ix : List Nat) : Fn := fun δ => (fi δ).bind fun ds => if ds.length ≤ sizeLine then (compL g gc fe ds (dsIn k ix δ)).bind fun ys => .ok (.lst ys) else .bad
def fItems (f : Fn) : DS -> Ou (List D) := fun δ => (f δ).bind fun d => match d with
 | .lst ds => .ok ds
 | .frl ds => .ok ds
 | _ => .bad
def fItemsT (f : Fn) : DS -> Ou (List D) := fun δ => (f δ).bind fun d => match d with
 | .tup ds => .ok ds
 | _ => .bad
def fRange (fs : List Fn) : DS -> Ou (List D) := fun δ => (fArgs fs δ).bind fun ds => match ds with
 | [.int j] => if rOk j = true then .ok (rng 0 j.toNat) else .bad
 | [.int i,.int j] => if rOk i = true ∧ rOk j = true then .ok (rng i (j - i).toNat) else .bad
 | _ => .bad
section
variable {c : Cn} {σ : St} {δ : DS} {H H1 : Hp}
theorem Abs.off {p : Addr} {ys zs : List V} (a : Abs c σ δ H) (hp : H p = some (.lst ys)) (h0 : c.H₀ p = none) (hB : ¬ c.B p) : Abs c σ δ (upd H p (.lst zs)) := by
 have hne : ∀ q,Av c σ δ q -> q ≠ p := fun q z e => by subst e; exact hB z.1
 have st : Stay c.K (Av c σ δ) H (upd H p (.lst zs)) := ⟨fun q ys z => by
   rcases z with (z | ⟨o,z⟩) | z
   ·exact .inl (.inl (by rw [upd_ne (ne_of z hp (by intro w; cases w))]; exact z))
   ·exact .inl (.inr ⟨o,by rw [upd_ne (ne_of z hp (by intro w; cases w))]; exact z⟩)
   ·exact .inr z,fun q ys z => by
   rcases z with ⟨o,z⟩ | z
   ·exact .inl ⟨o,by rw [upd_ne (ne_of z hp (by intro w; cases w))]; exact z⟩
   ·exact .inr z,fun q o z w => by rw [upd_ne (hne q z)]; exact w⟩
 refine ⟨fun b o z => ?_,fun b z => a.fr b ?_,a.len,fun j d z => ?_,fun j d z => ?_,fun d v z => Rep.mono (fun _ _ w _ => w) st d v (a.gho d v z),a.inj,a.pin⟩
 ·rw [upd_ne (ne_of_none z h0)]; exact a.same b o z
 ·by_cases hb : b = p
  ·subst hb; rw [upd_same] at z; cases z
  ·rw [upd_ne hb] at z; exact z
 ·obtain ⟨v,z1,z2⟩ := a.val j d z
  exact ⟨v,z1,Rep.mono (fun _ _ w _ => w) st d v z2⟩
 ·obtain ⟨q,o,z1,z2,z3,z4⟩ := a.own j d z
  refine ⟨q,o,z1,?_,z3,RepO.mono (fun _ _ w _ => w) st z4⟩
  rw [upd_ne fun e => by subst e; exact hB z3.2]
  exact z2
theorem Abs.block {p : Addr} {k : Nat} {ix : List Nat} (a : Abs c σ δ H) (hp : H p = none) :
  Abs { K := c.K,B := fun q => Av c σ δ q ∧ q ≠ p,H₀ := H,G := [] } (σin k ix σ) (dsIn k ix δ) (upd H p (.lst [])) := by
 have no : ∀ (i : Nat) (z : D),(dsIn k ix δ)[i]? = some (Sl.own z) -> False := fun i z h => by
  unfold dsIn at h
  rw [List.getElem?_append] at h
  split at h
  ·rw [List.getElem?_replicate] at h
   split at h <;> cases h
  ·rw [List.getElem?_map] at h
   cases e : ix[i - (List.replicate k Sl.un).length]? with
   | none => rw [e] at h; cases h
   | some j =>
    rw [e] at h
    have h' : slIn δ[j]? = Sl.own z := Option.some.inj h
    unfold slIn at h'
    split at h' <;> cases h'
 have nown : ∀ q,¬ Own (σin k ix σ) (dsIn k ix δ) q := fun q ⟨i,z,h,_⟩ => no i z h
 refine ⟨same_new hp _,fun b hb => ?_,?_,fun i d h => ?_,fun i z h => (no i z h).elim,fun d v h => (nomatch h),fun i j di dj q h => (no i di h).elim,fun i q hP => (nomatch hP)⟩
 ·by_cases e : b = p
  ·subst e; rw [upd_same] at hb; cases hb
  ·rw [upd_ne e] at hb
   exact ⟨a.av_new hb,e⟩
 ·unfold dsIn σin; simp
 ·unfold dsIn at h
  rw [List.getElem?_append] at h
  split at h
  ·rw [List.getElem?_replicate] at h
   split at h <;> cases h
  ·rename_i hik
   rw [List.length_replicate] at hik h
   rw [List.getElem?_map] at h
   cases e : ix[i - k]? with
   | none => rw [e] at h; cases h
   | some j =>
    rw [e] at h
    have h' : slIn δ[j]? = Sl.val d := Option.some.inj h
    have hj : δ[j]? = some (Sl.val d) := by
     unfold slIn at h'
     split at h'
     ·cases h'; assumption
     ·cases h'
    obtain ⟨v,z1,z2⟩ := a.val j d hj
    refine ⟨v,?_,?_⟩
    ·unfold σin
     rw [List.getElem?_append_right (by rw [List.length_replicate]; lia),List.length_replicate,List.getElem?_map,e]
     show some ((σ[j]?).join) = _
     rw [z1]; rfl
    ·refine Rep.mono (fun q o w1 w2 => ⟨⟨w1,ne_of_none w2 hp⟩,nown q⟩) (.of_same (same_new hp _)) d v z2
structure SrcI (J : It) (K : PySem.W.Frag) (B : Addr -> Prop) (H1 : Hp) (ds : List D) : Prop where
 go : ∀ (i : Nat) (H' : Hp),Same H1 H' -> i < ds.length -> J.go i H'
 yld : ∀ (i : Nat) (H' : Hp) (x : V) (H'' : Hp) (d : D),Same H1 H' -> ds[i]? = some d -> J.yld i H' x H'' -> H'' = H' ∧ Rep K B H1 d x
 stop : ∀ H' : Hp,Same H1 H' -> J.stop ds.length H'
theorem comp_core {K : PySem.W.Frag} {J : It} {ds : List DL.D} {g : DL.D -> DS -> Ou DS} {gc : DS -> Ou Bool} {fe : Fn} {k : Nat} {ix : List Nat} {Q : VK} (hK : c.K = K) (ab : Abs c σ δ H1) (src : SrcI J c.K (Av c σ δ) H1 ds) (hl : ds.length ≤ sizeLine)
  (kq : Res K E0 c.H₀ (compL g gc fe ds (dsIn k ix δ)) fun es => ∀ D xs H',H1 D = none -> Same H1 H' -> H' D = some (.lst xs) -> Reps c.K (fun a => Av c σ δ a ∧ a ≠ D) H' es xs -> Q (.ref D) H') :
  ∀ D,H1 D = none -> ∃ W : Nat -> Nat -> St -> List V -> Hp -> Prop,(∃ m,W 0 m (σin k ix σ) [] (upd H1 D (.lst []))) ∧
   ∀ i m σ ys H,W i m σ ys H -> H D = some (.lst ys) ∧ ((J.stop i H ∧ Q (.ref D) H) ∨ (J.go i H ∧ ys.length < sizeLine ∧ ∃ N : St -> List V -> Hp -> Prop,(∀ σ' ys' H',N σ' ys' H' -> ∃ m',m' < m ∧ W (i + 1) m' σ' ys' H') ∧
    ∀ x H',J.yld i H x H' -> tG K E0 g x σ H' fun σ2 H2 => tT K E0 gc σ2 H2 fun b H3 => if b = true then tX K E0 .S fe σ2 H3 fun y H4 => H4 D = some (.lst ys) ∧ N σ2 (ys ++ [y]) (upd H4 D (.lst (ys ++ [y]))) else N σ2 ys H3)) := by
 intro D hD
 let c' : Cn := { K := c.K,B := fun q => Av c σ δ q ∧ q ≠ D,H₀ := H1,G := [] }
 have hB' : ¬ c'.B D := fun z => z.2 rfl
 refine ⟨fun i m σ' ys H' => ∃ δ' es,Abs c' σ' δ' H' ∧ H' D = some (.lst ys) ∧ Reps c.K c'.B H' es ys ∧ m = ds.length - i ∧ i ≤ ds.length ∧ es.length ≤ i ∧
  Res K E0 c.H₀ (compL g gc fe (ds.drop i) δ') fun rest => ∀ xs H'',Same H1 H'' -> H'' D = some (.lst xs) -> Reps c.K c'.B H'' (es ++ rest) xs -> Q (.ref D) H'',
  ⟨ds.length,dsIn k ix δ,[],ab.block hD,upd_same,by simp [Reps],by simp,Nat.zero_le _,Nat.zero_le _,?_⟩,?_⟩
 ·exact kq.imp fun es _ z xs H'' e1 e2 e3 => z D xs H'' hD e1 e2 e3
 ·rintro i m σ' ys H' ⟨δ',es,ab',hDy,hr,rfl,hi,hes,q⟩
  refine ⟨hDy,?_⟩
  by_cases hlt : i < ds.length
  ·refine .inr ⟨src.go i H' ab'.same hlt,?_,fun σ' ys' H' => ∃ δ' es,Abs c' σ' δ' H' ∧ H' D = some (.lst ys') ∧ Reps c.K c'.B H' es ys' ∧ ds.length - (i + 1) = ds.length - (i + 1) ∧ i + 1 ≤ ds.length ∧ es.length ≤ i + 1 ∧
    Res K E0 c.H₀ (compL g gc fe (ds.drop (i + 1)) δ') fun rest => ∀ xs H'',Same H1 H'' -> H'' D = some (.lst xs) -> Reps c.K c'.B H'' (es ++ rest) xs -> Q (.ref D) H'',fun σ' ys' H' n => ⟨ds.length - (i + 1),by lia,n⟩,fun x H2 y => ?_⟩
   ·have := hr.length; lia
   have hd : ds[i]? = some ds[i] := by simp [hlt]
   obtain ⟨rfl,rx⟩ := src.yld i H' x H2 _ ab'.same hd y
   rw [List.drop_eq_getElem_cons hlt] at q
   have rx' : Rep c'.K (Av c' σ' δ') H2 ds[i] x := Rep.mono (fun a o w1 w2 => ⟨⟨w1,ne_of_none w2 hD⟩,fun ow => by
    obtain ⟨_,_,z⟩ := Own.is ab' ow
    have w3 := (show c'.H₀ a = some o from w2).symm.trans z
    cases w3⟩) (.of_same ab'.same) _ x rx
   refine ⟨c',δ',ds[i],hK,ab',rx',(wish_mono (Res.bind q) ab.same).imp fun δ2 _ k2 σ2 H3 e3 ab2 => ?_⟩
   refine ⟨c',δ2,hK,ab2,(wish_mono (Res.bind k2) ab.same).imp fun b _ k3 H4 e4 => ?_⟩
   cases b with
   | false => exact ⟨δ2,es,ab2.grow e4,e4 _ _ (e3 _ _ hDy),(hr.same e3).same e4,rfl,hlt,by lia,k3⟩
   | true =>
    have k3' : Res K E0 c.H₀ ((fe δ2).bind fun y => (compL g gc fe (ds.drop (i + 1)) δ2).bind fun ys => .ok (y :: ys)) _ := k3
    refine ⟨c',δ2,hK,ab2.grow e4,(wish_mono (Res.bind k3') ab.same).imp fun dy _ k4 y H5 e5 r5 => ?_⟩
    have hD5 := e5 _ _ (e4 _ _ (e3 _ _ hDy))
    have r5' : Rep c.K c'.B H5 dy y := Rep.weak (show Rep c'.K (Av c' σ2 δ2) H5 dy y from r5) fun a z => z.1
    have st : Stay c.K c'.B H5 (upd H5 D (.lst (ys ++ [y]))) := ⟨fun q ys z => by
      rcases z with (z | ⟨o,z⟩) | z
      ·exact .inl (.inl (by rw [upd_ne (ne_of z hD5 (by intro w; cases w))]; exact z))
      ·exact .inl (.inr ⟨o,by rw [upd_ne (ne_of z hD5 (by intro w; cases w))]; exact z⟩)
      ·exact .inr z,fun q ys z => by
      rcases z with ⟨o,z⟩ | z
      ·exact .inl ⟨o,by rw [upd_ne (ne_of z hD5 (by intro w; cases w))]; exact z⟩
      ·exact .inr z,fun q o z w => by rw [upd_ne z.2]; exact w⟩
    refine ⟨hD5,δ2,es ++ [dy],((ab2.grow e4).grow e5).off hD5 hD hB',upd_same,Reps.mono (fun _ _ w _ => w) st _ _ (Reps.append (((hr.same e3).same e4).same e5) (Reps.one r5')),rfl,hlt,by simp; lia,(Res.bind k4).imp fun rest _ k5 xs H'' s1 s2 s3 => k5 xs H'' s1 s2 ?_⟩
    rw [List.append_assoc] at s3
    exact s3
  ·have e : i = ds.length := by lia
   subst e
   rw [List.drop_length] at q
   exact .inl ⟨src.stop H' ab'.same,q ys H' ab'.same hDy (by rw [List.append_nil]; exact hr)⟩
end
section
variable {X : Cx} {iter elt tg : Expr} {ifs : List Expr} {scope : Scope} {N' : List Str} {k : Nat} {ix : List Nat} {pos : Pos} {g : D -> DS -> Ou DS} {gc : DS -> Ou Bool} {fe fl : Fn} {fs : List Fn} {a b : Expr} {p : Pos}
theorem xc_yes : PCs X [] (tT X.K E0 fYes) := fun pins s σ H Q I q => pcs_nil pins s σ H Q I (by
 obtain ⟨c,δ,hK,ab,q⟩ := q
 exact q H (Same.refl H))
theorem comp_read {wi : TI} {fi : DS -> Ou (List D)} {σ : St} {H : Hp} {Q : VK} (q : tX X.K E0 .F (fComp fi g gc fe k ix) σ H Q)
  (hw : ∀ (c : Cn) (δ : DS) (R : It -> Hp -> Prop),c.K = X.K -> Abs c σ δ H -> Res X.K E0 c.H₀ (fi δ) (fun ds => ∀ J H1,Same H H1 -> SrcI J c.K (Av c σ δ) H1 ds -> R J H1) -> wi σ H R) :
  tComp wi (tG X.K E0 g) (tT X.K E0 gc) (tX X.K E0 .S fe) k ix σ H Q := by
 obtain ⟨c,δ,hK,ab,q⟩ := q
 refine hw c δ _ hK ab ((Res.bind q).imp fun ds _ kq J H1 e1 src => ?_)
 by_cases hl : ds.length ≤ sizeLine
 ·rw [if_pos hl] at kq
  refine comp_core hK (ab.grow e1) src hl ((Res.bind kq).imp fun es _ z D xs H' hD e2 h1 h2 => z (.ref D) H' (e1.trans e2) ⟨D,_,rfl,e1.free hD,h1,xs,rfl,h2⟩)
 ·rw [if_neg hl] at kq
  exact kq.elim
theorem srcL {c : Cn} {σ : St} {δ : DS} {H1 : Hp} {p : Addr} {xs : List V} {ds : List D} (h1 : SqL c.K H1 p xs) (h2 : Reps c.K (Av c σ δ) H1 ds xs) : SrcI (Itl c.K p) c.K (Av c σ δ) H1 ds :=
 ⟨fun i H' e hi => ⟨xs,xs[i]'(by rw [h2.length]; exact hi),e.seq h1,List.getElem?_eq_getElem _⟩,fun i H' x H'' d e hd y => ⟨y.1,by
  obtain ⟨v,z1,z2⟩ := h2.get i d hd
  have := y.2 xs (e.seq h1)
  rw [z1] at this; cases this
  exact z2⟩,fun H' e => ⟨xs,e.seq h1,by rw [h2.length]; exact Nat.le_refl _⟩⟩
theorem xcompL (S : CNames X scope N' k ix) (hi : PE X iter (tX X.K E0 .S fl))
  (hb : ∀ C s2 H2 fp pins,PG (blk X N' scope C s2 H2 fp pins) tg (tG X.K E0 g) ∧ PCs (blk X N' scope C s2 H2 fp pins) ifs (tT X.K E0 gc) ∧ PE (blk X N' scope C s2 H2 fp pins) elt (tX X.K E0 .S fe))
  (hc : X.calm = true := by rfl) (hs : ∀ x,foldedSetIterable iter X.env x = pure x := by intro _; rfl) : CompR X (.ListComp elt [⟨tg,iter,ifs,0⟩] scope pos) (tX X.K E0 .F (fComp (fItems fl) g gc fe k ix)) :=
 (comp_r hc S (pi_list hi) hb hs).imp fun σ H Q q => comp_read q fun c δ R hK ab kq => by
  refine ⟨c,δ,hK,ab,(Res.bind kq).imp fun d _ z v H1 e1 r1 => ?_⟩
  have r1' : Rep c.K (Av c σ δ) H1 d v := r1
  cases d <;> first | exact z.elim | skip
  ·simp only [Rep] at r1'
   obtain ⟨p,xs,rfl,_,h1,h2⟩ := r1'
   exact ⟨p,rfl,⟨xs,by rw [← hK]; exact .of h1⟩,by rw [← hK]; exact z _ H1 e1 (srcL (.of h1) h2)⟩
  ·simp only [Rep] at r1'
   obtain ⟨p,xs,rfl,h1,h2⟩ := r1'
   exact ⟨p,rfl,⟨xs,by rw [← hK]; exact h1.sq⟩,by rw [← hK]; exact z _ H1 e1 (srcL h1.sq h2)⟩
theorem srcR {K : PySem.W.Frag} {B : Addr -> Prop} {H1 : Hp} {lo : Int} {n : Nat} : SrcI (Itr lo n) K B H1 (rng lo n) :=
 ⟨fun i H' _ hi => by rw [rng_len] at hi; exact hi,fun i H' x H'' d _ hd y => by
  obtain ⟨h1,rfl⟩ := rng_get hd
  exact ⟨y.1,by rw [y.2]; simp [Rep]⟩,fun H' _ => by
  show n ≤ _
  rw [rng_len]; exact Nat.le_refl _⟩
theorem xcompR1 (S : CNames X scope N' k ix) (hm : X.mg "range" = none) (ha : PA X [a] (tXA X.K E0 .W [fl]))
  (hb : ∀ C s2 H2 fp pins,PG (blk X N' scope C s2 H2 fp pins) tg (tG X.K E0 g) ∧ PCs (blk X N' scope C s2 H2 fp pins) ifs (tT X.K E0 gc) ∧ PE (blk X N' scope C s2 H2 fp pins) elt (tX X.K E0 .S fe))
  (hc : X.calm = true := by rfl) (hgl : Gl X "range" := by rfl) (hse : starEach [a] X.env = [(false,eval a X.env)] := by rfl) {rp : Pos} (hs : ∀ x,foldedSetIterable (.Call (.Name "range" p) [a] [] rp) X.env x = pure x := by intro _; rfl) :
  CompR X (.ListComp elt [⟨tg,.Call (.Name "range" p) [a] [] rp,ifs,0⟩] scope pos) (tX X.K E0 .F (fComp (fRange [fl]) g gc fe k ix)) :=
 (comp_r hc S (pi_range1 hgl hm ha hse) hb hs).imp fun σ H Q q => comp_read q fun c δ R hK ab kq => by
  refine ⟨c,δ,hK,ab,(Res.bind kq).imp fun ds hds z vs H1 e1 r1 => ?_⟩
  have hl : ds.length = 1 := fArgs_len hds
  obtain ⟨d,rfl⟩ : ∃ d,ds = [d] := by
   match ds,hl with
   | [d],_ => exact ⟨d,rfl⟩
  obtain ⟨v,rfl,r2⟩ := r1.one'
  cases d <;> first | exact z.elim | skip
  simp only [Rep] at r2
  subst r2
  rename_i j
  by_cases hj : rOk j = true
  ·simp only [hj,if_true] at z
   have hj' := of_decide_eq_true hj
   exact ⟨j,rfl,hj'.1,hj'.2,z _ H1 e1 srcR⟩
  ·simp only [if_neg hj] at z
   exact z.elim
theorem xcompR2 (S : CNames X scope N' k ix) {fl2 : Fn} (hm : X.mg "range" = none) (ha : PA X [a,b] (tXA X.K E0 .W [fl,fl2]))
  (hb : ∀ C s2 H2 fp pins,PG (blk X N' scope C s2 H2 fp pins) tg (tG X.K E0 g) ∧ PCs (blk X N' scope C s2 H2 fp pins) ifs (tT X.K E0 gc) ∧ PE (blk X N' scope C s2 H2 fp pins) elt (tX X.K E0 .S fe))
  (hc : X.calm = true := by rfl) (hgl : Gl X "range" := by rfl) (hse : starEach [a,b] X.env = [(false,eval a X.env),(false,eval b X.env)] := by rfl) (hse2 : starEach [b] X.env = [(false,eval b X.env)] := by rfl) {rp : Pos} (hs : ∀ x,foldedSetIterable (.Call (.Name "range" p) [a,b] [] rp) X.env x = pure x := by intro _; rfl) :
  CompR X (.ListComp elt [⟨tg,.Call (.Name "range" p) [a,b] [] rp,ifs,0⟩] scope pos) (tX X.K E0 .F (fComp (fRange [fl,fl2]) g gc fe k ix)) :=
 (comp_r hc S (pi_range2 hgl hm ha hse hse2) hb hs).imp fun σ H Q q => comp_read q fun c δ R hK ab kq => by
  refine ⟨c,δ,hK,ab,(Res.bind kq).imp fun ds hds z vs H1 e1 r1 => ?_⟩
  have hl : ds.length = 2 := fArgs_len hds
  obtain ⟨d,d',rfl⟩ : ∃ d d',ds = [d,d'] := by
   match ds,hl with
   | [d,d'],_ => exact ⟨d,d',rfl⟩
  obtain ⟨v,v',rfl,r2,r3⟩ := r1.two'
  cases d <;> first | exact z.elim | skip
  cases d' <;> first | exact z.elim | skip
  simp only [Rep] at r2 r3
  subst r2; subst r3
  rename_i i j
  by_cases hj : rOk i = true ∧ rOk j = true
  ·simp only [if_pos hj] at z
   have h1 := of_decide_eq_true hj.1
   have h2 := of_decide_eq_true hj.2
   exact ⟨i,j,rfl,⟨h1.1,h1.2,h2.1,h2.2⟩,z _ H1 e1 srcR⟩
  ·simp only [if_neg hj] at z
   exact z.elim
theorem xs_setC (i : Nat) {e : Expr} {x : Str} {pos' : Pos} {fr : Rm} (hN : X.N.Nodup) (he : CompR X e (tX X.K E0 .F fe)) (hi : X.N[i]? = some x := by rfl) (hx : Loc X.env.scope x := by first | exact Or.inl rfl | exact Or.inr rfl) (hs : swapsWith e (some (.Name x pos')) pos.line X.env = pure true := by rfl)
  (hf : X.fn x = true ∨ X.env.scope.names.lookup x = some .local := by first | exact .inl rfl | exact .inr rfl) : PS X (.Assign [.Name x pos'] e pos) (tS X.K E0 fr (sSet i fe)) := (he.ps i x pos' pos hN hi hx hs hf).imp fun D σ H q => by
 obtain ⟨c,δ,hK,ab,q⟩ := q
 exact ⟨c,δ,hK,ab,(Res.bind q).imp fun d _ k v H1 e1 r1 => k _ H1 (ab.set_val e1 (Post.toS ab r1))⟩
end
end DL
namespace L2
open PySem PySem.Spec PyProof.Rows
structure Mk0 (K : PySem.W.Frag) (C : Addr) : Prop where
 makes : PySem.W.makesIn K C = true
 init : PySem.W.findIn K (.ref C) "__init__" = some (some (.builtin "object.__init__"))
 kp : PySem.W.keepIn K (.ref C) = true
section
variable {X : Cx} {C : Addr} {x : Str} {p pos : Pos}
def tMakeN (C : Addr) : TE := fun _ H Q => ∀ x dx,H x = none -> H dx = none -> dx ≠ x -> Q (.ref x) (upd (upd H dx (.own x)) x (.ins C dx []))
theorem run_makeN {pins : List (Addr × Obj)} {σ : St} {H : Hp} {s : Shared} {Q : VK} (M : Mk0 X.K C) (I : Inv X pins σ H s)
  (h : ∀ x dx,H x = none -> H dx = none -> dx ≠ x -> Q (.ref x) (upd (upd H dx (.own x)) x (.ins C dx []))) : wpAny (model X.prog X.w) X.A (call (.ref C) []) (EP X pins σ Q) X.xe s := by
 have hq := h (s.heap.objs.size + 1) s.heap.objs.size (I.hok.fresh (Nat.le_succ _)) (I.hok.fresh (Nat.le_refl _)) (Nat.ne_of_lt (Nat.lt_succ_self _))
 have I2 := Inv.made (C := C) I
 have Y := PySem.W.makes_of (M := model X.prog X.w) I.kIn M.makes
 refine wpAny_call (make_map0 I.kIn M.makes M.init (fun self => PySem.W.Looks.of_pure (PySem.W.oi_bind self)) ?_)
 have hx : ((s.heap.push PySem.W.emptyDict).push (PySem.W.instObj C s.heap.objs.size)).get? (s.heap.objs.size + 1) = some (PySem.W.instObj C s.heap.objs.size) := by
  have := Heap.get?_push_size (s.heap.push PySem.W.emptyDict) (o := PySem.W.instObj C s.heap.objs.size) rfl
  rwa [Heap.size_push] at this
 have t1 : PySem.W.Looks (model X.prog X.w) ((s.heap.push PySem.W.emptyDict).push (PySem.W.instObj C s.heap.objs.size)) (typeOf (.ref (s.heap.objs.size + 1))) (.ref C) := (PySem.W.Looks.ld hx).andThen .now
 have t2 : PySem.W.Looks (model X.prog X.w) ((s.heap.push PySem.W.emptyDict).push (PySem.W.instObj C s.heap.objs.size)) (isInstance (.ref (s.heap.objs.size + 1)) (.type "object")) true := t1.andThen (Y.top.keeps fun b o e => Heap.get?_push_of_some _ (Heap.get?_push_of_some _ e))
 refine codeAny_call_builtin PySem.W.oi_plain PySem.W.entry_oi (@PySem.W.check_slot (model X.prog X.w) _ _ _ "object.__init__" "object" "__init__" (.ref (s.heap.objs.size + 1)) [] [] _ PySem.W.oi_kind PySem.W.oi_split t2 (PySem.W.oi_args (.ref (s.heap.objs.size + 1))) ?_)
 rw [PySem.W.oi_run]
 exact wpAny_pure (And.intro rfl ⟨V.ref (s.heap.objs.size + 1),_,I2,rfl,hq⟩)
theorem pe_makeN (M : Mk0 X.K C) (hg : Gl X x) (hm : X.mg x = some (.ref C)) (hdb : (x == ("__debug__" : Str)) = false := by decide) : PE X (.Call (.Name x p) [] [] pos) (tMakeN C) := by
 intro pins s σ H Q I h
 refine wpAny_Call_Name_kw (ld_glob I hg hm ?_ hdb)
 exact PySem.W.callWith_K0 I.kIn M.kp (run_makeN M I h)
end
end L2
namespace DL
open PySem PySem.Spec PyProof.Rows L2
section
variable {X : Cx} {E : XK} {m : Md} {x : Str} {p pos apos : Pos} {e o : Expr} {es : List Expr} {fs : List Fn} {fo : Fn} {k : Nat} {ps : List Str} {fr : Bool} {mt : Str}
structure ClsOk (K : PySem.W.Frag) (mg : Str -> Option Value) (x : Str) : Prop where
 ex : ∃ C,Cls K C ∧ PySem.W.nsIn K mainGlobals x = some (some (.ref C)) ∧ mg x = some (.ref C)
def fMake0 (x : Str) : Fn := fun _ => .ok (.obj x)
theorem xmake0 {C : Addr} (M : Mk0 X.K C) (hn : PySem.W.nsIn X.K mainGlobals x = some (some (.ref C))) (hm : X.mg x = some (.ref C)) (hg : Gl X x := by rfl) (hf : notF m = true := by rfl) (hdb : (x == ("__debug__" : Str)) = false := by decide) :
  PE X (.Call (.Name x p) [] [] pos) (tX X.K E m (fMake0 x)) := (pe_makeN M hg hm hdb).imp fun σ H Q q => by
 obtain ⟨c,δ,hK,ab,q⟩ := q
 intro a dx ha hd hne
 have e1 : Same H (upd (upd H dx (.own a)) a (.ins C dx [])) := (same_new hd _).trans (same_new (by rw [upd_ne (Ne.symm hne)]; exact ha) _)
 refine q (.ref a) _ e1 ?_
 have r : ∀ B : Addr -> Prop,B a -> Rep c.K B (upd (upd H dx (.own a)) a (.ins C dx [])) (.obj x) (.ref a) := fun B hB => by
  simp only [Rep]
  exact ⟨a,C,dx,rfl,by rw [hK]; exact hn,hB,upd_same⟩
 cases m with
 | W => exact r _ (ab.fr a ha)
 | S => exact r _ (ab.av_new ha)
 | F => simp [notF] at hf
structure MDf (P : Program) (w : World) (K : PySem.W.Frag) (mg : Str -> Option Value) (base : Heap) (c m : Str) (k : Nat) (ps : List Str) (fr : Bool) (mm : List D -> Ou D) : Prop where
 ex : ∃ C f fd,Cls K C ∧ PySem.W.nsIn K mainGlobals c = some (some (.ref C)) ∧ Meth K C m f ∧ FnOk P w K mg base CX0 k f fd ps (spD K fr ps.length mm) ∧ Binds K fd ps []
theorem MDf.mono {P : Program} {w : World} {K : PySem.W.Frag} {mg : Str -> Option Value} {base : Heap} {c m : Str} {j k : Nat} {ps : List Str} {fr : Bool} {mm : List D -> Ou D} (h : MDf P w K mg base c m j ps fr mm) (hj : j ≤ k) : MDf P w K mg base c m k ps fr mm := by
 obtain ⟨C,f,fd,h1,h2,h3,h4,h5⟩ := h.ex
 exact ⟨C,f,fd,h1,h2,h3,h4.mono hj,h5⟩
abbrev MTab := List (Str × (List D -> Ou D))
def tbM (tb : MTab) : D -> Option (List D -> Ou D)
 | .obj c => (tb.find? fun z => z.1 == c).map (·.2)
 | _ => none
def fMeth (tb : MTab) (fo : Fn) (fs : List Fn) : Fn := fun δ => (fo δ).bind fun d => match tbM tb d with
 | some mm => (fArgs fs δ).bind fun ds => mm (d :: ds)
 | none => .bad
inductive MAll (P : Program) (w : World) (K : PySem.W.Frag) (mg : Str -> Option Value) (base : Heap) (m : Str) (k : Nat) (n : Nat) (fr : Bool) : MTab -> Prop where
 | nil : MAll P w K mg base m k n fr []
 | cons {c : Str} {ps : List Str} {mm : List D -> Ou D} {tb : MTab} (h : MDf P w K mg base c m k ps fr mm) (hn : ps.length = n) (r : MAll P w K mg base m k n fr tb) : MAll P w K mg base m k n fr ((c,mm) :: tb)
theorem MAll.at {P : Program} {w : World} {K : PySem.W.Frag} {mg : Str -> Option Value} {base : Heap} {m : Str} {k n : Nat} {fr : Bool} {tb : MTab} (h : MAll P w K mg base m k n fr tb) {c : Str} {z : Str × (List D -> Ou D)} (hz : (tb.find? fun z => z.1 == c) = some z) :
  ∃ ps,MDf P w K mg base c m k ps fr z.2 ∧ ps.length = n := by
 induction h with
 | nil => cases hz
 | @cons c' ps mm tb h hn r ih =>
  rw [List.find?_cons] at hz
  by_cases e : (c' == c) = true
  ·rw [e] at hz
   cases hz
   have : c' = c := by simpa using e
   subst this
   exact ⟨ps,h,hn⟩
  ·have e' : (c' == c) = false := by simpa using e
   rw [e'] at hz
   exact ih hz
theorem obj_at {K : PySem.W.Frag} {B : Addr -> Prop} {H : Hp} {c : Str} {v : V} {C : Addr} (r : Rep K B H (.obj c) v) (hC : PySem.W.nsIn K mainGlobals c = some (some (.ref C))) : ∃ a dx,v = .ref a ∧ H a = some (.ins C dx []) := by
 simp only [Rep] at r
 obtain ⟨a,C',dx,rfl,h1,_,h2⟩ := r
 rw [hC] at h1
 cases h1
 exact ⟨a,dx,rfl,h2⟩
theorem Post.bOf' {c : Cn} {σ : St} {δ : DS} {H H' : Hp} {d : D} {v : V} {m : Md} (hm : notF m = true) (r : Rep c.K (BOf c σ δ m) H' d v) : Post c σ δ H m d v H' := by
 cases m with
 | W => exact r
 | S => exact r
 | F => simp [notF] at hm
theorem meth_read {tb : MTab} {n : Nat} {fr : Bool} {σ : St} {H : Hp} {Q : VK} {c : Cn} {δ : DS} {cn : Str} {t : TA} (hb : MAll X.prog X.w X.K X.mg X.base mt k n fr tb) (hm : notF m = true) (hl : fs.length + 1 = n) (hK : c.K = X.K) (ab : Abs c σ δ H) (e1 : fo δ = .ok (.obj cn))
  {z : Str × (List D -> Ou D)} (hz : (tb.find? fun z => z.1 == cn) = some z) (hta : ∀ σ H Q,tXA X.K E0 m fs σ H Q -> t σ H Q)
  (q : Res X.K E0 c.H₀ ((fArgs fs δ).bind fun ds => z.2 (.obj cn :: ds)) fun d => ∀ v H',Same H H' -> RtP c.K (BOf c σ δ m) H fr d v H' -> Q v H') :
  ∃ C f fd ps mm,Cls X.K C ∧ Meth X.K C mt f ∧ FnOk X.prog X.w X.K X.mg X.base CX0 k f fd ps (spD X.K fr ps.length mm) ∧ Binds X.K fd ps [] ∧ tMeth C mt (spD X.K fr ps.length mm) [] E0 (tX X.K E0 m fo) t σ H Q := by
 obtain ⟨ps,h,hn⟩ := hb.at hz
 obtain ⟨C,f,fd,h1,h2,h3,h4,h5⟩ := h.ex
 refine ⟨C,f,fd,ps,z.2,h1,h3,h4,h5,c,δ,hK,ab,?_⟩
 rw [e1]
 intro v H1 s1 r1
 have r1' : Rep c.K (BOf c σ δ m) H1 (.obj cn) v := Post.bOf hm r1
 obtain ⟨a,dx,rfl,ha⟩ := obj_at r1' (by rw [hK]; exact h2)
 refine ⟨a,dx,[],rfl,ha,rfl,hta _ _ _ ⟨c,δ,hK,ab.grow s1,(Res.bind q).imp fun ds hds kq vs H2 e2 r2 => ?_⟩⟩
 have ab2 := (ab.grow s1).grow e2
 refine ⟨BOf c σ δ m,.obj cn :: ds,by rw [List.length_cons,fArgs_len hds,hl,hn],?_,(wish_mono kq (ab2.same)).imp fun d _ kd v H' e3 r3 => kd v H' ((s1.trans e2).trans e3) ?_⟩
 ·simp only [Reps,List.append_nil]
  rw [← hK]
  exact ⟨.ref a,vs,rfl,r1'.same e2,r2⟩
 ·rw [← hK] at r3
  have up : ∀ b,(BOf c σ δ m b ∨ H2 b = none) -> BOf c σ δ m b := fun b w => by
   rcases w with w | w
   ·exact w
   ·have := ab2.av_new w
    cases m with
    | W => exact this.1
    | S => exact this
    | F => simp [notF] at hm
  cases fr with
  | false => exact Rep.weak (show Rep _ _ _ _ _ from r3) up
  | true =>
   obtain ⟨p',xs,rfl,w1,w2,w3⟩ := r3
   exact ⟨p',xs,rfl,(s1.trans e2).free w1,w2,w3.weak fun b y => ⟨up b y.1,y.2⟩⟩
theorem RtP.post {c : Cn} {σ : St} {δ : DS} {H H' : Hp} {d : D} {v : V} {m : Md} (hm : notF m = true) (r : RtP c.K (BOf c σ δ m) H false d v H') : Post c σ δ H m d v H' := Post.bOf' hm r
theorem RtP.postF {c : Cn} {σ : St} {δ : DS} {H H' : Hp} {d : D} {v : V} (r : RtP c.K (BOf c σ δ .S) H true d v H') : Post c σ δ H .F d v H' := r
theorem fMeth_cases {tb : MTab} {δ : DS} {kq : D -> Prop} {K : PySem.W.Frag} {H₀ : Hp} {d : D} (e1 : fo δ = .ok d) (q : Res K E0 H₀ (fMeth tb fo fs δ) kq) :
  ∃ cn z,d = .obj cn ∧ (tb.find? fun z => z.1 == cn) = some z ∧ Res K E0 H₀ ((fArgs fs δ).bind fun ds => z.2 (.obj cn :: ds)) kq := by
 unfold fMeth at q
 rw [e1] at q
 have q' : Res K E0 H₀ (match tbM tb d with
  | some mm => (fArgs fs δ).bind fun ds => mm (d :: ds)
  | none => .bad) kq := q
 cases d <;> first | exact q'.elim | skip
 rename_i cn
 cases e2 : (tb.find? fun z => z.1 == cn) with
 | none => simp only [tbM,e2,Option.map_none] at q'; exact q'.elim
 | some z =>
  simp only [tbM,e2,Option.map_some] at q'
  exact ⟨cn,z,rfl,e2,q'⟩
theorem xmeth {pl : Sem Bool} {tb : MTab} {n : Nat} (hb : MAll X.prog X.w X.K X.mg X.base mt k n false tb) (hr : Room k X.A) (ho : PE X o (tX X.K E0 m fo)) (ha : PA X (e :: es) (tXA X.K E0 m fs)) (hl : fs.length + 1 = n := by rfl) (hm : notF m = true := by rfl)
  (hst : starEach (e :: es) X.env = (false,eval e X.env) :: starEach es X.env := by rfl) (hpl : (backTo pos (starEach es X.env)).any (·.1) = false := by rfl)
  (ht : eval (.Call (.Attribute o mt apos) (e :: es) [] pos) X.env = (do
   let ov ← eval o X.env
   standAt apos.atName
   let (f,first) ← holding [ov] (getMethod ov mt pl)
   callWith pos f first (backTo pos (starEach (e :: es) X.env)) (backToKw pos (keywordEach [] X.env))) := by rfl) :
  PE X (.Call (.Attribute o mt apos) (e :: es) [] pos) (tX X.K E0 m (fMeth tb fo fs)) := by
 intro pins s σ H Q I q
 obtain ⟨c,δ,hK,ab,q⟩ := q
 cases e1 : fo δ with
 | bad => unfold fMeth at q; rw [e1] at q; exact q.elim
 | ex z =>
  unfold fMeth at q; rw [e1] at q
  exact PySem.W.methodCall_KW (pl := pl) (thn (ho pins s σ H (fun _ _ => False) I ⟨c,δ,hK,ab,by rw [e1]; exact q⟩) fun u s1 ⟨_,_,_,_,w⟩ => w.elim) ht
 | ok d =>
  obtain ⟨cn,z,rfl,hz,q⟩ := fMeth_cases e1 q
  obtain ⟨C,f,fd,ps,mm,h1,h2,h3,h4,h5⟩ := meth_read (m := m) (fs := fs) hb hm hl hK ab e1 hz (fun _ _ _ z => z) (q.imp fun d _ kd v H' e2 r2 => kd v H' e2 (RtP.post hm r2))
  exact pe_meth ho h1 h2 h3 hr h4 .nil pass0 ha hst hpl ht pins s σ H Q I h5
theorem xmeth0 {pl : Sem Bool} {tb : MTab} {n : Nat} (hb : MAll X.prog X.w X.K X.mg X.base mt k n false tb) (hr : Room k X.A) (ho : PE X o (tX X.K E0 m fo)) (hl : 0 + 1 = n := by rfl) (hm : notF m = true := by rfl)
  (ht : eval (.Call (.Attribute o mt apos) [] [] pos) X.env = (do
   let ov ← eval o X.env
   standAt apos.atName
   let (f,first) ← holding [ov] (getMethod ov mt pl)
   callWith pos f first (backTo pos (starEach [] X.env)) (backToKw pos (keywordEach [] X.env))) := by rfl) :
  PE X (.Call (.Attribute o mt apos) [] [] pos) (tX X.K E0 m (fMeth tb fo [])) := by
 intro pins s σ H Q I q
 obtain ⟨c,δ,hK,ab,q⟩ := q
 cases e1 : fo δ with
 | bad => unfold fMeth at q; rw [e1] at q; exact q.elim
 | ex z =>
  unfold fMeth at q; rw [e1] at q
  exact PySem.W.methodCall_KW (pl := pl) (thn (ho pins s σ H (fun _ _ => False) I ⟨c,δ,hK,ab,by rw [e1]; exact q⟩) fun u s1 ⟨_,_,_,_,w⟩ => w.elim) ht
 | ok d =>
  obtain ⟨cn,z,rfl,hz,q⟩ := fMeth_cases e1 q
  obtain ⟨C,f,fd,ps,mm,h1,h2,h3,h4,h5⟩ := meth_read (m := m) (fs := []) hb hm hl hK ab e1 hz (fun _ _ _ w => by
   obtain ⟨c,δ,hK,ab,w⟩ := w
   exact w [] _ (Same.refl _) (by simp [Reps])) (q.imp fun d _ kd v H' e2 r2 => kd v H' e2 (RtP.post hm r2))
  exact pe_meth0 ho h1 h2 h3 hr h4 .nil pass0 ht pins s σ H Q I h5
theorem xmethF {pl : Sem Bool} {tb : MTab} {n : Nat} (hb : MAll X.prog X.w X.K X.mg X.base mt k n true tb) (hr : Room k X.A) (ho : PE X o (tX X.K E0 .S fo)) (ha : PA X (e :: es) (tXA X.K E0 .S fs)) (hl : fs.length + 1 = n := by rfl)
  (hst : starEach (e :: es) X.env = (false,eval e X.env) :: starEach es X.env := by rfl) (hpl : (backTo pos (starEach es X.env)).any (·.1) = false := by rfl)
  (ht : eval (.Call (.Attribute o mt apos) (e :: es) [] pos) X.env = (do
   let ov ← eval o X.env
   standAt apos.atName
   let (f,first) ← holding [ov] (getMethod ov mt pl)
   callWith pos f first (backTo pos (starEach (e :: es) X.env)) (backToKw pos (keywordEach [] X.env))) := by rfl) :
  PE X (.Call (.Attribute o mt apos) (e :: es) [] pos) (tX X.K E0 .F (fMeth tb fo fs)) := by
 intro pins s σ H Q I q
 obtain ⟨c,δ,hK,ab,q⟩ := q
 cases e1 : fo δ with
 | bad => unfold fMeth at q; rw [e1] at q; exact q.elim
 | ex z =>
  unfold fMeth at q; rw [e1] at q
  exact PySem.W.methodCall_KW (pl := pl) (thn (ho pins s σ H (fun _ _ => False) I ⟨c,δ,hK,ab,by rw [e1]; exact q⟩) fun u s1 ⟨_,_,_,_,w⟩ => w.elim) ht
 | ok d =>
  obtain ⟨cn,z,rfl,hz,q⟩ := fMeth_cases e1 q
  obtain ⟨C,f,fd,ps,mm,h1,h2,h3,h4,h5⟩ := meth_read (m := .S) (fs := fs) hb rfl hl hK ab e1 hz (fun _ _ _ z => z) (q.imp fun d _ kd v H' e2 r2 => kd v H' e2 (RtP.postF r2))
  exact pe_meth ho h1 h2 h3 hr h4 .nil pass0 ha hst hpl ht pins s σ H Q I h5
end
end DL
namespace DL
open PySem PySem.Spec PyProof.Rows L2
section
variable {X : Cx} {E : XK} {m : Md} {a b e : Expr} {fa fb fe : Fn} {pos p : Pos} {es : List Expr} {fs : List Fn} {fr : Rm} {F G : Sm} {st : Stmt} {x : Str}
def isBl (k : Bool) : D -> Bool
 | .bl k' => k' == k
 | _ => false
def gIsB : D -> D -> Ou D
 | d,.bl k => .ok (.bl (isBl k d))
 | _,_ => .bad
def gNotB : D -> D -> Ou D
 | d,.bl k => .ok (.bl (!isBl k d))
 | _,_ => .bad
def gListOf : D -> Ou D
 | .lst ds => .ok (.lst ds)
 | .frl ds => .ok (.lst ds)
 | .tup ds => .ok (.lst ds)
 | _ => .bad
theorem xlistOf (hm : X.mg "list" = none) (ha : PE X e (tX X.K E .S fe)) (hg : Gl X "list" := by rfl) (he : starEach [e] X.env = (false,eval e X.env) :: starEach [] X.env := by rfl) (hpl : (backTo pos (starEach ([] : List Expr) X.env)).any (·.1) = false := by rfl) :
  PE X (.Call (.Name "list" p) [e] [] pos) (tX X.K E .F (f1 gListOf fe)) :=
 (pe_callTy call_list_of hg hm (by decide +kernel) (pa_cons ha pa_nil he) (by decide) (by decide) he hpl).imp fun σ H Q q => by
 obtain ⟨c,δ,hK,ab,q⟩ := q
 refine ⟨c,δ,hK,ab,(Res.bind q).imp fun d _ k v H1 e1 r1 => ?_⟩
 have r1' : Rep c.K (Av c σ δ) H1 d v := r1
 have fin : ∀ {ds : List D} {xs : List V} (l : Addr),H1 l = none -> Reps c.K (Av c σ δ) H1 ds xs -> Post c σ δ H .F (.lst ds) (.ref l) (upd H1 l (.lst xs)) := fun l hl h2 => ⟨l,_,rfl,e1.free hl,upd_same,_,rfl,(Reps.off h2 hl).same (same_new hl _)⟩
 cases d <;> first | exact k.elim | skip
 ·simp only [Rep] at r1'
  obtain ⟨a,xs,rfl,h1,h2⟩ := r1'
  exact ⟨a,xs,rfl,.inr (by rw [← hK]; exact h1),fun l hl => k (.ref l) _ (e1.trans (same_new hl _)) (fin l hl h2)⟩
 ·simp only [Rep] at r1'
  obtain ⟨a,xs,rfl,_,h1,h2⟩ := r1'
  exact ⟨a,xs,rfl,.inl (.of h1),fun l hl => k (.ref l) _ (e1.trans (same_new hl _)) (fin l hl h2)⟩
 ·simp only [Rep] at r1'
  obtain ⟨a,xs,rfl,h1,h2⟩ := r1'
  exact ⟨a,xs,rfl,.inl (by rw [← hK]; exact h1.sq),fun l hl => k (.ref l) _ (e1.trans (same_new hl _)) (fin l hl h2)⟩
def sBad : Sm := fun _ => .bad
theorem xs_raise {exc cause : Option Expr} : PS X (.Raise exc cause pos) (tS X.K E fr sBad) := fun pins s σ H D I q => by
 obtain ⟨c,δ,hK,ab,q⟩ := q
 exact q.elim
def gIn (neg : Bool) : D -> D -> Ou D := fun x y => if isS x = true ∧ (its y).all isS = true ∧ (rk y = 1 ∨ rk y = 2) then .ok (.bl (let z := (its y).any fun d => eqV (toV d) (toV x); if neg then !z else z)) else .bad
theorem Reps.flat {K : PySem.W.Frag} {B : Addr -> Prop} {H : Hp} : ∀ {ds : List D} {vs : List V},Reps K B H ds vs -> ds.all isS = true -> vs = ds.map toV ∧ vs.all flatV = true
 | [],vs,r,_ => by
  simp only [Reps] at r
  subst r
  exact ⟨rfl,rfl⟩
 | d :: ds,vs,r,h => by
  simp only [Reps] at r
  obtain ⟨v,r',rfl,h1,h2⟩ := r
  simp only [List.all_cons,Bool.and_eq_true] at h
  obtain ⟨h3,h4⟩ := Reps.flat h2 h.2
  have h5 := Rep.toS h.1 h1
  subst h5
  refine ⟨by rw [h3]; rfl,?_⟩
  rw [List.all_cons,h4,Bool.and_true]
  cases d <;> simp [isS] at h <;> rfl
def fSlT (f : Fn) (lo hi : Option Fn) : Fn := fun δ => (f δ).bind fun d => (fPart lo δ).bind fun l => (fPart hi δ).bind fun u => match d with
 | .tup ds => if HT.sIx ds.length 0 l = 0 ∧ HT.sIx ds.length ds.length u = ds.length then .bad else .ok (.tup (cutD ds l u))
 | _ => .bad
def sPop (i j : Nat) : Sm := fun δ => match δ[i]? with
 | some (.own (.lst ds)) => (match ds[ds.length - 1]? with
  | some d => .ok (.nx ((δ.set i (.own (.lst ds.dropLast))).set j (.val d)))
  | none => .bad)
 | _ => .bad
theorem Reps.dropLast {K : PySem.W.Frag} {B : Addr -> Prop} {H : Hp} {ds : List D} {vs : List V} (r : Reps K B H ds vs) : Reps K B H ds.dropLast vs.dropLast := by
 rw [List.dropLast_eq_take,List.dropLast_eq_take,r.length]
 exact r.take _
end
theorem df_bad {P : Program} {w : World} {K : PySem.W.Frag} {mg : Str -> Option Value} {base : Heap} {x : Str} {st : Stmt} {ps : List Str} {k : Nat} {fr : Bool} (S : Src K mg x st ps) : Df P w K mg base x k ps fr (fun _ => .bad) := by
 obtain ⟨f,fd,Fn,b,hm⟩ := S.ex
 refine ⟨f,fd,⟨fun vs H Q E h => ?_,fun A outer s H args us vs Q E _ _ _ _ h => ?_⟩,b,Fn.kp,hm⟩
 ·obtain ⟨_,_,_,_,z⟩ := h; exact z.elim
 ·obtain ⟨_,_,_,_,z⟩ := h; exact z.elim
def relab (sc0 scope : Scope) : List (Str × NameKind) := scope.names.map fun (n,k) => if (k == .free && sc0.kind == .function && sc0.names.lookup n == some .cell) then (n,.cell) else (n,k)
def cnOk (sc0 scope : Scope) (N0 N' : List Str) (k : Nat) (ix : List Nat) : Bool :=
 scope.names.all (fun y => y.2 != .cell) && (scope.kind == .function) && scope.names.all (fun y => y.2 != .local || scope.names.lookup y.1 == some .local) &&
 scope.names.all (fun y => y.2 != .free || (sc0.names.lookup y.1 == some .cell || sc0.names.lookup y.1 == some .free)) && N'.length == k + ix.length &&
 (List.range ix.length).all (fun j => match ix[j]?,N'[k + j]? with
  | some i,some x => N0[i]? == some x && (sc0.names.lookup x == some .cell || sc0.names.lookup x == some .free) && (relab sc0 scope).lookup x != some .local
  | _,_ => false)
theorem cnames {X : Cx} {scope : Scope} {N' : List Str} {k : Nat} {ix : List Nat} (sc0 : Scope) (N0 : List Str) (h : cnOk sc0 scope N0 N' k ix = true) (hs : X.env.scope = sc0 := by rfl) (hN : X.N = N0 := by rfl) : CNames X scope N' k ix := by
 unfold cnOk at h
 simp only [Bool.and_eq_true] at h
 obtain ⟨⟨⟨⟨⟨h1,h2⟩,h3⟩,h4⟩,h5⟩,h6⟩ := h
 subst hs; subst hN
 refine ⟨fun y hy => by simpa using List.all_eq_true.mp h1 y hy,by simpa using h2,fun y hy hk => ?_,fun y hy hk => ?_,by simpa using h5,fun j i x e1 e2 => ?_⟩
 ·have := List.all_eq_true.mp h3 y hy
  rw [hk] at this
  simpa using this
 ·have := List.all_eq_true.mp h4 y hy
  rw [hk] at this
  have z : List.lookup y.fst X.env.scope.names = some NameKind.cell ∨ List.lookup y.fst X.env.scope.names = some NameKind.free := by simpa using this
  exact z
 ·have := List.all_eq_true.mp h6 j (List.mem_range.mpr (List.getElem?_eq_some_iff.mp e1).1)
  rw [e1,e2] at this
  simp only [Bool.and_eq_true,Bool.or_eq_true,beq_iff_eq,bne_iff_ne] at this
  exact ⟨this.1.1,this.1.2,this.2⟩
end DL
namespace DL
open PySem PySem.Spec PyProof.Rows L2
def keyD : D -> Option Key
 | .int i => some (.inl i)
 | .str x => some (.inr x)
 | _ => none
def dGet : List Key -> List D -> Key -> Option D
 | k :: ks,d :: ds,q => if k = q then some d else dGet ks ds q
 | _,_,_ => none
def dSet : List Key -> List D -> Key -> D -> List D
 | k :: ks,d :: ds,q,v => (if k = q then v else d) :: dSet ks ds q v
 | _,ds,_,_ => ds
section
variable {K : PySem.W.Frag} {B : Addr -> Prop} {H : Hp}
def dPutK (ks : List Key) (q : Key) : List Key := if (ks.any fun k => decide (k = q)) = true then ks else ks ++ [q]
def dPutV (ks : List Key) (ds : List D) (q : Key) (d : D) : List D := if (ks.any fun k => decide (k = q)) = true then dSet ks ds q d else ds ++ [d]
end
section
variable {X : Cx} {E : XK} {m : Md} {a b e o i : Expr} {fa fb fe fo fi : Fn} {pos p : Pos} {fr : Rm} {x : Str}
def fDic0 : Fn := fun _ => .ok (.dic [] [])
theorem DGet.r {H : Hp} {a : Addr} {kvs : List (Key × V)} {k : Key} (e : Rd H a (.dK kvs)) : DGet H a (kV k) (valV kvs k) := .inl ⟨kvs,k,e,rfl,rfl⟩
theorem Rd.same {H H' : Hp} {a : Addr} {u : HO} (r : Rd H a u) (e : Same H H') : Rd H' a u := r.elim (fun h => .inl (e _ _ h)) fun ⟨o,h⟩ => .inr ⟨o,e _ _ h⟩
def gDIx : D -> D -> Ou D
 | .dic ks ds,k => (match keyD k with
  | some q => (match dGet ks ds q with
   | some d => .ok d
   | none => .bad)
  | none => .bad)
 | _,_ => .bad
def fIxD (j : Nat) (fk : Fn) : Fn := fun δ => match δ[j]? with
 | some (.own (.dic ks ds)) => (fk δ).bind fun k => gDIx (.dic ks ds) k
 | _ => .bad
def gDIn (neg : Bool) : D -> D -> Ou D
 | k,.dic ks ds => (match keyD k with
  | some q => if ds.length = ks.length then .ok (.bl (let z := (dGet ks ds q).isSome; if neg then !z else z)) else .bad
  | none => .bad)
 | _,_ => .bad
def fDGet1 (fo fe : Fn) : Fn := fun δ => (fo δ).bind fun d => match d with
 | .dic ks ds => (fe δ).bind fun k => (match keyD k with
  | some q => .ok ((dGet ks ds q).getD .non)
  | none => .bad)
 | _ => .bad
def sDPut (j : Nat) (fk fv : Fn) : Sm := fun δ => (fv δ).bind fun d => match δ[j]? with
 | some (.own (.dic ks ds)) => (fk δ).bind fun k => (match keyD k with
  | some q => if ks.length < sizeLine then .ok (.nx (δ.set j (.own (.dic (dPutK ks q) (dPutV ks ds q d))))) else .bad
  | none => .bad)
 | _ => .bad
def gDictOf : D -> Ou D
 | .dic ks ds => .ok (.dic ks ds)
 | _ => .bad
def fDictO (j : Nat) : Fn := fun δ => match δ[j]? with
 | some (.own (.dic ks ds)) => .ok (.dic ks ds)
 | _ => .bad
end
end DL
namespace DL
open PySem PySem.Spec PyProof.Rows L2
def ins (n : Int) : List Int -> List Int
 | [] => [n]
 | m :: r => if n ≤ m then n :: m :: r else m :: ins n r
def isort : List Int -> List Int
 | [] => []
 | n :: r => ins n (isort r)
theorem ins_perm (n : Int) : ∀ r : List Int,(ins n r).Perm (n :: r)
 | [] => List.Perm.refl _
 | m :: r => by
  unfold ins
  by_cases h : n ≤ m
  ·rw [if_pos h]
  ·rw [if_neg h]
   exact ((ins_perm n r).cons m).trans (List.Perm.swap n m r)
theorem isort_perm : ∀ r : List Int,(isort r).Perm r
 | [] => List.Perm.refl _
 | n :: r => (ins_perm n _).trans ((isort_perm r).cons n)
theorem ins_sorted (n : Int) : ∀ {r : List Int},r.Pairwise (· ≤ ·) -> (ins n r).Pairwise (· ≤ ·)
 | [],_ => by simp [ins]
 | m :: r,h => by
  unfold ins
  have h' := List.pairwise_cons.mp h
  by_cases hn : n ≤ m
  ·rw [if_pos hn]
   refine List.pairwise_cons.mpr ⟨fun x hx => ?_,h⟩
   rcases List.mem_cons.mp hx with rfl | hx
   ·exact hn
   ·exact Int.le_trans hn (h'.1 x hx)
  ·rw [if_neg hn]
   refine List.pairwise_cons.mpr ⟨fun x hx => ?_,ins_sorted n h'.2⟩
   rcases List.mem_cons.mp ((ins_perm n r).mem_iff.mp hx) with rfl | hx
   ·lia
   ·exact h'.1 x hx
theorem isort_sorted : ∀ r : List Int,(isort r).Pairwise (· ≤ ·)
 | [] => List.Pairwise.nil
 | n :: r => ins_sorted n (isort_sorted r)
theorem isort_uniq {a ns : List Int} (hp : a.Perm ns) (ha : a.Pairwise (· ≤ ·)) : a = isort ns := PySem.W.ksm_same (hp.trans (isort_perm ns).symm) ha (isort_sorted ns)
theorem vals_ints : ∀ {ns : List Int} {us : List Value},Vals (ns.map V.int) us -> IntsAre us ns
 | [],us,r => by cases r; exact .nil
 | n :: ns,us,r => by
  cases r with
  | cons h t =>
   obtain ⟨tk,rfl⟩ := h
   exact .cons n tk (vals_ints t)
theorem ints_vals : ∀ {us : List Value} {ns : List Int},IntsAre us ns -> Vals (ns.map V.int) us
 | _,_,.nil => .nil
 | _,_,.cons n t h => .cons ⟨t,rfl⟩ (ints_vals h)
section
variable {X : Cx} {E : XK} {m : Md} {a b e o i : Expr} {fa fb fe fo fi : Fn} {pos p : Pos} {fr : Rm} {x : Str}
def intK : Key -> Option Int
 | .inl n => some n
 | _ => none
def intsD : List D -> Option (List Int)
 | [] => some []
 | .int n :: r => (intsD r).map (n :: ·)
 | _ => none
theorem reps_ints {K : PySem.W.Frag} {B : Addr -> Prop} {H : Hp} : ∀ {ns : List Int} {vs : List V},Reps K B H (ns.map D.int) vs -> vs = ns.map V.int
 | [],vs,r => by simpa [Reps] using r
 | n :: ns,vs,r => by
  simp only [List.map_cons,Reps] at r
  obtain ⟨v,r',rfl,h1,h2⟩ := r
  simp only [Rep] at h1
  subst h1
  rw [reps_ints h2]; rfl
def gSort (d : D) : Ou D := if rk d = 2 then (match intsD (its d) with
  | some ns => if ns.length < 64 then .ok (.lst ((isort ns).map D.int)) else .bad
  | none => .bad) else .bad
def keysI : List Key -> Option (List Int)
 | [] => some []
 | .inl n :: r => (keysI r).map (n :: ·)
 | _ => none
theorem keysI_map (ns : List Int) : keysI (ns.map Sum.inl) = some ns := by
 induction ns with
 | nil => rfl
 | cons n r ih => simp [keysI,ih]
def gSortD : D -> Ou D
 | .dic ks _ => (match keysI ks with
  | some ns => if ns.length < 64 then .ok (.lst ((isort ns).map D.int)) else .bad
  | none => .bad)
 | _ => .bad
end
end DL
namespace Tim
open PySem PyProof.Rows
def R (ρ : Keyed -> Int) (xs : Array Keyed) (i : Nat) : Int := (xs[i]?.map ρ).getD 0
def Up (ρ : Keyed -> Int) (xs : Array Keyed) (lo hi : Nat) : Prop := ∀ i j,lo ≤ i -> i ≤ j -> j < hi -> R ρ xs i ≤ R ρ xs j
def Dn (ρ : Keyed -> Int) (xs : Array Keyed) (lo hi : Nat) : Prop := ∀ i j,lo ≤ i -> i ≤ j -> j < hi -> R ρ xs j ≤ R ρ xs i
def Stays (xs ys : Array Keyed) (lo hi : Nat) : Prop := ∀ i,i < lo ∨ hi ≤ i -> ys[i]? = xs[i]?
theorem Stays.refl (xs : Array Keyed) (lo hi : Nat) : Stays xs xs lo hi := fun _ _ => rfl
theorem Stays.trans {xs ys zs : Array Keyed} {lo hi : Nat} (h : Stays xs ys lo hi) (k : Stays ys zs lo hi) : Stays xs zs lo hi := fun i hi => (k i hi).trans (h i hi)
theorem R_of {ρ : Keyed -> Int} {xs ys : Array Keyed} {i j : Nat} (h : xs[i]? = ys[j]?) : R ρ xs i = R ρ ys j := by unfold R; rw [h]
theorem Stays.mirror {xs : Array Keyed} {i j lo hi : Nat} (hj : j ≤ xs.size) (h1 : lo ≤ i) (h2 : j ≤ hi) : Stays xs (mirror xs i j ((j - i) / 2)) lo hi := fun k hk => by
 rw [getElem?_mirror_all hj,if_neg (by lia)]
structure Bs (κ : SortKind) (a₀ : Array Keyed) (st : SortSt) : Prop where
 perm : (arrOf st).Perm a₀
 kind : kindOf st = κ
 fine : failedOf st = none
theorem Bs.size {κ : SortKind} {a₀ : Array Keyed} {st : SortSt} (h : Bs κ a₀ st) : (arrOf st).size = a₀.size := h.perm.size_eq
theorem Bs.put {κ : SortKind} {a₀ : Array Keyed} {st : SortSt} (h : Bs κ a₀ st) {xs : Array Keyed} (hp : xs.Perm (arrOf st)) : Bs κ a₀ (setArr st xs) := ⟨hp.trans h.perm,h.kind,h.fine⟩
theorem Bs.has {κ : SortKind} {a₀ : Array Keyed} {st : SortSt} (h : Bs κ a₀ st) {i : Nat} (hi : i < a₀.size) : ∃ x,(arrOf st)[i]? = some x ∧ x ∈ a₀.toList := by
 have hi' : i < (arrOf st).size := by rw [h.size]; exact hi
 exact ⟨(arrOf st)[i],getElem?_pos _ i hi',(Array.perm_iff_toList_perm.mp h.perm).mem_iff.mp (by simp)⟩
section
variable {prog : Program} {w : World} {A : Around} {E : Value -> Shared -> Prop} {s : Shared} {κ : SortKind} {ρ : Keyed -> Int} {a₀ : Array Keyed}
def Told (prog : Program) (w : World) (A : Around) (s : Shared) (κ : SortKind) (ρ : Keyed -> Int) (a₀ : Array Keyed) : Prop :=
 ∀ x,x ∈ a₀.toList -> ∀ y,y ∈ a₀.toList -> ∀ (E : Value -> Shared -> Prop) (Q : Bool -> Shared -> Prop),Q (decide (ρ x < ρ y)) s -> wpAny (model prog w) A (keyLt' κ x.1 y.1) Q E s
abbrev St1 := Option (Option Nat) × Nat
abbrev St2 := Option (Option Nat) × Nat × Nat
def upL (lo a m : Nat) : StateT SortSt Sem St1 := forIn [a:m] ((none,a) : St1) fun _ r => do
 let x ← ltAt' (lo + r.snd) (lo + r.snd - 1)
 match x with
 | some b => if b = true then pure (.done (none,r.snd)) else pure (.yield (none,r.snd + 1))
 | _ => pure (.done (some none,r.snd))
def endL (lo n m : Nat) : StateT SortSt Sem (Option Nat) := do
 reverseSlice' lo (lo + n)
 let r ← upL lo n m
 match r.fst with
 | some z => pure z
 | none => pure (some r.snd)
def dnL (lo n m : Nat) : StateT SortSt Sem St2 := forIn [n:m] ((none,n,0) : St2) fun _ r => do
 let x ← ltAt' (lo + r.snd.fst) (lo + r.snd.fst - 1)
 match x with
 | some b =>
  if b = true then
   if r.snd.snd > 0 then do
    reverseSlice' (lo + r.snd.fst - (r.snd.snd + 1)) (lo + r.snd.fst)
    pure (.yield (none,r.snd.fst + 1,0))
   else pure (.yield (none,r.snd.fst + 1,0))
  else do
   let y ← ltAt' (lo + r.snd.fst - 1) (lo + r.snd.fst)
   match y with
   | some c => if c = true then pure (.done (none,r.snd.fst,r.snd.snd)) else pure (.yield (none,r.snd.fst + 1,r.snd.snd + 1))
   | _ => pure (.done (some none,r.snd.fst,r.snd.snd))
 | _ => pure (.done (some none,r.snd.fst,r.snd.snd))
def fallL (lo n m : Nat) : StateT SortSt Sem (Option Nat) := do
 liftM (rule "list.sort.descending-run")
 let r ← dnL lo (n + 1) m
 match r.fst with
 | some z => pure z
 | none =>
  if r.snd.snd > 0 then do
   reverseSlice' (lo + r.snd.fst - (r.snd.snd + 1)) (lo + r.snd.fst)
   endL lo r.snd.fst m
  else endL lo r.snd.fst m
def runL (lo m : Nat) : StateT SortSt Sem (Option Nat) := do
 let r ← upL lo 1 m
 match r.fst with
 | some z => pure z
 | none =>
  if (r.snd == m) = true then pure (some r.snd)
  else if r.snd > 1 then do
   let x ← ltAt' lo (lo + r.snd - 1)
   match x with
   | some b => if b = true then pure (some r.snd) else do
     reverseSlice' lo (lo + r.snd)
     fallL lo r.snd m
   | _ => pure none
  else fallL lo r.snd m
end
def gallop' : Bool -> Keyed -> Array Keyed -> Nat -> Nat -> Nat -> StateT SortSt Sem (Option Nat) := sortPriv% PySem.Builtin.gallop
section
variable {prog : Program} {w : World} {A : Around} {E : Value -> Shared -> Prop} {s : Shared} {κ : SortKind} {ρ : Keyed -> Int} {a₀ : Array Keyed}
def goes (ρ : Keyed -> Int) (left : Bool) (key : Keyed) (arr : Array Keyed) (i : Nat) : Bool := if left then decide (R ρ arr i < ρ key) else !decide (ρ key < R ρ arr i)
def asks (left : Bool) (key : Keyed) (arr : Array Keyed) (base i : Nat) : StateT SortSt Sem (Option Bool) := do
 let x ← elem' arr (base + i)
 if left = true then lt' x key else do
  let b ← lt' key x
  pure (Option.map (fun x => !x) b)
def Among (a₀ arr : Array Keyed) : Prop := ∀ i,i < arr.size -> ∃ x,arr[i]? = some x ∧ x ∈ a₀.toList
end
structure J (ρ : Keyed -> Int) (a b out : Array Keyed) (ia ib : Nat) : Prop where
 perm : out.toList.Perm (a.toList.take ia ++ b.toList.take ib)
 srt : out.toList.Pairwise fun x y => ρ x ≤ ρ y
 ca : ∀ x,x ∈ out.toList -> ∀ j,ia ≤ j -> j < a.size -> ρ x ≤ R ρ a j
 cb : ∀ x,x ∈ out.toList -> ∀ j,ib ≤ j -> j < b.size -> ρ x ≤ R ρ b j
theorem J.swap {ρ : Keyed -> Int} {a b out : Array Keyed} {ia ib : Nat} (h : J ρ a b out ia ib) : J ρ b a out ib ia := ⟨h.perm.trans List.perm_append_comm,h.srt,h.cb,h.ca⟩
theorem mem_part {a : Array Keyed} {i k : Nat} {x : Keyed} (h : x ∈ (a.toList.drop i).take k) : ∃ j,i ≤ j ∧ j < i + k ∧ j < a.size ∧ a[j]? = some x := by
 obtain ⟨n,hn⟩ := List.getElem?_of_mem h
 rw [List.getElem?_take] at hn
 by_cases c : n < k
 ·rw [if_pos c,List.getElem?_drop,Array.getElem?_toList] at hn
  exact ⟨i + n,by lia,by lia,(Array.getElem?_eq_some_iff.mp hn).1,hn⟩
 ·rw [if_neg c] at hn; cases hn
theorem R_some {ρ : Keyed -> Int} {a : Array Keyed} {j : Nat} {x : Keyed} (h : a[j]? = some x) : R ρ a j = ρ x := by unfold R; rw [h]; rfl
theorem J.more {ρ : Keyed -> Int} {a b out out' : Array Keyed} {ia ib k : Nat} (h : J ρ a b out ia ib) (ua : Up ρ a 0 a.size) (hk : ia + k ≤ a.size) (ho : out'.toList = out.toList ++ (a.toList.drop ia).take k)
  (hc : ∀ i j,ia ≤ i -> i < ia + k -> ib ≤ j -> j < b.size -> R ρ a i ≤ R ρ b j) : J ρ a b out' (ia + k) ib := by
 have e : a.toList.take (ia + k) = a.toList.take ia ++ (a.toList.drop ia).take k := List.take_add
 refine ⟨?_,?_,fun x hx j j1 j2 => ?_,fun x hx j j1 j2 => ?_⟩
 ·rw [ho,e]
  refine (h.perm.append_right _).trans ?_
  rw [List.append_assoc,List.append_assoc]
  exact List.Perm.append_left _ List.perm_append_comm
 ·rw [ho]
  refine List.pairwise_append.mpr ⟨h.srt,?_,fun x hx y hy => ?_⟩
  ·rw [List.pairwise_iff_getElem]
   intro i j hi hj hij
   have hi' : ((a.toList.drop ia).take k)[i]? = some ((a.toList.drop ia).take k)[i] := List.getElem?_eq_getElem hi
   have hj' : ((a.toList.drop ia).take k)[j]? = some ((a.toList.drop ia).take k)[j] := List.getElem?_eq_getElem hj
   have l1 : i < k := by simp at hi; lia
   have l2 : j < k := by simp at hj; lia
   rw [List.getElem?_take,if_pos l1,List.getElem?_drop,Array.getElem?_toList] at hi'
   rw [List.getElem?_take,if_pos l2,List.getElem?_drop,Array.getElem?_toList] at hj'
   rw [← R_some (ρ := ρ) hi',← R_some (ρ := ρ) hj']
   exact ua _ _ (Nat.zero_le _) (by lia) (by lia)
  ·obtain ⟨j,j1,j2,j3,ej⟩ := mem_part hy
   rw [← R_some (ρ := ρ) ej]
   exact h.ca x hx j j1 j3
 ·rw [ho] at hx
  rcases List.mem_append.mp hx with hx | hx
  ·exact h.ca x hx j (by lia) j2
  ·obtain ⟨i,i1,i2,i3,ei⟩ := mem_part hx
   rw [← R_some (ρ := ρ) ei]
   exact ua _ _ (Nat.zero_le _) (by lia) j2
 ·rw [ho] at hx
  rcases List.mem_append.mp hx with hx | hx
  ·exact h.cb x hx j j1 j2
  ·obtain ⟨i,i1,i2,i3,ei⟩ := mem_part hx
   rw [← R_some (ρ := ρ) ei]
   exact hc i j i1 i2 j1 j2
theorem part_toList (a : Array Keyed) (i j : Nat) : (a.extract i j).toList = (a.toList.drop i).take (j - i) := by
 rw [Array.toList_extract,List.extract_eq_take_drop]
theorem one_part {a : Array Keyed} {i : Nat} {x : Keyed} (h : a[i]? = some x) : (a.toList.drop i).take 1 = [x] := by
 obtain ⟨hi,e⟩ := Array.getElem?_eq_some_iff.mp h
 rw [List.drop_eq_getElem_cons (by simpa using hi)]
 simp [e]
theorem J.push {ρ : Keyed -> Int} {a b out : Array Keyed} {ia ib : Nat} {x : Keyed} (h : J ρ a b out ia ib) (ua : Up ρ a 0 a.size) (hx : a[ia]? = some x) (hc : ∀ j,ib ≤ j -> j < b.size -> ρ x ≤ R ρ b j) : J ρ a b (out.push x) (ia + 1) ib := by
 have hi := (Array.getElem?_eq_some_iff.mp hx).1
 refine h.more ua hi (by rw [one_part hx,Array.toList_push]) fun i j i1 i2 j1 j2 => ?_
 obtain rfl : i = ia := by lia
 rw [R_some hx]
 exact hc j j1 j2
theorem J.run {ρ : Keyed -> Int} {a b out : Array Keyed} {ia ib k : Nat} (h : J ρ a b out ia ib) (ua : Up ρ a 0 a.size) (hk : ia + k ≤ a.size) (hc : ∀ i j,ia ≤ i -> i < ia + k -> ib ≤ j -> j < b.size -> R ρ a i ≤ R ρ b j) : J ρ a b (out ++ a.extract ia (ia + k)) (ia + k) ib :=
 h.more ua hk (by rw [Array.toList_append,part_toList]; congr 2; lia) hc
def Both (ρ : Keyed -> Int) (a b out : Array Keyed) : Prop := out.toList.Perm (a.toList ++ b.toList) ∧ out.toList.Pairwise fun x y => ρ x ≤ ρ y
theorem J.all {ρ : Keyed -> Int} {a b out : Array Keyed} {ia ib : Nat} (h : J ρ a b out ia ib) (ha : a.size ≤ ia) (hb : b.size ≤ ib) : Both ρ a b out := by
 refine ⟨?_,h.srt⟩
 have p := h.perm
 rw [List.take_of_length_le (by simpa using ha),List.take_of_length_le (by simpa using hb)] at p
 exact p
theorem J.last {ρ : Keyed -> Int} {a b out : Array Keyed} {ia ib : Nat} (h : J ρ a b out ia ib) (ua : Up ρ a 0 a.size) (ub : Up ρ b 0 b.size) (ha : ia + 1 = a.size) (hb : ib ≤ b.size) (hl : ∀ j,j < b.size -> R ρ b j ≤ R ρ a (a.size - 1)) :
  Both ρ a b (out ++ b.extract ib b.size ++ a.extract ia a.size) := by
 have k := (h.swap.run (k := b.size - ib) ub (by lia) fun i j i1 i2 j1 j2 => by
  rw [show j = a.size - 1 by lia]
  exact hl i (by lia)).swap
 rw [show ib + (b.size - ib) = b.size by lia] at k
 have k2 := k.run (k := a.size - ia) ua (by lia) fun i j i1 i2 j1 j2 => by lia
 rw [show ia + (a.size - ia) = a.size by lia] at k2
 exact k2.all (Nat.le_refl _) (Nat.le_refl _)
def mergeLo' : Array Keyed -> Array Keyed -> StateT SortSt Sem (Array Keyed) := sortPriv% PySem.Builtin.mergeLo
def setMinGallop' : Nat -> StateT SortSt Sem Unit := sortPriv% PySem.Builtin.setMinGallop
abbrev setG (st : SortSt) (g : Nat) : SortSt := SortSt.mk' (kindOf st) (arrOf st) (pendingOf st) g (failedOf st)
section
variable {prog : Program} {w : World} {A : Around} {E : Value -> Shared -> Prop} {s : Shared} {κ : SortKind} {ρ : Keyed -> Int} {a₀ : Array Keyed}
theorem Among.get {a : Array Keyed} (m : Among a₀ a) {i : Nat} (hi : i < a.size) : ∃ x,a[i]? = some x ∧ x ∈ a₀.toList ∧ R ρ a i = ρ x := by
 obtain ⟨x,ex,mx⟩ := m i hi
 exact ⟨x,ex,mx,R_some ex⟩
structure Way (ρ : Keyed -> Int) (a b out : Array Keyed) (ia ib n : Nat) : Prop where
 j : J ρ a b out ia ib
 ha : ia + 1 < a.size
 hb : ib < b.size
 hn : n ≤ ia + ib
def Step (ρ : Keyed -> Int) (a b : Array Keyed) (st : SortSt) (n : Nat) : ForInStep (Option (Array Keyed) × Array Keyed × Nat × Nat × Nat × Nat × Nat) -> SortSt -> Prop
 | .done c,st' => ∃ g,st' = setG st g ∧ ((∃ r z,c = (some r,z) ∧ Both ρ a b r) ∨ ∃ out ia ib mg ac bc,c = (none,out,ia,ib,mg,ac,bc) ∧ Way ρ a b out ia ib n)
 | .yield c,st' => ∃ g out ia ib mg ac bc,st' = setG st g ∧ c = (none,out,ia,ib,mg,ac,bc) ∧ Way ρ a b out ia ib n
theorem Up.part {xs : Array Keyed} {lo hi lo' hi' : Nat} (h : Up ρ xs lo hi) (h1 : lo ≤ lo') (h2 : hi' ≤ hi) : Up ρ xs lo' hi' := fun i j q1 q2 q3 => h i j (by lia) q2 (by lia)
end
structure H (ρ : Keyed -> Int) (a b out : Array Keyed) (na nb : Nat) : Prop where
 perm : out.toList.Perm (a.toList.drop na ++ b.toList.drop nb)
 srt : out.toList.Pairwise fun x y => ρ y ≤ ρ x
 ca : ∀ x,x ∈ out.toList -> ∀ j,j < na -> R ρ a j ≤ ρ x
 cb : ∀ x,x ∈ out.toList -> ∀ j,j < nb -> R ρ b j ≤ ρ x
theorem H.swap {ρ : Keyed -> Int} {a b out : Array Keyed} {na nb : Nat} (h : H ρ a b out na nb) : H ρ b a out nb na := ⟨h.perm.trans List.perm_append_comm,h.srt,h.cb,h.ca⟩
theorem H.more {ρ : Keyed -> Int} {a b out out' : Array Keyed} {na nb m : Nat} (h : H ρ a b out na nb) (ua : Up ρ a 0 a.size) (hm : m ≤ na) (hz : na ≤ a.size) (ho : out'.toList = out.toList ++ ((a.toList.drop m).take (na - m)).reverse)
  (hc : ∀ i j,m ≤ i -> i < na -> j < nb -> R ρ b j ≤ R ρ a i) : H ρ a b out' m nb := by
 have e : a.toList.drop m = (a.toList.drop m).take (na - m) ++ a.toList.drop na := by
  have := (List.take_append_drop (na - m) (a.toList.drop m)).symm
  rwa [List.drop_drop,show m + (na - m) = na by lia] at this
 refine ⟨?_,?_,fun x hx j j1 => ?_,fun x hx j j1 => ?_⟩
 ·rw [ho]
  have p1 := ((a.toList.drop m).take (na - m)).reverse_perm
  refine (h.perm.append_right _).trans (List.perm_append_comm.trans ((p1.append_right _).trans ?_))
  rw [← List.append_assoc,← e]
 ·rw [ho]
  refine List.pairwise_append.mpr ⟨h.srt,?_,fun x hx y hy => ?_⟩
  ·rw [List.pairwise_reverse,List.pairwise_iff_getElem]
   intro i j hi hj hij
   have hi' : ((a.toList.drop m).take (na - m))[i]? = some ((a.toList.drop m).take (na - m))[i] := List.getElem?_eq_getElem hi
   have hj' : ((a.toList.drop m).take (na - m))[j]? = some ((a.toList.drop m).take (na - m))[j] := List.getElem?_eq_getElem hj
   have l1 : i < na - m := by simp at hi; lia
   have l2 : j < na - m := by simp at hj; lia
   rw [List.getElem?_take,if_pos l1,List.getElem?_drop,Array.getElem?_toList] at hi'
   rw [List.getElem?_take,if_pos l2,List.getElem?_drop,Array.getElem?_toList] at hj'
   rw [← R_some (ρ := ρ) hi',← R_some (ρ := ρ) hj']
   exact ua _ _ (Nat.zero_le _) (by lia) (by lia)
  ·obtain ⟨j,j1,j2,j3,ej⟩ := mem_part (List.mem_reverse.mp hy)
   rw [← R_some (ρ := ρ) ej]
   exact h.ca x hx j (by lia)
 ·rw [ho] at hx
  rcases List.mem_append.mp hx with hx | hx
  ·exact h.ca x hx j (by lia)
  ·obtain ⟨i,i1,i2,i3,ei⟩ := mem_part (List.mem_reverse.mp hx)
   rw [← R_some (ρ := ρ) ei]
   exact ua _ _ (Nat.zero_le _) (by lia) i3
 ·rw [ho] at hx
  rcases List.mem_append.mp hx with hx | hx
  ·exact h.cb x hx j j1
  ·obtain ⟨i,i1,i2,i3,ei⟩ := mem_part (List.mem_reverse.mp hx)
   rw [← R_some (ρ := ρ) ei]
   exact hc i j i1 (by lia) j1
theorem H.push {ρ : Keyed -> Int} {a b out : Array Keyed} {na nb : Nat} {x : Keyed} (h : H ρ a b out na nb) (ua : Up ρ a 0 a.size) (h1 : 1 ≤ na) (hz : na ≤ a.size) (hx : a[na - 1]? = some x) (hc : ∀ j,j < nb -> R ρ b j ≤ ρ x) : H ρ a b (out.push x) (na - 1) nb := by
 refine h.more ua (by lia) hz (by rw [show na - (na - 1) = 1 by lia,one_part hx,Array.toList_push]; rfl) fun i j i1 i2 j1 => ?_
 obtain rfl : i = na - 1 := by lia
 rw [R_some hx]
 exact hc j j1
theorem H.run {ρ : Keyed -> Int} {a b out : Array Keyed} {na nb m : Nat} (h : H ρ a b out na nb) (ua : Up ρ a 0 a.size) (hm : m ≤ na) (hz : na ≤ a.size) (hc : ∀ i j,m ≤ i -> i < na -> j < nb -> R ρ b j ≤ R ρ a i) : H ρ a b (out ++ (a.extract m na).reverse) m nb :=
 h.more ua hm hz (by rw [Array.toList_append,Array.toList_reverse,part_toList]) hc
theorem H.all {ρ : Keyed -> Int} {a b out : Array Keyed} (h : H ρ a b out 0 0) : Both ρ a b out.reverse := by
 refine ⟨?_,?_⟩
 ·rw [Array.toList_reverse]
  exact (List.reverse_perm _).trans h.perm
 ·rw [Array.toList_reverse,List.pairwise_reverse]
  exact h.srt
theorem H.first {ρ : Keyed -> Int} {a b out : Array Keyed} {na nb : Nat} (h : H ρ a b out na nb) (ua : Up ρ a 0 a.size) (ub : Up ρ b 0 b.size) (hb : nb = 1) (hz : nb ≤ b.size) (ha : na ≤ a.size) (hf : ∀ j,j < a.size -> R ρ b 0 ≤ R ρ a j) :
  Both ρ a b (b.extract 0 nb ++ a.extract 0 na ++ out.reverse) := by
 have k := h.run (m := 0) ua (Nat.zero_le _) ha fun i j i1 i2 j1 => by
  rw [show j = 0 by lia]
  exact hf i (by lia)
 have k2 := (k.swap.run (m := 0) ub (Nat.zero_le _) hz fun i j i1 i2 j1 => by lia).swap
 have q := k2.all
 have e : (out ++ (a.extract 0 na).reverse ++ (b.extract 0 nb).reverse).reverse = b.extract 0 nb ++ a.extract 0 na ++ out.reverse := by
  apply Array.toList_inj.mp
  simp
 rw [e] at q
 exact q
def mergeHi' : Array Keyed -> Array Keyed -> StateT SortSt Sem (Array Keyed) := sortPriv% PySem.Builtin.mergeHi
structure WayH (ρ : Keyed -> Int) (a b out : Array Keyed) (na nb n : Nat) : Prop where
 j : H ρ a b out na nb
 ha : 1 ≤ na
 za : na ≤ a.size
 hb : 2 ≤ nb
 zb : nb ≤ b.size
 hn : n + na + nb ≤ a.size + b.size
def StepH (ρ : Keyed -> Int) (a b : Array Keyed) (st : SortSt) (n : Nat) : ForInStep (Option (Array Keyed) × Nat × Nat × Array Keyed × Nat × Nat × Nat) -> SortSt -> Prop
 | .done c,st' => ∃ g,st' = setG st g ∧ ((∃ r z,c = (some r,z) ∧ Both ρ a b r) ∨ ∃ out na nb mg ac bc,c = (none,na,nb,out,mg,ac,bc) ∧ WayH ρ a b out na nb n)
 | .yield c,st' => ∃ g out na nb mg ac bc,st' = setG st g ∧ c = (none,na,nb,out,mg,ac,bc) ∧ WayH ρ a b out na nb n
section
variable {prog : Program} {w : World} {A : Around} {E : Value -> Shared -> Prop} {s : Shared} {κ : SortKind} {ρ : Keyed -> Int} {a₀ : Array Keyed}
end
theorem up_of {ρ : Keyed -> Int} {xs : Array Keyed} (h : xs.toList.Pairwise fun x y => ρ x ≤ ρ y) : Up ρ xs 0 xs.size := by
 intro i j _ hij hj
 by_cases c : i = j
 ·rw [c]; exact Int.le_refl _
 ·have := List.pairwise_iff_getElem.mp h i j (by simp; lia) (by simp; lia) (by lia)
  simp only [Array.getElem_toList] at this
  rw [R_some (Array.getElem?_eq_getElem (show i < xs.size by lia)),R_some (Array.getElem?_eq_getElem hj)]
  exact this
theorem of_up {ρ : Keyed -> Int} {xs : Array Keyed} {lo k : Nat} (u : Up ρ xs lo (lo + k)) (hz : lo + k ≤ xs.size) : ((xs.toList.drop lo).take k).Pairwise fun x y => ρ x ≤ ρ y := by
 rw [List.pairwise_iff_getElem]
 intro i j hi hj hij
 have hi' : ((xs.toList.drop lo).take k)[i]? = some ((xs.toList.drop lo).take k)[i] := List.getElem?_eq_getElem hi
 have hj' : ((xs.toList.drop lo).take k)[j]? = some ((xs.toList.drop lo).take k)[j] := List.getElem?_eq_getElem hj
 have l1 : i < k := by simp at hi; lia
 have l2 : j < k := by simp at hj; lia
 rw [List.getElem?_take,if_pos l1,List.getElem?_drop,Array.getElem?_toList] at hi'
 rw [List.getElem?_take,if_pos l2,List.getElem?_drop,Array.getElem?_toList] at hj'
 rw [← R_some (ρ := ρ) hi',← R_some (ρ := ρ) hj']
 exact u _ _ (by lia) (by lia) (by lia)
theorem get_part {xs : Array Keyed} {i j k : Nat} (hj : j ≤ xs.size) (hk : k < j - i) : (xs.extract i j)[k]? = xs[i + k]? := by
 rw [Array.getElem?_extract,if_pos (by rw [Nat.min_eq_left hj]; exact hk)]
theorem size_part {xs : Array Keyed} {i j : Nat} (hj : j ≤ xs.size) : (xs.extract i j).size = j - i := by
 rw [Array.size_extract,Nat.min_eq_left hj]
theorem R_part {ρ : Keyed -> Int} {xs : Array Keyed} {i j k : Nat} (hj : j ≤ xs.size) (hk : k < j - i) : R ρ (xs.extract i j) k = R ρ xs (i + k) := R_of (get_part hj hk)
theorem Up.cut {ρ : Keyed -> Int} {xs : Array Keyed} {i j : Nat} (u : Up ρ xs i j) (hj : j ≤ xs.size) : Up ρ (xs.extract i j) 0 (xs.extract i j).size := by
 intro p q _ h1 h2
 rw [size_part hj] at h2
 rw [R_part hj (by lia),R_part hj h2]
 exact u _ _ (by lia) (by lia) (by lia)
theorem Among.of {κ : SortKind} {a₀ : Array Keyed} {st : SortSt} (h : Bs κ a₀ st) : Among a₀ (arrOf st) := fun i hi => h.has (by rw [← h.size]; exact hi)
theorem Among.cut {a₀ xs : Array Keyed} (m : Among a₀ xs) {i j : Nat} (hj : j ≤ xs.size) : Among a₀ (xs.extract i j) := fun k hk => by
 rw [size_part hj] at hk
 rw [get_part hj hk]
 exact m _ (by lia)
theorem laid {ρ : Keyed -> Int} {xs out : Array Keyed} {k m n : Nat} (u1 : Up ρ xs 0 m) (u2 : Up ρ xs m xs.size) (hk : k ≤ m) (hn : m + n ≤ xs.size) (hk2 : 0 < n) (h : Both ρ (xs.extract k m) (xs.extract m (m + n)) out)
  (f1 : ∀ i,i < k -> R ρ xs i ≤ R ρ xs m) (f2 : ∀ i,i < m -> ∀ j,m + n ≤ j -> j < xs.size -> R ρ xs i ≤ R ρ xs j) :
  ∀ ys : Array Keyed,ys.toList = xs.toList.take k ++ out.toList ++ xs.toList.drop (k + out.toList.length) -> ys.Perm xs ∧ Up ρ ys 0 ys.size := by
 obtain ⟨p,so⟩ := h
 have hlen := p.length_eq
 rw [List.length_append,Array.length_toList,Array.length_toList,Array.length_toList,size_part (Nat.le_trans (Nat.le_add_right m n) hn),size_part hn,Nat.add_sub_cancel_left] at hlen
 rw [part_toList,part_toList] at p
 rw [← Array.length_toList] at hlen
 have hkm : k + (m - k + n) = m + n := by rw [← Nat.add_assoc,Nat.add_sub_cancel' hk]
 intro ys hy
 rw [hlen,hkm] at hy
 have mem : ∀ x,x ∈ out.toList -> ∃ j,k ≤ j ∧ j < m + n ∧ xs[j]? = some x := fun x hx => by
  rcases List.mem_append.mp (p.mem_iff.mp hx) with q | q
  ·obtain ⟨j,j1,j2,_,e⟩ := mem_part q
   exact ⟨j,j1,by lia,e⟩
  ·obtain ⟨j,j1,j2,_,e⟩ := mem_part q
   exact ⟨j,by lia,by lia,e⟩
 have memD : ∀ x,x ∈ xs.toList.drop (m + n) -> ∃ j,m + n ≤ j ∧ j < xs.size ∧ xs[j]? = some x := fun x hx => by
  obtain ⟨i,hi⟩ := List.getElem?_of_mem hx
  rw [List.getElem?_drop,Array.getElem?_toList] at hi
  exact ⟨m + n + i,by lia,(Array.getElem?_eq_some_iff.mp hi).1,hi⟩
 have memT : ∀ x,x ∈ xs.toList.take k -> ∃ j,j < k ∧ xs[j]? = some x := fun x hx => by
  have hx' : x ∈ (xs.toList.drop 0).take k := by simpa using hx
  obtain ⟨j,j1,j2,_,e⟩ := mem_part hx'
  exact ⟨j,by lia,e⟩
 constructor
 ·rw [Array.perm_iff_toList_perm,hy]
  have e : xs.toList = xs.toList.take k ++ ((xs.toList.drop k).take (m - k) ++ (xs.toList.drop m).take (m + n - m)) ++ xs.toList.drop (m + n) := by
   have e1 : xs.toList.drop k = (xs.toList.drop k).take (m - k) ++ xs.toList.drop m := by
    have := (List.take_append_drop (m - k) (xs.toList.drop k)).symm
    rwa [List.drop_drop,show k + (m - k) = m by lia] at this
   have e2 : xs.toList.drop m = (xs.toList.drop m).take (m + n - m) ++ xs.toList.drop (m + n) := by
    have := (List.take_append_drop (m + n - m) (xs.toList.drop m)).symm
    rwa [List.drop_drop,show m + (m + n - m) = m + n by lia] at this
   calc xs.toList = xs.toList.take k ++ xs.toList.drop k := (List.take_append_drop k xs.toList).symm
    _ = xs.toList.take k ++ ((xs.toList.drop k).take (m - k) ++ xs.toList.drop m) := by rw [← e1]
    _ = xs.toList.take k ++ ((xs.toList.drop k).take (m - k) ++ ((xs.toList.drop m).take (m + n - m) ++ xs.toList.drop (m + n))) := by rw [← e2]
    _ = _ := by simp only [List.append_assoc]
  refine List.Perm.trans ?_ (List.Perm.of_eq e.symm)
  exact (List.Perm.append_left _ p).append_right _
 ·apply up_of
  rw [hy]
  refine List.pairwise_append.mpr ⟨List.pairwise_append.mpr ⟨?_,so,fun x hx y hy => ?_⟩,?_,fun x hx y hy => ?_⟩
  ·have := of_up (lo := 0) (k := k) (u1.part (Nat.le_refl _) (by lia)) (by lia)
   simpa using this
  ·obtain ⟨i,i1,ei⟩ := memT x hx
   obtain ⟨j,j1,j2,ej⟩ := mem y hy
   rw [← R_some (ρ := ρ) ei,← R_some (ρ := ρ) ej]
   by_cases c : j < m
   ·exact u1 i j (Nat.zero_le _) (by lia) c
   ·exact Int.le_trans (f1 i i1) (u2 m j (Nat.le_refl _) (by lia) (by lia))
  ·have := of_up (lo := m + n) (k := xs.size - (m + n)) (u2.part (by lia) (by lia)) (by lia)
   rwa [List.take_of_length_le (by simp)] at this
  ·obtain ⟨j,j1,j2,ej⟩ := memD y hy
   rw [← R_some (ρ := ρ) ej]
   rcases List.mem_append.mp hx with q | q
   ·obtain ⟨i,i1,ei⟩ := memT x q
    rw [← R_some (ρ := ρ) ei]
    exact f2 i (by lia) j j1 j2
   ·obtain ⟨i,i1,i2,ei⟩ := mem x q
    rw [← R_some (ρ := ρ) ei]
    by_cases c : i < m
    ·exact f2 i c j j1 j2
    ·exact u2 i j (by lia) (by lia) j2
section
variable {prog : Program} {w : World} {A : Around} {E : Value -> Shared -> Prop} {s : Shared} {κ : SortKind} {ρ : Keyed -> Int} {a₀ : Array Keyed}
inductive Runs (ρ : Keyed -> Int) (a₀ : Array Keyed) (st : SortSt) : Nat -> Nat -> Prop
 | none (h : pendingOf st = #[]) : Runs ρ a₀ st 0 0
 | one (n : Nat) (h : pendingOf st = #[(0,n,0)]) (h1 : 1 ≤ n) (h2 : n ≤ a₀.size) (hm : minRun' a₀.size a₀.size 0 ≤ n) (u : Up ρ (arrOf st) 0 n) : Runs ρ a₀ st 1 n
 | both (n p : Nat) (x : Nat) (h : pendingOf st = #[(0,n,p),(n,a₀.size - n,0)]) (h1 : 1 ≤ n) (h2 : n < a₀.size) (u : Up ρ (arrOf st) 0 n) (u2 : Up ρ (arrOf st) n a₀.size) (hx : 2 ≤ x) : Runs ρ a₀ st x a₀.size
def StepR (κ : SortKind) (ρ : Keyed -> Int) (a₀ : Array Keyed) (x : Nat) : ForInStep (Option Unit × Nat) -> SortSt -> Prop
 | .done c',st' => c' = (none,a₀.size) ∧ Bs κ a₀ st' ∧ ∃ x,Runs ρ a₀ st' x a₀.size
 | .yield c',st' => ∃ lo,c' = (none,lo) ∧ Bs κ a₀ st' ∧ Runs ρ a₀ st' (x + 1) lo
end
section
variable {prog : Program} {w : World} {A : Around} {E : Value -> Shared -> Prop} {s : Shared} {κ : SortKind} {ρ : Keyed -> Int}
def during (h : Heap) (a : Addr) (vs : List Value) : Heap := ((h.update a (Obj.mapSeq fun _ => #[])).push (seqObj "tuple" vs.toArray 0)).push (seqObj "list" #[] 0)
def gathered (h : Heap) (vs : List Value) : Heap := ((h.push (seqObj "list" #[] 0)).update h.objs.size (Obj.mapSeq (· ++ vs.toArray))).push (seqObj "list" vs.toArray 0)
end
end Tim
namespace DL
open PySem PySem.Spec PyProof.Rows L2
section
variable {X : Cx} {E : XK} {m : Md} {a b e o i : Expr} {fa fb fe fo fi : Fn} {pos p : Pos} {fr : Rm} {x : Str}
def gSortB (d : D) : Ou D := if rk d = 2 then (match intsD (its d) with
  | some ns => if ns.length < 128 then .ok (.lst ((isort ns).map D.int)) else .bad
  | none => .bad) else .bad
def gSortDB : D -> Ou D
 | .dic ks _ => (match keysI ks with
  | some ns => if ns.length < 128 then .ok (.lst ((isort ns).map D.int)) else .bad
  | none => .bad)
 | _ => .bad
end
end DL
namespace DL
open PySem PySem.Spec PyProof.Rows L2
def Itv (K : PySem.W.Frag) (a : Addr) (n : Nat) : It :=
 ⟨fun i H => ∃ xs x,SqL K H a xs ∧ xs.length = n ∧ i < n ∧ xs[n - 1 - i]? = some x,fun i H x H' => H' = H ∧ ∀ xs,SqL K H a xs -> xs[n - 1 - i]? = some x,fun i _ => i = n⟩
theorem turn_rev {P : Program} {w : World} {K : PySem.W.Frag} {tg : Expr} (a it : Addr) (n : Nat) : Turn P w K tg (Itv K a n) [it] it (fun i h => h.IsRevIter it a ((n : Int) - 1 - (i : Nat))) where
 mem := by simp
 obj := fun i h st b hb => by
  have e : b = it := by simpa using hb
  subst e
  obtain ⟨o,e,c,d⟩ := st
  exact ⟨o,e,fun v z => by rw [d] at z; cases z⟩
 keep := fun i h h' st k => st.at fun o e => k it (by simp) o e
 item := by
  intro X hP hw hK hc i pins s σ H E I hf st hg
  subst hP hw hK
  obtain ⟨xs,x,hq,hn,hi,hx⟩ := hg
  obtain ⟨its,rv,p,hz⟩ := I.list hq
  obtain ⟨u,hu,ru⟩ := rv.get hx
  obtain ⟨f0,f1,f2,f3,f4,f5⟩ := hf it (by simp)
  have e1 : (n : Int) - 1 - (i : Nat) = ((n - 1 - i : Nat) : Int) := by lia
  replace st : s.heap.IsRevIter it a _ := e1 ▸ st
  refine wpAny_pyNext_rev_item st p.isList (x := u) (by simpa using hu) fun h' st' sb => ?_
  have I1 : Inv X pins σ H { s with heap := h' } := I.turned (t' := s.toks) (fun b o hb e => (sb.2 b hb).trans e) f0 f1 f3 f4 f5
  obtain ⟨o,e,c,d⟩ := id st'
  have e2 : ((n - 1 - i : Nat) : Int) - 1 = (n : Int) - 1 - ((i + 1 : Nat) : Int) := by lia
  exact ⟨u,rfl,go_of (s := { s with heap := h' }) e c d (by decide) ⟨x,H,I1,ru,⟨rfl,fun ys hy => by rw [I.list_inj hy hq]; exact hx⟩,by rw [← e2]; exact st',fun b hb => (hf b hb).1⟩⟩
 done := by
  intro X hP hw hK hc i pins s σ H E I hf st hg
  subst hP hw hK
  obtain rfl : i = n := hg
  obtain ⟨f0,f1,f2,f3,f4,f5⟩ := hf it (by simp)
  have e1 : (i : Int) - 1 - (i : Nat) = -1 := by lia
  replace st : s.heap.IsRevIter it a _ := e1 ▸ st
  exact wpAny_pyNext_rev_end (I.ok.hd hc) st fun h' eb => ⟨rfl,I.turned (t' := s.toks) (fun b o hb e => eb b o hb e) f0 f1 f3 f4 f5⟩
 self := fun _ _ _ _ _ st h => wpAny_pyIter_revIter st h
def iRev (K : PySem.W.Frag) (ta : TA) : TI := fun σ H R => ta σ H fun vs H1 => ∃ a xs,vs = [.ref a] ∧ SqL K H1 a xs ∧ R (Itv K a xs.length) H1
section
variable {X : Cx} {E : XK} {tg : Expr} {e : Expr} {fl : Fn} {F : Sm} {fr : Rm} {p pos rp : Pos}
theorem pi_rev {ta : TA} (hg : Gl X "reversed") (hm : X.mg "reversed" = none) (ha : PA X [e] ta) (hs : starEach [e] X.env = [(false,eval e X.env)] := by rfl) : PI X tg (.Call (.Name "reversed" p) [e] [] pos) (iRev X.K ta) := by
 intro pins s σ H R I h
 refine Call_ (ld_blt I hg hm (by decide +kernel : bootBuiltins "reversed" = some (.type "reversed")) (PyProof.Rows.callWith_type1 (thn (ha pos pins s σ H _ I h) fun us s1 ⟨vs,H1,I1,r1,q1⟩ => ?_) hs rfl))
 obtain ⟨a,xs,rfl,hq,q⟩ := q1
 obtain ⟨u,rfl,rx⟩ := vals1 r1
 obtain rfl : u = Value.ref a := rx
 obtain ⟨its,rv,pl,hz⟩ := I1.list hq
 have hl := rv.length
 refine call_reversed_list pl.isList ?_
 have hst : (s1.heap.push (revObj a ((its.toArray.size : Int) - 1))).IsRevIter s1.heap.objs.size a ((xs.length : Int) - 1 - ((0 : Nat) : Int)) := by
  refine ⟨_,Heap.get?_push_size _ rfl,rfl,?_⟩
  have e1 : (xs.length : Int) - 1 - ((0 : Nat) : Int) = (its.toArray.size : Int) - 1 := by simp only [List.size_toArray]; lia
  rw [e1]; rfl
 refine wpAny_pyIter_revIter hst ?_
 refine ⟨s1.heap.objs.size,[s1.heap.objs.size],_,_,H1,rfl,I1.kept (t' := s1.toks) fun b o e => Heap.get?_push_of_some _ e,turn_rev a _ xs.length,hst,fun b hb => ?_,q⟩
 have e : b = s1.heap.objs.size := by simpa using hb
 subst e
 exact I1.fpOk (Nat.le_refl _) (I1.hok.fresh (Nat.le_refl _))
def sForV (fl : Fn) (g : D -> DS -> Ou DS) (body : Sm) : Sm := fun δ => (fl δ).bind fun d => match d with
 | .lst ds => forL g body ds.reverse δ
 | .frl ds => forL g body ds.reverse δ
 | _ => .bad
theorem rev_get {α : Type} {l : List α} {i : Nat} {x : α} (h : l.reverse[i]? = some x) : i < l.length ∧ l[l.length - 1 - i]? = some x := by
 have hi : i < l.length := by
  have := (List.getElem?_eq_some_iff.mp h).1
  rwa [List.length_reverse] at this
 rw [List.getElem?_reverse hi] at h
 exact ⟨hi,h⟩
theorem rd_forV {c : Cn} {g : D -> DS -> Ou DS} {D : Ends} {K : PySem.W.Frag} {σ : St} {δ : DS} {H : Hp} {a : Addr} {d : DL.D} {ds : List DL.D} (hK : c.K = K) (ab : Abs c σ δ H) (r : Rep c.K (Av c σ δ) H d (.ref a))
  (all : ∀ B H,Rep c.K B H d (.ref a) -> ∃ xs,SqL K H a xs ∧ Reps c.K B H ds xs) (h : Res K E c.H₀ (forL g F ds.reverse δ) (EndP c fr D)) (hp : c.P.map (·.1) = fr.pin) :
  ∃ W : Nat -> Nat -> St -> Hp -> Prop,(∃ m,W 0 m σ H) ∧ ∀ i m σ H,W i m σ H ->
   ((Itv K a ds.length).stop i H ∧ D.nx σ H) ∨ ((Itv K a ds.length).go i H ∧ ∃ N : St -> Hp -> Prop,(∀ σ' H',N σ' H' -> ∃ m',m' < m ∧ W (i + 1) m' σ' H') ∧ ∀ x H',(Itv K a ds.length).yld i H x H' -> tG K E g x σ H' fun σ2 H2 => tS K E fr F { D with nx := N,ct := N,bk := D.nx } σ2 H2) := by
 have ab' : Abs { c with G := (d,.ref a) :: c.G } σ δ H := by
  refine ⟨ab.same,ab.fr,ab.len,ab.val,ab.own,fun d' v' hm => ?_,ab.inj,ab.pin⟩
  rcases List.mem_cons.mp hm with e | hm
  ·cases e; exact r
  ·exact ab.gho d' v' hm
 refine for_goes (gh := (d,.ref a) :: c.G) (fun _ _ _ _ z => z) (fun _ _ _ z => z) hK (fun _ z => List.mem_cons_of_mem _ z) ab' h (fun i σ δ H d z hd => ?_) fun σ δ H z => ?_
 ·obtain ⟨ys,w1,w2⟩ := all _ _ (z.gho _ _ List.mem_cons_self)
  obtain ⟨hi,hd'⟩ := rev_get hd
  obtain ⟨u,w3,w4⟩ := w2.get _ d hd'
  refine ⟨⟨ys,u,w1,w2.length,hi,w3⟩,fun x H' y => ⟨y.1,?_⟩⟩
  have w5 := y.2 ys w1
  rw [w3] at w5; cases w5
  exact w4
 ·show ds.reverse.length = ds.length
  exact List.length_reverse
theorem xs_forV {body : List Stmt} {g : D -> DS -> Ou DS} (hp : PassesOwn (model X.prog X.w) X.A X.env X.xe) (hc : X.calm = true) (hm : X.mg "reversed" = none) (hi : PE X e (tX X.K E .S fl)) (hg : PG X tg (tG X.K E g)) (hb : PSs X body (tS X.K E fr F))
  (hgl : Gl X "reversed" := by rfl) (he : starEach [e] X.env = [(false,eval e X.env)] := by rfl)
  (hs : ∀ x,foldedSetIterable (.Call (.Name "reversed" p) [e] [] rp) X.env x = pure x := by intro _; rfl) : PS X (.For tg (.Call (.Name "reversed" p) [e] [] rp) body [] pos) (tS X.K E fr (sForV fl g F)) :=
 (ps_for hp hc (pi_rev hgl hm (pa_cons hi pa_nil (by rw [he]; rfl)) he) hg hb hs).imp fun D σ H q => by
 obtain ⟨c,δ,hK,ab,q⟩ := q
 refine ⟨c,δ,hK,ab,(Res.bind q).imp fun d hd0 k v H1 e1 r1 => ?_⟩
 have r1' : Rep c.K (Av c σ δ) H1 d v := r1
 cases d <;> first | exact k.elim | skip
 ·rename_i ds
  have r2 := r1'
  simp only [Rep] at r2
  obtain ⟨a,xs,rfl,hb,h1,h2⟩ := r2
  refine ⟨a,xs,rfl,.of h1,?_⟩
  rw [h2.length]
  refine rd_forV hK (ab.grow e1) r1' (fun B H z => ?_) k ab.pi
  simp only [Rep] at z
  obtain ⟨b,ys,e,_,w1,w2⟩ := z
  cases e
  exact ⟨ys,.of w1,w2⟩
 ·rename_i ds
  have r2 := r1'
  simp only [Rep] at r2
  obtain ⟨a,xs,rfl,h1,h2⟩ := r2
  refine ⟨a,xs,rfl,by rw [← hK]; exact h1.sq,?_⟩
  rw [h2.length]
  refine rd_forV hK (ab.grow e1) r1' (fun B H z => ?_) k ab.pi
  simp only [Rep] at z
  obtain ⟨b,ys,e,w1,w2⟩ := z
  cases e
  exact ⟨ys,by rw [← hK]; exact w1.sq,w2⟩
def gNm3 (i j l : Nat) : D -> DS -> Ou DS := fun d δ => match d with
 | .tup [x,y,z] => .ok (((δ.set i (.val x)).set j (.val y)).set l (.val z))
 | _ => .bad
theorem Reps.three' {K : PySem.W.Frag} {B : Addr -> Prop} {H : Hp} {a b c : D} {vs : List V} (r : Reps K B H [a,b,c] vs) : ∃ x y z,vs = [x,y,z] ∧ Rep K B H a x ∧ Rep K B H b y ∧ Rep K B H c z := by
 simp only [Reps] at r
 obtain ⟨x,r1,rfl,h1,y,r2,rfl,h2,z,r3,rfl,h3,rfl⟩ := r
 exact ⟨x,y,z,rfl,h1,h2,h3⟩
def Its (lo st : Int) (n : Nat) : It := ⟨fun i _ => i < n,fun i H x H' => H' = H ∧ x = .int (lo + i * st),fun i _ => n ≤ i⟩
theorem turn_step {P : Program} {w : World} {K : PySem.W.Frag} {tg : Expr} (it : Addr) (lo st : Int) (n : Nat) : Turn P w K tg (Its lo st n) [it] it (fun i h => IsRangeIter h it (lo + (i : Nat) * st) ((n : Int) - (i : Nat)) st) where
 mem := by simp
 obj := fun i h st b hb => by
  have e : b = it := by simpa using hb
  subst e
  exact ⟨_,st,fun v z => by
   have z' : Data.fields _ = Data.cell v := z
   cases z'⟩
 keep := fun i h h' st k => k it (by simp) _ st
 item := by
  intro X hP hw hK hc i pins s σ H E I hf st' hg
  subst hP hw hK
  obtain ⟨f0,f1,f2,f3,f4,f5⟩ := hf it (by simp)
  have W := Walks.range (prog := X.prog) (w := X.w) (I.ok.hd hc) it lo st n
  refine W.item i s _ _ hg st' fun v h' tk hv st' kk => ?_
  obtain ⟨t,rfl⟩ := hv
  have I1 : Inv X pins σ H { s with heap := h',toks := tk } := I.turned (fun b o hb e => kk b o (by simpa using hb) e) f0 f1 f3 f4 f5
  exact ⟨_,rfl,go_of (s := { s with heap := h',toks := tk }) (n := "range_iterator") st' rfl rfl (by decide) ⟨.int (lo + i * st),H,I1,⟨t,rfl⟩,⟨rfl,rfl⟩,st',fun b hb => (hf b hb).1⟩⟩
 done := by
  intro X hP hw hK hc i pins s σ H E I hf st' hg
  subst hP hw hK
  obtain ⟨f0,f1,f2,f3,f4,f5⟩ := hf it (by simp)
  exact wpAny_pyNext_range_end (I.ok.hd hc) st' (by have : n ≤ i := hg; lia) fun h' eb => ⟨rfl,I.turned (t' := s.toks) (fun b o hb e => eb b o hb e) f0 f1 f3 f4 f5⟩
 self := fun _ _ _ _ _ st h => wpAny_pyIter_rangeiter st h
def stepN (a b c : Int) : Nat := if a < b then ((b - a - 1) / c + 1).toNat else 0
def rOk3 (a b c : Int) : Bool := decide (-1000000000 ≤ a ∧ a ≤ 1000000000 ∧ -1000000000 ≤ b ∧ b ≤ 1000000000 ∧ 0 < c ∧ c ≤ 1000000000)
def iRng3 (ta : TA) : TI := fun σ H R => ta σ H fun vs H1 => ∃ i j k : Int,vs = [.int i,.int j,.int k] ∧ rOk3 i j k = true ∧ R (Its i k (stepN i j k)) H1
def rngS (lo st : Int) (n : Nat) : List D := (List.range n).map fun (k : Nat) => D.int (lo + (k : Int) * st)
theorem rngS_len {lo st : Int} {n : Nat} : (rngS lo st n).length = n := by simp [rngS]
theorem rngS_get {lo st : Int} {n i : Nat} {d : D} (h : (rngS lo st n)[i]? = some d) : i < n ∧ d = .int (lo + (i : Int) * st) := by
 have hi : i < n := by
  have := (List.getElem?_eq_some_iff.mp h).1
  rwa [rngS_len] at this
 refine ⟨hi,?_⟩
 unfold rngS at h
 rw [List.getElem?_map,List.getElem?_range hi] at h
 exact (Option.some.inj h).symm
def sRng3 (fs : List Fn) (g : D -> DS -> Ou DS) (body : Sm) : Sm := fun δ => (fArgs fs δ).bind fun ds => match ds with
 | [.int i,.int j,.int k] => if rOk3 i j k = true then forL g body (rngS i k (stepN i j k)) δ else .bad
 | _ => .bad
def kD : Key -> D
 | .inl n => .int n
 | .inr x => .str x
def gListD : D -> Ou D
 | .dic ks _ => .ok (.lst (ks.map kD))
 | _ => .bad
end
end DL
namespace DL
open PySem PySem.Spec PyProof.Rows L2
section
variable {prog : Program} {w : World} {A : Around} {E : Value -> Shared -> Prop} {s : Shared} {I l S : Addr} {items : Array Value}
end
end DL
namespace DL
open PySem PySem.Spec PyProof.Rows L2
section
variable {X : Cx} {E : XK} {m : Md} {e : Expr} {fe : Fn} {p p2 pos pos2 : Pos}
def gRevOf : D -> Ou D
 | .lst ds => .ok (.lst ds.reverse)
 | .frl ds => .ok (.lst ds.reverse)
 | _ => .bad
def tRevL (K : PySem.W.Frag) (ta : TA) : TE := fun σ H Q => ta σ H fun vs H1 => ∃ a xs,vs = [.ref a] ∧ SqL K H1 a xs ∧ ∀ l,H1 l = none -> Q (.ref l) (upd H1 l (.lst xs.reverse))
end
end DL
namespace DL
open PySem PySem.Spec PyProof.Rows L2
def dDropK (ks : List Key) (q : Key) : List Key := ks.filter fun k => decide (k ≠ q)
def dDropV : List Key -> List D -> Key -> List D
 | k :: ks,d :: ds,q => if k = q then dDropV ks ds q else d :: dDropV ks ds q
 | _,_,_ => []
section
variable {X : Cx} {E : XK} {e : Expr} {fe : Fn} {fr : Rm} {x : Str} {pos : Pos}
def sDPop (j : Nat) (fk : Fn) : Sm := fun δ => match δ[j]? with
 | some (.own (.dic ks ds)) => (fk δ).bind fun k => match keyD k with
  | some q => (match dGet ks ds q with
   | some _ => .ok (.nx (δ.set j (.own (.dic (dDropK ks q) (dDropV ks ds q)))))
   | none => .bad)
  | none => .bad
 | _ => .bad
end
end DL
namespace DL
open PySem PySem.Spec PyProof.Rows L2
section
variable {X : Cx} {E : XK} {m : Md} {e : Expr} {fe : Fn} {pos : Pos}
def rSlS : V -> Option Int -> Option Int -> Hp -> VK -> Prop := fun x lo hi H Q => ∃ z,x = .str z ∧ z.length ≤ sizeLine ∧ Q (.str (Txt.slice z lo hi)) H
def fSlS (f : Fn) (lo hi : Option Fn) : Fn := fun δ => (f δ).bind fun d => (fPart lo δ).bind fun l => (fPart hi δ).bind fun u => match d with
 | .str z => if z.length ≤ sizeLine then .ok (.str (Txt.slice z l u)) else .bad
 | _ => .bad
def gUpper : D -> Ou D
 | .str z => if Builtin.Str.tooLong (Txt.upper z).length = false then .ok (.str (Txt.upper z)) else .bad
 | _ => .bad
def gCatT : D -> D -> Ou D
 | .tup xs,.tup ys => if xs ≠ [] ∧ xs.length + ys.length ≤ sizeLine then .ok (.tup (xs ++ ys)) else .bad
 | _,_ => .bad
end
end DL
namespace DL
open PySem PySem.Spec PyProof.Rows L2
section
variable {X : Cx} {E : XK} {e : Expr} {fe : Fn} {fr : Rm} {x : Str} {p pos pos' : Pos} {op : Operator} {g : D -> D -> Ou D}
def sAug (i : Nat) (g : D -> D -> Ou D) (fe : Fn) : Sm := fun δ => match δ[i]? with
 | some (.val d) => (fe δ).bind fun y => (g d y).bind fun r => .ok (.nx (δ.set i (.val r)))
 | _ => .bad
def gAddI : D -> D -> Ou D
 | .int i,.int j => .ok (.int (i + j))
 | _,_ => .bad
def gSubI : D -> D -> Ou D
 | .int i,.int j => .ok (.int (i - j))
 | _,_ => .bad
def gTupOf : D -> Ou D
 | .lst ds => .ok (.tup ds)
 | .frl ds => .ok (.tup ds)
 | .tup ds => .ok (.tup ds)
 | _ => .bad
end
end DL
namespace DL
open PySem PySem.Spec PyProof.Rows L2
section
variable {X : Cx} {E : XK} {e : Expr} {fe : Fn} {p p2 pos pos2 : Pos}
def rOkL (j : Int) : Bool := decide (0 ≤ j ∧ j ≤ 1000000)
def gLRng : D -> Ou D
 | .int j => if rOkL j = true then .ok (.lst (rng 0 j.toNat)) else .bad
 | _ => .bad
def tLRng (ta : TA) : TE := fun σ H Q => ta σ H fun vs H1 => ∃ j : Int,vs = [.int j] ∧ rOkL j = true ∧ ∀ l,H1 l = none -> Q (.ref l) (upd H1 l (.lst ((List.range j.toNat).map fun (k : Nat) => V.int (0 + (k : Int)))))
end
end DL
namespace DL
open PySem PySem.Spec PyProof.Rows L2
section
variable {X : Cx} {E : XK} {fr : Rm} {x : Str} {pos : Pos}
def sPopD (i : Nat) : Sm := fun δ => match δ[i]? with
 | some (.own (.lst ds)) => (match ds[ds.length - 1]? with
  | some _ => .ok (.nx (δ.set i (.own (.lst ds.dropLast))))
  | none => .bad)
 | _ => .bad
def sRevO (i : Nat) : Sm := fun δ => match δ[i]? with
 | some (.own (.lst ds)) => .ok (.nx (δ.set i (.own (.lst ds.reverse))))
 | _ => .bad
end
end DL
namespace DL
open PySem PySem.Spec PyProof.Rows L2
section
variable {X : Cx}
def eqsD (x : D) : List D -> Option (List Bool)
 | [] => some []
 | d :: ds => (eqD 60 d x).bind fun b => (eqsD x ds).bind fun bs => some (b :: bs)
def gInD (neg : Bool) (x y : D) : Ou D := if rk y = 1 ∨ rk y = 2 then (match eqsD x (its y) with
 | some bs => .ok (.bl (if neg then !bs.any id else bs.any id))
 | none => .bad) else .bad
inductive EqRow (A : Around) (s : Shared) (v : Value) : List Value -> List Bool -> Prop
 | nil : EqRow A s v [] []
 | cons {u : Value} {b : Bool} {us : List Value} {bs : List Bool} : SeqAt.EqAt A s u v b -> EqRow A s v us bs -> EqRow A s v (u :: us) (b :: bs)
theorem EqRow.fn {A : Around} {s : Shared} {v : Value} {us : List Value} {bs : List Bool} (h : EqRow A s v us bs) : ∃ f : Value -> Bool,(∀ u ∈ us,SeqAt.EqAt A s u v (f u)) ∧ us.any f = bs.any id := by
 classical
 refine ⟨fun u => decide (∃ j : Nat,us[j]? = some u ∧ bs[j]? = some true),?_,?_⟩
 ·intro u hu
  show SeqAt.EqAt A s u v (decide (∃ j : Nat,us[j]? = some u ∧ bs[j]? = some true))
  by_cases hc : ∃ j : Nat,us[j]? = some u ∧ bs[j]? = some true
  ·rw [decide_eq_true hc]
   obtain ⟨j,h1,h2⟩ := hc
   induction h generalizing j with
   | nil => simp at h1
   | cons e t ih =>
    cases j with
    | zero => simp at h1 h2; subst h1; subst h2; exact e
    | succ j =>
     refine ih ?_ j (by simpa using h1) (by simpa using h2)
     exact List.mem_of_getElem? (by simpa using h1)
  ·rw [decide_eq_false hc]
   obtain ⟨j,hj⟩ := List.getElem?_of_mem hu
   have hf : ∀ j : Nat,us[j]? = some u -> bs[j]? ≠ some true := fun j h1 h2 => hc ⟨j,h1,h2⟩
   clear hc
   induction h generalizing j with
   | nil => simp at hj
   | @cons u0 b us bs e t ih =>
    cases j with
    | zero =>
     simp at hj
     subst hj
     have := hf 0 rfl
     have hb : b = false := by
      cases b with
      | false => rfl
      | true => exact absurd rfl this
     subst hb
     exact e
    | succ j =>
     have hj' : us[j]? = some u := by simpa using hj
     exact ih (List.mem_of_getElem? hj') j hj' fun i h1 => by
      have := hf (i + 1) (by simpa using h1)
      simpa using this
 ·rw [Bool.eq_iff_iff]
  simp only [List.any_eq_true,decide_eq_true_eq,id]
  constructor
  ·rintro ⟨u,_,j,_,h2⟩
   exact ⟨true,List.mem_of_getElem? h2,rfl⟩
  ·rintro ⟨b,hb,rfl⟩
   obtain ⟨j,hj⟩ := List.getElem?_of_mem hb
   have hl : us.length = bs.length := by
    clear hb hj
    induction h with
    | nil => rfl
    | cons _ _ ih => simp [ih]
   have hj2 : j < us.length := by
    have := (List.getElem?_eq_some_iff.mp hj).1
    lia
   exact ⟨us[j],List.getElem_mem hj2,j,List.getElem?_eq_getElem hj2,hj⟩
def rInD (K : PySem.W.Frag) (neg : Bool) : R2 := fun x y H Q => ∃ (B : Addr -> Prop) (dx : D) (ds : List D) (bs : List Bool) (p : Addr) (xs : List V),y = .ref p ∧ (SqL K H p xs ∨ SqT K H p xs) ∧ Rep K B H dx x ∧ Reps K B H ds xs ∧ eqsD dx ds = some bs ∧ Q (.bl (if neg then !bs.any id else bs.any id)) H
end
end DL
namespace DL
open PySem PySem.Spec PyProof.Rows L2
section
variable {X : Cx} {E : XK} {pos p2 : Pos}
def fSlO (i : Nat) (lo hi : Option Fn) : Fn := fun δ => match δ[i]? with
 | some (.own (.lst ds)) => (fPart lo δ).bind fun l => (fPart hi δ).bind fun u => .ok (.lst (cutD ds l u))
 | _ => .bad
theorem xslO (i : Nat) {x : Str} {px : Pos} {lo hi : Option Expr} {flo fhi : Option Fn} (hl : PO X lo (tP X.K E flo)) (hu : PO X hi (tP X.K E fhi)) (hN : X.N[i]? = some x := by rfl) (hv : Vis X.env.scope x := by first | exact Or.inl rfl | exact Or.inr (Or.inl rfl) | exact Or.inr (Or.inr rfl)) (hd : (x == ("__debug__" : Str)) = false := by decide)
  (hcd : (x == ("__classdict__" : Str)) = false := by decide) : PE X (.Subscript (.Name x px) (.Slice lo hi none p2) pos) (tX X.K E .F (fSlO i flo fhi)) := (pe_slice sl_list (pv i hN hv hd hcd) hl hu).imp fun σ H Q q => by
 obtain ⟨c,δ,hK,ab,q⟩ := q
 unfold fSlO at q
 cases e : δ[i]? with
 | none => rw [e] at q; exact q.elim
 | some s =>
  rw [e] at q
  cases s with
  | un => exact q.elim
  | val d => exact q.elim
  | own d =>
   cases d <;> first | exact q.elim | skip
   rename_i ds
   obtain ⟨p,o,h1,h2,h3,xs,rfl,h4⟩ := ab.own i _ e
   refine ⟨.ref p,h1,c,δ,hK,ab,(Res.bind q).imp fun l _ k H2 e2 => ?_⟩
   refine ⟨c,δ,hK,ab.grow e2,(Res.bind k).imp fun u _ k H3 e3 => ?_⟩
   have e23 := e2.trans e3
   exact ⟨p,xs,rfl,.of (e23 _ _ h2),fun l' hp => k (.ref l') _ (e23.trans (same_new hp _)) ⟨l',_,rfl,e23.free hp,upd_same,_,rfl,(Reps.off (Reps.cut l u (h4.same e23)) hp).same (same_new hp _)⟩⟩
end
end DL
namespace DL
open PySem PySem.Spec PyProof.Rows L2
section
variable {X : Cx} {E : XK} {a b : Expr} {fa fb : Fn} {pos : Pos}
def gRep : D -> D -> Ou D
 | .lst xs,.int k => if -1000000 ≤ k ∧ k ≤ 1000000 ∧ xs.length * k.toNat ≤ sizeLine then .ok (.lst (List.replicate k.toNat xs).flatten) else .bad
 | _,_ => .bad
theorem Reps.rep {K : PySem.W.Frag} {B : Addr -> Prop} {H : Hp} {ds : List D} {vs : List V} (r : Reps K B H ds vs) : ∀ k : Nat,Reps K B H (List.replicate k ds).flatten (List.replicate k vs).flatten
 | 0 => by simp [Reps]
 | k + 1 => by
  rw [List.replicate_succ,List.replicate_succ,List.flatten_cons,List.flatten_cons]
  exact Reps.append r (Reps.rep r k)
end
end DL
namespace DL
open PySem PySem.Spec PyProof.Rows L2
section
variable {X : Cx}
def gAbs : List D -> Ou D
 | [.int i] => .ok (.int (if i < 0 then -i else i))
 | _ => .bad
end
end DL
namespace DL
open PySem PySem.Spec PyProof.Rows L2
section
variable {X : Cx}
def cMulB (i j : Int) : Bool := decide (i.natAbs < 2 ^ 2000 ∧ j.natAbs < 2 ^ 2000)
def gMulB := gI cMulB fun i j => .int (i * j)
end
end DL
namespace DL
open PySem PySem.Spec PyProof.Rows L2
def slW : Option Sl -> Sl
 | some (.val d) => .val d
 | some (.own d) => .val d
 | _ => .un
def compN (gc : DS -> Ou Bool) (fe : Fn) (γ ε : DS) : List D -> Ou (List D)
 | [] => .ok []
 | x :: xs => (gc (.val x :: γ)).bind fun b => if b = true then (fe (.val x :: ε)).bind fun y => (compN gc fe γ ε xs).bind fun ys => .ok (y :: ys) else compN gc fe γ ε xs
def fCompN (fi : DS -> Ou (List D)) (gc : DS -> Ou Bool) (fe : Fn) (ix : List Nat) : Fn := fun δ => (fi δ).bind fun ds => if ds.length ≤ sizeLine then (compN gc fe (ix.map fun i => slW δ[i]?) (ix.map fun i => slIn δ[i]?) ds).bind fun ys => .ok (.lst ys) else .bad
section
variable {c : Cn} {σ : St} {δ : DS} {H1 H' : Hp}
theorem Abs.tell {ix : List Nat} {d : D} {x : V} {p : Addr} {ys : HO} (a : Abs c σ δ H1) (e : Same H1 H') (hp : H1 p = none) (hp' : H' p = some ys) (r : Rep c.K (Av c σ δ) H1 d x) :
  Abs { K := c.K,B := fun q => Av c σ δ q ∧ q ≠ p,H₀ := H1,G := [] } (some x :: ix.map fun i => (σ[i]?).join) (.val d :: ix.map fun i => slIn δ[i]?) H' := by
 have no : ∀ (i : Nat) (z : D),(Sl.val d :: ix.map fun i => slIn δ[i]?)[i]? = some (Sl.own z) -> False := fun i z h => by
  cases i with
  | zero => cases h
  | succ i =>
   rw [List.getElem?_cons_succ,List.getElem?_map] at h
   cases e : ix[i]? with
   | none => rw [e] at h; cases h
   | some j =>
    rw [e] at h
    have h' : slIn δ[j]? = Sl.own z := Option.some.inj h
    unfold slIn at h'
    split at h' <;> cases h'
 have nown : ∀ q,¬ Own (some x :: ix.map fun i => (σ[i]?).join) (.val d :: ix.map fun i => slIn δ[i]?) q := fun q ⟨i,z,h,_⟩ => no i z h
 have up : ∀ {d' : D} {v : V},Rep c.K (Av c σ δ) H1 d' v -> Rep c.K (fun q => (Av c σ δ q ∧ q ≠ p) ∧ ¬ Own (some x :: ix.map fun i => (σ[i]?).join) (.val d :: ix.map fun i => slIn δ[i]?) q) H' d' v := fun {d' v} r => Rep.mono (fun q o w1 w2 => ⟨⟨w1,ne_of_none w2 hp⟩,nown q⟩) (.of_same e) d' v r
 refine ⟨e,fun b hb => ⟨a.av_new (e.free hb),fun z => by subst z; rw [hp'] at hb; cases hb⟩,by simp,fun i d' h => ?_,fun i z h => (no i z h).elim,fun d v h => (nomatch h),fun i j di dj q h => (no i di h).elim,fun i q hP => (nomatch hP)⟩
 cases i with
 | zero =>
  have hd : d = d' := by cases h; rfl
  subst hd
  exact ⟨x,rfl,up r⟩
 | succ i =>
  rw [List.getElem?_cons_succ,List.getElem?_map] at h
  cases ej : ix[i]? with
  | none => rw [ej] at h; cases h
  | some j =>
   rw [ej] at h
   have h' : slIn δ[j]? = Sl.val d' := Option.some.inj h
   have hj : δ[j]? = some (Sl.val d') := by
    unfold slIn at h'
    split at h'
    ·cases h'; assumption
    ·cases h'
   obtain ⟨v,z1,z2⟩ := a.val j d' hj
   refine ⟨v,?_,up z2⟩
   rw [List.getElem?_cons_succ,List.getElem?_map,ej]
   show some ((σ[j]?).join) = _
   rw [z1]; rfl
end
section
variable {X : Cx} {iter elt tg : Expr} {ifs : List Expr} {scope : Scope} {N' : List Str} {ix : List Nat} {pos : Pos} {gc : DS -> Ou Bool} {fe fl : Fn}
end
end DL
namespace DL
open PySem PySem.Spec PyProof.Rows L2
section
variable {X : Cx} {E : XK} {p pos : Pos}
def fListO (i : Nat) : Fn := fun δ => match δ[i]? with
 | some (.own (.lst ds)) => .ok (.lst ds)
 | _ => .bad
end
end DL
namespace DL
open PySem PySem.Spec PyProof.Rows L2
section
variable {X : Cx} {E : XK} {pos p2 : Pos}
def fBackO (i : Nat) : Fn := fun δ => match δ[i]? with
 | some (.own (.lst ds)) => .ok (.lst ds.reverse)
 | _ => .bad
def fBack (f : Fn) : Fn := fun δ => (f δ).bind fun d => match d with
 | .lst ds => .ok (.lst ds.reverse)
 | _ => .bad
end
section
open HT
variable {prog : Program} {w : World} {A : Around} {E : Value -> Shared -> Prop} {s : Shared}
end
section
variable {X : Cx} {E : XK} {pos p2 : Pos} {e : Expr} {fe : Fn} {m : Md}
def rSlU (K : PySem.W.Frag) : V -> Option Int -> Option Int -> Hp -> VK -> Prop := fun x lo hi H Q => ∃ a xs,x = .ref a ∧ SqT K H a xs ∧ (HT.sIx xs.length 0 lo = 0 ∧ HT.sIx xs.length xs.length hi = xs.length) ∧ Q (.ref a) H
def fSlU (f : Fn) (lo hi : Option Fn) : Fn := fun δ => (f δ).bind fun d => (fPart lo δ).bind fun l => (fPart hi δ).bind fun u => match d with
 | .tup ds => .ok (.tup (cutD ds l u))
 | _ => .bad
end
end DL
namespace Tim
open PySem PyProof.Rows
section
variable {α : Type}
structure Ord (lt : α -> α -> Bool) : Prop where
 irr : ∀ a,lt a a = false
 tr : ∀ {a b c},lt a b = true -> lt b c = true -> lt a c = true
 neg : ∀ {a b c},lt a b = false -> lt b c = false -> lt a c = false
def rank (lt : α -> α -> Bool) (ks : List α) (k : α) : Nat := ks.countP (lt · k)
def insB (lt : α -> α -> Bool) (x : α) : List α -> List α
 | [] => [x]
 | y :: r => if lt y x = true then y :: insB lt x r else x :: y :: r
def srt (lt : α -> α -> Bool) : List α -> List α
 | [] => []
 | x :: r => insB lt x (srt lt r)
abbrev SB (lt : α -> α -> Bool) (r : List α) : Prop := r.Pairwise fun a b => lt b a = false
end
def plt (a b : Int × Int) : Bool := if a.1 = b.1 then decide (a.2 < b.2) else decide (a.1 < b.1)
end Tim
namespace DL
open PySem PySem.Spec PyProof.Rows L2
abbrev psort (ps : List (Int × Int)) : List (Int × Int) := Tim.srt Tim.plt ps
def pairD (p : Int × Int) : D := .tup [.int p.1,.int p.2]
def pairsD : List D -> Option (List (Int × Int))
 | [] => some []
 | .tup [.int a,.int b] :: r => (pairsD r).map ((a,b) :: ·)
 | _ => none
def gSortP (d : D) : Ou D := if rk d = 1 ∨ rk d = 2 then (match pairsD (its d) with
  | some ps => if ps.length < 128 then .ok (.lst ((psort ps).map pairD)) else .bad
  | none => .bad) else .bad
end DL
namespace DL
open PySem PySem.Spec PyProof.Rows L2
def gCatU : D -> D -> Ou D
 | .tup xs,.tup ys => if xs.length + ys.length ≤ sizeLine then .ok (.tup (xs ++ ys)) else .bad
 | _,_ => .bad
end DL
namespace DL
open PySem PySem.Spec PyProof.Rows L2
def gMinP (d : D) : Ou D := if rk d = 2 then (match pairsD (its d) with
  | some ps => (match psort ps with
   | p :: _ => .ok (pairD p)
   | [] => .bad)
  | none => .bad) else .bad
def sRemP (i : Nat) (f : Fn) : Sm := fun δ => match δ[i]? with
 | some (.own (.lst ds)) => (f δ).bind fun d => match pairsD ds,pairsD [d] with
  | some ps,some [p] => if p ∈ ps then .ok (.nx (δ.set i (.own (.lst ((ps.erase p).map pairD))))) else .bad
  | _,_ => .bad
 | _ => .bad
end DL
namespace Tim
open PySem PyProof.Rows
section
variable {α : Type}
end
section
variable {prog : Program} {w : World} {A : Around} {E : Value -> Shared -> Prop} {s : Shared}
def TupAt (h : Heap) (v : Value) (p : Int × Int) : Prop := ∃ a t u,v = .ref a ∧ IsTup h a #[.int p.1 t,.int p.2 u]
def pairOf (h : Heap) : Value -> Int × Int
 | .ref a => match h.get? a with
  | some o => match o.data with
   | .seq xs _ => (numOf (xs.getD 0 .none),numOf (xs.getD 1 .none))
   | _ => (0,0)
  | none => (0,0)
 | _ => (0,0)
theorem TupAt.pair {h : Heap} {v : Value} {p : Int × Int} (t : TupAt h v p) : pairOf h v = p := by
 obtain ⟨a,t,u,rfl,o,ho,_,n,hd⟩ := t
 simp only [pairOf,ho,hd]
 rfl
def TupsAt (h : Heap) : List Value -> List (Int × Int) -> Prop
 | [],[] => True
 | v :: vs,p :: ps => TupAt h v p ∧ TupsAt h vs ps
 | _,_ => False
theorem TupsAt.mem {h : Heap} : ∀ {vs : List Value} {ps : List (Int × Int)},TupsAt h vs ps -> ∀ v,v ∈ vs -> ∃ p,TupAt h v p
 | [],[],_,v,hv => by cases hv
 | [],_ :: _,t,_,_ => t.elim
 | _ :: _,[],t,_,_ => t.elim
 | x :: vs,p :: ps,t,v,hv => by
  rcases List.mem_cons.mp hv with rfl | hv
  ·exact ⟨p,t.1⟩
  ·exact TupsAt.mem t.2 v hv
theorem TupsAt.keep {h h' : Heap} (k : ∀ b o,h.get? b = some o -> h'.get? b = some o) : ∀ {vs : List Value} {ps : List (Int × Int)},TupsAt h vs ps -> TupsAt h' vs ps
 | [],[],_ => trivial
 | [],_ :: _,t => t.elim
 | _ :: _,[],t => t.elim
 | x :: vs,p :: ps,t => by
  obtain ⟨⟨a,t1,u,rfl,o,ho,hc,n,hd⟩,t2⟩ := t
  exact ⟨⟨a,t1,u,rfl,o,k _ _ ho,hc,n,hd⟩,TupsAt.keep k t2⟩
end
end Tim
namespace DL
open PySem PySem.Spec PyProof.Rows L2
def PrV (K : PySem.W.Frag) (H : Hp) (v : V) (p : Int × Int) : Prop := ∃ a,v = .ref a ∧ SqT K H a [.int p.1,.int p.2]
section
variable {X : Cx} {E : XK} {m : Md} {a b e o i : Expr} {fa fb fe fo fi : Fn} {pos p : Pos} {fr : Rm} {x : Str}
theorem PrV.same {K : PySem.W.Frag} {H H' : Hp} {v : V} {p : Int × Int} (h : PrV K H v p) (e : Same H H') : PrV K H' v p := by
 obtain ⟨a,rfl,h⟩ := h
 exact ⟨a,rfl,same_tup e h⟩
end
end DL
namespace DL
open PySem PySem.Spec PyProof.Rows L2
section
variable {X : Cx} {E : XK} {pos : Pos}
def rCatU (K : PySem.W.Frag) : V -> V -> Hp -> VK -> Prop := fun x y H Q => ∃ a b xs ys,x = .ref a ∧ y = .ref b ∧ SqT K H a xs ∧ SqT K H b ys ∧ xs.length + ys.length ≤ sizeLine ∧ (xs = [] -> Q (.ref b) H) ∧ (ys = [] -> Q (.ref a) H) ∧ ∀ p,H p = none -> Q (.ref p) (upd H p (.tup (xs ++ ys)))
end
end DL
namespace Tim
open PySem PyProof.Rows
abbrev Kept (h h' : Heap) : Prop := ∀ b o,h.get? b = some o -> h'.get? b = some o
section
variable {prog : Program} {w : World} {A : Around} {E : Value -> Shared -> Prop} {R : Result -> Shared -> Prop} {I S : Addr} {fp wr : List Addr} {n : Nat} {P : Nat -> Value -> Prop} {St : Nat -> Heap -> Prop} {h₀ : Heap} {bt : Nat -> Nat -> Bool}
def CmpIn (prog : Program) (w : World) (A : Around) (h₀ : Heap) (P : Nat -> Value -> Prop) (bt : Nat -> Nat -> Bool) : Prop :=
 ∀ i j vi vj (s : Shared) (Q : Value -> Shared -> Prop) (E : Value -> Shared -> Prop),Kept h₀ s.heap -> P i vi -> P j vj -> Q (.bool (bt i j)) s -> wpAny (model prog w) A (richCompare .Lt vi vj) Q E s
theorem Kept.upd {h : Heap} (k : Kept h₀ h) (hS : h₀.get? S = none) (f : Obj -> Obj) : Kept h₀ (h.update S f) := fun b o e => (Heap.get?_update_other _ _ (fun q => by rw [q,e] at hS; cases hS)).trans (k b o e)
theorem Kept.out {h h' : Heap} (k : Kept h₀ h) (hw : ∀ b ∈ wr,h₀.get? b = none) (hk : ∀ b o,b ∉ wr -> h.get? b = some o -> h'.get? b = some o) : Kept h₀ h' := fun b o e => hk b o (fun q => by rw [hw b q] at e; cases e) (k b o e)
end
end Tim
namespace DL
open PySem PySem.Spec PyProof.Rows L2
section
variable {X : Cx} {E : XK} {m : Md} {a b e o i : Expr} {fa fb fe fo fi : Fn} {pos p : Pos} {fr : Rm} {x : Str}
theorem PrV.rep {K : PySem.W.Frag} {B : Addr -> Prop} {H : Hp} {v : V} {p : Int × Int} (h : PrV K H v p) : Rep K B H (pairD p) v := by
 obtain ⟨a,rfl,h⟩ := h
 simp only [pairD,Rep,Reps]
 exact ⟨a,_,rfl,h,_,_,rfl,rfl,_,_,rfl,rfl,rfl⟩
theorem Vals.erase {xs : List V} {us : List Value} (r : Vals xs us) : ∀ j,Vals (xs.eraseIdx j) (us.eraseIdx j) := by
 induction r with
 | nil => intro j; exact .nil
 | cons h t ih =>
  intro j
  cases j with
  | zero => exact t
  | succ j => exact .cons h (ih j)
theorem Reps.erase {K : PySem.W.Frag} {B : Addr -> Prop} {H : Hp} : ∀ {ds : List D} {vs : List V} (j : Nat),Reps K B H ds vs -> Reps K B H (ds.eraseIdx j) (vs.eraseIdx j)
 | [],vs,j,r => by
  have : vs = [] := by simpa [Reps] using r
  subst this
  simp [Reps]
 | d :: ds,vs,j,r => by
  simp only [Reps] at r
  obtain ⟨v,r',rfl,h1,h2⟩ := r
  cases j with
  | zero => exact h2
  | succ j =>
   simp only [List.eraseIdx_cons_succ,Reps]
   exact ⟨_,_,rfl,h1,Reps.erase j h2⟩
end
end DL
namespace DL
open PySem PySem.Spec PyProof.Rows L2
def sgns (x : Str) : List D := x.cps.toList.map fun c => D.str ⟨#[c]⟩
def Itx (x : Str) : It := ⟨fun i _ => i < x.cps.size,fun i H v H' => H' = H ∧ ∃ c,x.cps[i]? = some c ∧ v = .str ⟨#[c]⟩,fun i _ => i = x.cps.size⟩
def iStr (te : TE) : TI := fun σ H R => te σ H fun v H1 => ∃ x,v = .str x ∧ R (Itx x) H1
section
variable {X : Cx} {E : XK} {tg : Expr} {e : Expr} {fl : Fn} {F : Sm} {fr : Rm} {p pos : Pos}
def sForS (fl : Fn) (g : D -> DS -> Ou DS) (body : Sm) : Sm := fun δ => (fl δ).bind fun d => match d with
 | .str x => forL g body (sgns x) δ
 | _ => .bad
def fItemsS (f : Fn) : DS -> Ou (List D) := fun δ => (f δ).bind fun d => match d with
 | .str x => .ok (sgns x)
 | _ => .bad
def blD : D -> Option Bool
 | .bl b => some b
 | _ => none
def gAll : D -> Ou D := fun d => if rk d = 2 ∧ (its d).all (fun x => (blD x).isSome) = true then .ok (.bl ((its d).all fun x => (blD x).getD true)) else .bad
def gLeS : D -> D -> Ou D
 | .str x,.str y => .ok (.bl (!(decide (y.cps.toList < x.cps.toList))))
 | _,_ => .bad
def gInS (neg : Bool) : D -> D -> Ou D
 | .str x,.str y => .ok (.bl (let z := !(Builtin.Str.occurrences y x 0 y.length 1).isEmpty; if neg then !z else z))
 | _,_ => .bad
def gMulS : D -> D -> Ou D
 | .str x,.int n => if 0 < n ∧ n ≤ 1000 ∧ x.length ≤ 1000 then .ok (.str (Txt.mul x n)) else .bad
 | _,_ => .bad
end
end DL
namespace PySem
end PySem
namespace PySem
namespace F
end F
section
variable {prog : Program} {w : World} {K : Type} [DecidableEq K] {knd : KeyKind prog w K} {A : Around} {E : Value -> Shared -> Prop} {s : Shared}
def PairsAt (knd : KeyKind prog w K) (d I : Addr) (items : Array Value) (more : List (K × Value)) (h : Heap) : Prop :=
 ∀ (j : Nat) (kv : K × Value),more[j]? = some kv -> ∃ b key,items[j]? = some (.ref b) ∧ b ≠ d ∧ b ≠ I ∧ h.IsTuple b #[key,kv.2] ∧ knd.is kv.1 key = true
end
end PySem
namespace PySem
section
variable {prog : Program} {w : World} {K : Type} [DecidableEq K] {knd : KeyKind prog w K} {A : Around} {E : Value -> Shared -> Prop} {s : Shared}
end
end PySem
namespace DL
open PySem PySem.Spec PyProof.Rows L2
section
variable {X : Cx} {E : XK} {m : Md} {e : Expr} {fe : Fn} {p pos : Pos} {x : Str}
def fDGetO (j : Nat) (fk fd : Fn) : Fn := fun δ => match δ[j]? with
 | some (.own (.dic ks ds)) => (fk δ).bind fun k => (match keyD k with
  | some q => (fd δ).bind fun z => .ok ((dGet ks ds q).getD z)
  | none => .bad)
 | _ => .bad
def pairK : D -> Option (Key × D)
 | .tup [k,v] => (keyD k).map fun q => (q,v)
 | _ => none
def pairsK : List D -> Option (List (Key × D))
 | [] => some []
 | d :: ds => match pairK d,pairsK ds with
  | some p,some ps => some (p :: ps)
  | _,_ => none
def gDictP : D -> Ou D
 | .lst ds => (match pairsK ds with
  | some ps => if (ps.map (·.1)).Nodup then .ok (.dic (ps.map (·.1)) (ps.map (·.2))) else .bad
  | none => .bad)
 | _ => .bad
end
end DL
namespace Tim
open PySem PyProof.Rows
def slt (x y : Str) : Bool := decide (x.cps.toList < y.cps.toList)
section
variable {prog : Program} {w : World} {A : Around} {E : Value -> Shared -> Prop} {s : Shared} {α : Type}
end
end Tim
namespace Tim
open PySem PyProof.Rows
section
variable {prog : Program} {w : World} {A : Around} {E : Value -> Shared -> Prop} {s : Shared}
def NmAt (h : Heap) (v : Value) (x : Str) : Prop := ∃ a o xs n t,v = .ref a ∧ h.get? a = some o ∧ o.cls = .type "tuple" ∧ o.data = .seq xs n ∧ xs[0]? = some (.str x t)
theorem NmAt.keep {h h' : Heap} {v : Value} {x : Str} (k : ∀ b o,h.get? b = some o -> h'.get? b = some o) (n : NmAt h v x) : NmAt h' v x := by
 obtain ⟨a,o,xs,n,t,rfl,ho,r⟩ := n
 exact ⟨a,o,xs,n,t,rfl,k _ _ ho,r⟩
def nmOf (h : Heap) : Value -> Str
 | .ref a => match h.get? a with
  | some o => match o.data with
   | .seq xs _ => strOf (xs.getD 0 .none)
   | _ => ""
  | none => ""
 | _ => ""
theorem NmAt.nm {h : Heap} {v : Value} {x : Str} (n : NmAt h v x) : nmOf h v = x := by
 obtain ⟨a,o,xs,n,t,rfl,ho,hc,hd,hx⟩ := n
 have e : xs.getD 0 .none = .str x t := by
  rw [Array.getD_eq_getD_getElem?,hx]; rfl
 simp only [nmOf,ho,hd,e]
 rfl
end
end Tim
namespace DL
open PySem PySem.Spec PyProof.Rows L2
abbrev ssort (xs : List Str) : List Str := Tim.srt Tim.slt xs
section
variable {X : Cx} {E : XK} {m : Md} {e : Expr} {fe : Fn} {p pos : Pos} {x : Str}
def keysS : List Key -> Option (List Str)
 | [] => some []
 | .inr x :: ks => (keysS ks).map (x :: ·)
 | _ :: _ => none
def gSortDS : D -> Ou D
 | .dic ks _ => (match keysS ks with
  | some ns => if ns.length < 128 then .ok (.lst ((ssort ns).map D.str)) else .bad
  | none => .bad)
 | _ => .bad
def nmD : D -> Option Str
 | .tup (.str x :: _) => some x
 | _ => none
def nmsD : List D -> Option (List Str)
 | [] => some []
 | d :: ds => match nmD d,nmsD ds with
  | some x,some xs => some (x :: xs)
  | _,_ => none
def byName (a b : D) : Bool := Tim.slt ((nmD a).getD "") ((nmD b).getD "")
def fSortV (j : Nat) : Fn := fun δ => match δ[j]? with
 | some (.own (.dic _ ds)) => (match nmsD ds with
  | some xs => if xs.Nodup ∧ xs.length < 128 then .ok (.lst (Tim.srt byName ds)) else .bad
  | none => .bad)
 | _ => .bad
end
end DL
namespace Tim
open PySem PyProof.Rows
section
variable {α β : Type}
end
section
variable {prog : Program} {w : World} {A : Around} {E : Value -> Shared -> Prop} {s : Shared}
end
end Tim
namespace DL
open PySem PySem.Spec PyProof.Rows L2
section
variable {X : Cx} {E : XK} {m : Md} {e : Expr} {fe : Fn} {p pos : Pos} {x : Str}
end
end DL
namespace DL
open PySem PySem.Spec PyProof.Rows L2
section
variable {X : Cx} {E : XK} {p px pos apos cpos : Pos} {x : Str}
def tSortV (K : PySem.W.Frag) (j : Nat) : TE := fun σ H Q => ∃ (a : Addr) (kvs : List (Key × V)) (B : Addr -> Prop) (ds : List D) (ns : List Str),σ[j]? = some (some (.ref a)) ∧ H a = some (.dK kvs) ∧ Reps K B H ds (kvs.map (·.2)) ∧ nmsD ds = some ns ∧ ns.Nodup ∧ ns.length < 128 ∧
 ∀ l ys,H l = none -> Reps K B H (Tim.srt byName ds) ys -> Q (.ref l) (upd H l (.lst ys))
end
end DL
namespace DL
open PySem PySem.Spec PyProof.Rows L2
section
variable {X : Cx} {E : XK} {fr : Rm} {x y : Str} {pos : Pos} {ga : DS -> Ou Bool} {fe : Fn}
def sForO (i j : Nat) (ga : DS -> Ou Bool) (fe : Fn) : Sm := fun δ => match δ[i]? with
 | some (.own (.lst ds)) => if i = j then .bad else forL (gNm j) (sSeq (sIf ga (sSeq (sRet fe) sNext) sNext) sNext) ds δ
 | _ => .bad
end
end DL
namespace DL
open PySem PySem.Spec PyProof.Rows L2
def keyP : List D -> Option (List Key)
 | [] => some []
 | d :: ds => (match keyD d with
  | some k => (match keyP ds with
   | some r => some (k :: r)
   | none => none)
  | none => none)
def pGet : List (List Key) -> List D -> List Key -> Option D
 | k :: ks,d :: ds,q => if k = q then some d else pGet ks ds q
 | _,_,_ => none
def pSet : List (List Key) -> List D -> List Key -> D -> List D
 | k :: ks,d :: ds,q,v => (if k = q then v else d) :: pSet ks ds q v
 | _,ds,_,_ => ds
def pPutK (ks : List (List Key)) (q : List Key) : List (List Key) := if (ks.any fun k => decide (k = q)) = true then ks else ks ++ [q]
def pPutV (ks : List (List Key)) (ds : List D) (q : List Key) (d : D) : List D := if (ks.any fun k => decide (k = q)) = true then pSet ks ds q d else ds ++ [d]
section
variable {K : PySem.W.Frag} {B : Addr -> Prop} {H : Hp}
end
section
variable {X : Cx} {E : XK} {m : Md} {e o : Expr} {fe fo : Fn} {pos p : Pos} {fr : Rm} {x : Str} {es : List Expr} {fs : List Fn}
def fDip0 : Fn := fun _ => .ok (.dip [] [])
def fDGetT (fo : Fn) (fs : List Fn) : Fn := fun δ => (fo δ).bind fun d => match d with
 | .dip ks ds => (fArgs fs δ).bind fun k => (match keyP k with
  | some q => .ok ((pGet ks ds q).getD .non)
  | none => .bad)
 | _ => .bad
def sDPutT (j : Nat) (fs : List Fn) (fv : Fn) : Sm := fun δ => (fv δ).bind fun d => match δ[j]? with
 | some (.own (.dip ks ds)) => (fArgs fs δ).bind fun k => (match keyP k with
  | some q => if ks.length < sizeLine then .ok (.nx (δ.set j (.own (.dip (pPutK ks q) (pPutV ks ds q d))))) else .bad
  | none => .bad)
 | _ => .bad
def sExt (i : Nat) (f : Fn) : Sm := fun δ => match δ[i]? with
 | some (.own (.lst ds)) => (f δ).bind fun d => (match d with
  | .lst es => if ds.length + es.length ≤ sizeLine then .ok (.nx (δ.set i (.own (.lst (ds ++ es))))) else .bad
  | _ => .bad)
 | _ => .bad
end
end DL
namespace DL
open PySem PySem.Spec PyProof.Rows L2
section
variable {X : Cx} {E : XK} {fr : Bool} {x : Str} {pos : Pos} {F : Sm}
def Itd (a : Addr) (o : Obj) (kvs : List (Key × V)) : It :=
 ⟨fun i H => H a = some (.frz o (.dK kvs)) ∧ i < kvs.length,fun i H x H' => H' = H ∧ ∃ k,(kvs.map (·.1))[i]? = some k ∧ x = kV k,fun i H => H a = some (.frz o (.dK kvs)) ∧ kvs.length ≤ i⟩
def iDictF (te : TE) : TI := fun σ H R => te σ H fun v H1 => ∃ a kvs,v = .ref a ∧ H1 a = some (.dK kvs) ∧ ∀ o,R (Itd a o kvs) (upd H1 a (.frz o (.dK kvs)))
def sForD (i : Nat) (g : D -> DS -> Ou DS) (body : Sm) : Sm := fun δ => match δ[i]? with
 | some (.own (.dic ks ds)) => forL g body (ks.map kD) (δ.set i (.val (.dic ks ds)))
 | _ => .bad
end
end DL
namespace Bt
theorem b2 (a b : Nat) (ha : a < 2) (hb : b < 2) : (a ||| b) = (a ^^^ b) + (a &&& b) := by
 have h1 : a = 0 ∨ a = 1 := by lia
 have h2 : b = 0 ∨ b = 1 := by lia
 rcases h1 with rfl | rfl <;> rcases h2 with rfl | rfl <;> rfl
theorem or_xor_and : ∀ (x y : Nat),(x ||| y) = (x ^^^ y) + (x &&& y) := by
 intro x
 induction x using Nat.strongRecOn with
 | _ x ih =>
  intro y
  by_cases hx : x = 0
  ·subst hx; simp
  ·have h := ih (x / 2) (by lia) (y / 2)
   have e1 : (x ||| y) / 2 = x / 2 ||| y / 2 := Nat.or_div_two
   have e2 : (x ^^^ y) / 2 = x / 2 ^^^ y / 2 := Nat.xor_div_two
   have e3 : (x &&& y) / 2 = x / 2 &&& y / 2 := Nat.and_div_two
   have m1 : (x ||| y) % 2 = x % 2 ||| y % 2 := Nat.or_mod_two_pow (n := 1)
   have m2 : (x ^^^ y) % 2 = x % 2 ^^^ y % 2 := Nat.xor_mod_two_pow (n := 1)
   have m3 : (x &&& y) % 2 = x % 2 &&& y % 2 := Nat.and_mod_two_pow (n := 1)
   rw [← e1,← e2,← e3] at h
   have b := b2 (x % 2) (y % 2) (by lia) (by lia)
   rw [← m1,← m2,← m3] at b
   lia
theorem xor_zero_eq {a b : Nat} (h : a ^^^ b = 0) : a = b := by
 refine Nat.eq_of_testBit_eq fun i => ?_
 have : (a ^^^ b).testBit i = false := by rw [h]; simp
 rw [Nat.testBit_xor] at this
 simpa using this
def bits (z : Nat) : Nat := if z = 0 then 0 else z.log2 + 1
theorem lt_bits (z : Nat) : z < 2 ^ bits z := by
 unfold bits
 by_cases h : z = 0
 ·rw [if_pos h,h]; simp
 ·rw [if_neg h]; exact Nat.lt_log2_self
theorem bits_le {z k : Nat} (h : z < 2 ^ k) : bits z ≤ k := by
 unfold bits
 by_cases h0 : z = 0
 ·rw [if_pos h0]; lia
 ·rw [if_neg h0]
  have := (Nat.log2_lt h0).mpr h
  lia
theorem div_same {f l : Nat} : f / 2 ^ bits (f ^^^ l) = l / 2 ^ bits (f ^^^ l) := by
 refine xor_zero_eq ?_
 rw [← Nat.xor_div_two_pow]
 exact Nat.div_eq_of_lt (lt_bits _)
theorem half {f l : Nat} (h : f ≤ l) (hz : f ^^^ l ≠ 0) : ∃ m q,bits (f ^^^ l) = m + 1 ∧ f / 2 ^ (m + 1) = q ∧ f < q * 2 ^ (m + 1) + 2 ^ m ∧ q * 2 ^ (m + 1) + 2 ^ m ≤ l := by
 have hb : bits (f ^^^ l) = (f ^^^ l).log2 + 1 := by unfold bits; rw [if_neg hz]
 refine ⟨(f ^^^ l).log2,f / 2 ^ ((f ^^^ l).log2 + 1),hb,rfl,?_⟩
 have hs := div_same (f := f) (l := l)
 rw [hb] at hs
 generalize hm : (f ^^^ l).log2 = m at hs
 have hne : f / 2 ^ m ≠ l / 2 ^ m := by
  intro e
  have : (f ^^^ l) / 2 ^ m = 0 := by rw [Nat.xor_div_two_pow,e]; simp
  have h1 : 2 ^ m ≤ f ^^^ l := by rw [← hm]; exact Nat.log2_self_le hz
  have := Nat.div_pos h1 (Nat.two_pow_pos m)
  lia
 have hle : f / 2 ^ m ≤ l / 2 ^ m := Nat.div_le_div_right h
 rw [Nat.pow_succ,← Nat.div_div_eq_div_mul,← Nat.div_div_eq_div_mul] at hs
 have e1 : f / 2 ^ m = 2 * (f / 2 ^ m / 2) := by lia
 have e2 : l / 2 ^ m = 2 * (f / 2 ^ m / 2) + 1 := by lia
 have p := Nat.two_pow_pos m
 rw [Nat.pow_succ,← Nat.div_div_eq_div_mul]
 generalize f / 2 ^ m / 2 = q at e1 e2
 have ea : q * (2 ^ m * 2) = (2 * q) * 2 ^ m := by rw [Nat.mul_comm (2 ^ m) 2,← Nat.mul_assoc,Nat.mul_comm q 2]
 have h1 : f < (f / 2 ^ m + 1) * 2 ^ m := by
  have := Nat.lt_succ_self (f / 2 ^ m)
  exact (Nat.div_lt_iff_lt_mul p).mp this
 have h2 : (l / 2 ^ m) * 2 ^ m ≤ l := Nat.div_mul_le_self l _
 rw [e1,Nat.add_mul,Nat.one_mul] at h1
 rw [e2,Nat.add_mul,Nat.one_mul] at h2
 lia
theorem same {f l : Nat} (hz : f ^^^ l = 0) : f = l ∧ bits (f ^^^ l) = 0 := ⟨xor_zero_eq hz,by rw [hz]; rfl⟩
theorem block {f n : Nat} (hf : f < 2 ^ 30) (hn : n ≤ 30) : f / 2 ^ n * 2 ^ n + 2 ^ n ≤ 2 ^ 30 := by
 have e : 2 ^ 30 = 2 ^ (30 - n) * 2 ^ n := by rw [← Nat.pow_add]; congr 1; lia
 have h : f / 2 ^ n < 2 ^ (30 - n) := by
  rw [Nat.div_lt_iff_lt_mul (Nat.two_pow_pos n),← e]; exact hf
 have h2 : (f / 2 ^ n + 1) * 2 ^ n ≤ 2 ^ (30 - n) * 2 ^ n := Nat.mul_le_mul_right _ h
 rw [Nat.add_mul,Nat.one_mul,← e] at h2
 exact h2
end Bt
namespace DL
open PySem L2
section
variable {F G : Sm} {δ : DS} {fa fb fc : Fn} {g g' : D -> D -> Ou D} {ga gb : DS -> Ou Bool}
@[simp] theorem e_seq : sSeq F G δ = (F δ).bind fun r => match r with
 | .nx δ' => G δ'
 | r => .ok r := rfl
@[simp] theorem e_next : sNext δ = .ok (.nx δ) := rfl
@[simp] theorem e_if : sIf ga F G δ = (ga δ).bind fun b => if b = true then F δ else G δ := rfl
@[simp] theorem e_ret : sRet fa δ = (fa δ).bind fun d => .ok (.rt d) := rfl
@[simp] theorem e_drop : sDrop fa δ = (fa δ).bind fun _ => .ok (.nx δ) := rfl
@[simp] theorem e_set {i : Nat} : sSet i fa δ = (fa δ).bind fun d => .ok (.nx (δ.set i (.val d))) := rfl
@[simp] theorem e_break : sBreak δ = .ok (.bk δ) := rfl
@[simp] theorem e_cont : sCont δ = .ok (.ct δ) := rfl
@[simp] theorem e_f2 : f2 g fa fb δ = (fa δ).bind fun x => (fb δ).bind fun y => g x y := rfl
@[simp] theorem e_f1 {h : D -> Ou D} : f1 h fa δ = (fa δ).bind h := rfl
@[simp] theorem e_c {d : D} : fC d δ = .ok d := rfl
@[simp] theorem e_asB : fAsB fa δ = (fa δ).bind asB := rfl
@[simp] theorem e_tru : fTru fa δ = (fa δ).bind truD := rfl
@[simp] theorem e_notT : fNotT ga δ = (ga δ).bind fun b => .ok (!b) := rfl
@[simp] theorem e_andT : fAndT ga gb δ = (ga δ).bind fun b => if b = true then gb δ else .ok false := rfl
@[simp] theorem e_orT : fOrT ga gb δ = (ga δ).bind fun b => if b = true then .ok true else gb δ := rfl
@[simp] theorem e_andV : fAndV fa fb δ = (fa δ).bind fun x => (asB x).bind fun b => if b = true then fb δ else .ok (.bl false) := rfl
@[simp] theorem e_orV : fOrV fa fb δ = (fa δ).bind fun x => (asB x).bind fun b => if b = true then .ok (.bl true) else fb δ := rfl
@[simp] theorem e_notV : fNotV fa δ = (fa δ).bind fun x => (asB x).bind fun b => .ok (.bl (!b)) := rfl
@[simp] theorem e_ife : fIfE ga fa fb δ = (ga δ).bind fun b => if b = true then fa δ else fb δ := rfl
@[simp] theorem e_chn : fChn g g' fa fb fc δ = (fa δ).bind fun x => (fb δ).bind fun y => (g x y).bind fun z => (asB z).bind fun k => if k = true then (fc δ).bind fun w => g' y w else .ok (.bl false) := rfl
@[simp] theorem e_tup {fs : List Fn} : fTup fs δ = (fArgs fs δ).bind fun ds => .ok (.tup ds) := rfl
@[simp] theorem e_lst {fs : List Fn} : fLst fs δ = (fArgs fs δ).bind fun ds => .ok (.lst ds) := rfl
@[simp] theorem e_call {mm : List D -> Ou D} {fs : List Fn} : fCall mm fs δ = (fArgs fs δ).bind mm := rfl
@[simp] theorem e_args0 : fArgs [] δ = .ok [] := rfl
@[simp] theorem e_args {f : Fn} {fs : List Fn} : fArgs (f :: fs) δ = (f δ).bind fun d => (fArgs fs δ).bind fun ds => .ok (d :: ds) := rfl
@[simp] theorem e_meth {tb : MTab} {fo : Fn} {fs : List Fn} : fMeth tb fo fs δ = (fo δ).bind fun d => match tbM tb d with
 | some mm => (fArgs fs δ).bind fun ds => mm (d :: ds)
 | none => .bad := rfl
@[simp] theorem e_make0 {c : PySem.Str} : fMake0 c δ = .ok (.obj c) := rfl
@[simp] theorem tbM_head {c : PySem.Str} {f : List D -> Ou D} {tb : MTab} : tbM ((c,f) :: tb) (.obj c) = some f := by simp [tbM]
theorem tbM_tail {c c' : PySem.Str} {f : List D -> Ou D} {tb : MTab} (h : (c' == c) = false) : tbM ((c',f) :: tb) (.obj c) = tbM tb (.obj c) := by simp [tbM,h]
@[simp] theorem e_listL {ds : List D} : gListOf (.lst ds) = .ok (.lst ds) := rfl
@[simp] theorem e_listF {ds : List D} : gListOf (.frl ds) = .ok (.lst ds) := rfl
@[simp] theorem e_listT {ds : List D} : gListOf (.tup ds) = .ok (.lst ds) := rfl
@[simp] theorem e_isBl {d : D} {k : Bool} : gIsB d (.bl k) = .ok (.bl (isBl k d)) := rfl
@[simp] theorem e_notBl {d : D} {k : Bool} : gNotB d (.bl k) = .ok (.bl (!isBl k d)) := rfl
@[simp] theorem e_isBl2 {k k' : Bool} : isBl k (.bl k') = (k' == k) := rfl
@[simp] theorem e_isNn : gIsN .non = .ok (.bl true) := rfl
@[simp] theorem e_notNn : gNotN .non = .ok (.bl false) := rfl
@[simp] theorem e_sown {i : Nat} : sOwn i fa δ = (fa δ).bind fun d => .ok (.nx (δ.set i (.own d))) := rfl
@[simp] theorem e_asBb {b : Bool} : asB (.bl b) = .ok b := rfl
@[simp] theorem e_truB {b : Bool} : truD (.bl b) = .ok b := rfl
@[simp] theorem e_up : fUp fa δ = (fa δ).bind fun d => if imm d = true then .ok d else .bad := rfl
@[simp] theorem e_imm_i {i : Int} : imm (.int i) = true := rfl
@[simp] theorem e_imm_b {i : Bool} : imm (.bl i) = true := rfl
@[simp] theorem e_imm_s {i : Str} : imm (.str i) = true := rfl
@[simp] theorem e_imm_n : imm .non = true := rfl
@[simp] theorem e_imm_t {ds : List D} : imm (.tup ds) = imms ds := by simp [imm]
@[simp] theorem e_imms0 : imms [] = true := by simp [imms]
@[simp] theorem e_imms {d : D} {ds : List D} : imms (d :: ds) = (imm d && imms ds) := by simp [imms]
@[simp] theorem e_add {i j : Int} : gAdd (.int i) (.int j) = .ok (.int (i + j)) := rfl
@[simp] theorem e_sub {i j : Int} : gSub (.int i) (.int j) = .ok (.int (i - j)) := rfl
@[simp] theorem e_mul {i j : Int} : gMul (.int i) (.int j) = if cMul i j = true then .ok (.int (i * j)) else .bad := rfl
@[simp] theorem e_div {i j : Int} : gDiv (.int i) (.int j) = if cDiv i j = true then .ok (.int (i / j)) else .bad := rfl
@[simp] theorem e_mod {i j : Int} : gMod (.int i) (.int j) = if cMod i j = true then .ok (.int (i % j)) else .bad := rfl
@[simp] theorem e_pow {i j : Int} : gPow (.int i) (.int j) = if cPow i j = true then .ok (.int (i ^ j.toNat)) else .bad := rfl
@[simp] theorem e_shl {i j : Int} : gShl (.int i) (.int j) = if cPow i j = true then .ok (.int (i * 2 ^ j.toNat)) else .bad := rfl
@[simp] theorem e_shr {i j : Int} : gShr (.int i) (.int j) = if cShr i j = true then .ok (.int (i / 2 ^ j.toNat)) else .bad := rfl
@[simp] theorem e_xor {i j : Int} : gXor (.int i) (.int j) = .ok (.int (Builtin.bitXor i j)) := rfl
@[simp] theorem e_and {i j : Int} : gAnd (.int i) (.int j) = .ok (.int (Builtin.bitAnd i j)) := rfl
@[simp] theorem e_lt {i j : Int} : gLt (.int i) (.int j) = .ok (.bl (decide (i < j))) := rfl
@[simp] theorem e_le {i j : Int} : gLe (.int i) (.int j) = .ok (.bl (decide (i ≤ j))) := rfl
@[simp] theorem e_gt {i j : Int} : gGt (.int i) (.int j) = .ok (.bl (decide (j < i))) := rfl
@[simp] theorem e_ge {i j : Int} : gGe (.int i) (.int j) = .ok (.bl (decide (j ≤ i))) := rfl
theorem gEq_eq {x y : D} : gEq x y = match eqF (eqF (eqF (eqD 57))) x y with
 | some b => .ok (.bl b)
 | none => .bad := rfl
theorem gNe_eq {x y : D} : gNe x y = match eqF (eqF (eqF (eqD 57))) x y with
 | some b => .ok (.bl (!b))
 | none => .bad := rfl
@[simp] theorem e_eqI {i j : Int} : gEq (.int i) (.int j) = .ok (.bl (decide (i = j))) := rfl
@[simp] theorem e_eqB {i j : Bool} : gEq (.bl i) (.bl j) = .ok (.bl (decide (i = j))) := rfl
@[simp] theorem e_neI {i j : Int} : gNe (.int i) (.int j) = .ok (.bl (!decide (i = j))) := rfl
@[simp] theorem e_neg {i : Int} : gNeg (.int i) = .ok (.int (-i)) := rfl
@[simp] theorem e_min {i j : Int} : gMin [.int i,.int j] = .ok (.int (if j < i then j else i)) := rfl
@[simp] theorem e_max {i j : Int} : gMax [.int i,.int j] = .ok (.int (if j > i then j else i)) := rfl
@[simp] theorem e_lenL {ds : List D} : gLen [.lst ds] = .ok (.int (ds.length : Nat)) := rfl
@[simp] theorem e_lenF {ds : List D} : gLen [.frl ds] = .ok (.int (ds.length : Nat)) := rfl
@[simp] theorem e_lenT {ds : List D} : gLen [.tup ds] = .ok (.int (ds.length : Nat)) := rfl
@[simp] theorem e_ixT {ds : List D} {i : Int} : gIx (.tup ds) (.int i) = match atI ds i with
 | some d => .ok d
 | none => .bad := rfl
@[simp] theorem e_ixL {ds : List D} {i : Int} : gIx (.lst ds) (.int i) = match atI ds i with
 | some d => .ok d
 | none => .bad := rfl
@[simp] theorem e_ixF {ds : List D} {i : Int} : gIx (.frl ds) (.int i) = match atI ds i with
 | some d => .ok d
 | none => .bad := rfl
@[simp] theorem e_isI {i : Int} {T : String} : gIs T (.int i) = .ok (.bl (isT "int" T)) := rfl
@[simp] theorem e_isB {i : Bool} {T : String} : gIs T (.bl i) = .ok (.bl (isT "bool" T)) := rfl
@[simp] theorem e_isS {i : Str} {T : String} : gIs T (.str i) = .ok (.bl (isT "str" T)) := rfl
@[simp] theorem e_isN {T : String} : gIs T .non = .ok (.bl (isT "NoneType" T)) := rfl
@[simp] theorem e_isT {ds : List D} {T : String} : gIs T (.tup ds) = .ok (.bl (isT "tuple" T)) := rfl
@[simp] theorem e_isL {ds : List D} {T : String} : gIs T (.lst ds) = .ok (.bl (isT "list" T)) := rfl
@[simp] theorem e_isF {ds : List D} {T : String} : gIs T (.frl ds) = .ok (.bl (isT "list" T)) := rfl
@[simp] theorem e_run {n : Nat} {ds : List D} : runD false n F ds = (F (startD n ds)).bind fun r => match r with
 | .rt d => .ok d
 | .nx _ => .ok .non
 | _ => .bad := by unfold runD; rfl
@[simp] theorem e_runF {n : Nat} {ds : List D} : runD true n F ds = (F (startD n ds)).bind fun r => match r with
 | .rt d => .ok d
 | _ => .bad := by
 unfold runD
 congr 1
 funext r
 cases r <;> rfl
@[simp] theorem bind_bind {α β γ : Type} {o : Ou α} {f : α -> Ou β} {h : β -> Ou γ} : (o.bind f).bind h = o.bind fun a => (f a).bind h := by
 cases o <;> rfl
@[simp] theorem ite_bl {p : Prop} [Decidable p] {q : Bool} : (if p then Ou.ok (D.bl q) else Ou.ok (D.bl false)) = .ok (.bl (decide p && q)) := by
 by_cases h : p <;> simp [h]
@[simp] theorem ite_bl' {p : Prop} [Decidable p] {q : Bool} : (if p then Ou.ok (D.bl true) else Ou.ok (D.bl q)) = .ok (.bl (decide p || q)) := by
 by_cases h : p <;> simp [h]
@[simp] theorem ite_b {p : Prop} [Decidable p] {q : Bool} : (if p then Ou.ok q else Ou.ok false) = .ok (decide p && q) := by
 by_cases h : p <;> simp [h]
@[simp] theorem ite_b' {p : Prop} [Decidable p] {q : Bool} : (if p then Ou.ok true else Ou.ok q) = .ok (decide p || q) := by
 by_cases h : p <;> simp [h]
@[simp] theorem cDiv_ok {i j : Int} (h : 0 < j) (h2 : j < 2 ^ 64) : cDiv i j = true := by simp [cDiv]; lia
@[simp] theorem cMod_ok {i j : Int} (h : 0 < j) : cMod i j = true := by simp [cMod]; lia
@[simp] theorem cMul_l {i j : Int} (h : -(2 ^ 64) < i) (h2 : i < 2 ^ 64) : cMul i j = true := by simp [cMul]; lia
@[simp] theorem cMul_r {i j : Int} (h : -(2 ^ 64) < j) (h2 : j < 2 ^ 64) : cMul i j = true := by simp [cMul]; lia
theorem at_0 {α : Type} {x : α} {r : List α} : atI (x :: r) 0 = some x := by
 unfold atI ixN
 simp
theorem at_nat {α : Type} {xs : List α} {k : Nat} (h : k < xs.length) : atI xs (k : Int) = some xs[k] := by
 unfold atI ixN
 have h1 : (0 : Int) ≤ (k : Int) := by lia
 have h2 : (k : Int) < (xs.length : Int) := by lia
 simp [h1,h2,h]
theorem at_1 {α : Type} {x y : α} {r : List α} : atI (x :: y :: r) 1 = some y := at_nat (xs := x :: y :: r) (k := 1) (by simp)
theorem at_2 {α : Type} {x y z : α} {r : List α} : atI (x :: y :: z :: r) 2 = some z := at_nat (xs := x :: y :: z :: r) (k := 2) (by simp)
theorem at_3 {α : Type} {x y z u : α} {r : List α} : atI (x :: y :: z :: u :: r) 3 = some u := at_nat (xs := x :: y :: z :: u :: r) (k := 3) (by simp)
theorem at_4 {α : Type} {x y z u v : α} {r : List α} : atI (x :: y :: z :: u :: v :: r) 4 = some v := at_nat (xs := x :: y :: z :: u :: v :: r) (k := 4) (by simp)
def Goes (Inv : DS -> Prop) (o : Ou Fl) : Prop := ∃ δ2,(o = .ok (.nx δ2) ∨ o = .ok (.ct δ2)) ∧ Inv δ2
theorem Goes.nx {Inv : DS -> Prop} {δ : DS} (h : Inv δ) : Goes Inv (.ok (.nx δ)) := ⟨δ,.inl rfl,h⟩
theorem Goes.eq {Inv : DS -> Prop} {o : Ou Fl} {δ2 : DS} (e : o = .ok (.nx δ2)) (h : Inv δ2) : Goes Inv o := ⟨δ2,.inl e,h⟩
theorem Goes.ct {Inv : DS -> Prop} {δ : DS} (h : Inv δ) : Goes Inv (.ok (.ct δ)) := ⟨δ,.inr rfl,h⟩
theorem forL_goes {g : D -> DS -> Ou DS} {body : Sm} (Inv : DS -> Prop) : ∀ (items : List D) (_ : ∀ d ∈ items,∀ δ,Inv δ -> Goes Inv ((g d δ).bind body)) (δ : DS),Inv δ -> ∃ δ',forL g body items δ = .ok (.nx δ') ∧ Inv δ'
 | [],_,δ,h => ⟨δ,rfl,h⟩
 | d :: r,hs,δ,h => by
  obtain ⟨δ2,h1,h2⟩ := hs d List.mem_cons_self δ h
  obtain ⟨δ',h3,h4⟩ := forL_goes Inv r (fun d hd => hs d (List.mem_cons_of_mem _ hd)) δ2 h2
  refine ⟨δ',?_,h4⟩
  cases e : g d δ with
  | ok δ1 =>
   simp only [forL,e,bind_ok] at h1 ⊢
   rcases h1 with h1 | h1 <;> rw [h1] <;> exact h3
  | ex z => rw [e] at h1; rcases h1 with h1 | h1 <;> cases h1
  | bad => rw [e] at h1; rcases h1 with h1 | h1 <;> cases h1
theorem For.use {g : D -> DS -> Ou DS} {body : Sm} {items : List D} {δ : DS} {α : Type} {k : Fl -> Ou α} {r : Ou α} (Inv : DS -> Prop) (h0 : Inv δ) (hs : ∀ d ∈ items,∀ δ,Inv δ -> Goes Inv ((g d δ).bind body))
  (hd : ∀ δ,Inv δ -> k (.nx δ) = r) : (forL g body items δ).bind k = r := by
 obtain ⟨δ',e,q⟩ := forL_goes Inv items hs δ h0
 rw [e]
 exact hd δ' q
theorem forL_goesN {g : D -> DS -> Ou DS} {body : Sm} (Inv : Nat -> DS -> Prop) : ∀ (items : List D) (n : Nat) (_ : ∀ i d,items[i]? = some d -> ∀ δ,Inv (n + i) δ -> Goes (Inv (n + i + 1)) ((g d δ).bind body)) (δ : DS),Inv n δ -> ∃ δ',forL g body items δ = .ok (.nx δ') ∧ Inv (n + items.length) δ'
 | [],n,_,δ,h => ⟨δ,rfl,h⟩
 | d :: r,n,hs,δ,h => by
  obtain ⟨δ2,h1,h2⟩ := hs 0 d rfl δ h
  obtain ⟨δ',h3,h4⟩ := forL_goesN Inv r (n + 1) (fun i d hd δ hi => by
   have e : n + 1 + i = n + (i + 1) := by lia
   rw [e] at hi ⊢
   exact hs (i + 1) d (by simpa using hd) δ hi) δ2 h2
  refine ⟨δ',?_,by
   rw [List.length_cons]
   have e : n + (r.length + 1) = n + 1 + r.length := by lia
   rw [e]; exact h4⟩
  cases e : g d δ with
  | ok δ1 =>
   simp only [forL,e,bind_ok] at h1 ⊢
   rcases h1 with h1 | h1 <;> rw [h1] <;> exact h3
  | ex z => rw [e] at h1; rcases h1 with h1 | h1 <;> cases h1
  | bad => rw [e] at h1; rcases h1 with h1 | h1 <;> cases h1
@[simp] theorem e_nm {i : Nat} {d : D} {δ : DS} : gNm i d δ = .ok (δ.set i (.val d)) := rfl
theorem mem_rng {lo : Int} {n : Nat} {d : D} (h : d ∈ rng lo n) : ∃ k : Nat,k < n ∧ d = .int (lo + (k : Int)) := by
 unfold rng at h
 obtain ⟨k,h1,h2⟩ := List.mem_map.mp h
 exact ⟨k,List.mem_range.mp h1,h2.symm⟩
theorem rng1 {g : D -> DS -> Ou DS} {F : Sm} {fs : List Fn} {δ : DS} {j : Int} (h : fArgs fs δ = .ok [.int j]) (hj : rOk j = true) : sRng fs g F δ = forL g F (rng 0 j.toNat) δ := by
 simp only [sRng,h,bind_ok,hj,if_true]
theorem Rng.use {g : D -> DS -> Ou DS} {body : Sm} {fs : List Fn} {δ : DS} {j : Int} {α : Type} {k : Fl -> Ou α} {r : Ou α} (h : fArgs fs δ = .ok [.int j]) (hj : rOk j = true) (Inv : DS -> Prop) (h0 : Inv δ)
  (hs : ∀ n : Nat,(n : Int) < j -> ∀ δ,Inv δ -> Goes Inv ((g (.int (n : Int)) δ).bind body)) (hd : ∀ δ,Inv δ -> k (.nx δ) = r) : (sRng fs g body δ).bind k = r := by
 rw [rng1 h hj]
 refine For.use Inv h0 (fun d hm δ hi => ?_) hd
 obtain ⟨n,hn,rfl⟩ := mem_rng hm
 have e : (0 : Int) + (n : Int) = (n : Int) := by lia
 rw [e]
 exact hs n (by lia) δ hi
end
end DL
namespace DL
open PySem L2
section
@[simp] theorem e_eqS {x y : Str} : gEq (.str x) (.str y) = .ok (.bl (decide (x = y))) := by
 simp [gEq_eq,eqF,rk,toV,eqV]; rfl
@[simp] theorem e_neS {x y : Str} : gNe (.str x) (.str y) = .ok (.bl (!decide (x = y))) := by
 simp [gNe_eq,eqF,rk,toV,eqV]; rfl
end
end DL
namespace DL
open PySem L2
section
@[simp high] theorem e_min' {i j : Int} : gMin [.int i,.int j] = .ok (.int (min i j)) := by
 rw [e_min]; congr 2; by_cases h : j < i <;> simp [h] <;> lia
@[simp high] theorem e_max' {i j : Int} : gMax [.int i,.int j] = .ok (.int (max i j)) := by
 rw [e_max]; congr 2; by_cases h : j > i <;> simp [h] <;> lia
@[simp] theorem e_addI {i j : Int} : gAddI (.int i) (.int j) = .ok (.int (i + j)) := rfl
@[simp] theorem e_subI {i j : Int} : gSubI (.int i) (.int j) = .ok (.int (i - j)) := rfl
end
end DL
namespace DL
open PySem L2
theorem cut_drop (ds : List D) (k : Nat) (h : k ≤ ds.length) : cutD ds (some (k : Int)) none = ds.drop k := by
 unfold cutD
 rw [HT.sIx_nat,HT.sIx_none,Nat.min_eq_left h,← List.length_drop]
 exact List.take_length
theorem at_map {ns : List Int} {k : Nat} (h : k < ns.length) : atI (ns.map D.int) (k : Int) = some (.int ns[k]) := by
 rw [at_nat (by simpa using h)]; simp
end DL
namespace DL
open PySem L2
theorem comp_inv {g : D -> DS -> Ou DS} {gc : DS -> Ou Bool} {fe : Fn} (Inv : DS -> Prop) (R : Nat -> D -> Prop) : ∀ (items : List D) (n : Nat),(∀ i d,items[i]? = some d -> ∀ δ,Inv δ -> ∃ δ1 y,g d δ = .ok δ1 ∧ gc δ1 = .ok true ∧ fe δ1 = .ok y ∧ Inv δ1 ∧ R (n + i) y) ->
  ∀ δ,Inv δ -> ∃ ys,compL g gc fe items δ = .ok ys ∧ ys.length = items.length ∧ ∀ i y,ys[i]? = some y -> R (n + i) y
 | [],n,_,δ,_ => ⟨[],rfl,rfl,fun i y e => by simp at e⟩
 | d :: r,n,h,δ,hI => by
  obtain ⟨δ1,y,h1,h2,h3,h4,h5⟩ := h 0 d rfl δ hI
  obtain ⟨ys,e,hl,hR⟩ := comp_inv Inv R r (n + 1) (fun i d hd δ hI => by
   have z := h (i + 1) d (by simpa using hd) δ hI
   have e : n + (i + 1) = n + 1 + i := by lia
   rw [e] at z
   exact z) δ1 h4
  refine ⟨y :: ys,by simp [compL,h1,h2,h3,e],by simp [hl],fun i z hz => ?_⟩
  cases i with
  | zero => simp at hz; subst hz; exact h5
  | succ i =>
   have w := hR i z (by simpa using hz)
   have e : n + 1 + i = n + (i + 1) := by lia
   rw [e] at w
   exact w
theorem comp_filter {g : D -> DS -> Ou DS} {gc : DS -> Ou Bool} {fe : Fn} (Inv : DS -> Prop) (p : D -> Bool) (f : D -> D) : ∀ (items : List D),(∀ d ∈ items,∀ δ,Inv δ -> ∃ δ1,g d δ = .ok δ1 ∧ gc δ1 = .ok (p d) ∧ (p d = true -> fe δ1 = .ok (f d)) ∧ Inv δ1) ->
  ∀ δ,Inv δ -> compL g gc fe items δ = .ok ((items.filter p).map f)
 | [],_,_,_ => rfl
 | d :: r,h,δ,hI => by
  obtain ⟨δ1,h1,h2,h3,h4⟩ := h d List.mem_cons_self δ hI
  have e := comp_filter Inv p f r (fun d hd => h d (List.mem_cons_of_mem _ hd)) δ1 h4
  cases hp : p d with
  | true => simp [compL,h1,h2,hp,h3 hp,e]
  | false => simp [compL,h1,h2,hp,e]
theorem comp_map {g : D -> DS -> Ou DS} {fe : Fn} (Inv : DS -> Prop) (f : D -> D) (items : List D) (h : ∀ d ∈ items,∀ δ,Inv δ -> ∃ δ1,g d δ = .ok δ1 ∧ fe δ1 = .ok (f d) ∧ Inv δ1) (δ : DS) (hI : Inv δ) : compL g fYes fe items δ = .ok (items.map f) := by
 have := comp_filter (gc := fYes) Inv (fun _ => true) f items (fun d hd δ hI => by
  obtain ⟨δ1,h1,h2,h3⟩ := h d hd δ hI
  exact ⟨δ1,h1,rfl,fun _ => h2,h3⟩) δ hI
 rw [List.filter_eq_self.mpr (fun _ _ => rfl)] at this
 exact this
inductive Row2 {α : Type} (R : D -> α -> Prop) : List D -> List α -> Prop
 | nil : Row2 R [] []
 | cons {d : D} {x : α} {ds : List D} {xs : List α} : R d x -> Row2 R ds xs -> Row2 R (d :: ds) (x :: xs)
section
variable {α : Type} {R : D -> α -> Prop}
theorem Row2.app {ds es : List D} {xs ys : List α} (h : Row2 R ds xs) (k : Row2 R es ys) : Row2 R (ds ++ es) (xs ++ ys) := by
 induction h with
 | nil => exact k
 | cons a _ ih => exact .cons a ih
theorem Row2.len {ds : List D} {xs : List α} (h : Row2 R ds xs) : ds.length = xs.length := by
 induction h with
 | nil => rfl
 | cons _ _ ih => simp [ih]
theorem Row2.drop {ds : List D} {xs : List α} (h : Row2 R ds xs) : ∀ n,Row2 R (ds.drop n) (xs.drop n) := by
 induction h with
 | nil => intro n; simpa using Row2.nil
 | cons a t ih =>
  intro n
  cases n with
  | zero => exact .cons a t
  | succ n => exact ih n
theorem Row2.take {ds : List D} {xs : List α} (h : Row2 R ds xs) : ∀ n,Row2 R (ds.take n) (xs.take n) := by
 induction h with
 | nil => intro n; simpa using Row2.nil
 | cons a t ih =>
  intro n
  cases n with
  | zero => exact .nil
  | succ n => exact .cons a (ih n)
theorem Row2.get {ds : List D} {xs : List α} (h : Row2 R ds xs) {k : Nat} {d : D} (e : ds[k]? = some d) : ∃ x,xs[k]? = some x ∧ R d x := by
 induction h generalizing k with
 | nil => simp at e
 | @cons d' x ds xs a t ih =>
  cases k with
  | zero => simp at e; subst e; exact ⟨x,rfl,a⟩
  | succ k => obtain ⟨x,h1,h2⟩ := ih (by simpa using e); exact ⟨x,by simpa using h1,h2⟩
theorem Row2.rep {d : D} {x : α} (h : R d x) : ∀ n : Nat,Row2 R (List.replicate n d) (List.replicate n x)
 | 0 => .nil
 | n + 1 => .cons h (Row2.rep h n)
end
theorem at_last {α : Type} {xs : List α} {x : α} : atI (xs ++ [x]) (-1) = some x := by
 unfold atI ixN
 have h : -(((xs ++ [x]).length : Nat) : Int) ≤ -1 := by simp; lia
 have e : ((-1 : Int) + ((xs ++ [x]).length : Nat)).toNat = xs.length := by simp; lia
 rw [if_neg (by decide),if_pos h,e]
 simp
theorem eq_nilL (ds : List D) : gEq (.lst ds) (.lst []) = .ok (.bl (decide (ds = []))) := by
 cases ds with
 | nil => rfl
 | cons d r => simp [gEq_eq,eqF,rk,its,eqL]
theorem cut_map (ns : List Int) (lo hi : Option Int) : ∃ ms : List Int,cutD (ns.map D.int) lo hi = ms.map D.int ∧ ms.length ≤ ns.length := by
 refine ⟨(ns.drop (HT.sIx ns.length 0 lo)).take (HT.sIx ns.length ns.length hi - HT.sIx ns.length 0 lo),?_,?_⟩
 ·unfold cutD
  rw [List.length_map,List.map_take,List.map_drop]
 ·rw [List.length_take,List.length_drop]; lia
theorem Rng3.use {g : D -> DS -> Ou DS} {body : Sm} {fs : List Fn} {δ : DS} {a b c : Int} {α : Type} {k : Fl -> Ou α} {r : Ou α} (h : fArgs fs δ = .ok [.int a,.int b,.int c]) (hj : rOk3 a b c = true) (Inv : DS -> Prop) (h0 : Inv δ)
  (hs : ∀ n : Int,a ≤ n -> n < b -> ∀ δ,Inv δ -> Goes Inv ((g (.int n) δ).bind body)) (hd : ∀ δ,Inv δ -> k (.nx δ) = r) : (sRng3 fs g body δ).bind k = r := by
 have hc : 0 < c := by simp [rOk3] at hj; lia
 have e : sRng3 fs g body δ = forL g body (rngS a c (stepN a b c)) δ := by simp only [sRng3,h,bind_ok,hj,if_true]
 rw [e]
 refine For.use Inv h0 (fun d hm δ hi => ?_) hd
 unfold rngS at hm
 obtain ⟨n,hn,rfl⟩ := List.mem_map.mp hm
 have hn := List.mem_range.mp hn
 have p : 0 ≤ (n : Int) * c := Int.mul_nonneg (by lia) (by lia)
 refine hs _ (by lia) ?_ δ hi
 unfold stepN at hn
 by_cases hab : a < b
 ·rw [if_pos hab] at hn
  have h1 : (n : Int) ≤ (b - a - 1) / c := by lia
  have h2 : (n : Int) * c ≤ (b - a - 1) / c * c := Int.mul_le_mul_of_nonneg_right h1 (by lia)
  have h3 : (b - a - 1) / c * c ≤ b - a - 1 := Int.ediv_mul_le _ (by lia)
  lia
 ·rw [if_neg hab] at hn; lia
end DL
namespace DL
open PySem L2
theorem For.useP {g : D -> DS -> Ou DS} {body : Sm} {items : List D} {δ : DS} {α : Type} {k : Fl -> Ou α} (P : Ou α -> Prop) (Inv : Nat -> DS -> Prop) (h0 : Inv 0 δ) (hs : ∀ i d,items[i]? = some d -> i < items.length -> ∀ δ,Inv i δ -> Goes (Inv (i + 1)) ((g d δ).bind body))
  (hd : ∀ δ,Inv items.length δ -> P (k (.nx δ))) : P ((forL g body items δ).bind k) := by
 obtain ⟨δ',e,q⟩ := forL_goesN Inv items 0 (fun i d hd δ hi => by
  rw [Nat.zero_add] at hi ⊢
  exact hs i d hd (List.getElem?_eq_some_iff.mp hd).1 δ hi) δ h0
 rw [e]
 rw [Nat.zero_add] at q
 exact hd δ' q
theorem Rng.useP {g : D -> DS -> Ou DS} {body : Sm} {fs : List Fn} {δ : DS} {j : Int} {α : Type} {k : Fl -> Ou α} (P : Ou α -> Prop) (h : fArgs fs δ = .ok [.int j]) (hj : rOk j = true) (Inv : Nat -> DS -> Prop) (h0 : Inv 0 δ)
  (hs : ∀ n : Nat,(n : Int) < j -> ∀ δ,Inv n δ -> Goes (Inv (n + 1)) ((g (.int (n : Int)) δ).bind body)) (hd : ∀ δ,Inv j.toNat δ -> P (k (.nx δ))) : P ((sRng fs g body δ).bind k) := by
 rw [rng1 h hj]
 refine For.useP P Inv h0 (fun i d hm hi δ hI => ?_) (by rw [rng_len]; exact hd)
 obtain ⟨h1,rfl⟩ := rng_get hm
 have e : (0 : Int) + (i : Int) = (i : Int) := by lia
 rw [e]
 exact hs i (by lia) δ hI
theorem snoc {α : Type} : ∀ {xs : List α},xs ≠ [] -> ∃ r x,xs = r ++ [x]
 | [],h => absurd rfl h
 | [x],_ => ⟨[],x,rfl⟩
 | x :: y :: r,_ => by
  obtain ⟨r',z,e⟩ := snoc (xs := y :: r) (by simp)
  exact ⟨x :: r',z,by rw [e]; rfl⟩
end DL
namespace DL
open PySem L2
theorem zipO_mono {f f' : D -> D -> Option Bool} (hf : ∀ x y b,f x y = some b -> f' x y = some b) : ∀ {xs ys : List D} {bs : List Bool},zipO f xs ys = some bs -> zipO f' xs ys = some bs
 | [],_,_,h => by simpa [zipO] using h
 | x :: xs,[],_,h => by simpa [zipO] using h
 | x :: xs,y :: ys,bs,h => by
  simp only [zipO] at h ⊢
  cases e : f x y with
  | none => rw [e] at h; cases h
  | some b =>
   rw [e] at h
   rw [hf x y b e]
   cases e2 : zipO f xs ys with
   | none => rw [e2] at h; cases h
   | some bs' => rw [e2] at h; rw [zipO_mono hf e2]; exact h
theorem eqF_mono {f f' : D -> D -> Option Bool} (hf : ∀ x y b,f x y = some b -> f' x y = some b) {x y : D} {b : Bool} (h : eqF f x y = some b) : eqF f' x y = some b := by
 unfold eqF at h ⊢
 split at h <;> try exact h
 ·unfold eqT at h ⊢
  cases e : zipO f (its x) (its y) with
  | none => rw [e] at h; cases h
  | some bs => rw [e] at h; rw [zipO_mono hf e]; exact h
 ·unfold eqL at h ⊢
  by_cases hl : (its x).length = (its y).length
  ·rw [if_pos hl] at h ⊢
   cases e : zipO f (its x) (its y) with
   | none => rw [e] at h; cases h
   | some bs => rw [e] at h; rw [zipO_mono hf e]; exact h
  ·rw [if_neg hl] at h ⊢; exact h
theorem eqD_mono1 : ∀ (n : Nat) {x y : D} {b : Bool},eqD n x y = some b -> eqD (n + 1) x y = some b
 | 0,_,_,_,h => nomatch h
 | n + 1,_,_,_,h => eqF_mono (f := eqD n) (fun _ _ _ z => eqD_mono1 n z) h
theorem eqD_mono {n m : Nat} (h : n ≤ m) {x y : D} {b : Bool} (e : eqD n x y = some b) : eqD m x y = some b := by
 induction h with
 | refl => exact e
 | step _ ih => exact eqD_mono1 _ ih
def Self (n : Nat) (x : D) : Prop := eqD n x x = some true
theorem Self.mono {n m : Nat} {x : D} (h : Self n x) (hm : n ≤ m) : Self m x := eqD_mono hm h
theorem Self.int (i : Int) : Self 1 (.int i) := by show eqF _ _ _ = _; simp [eqF,rk,toV,eqV]
theorem Self.str (i : Str) : Self 1 (.str i) := by show eqF _ _ _ = _; simp [eqF,rk,toV,eqV]
theorem Self.bl (i : Bool) : Self 1 (.bl i) := by show eqF _ _ _ = _; simp [eqF,rk,toV,eqV]
theorem Self.non : Self 1 .non := rfl
theorem zip_self {n : Nat} : ∀ {xs : List D},(∀ x ∈ xs,Self n x) -> zipO (eqD n) xs xs = some (xs.map fun _ => true)
 | [],_ => rfl
 | x :: xs,h => by
  have h1 : eqD n x x = some true := h x List.mem_cons_self
  simp [zipO,h1,zip_self fun y hy => h y (List.mem_cons_of_mem _ hy)]
theorem Self.tup {n : Nat} {xs : List D} (h : ∀ x ∈ xs,Self n x) : Self (n + 1) (.tup xs) := by
 show eqF (eqD n) _ _ = _
 simp [eqF,rk,its,eqT,zip_self h]
theorem Self.lst {n : Nat} {xs : List D} (h : ∀ x ∈ xs,Self n x) : Self (n + 1) (.lst xs) := by
 show eqF (eqD n) _ _ = _
 simp [eqF,rk,its,eqL,zip_self h]
theorem Self.eq {n : Nat} {x : D} (h : Self n x) (hn : n ≤ 60) : gEq x x = .ok (.bl true) := by
 have e : eqD 60 x x = some true := eqD_mono hn h
 unfold gEq
 rw [e]
theorem Self.ne {n : Nat} {x : D} (h : Self n x) (hn : n ≤ 60) : gNe x x = .ok (.bl false) := by
 have e : eqD 60 x x = some true := eqD_mono hn h
 unfold gNe
 rw [e]; rfl
end DL
namespace DL
open PySem L2
end DL
namespace DL
open PySem L2
@[simp] theorem e_mulB {i j : Int} : gMulB (.int i) (.int j) = if cMulB i j = true then .ok (.int (i * j)) else .bad := rfl
end DL
namespace DL
theorem len0 {α : Type} {P : List α -> Prop} (h : P []) : ∀ us,us.length = 0 -> P us
 | [],_ => h
theorem len1 {α : Type} {P : List α -> Prop} (h : ∀ a,P [a]) : ∀ us,us.length = 1 -> P us
 | [a],_ => h a
theorem len2 {α : Type} {P : List α -> Prop} (h : ∀ a b,P [a,b]) : ∀ us,us.length = 2 -> P us
 | [a,b],_ => h a b
theorem len3 {α : Type} {P : List α -> Prop} (h : ∀ a b c,P [a,b,c]) : ∀ us,us.length = 3 -> P us
 | [a,b,c],_ => h a b c
theorem len4 {α : Type} {P : List α -> Prop} (h : ∀ a b c d,P [a,b,c,d]) : ∀ us,us.length = 4 -> P us
 | [a,b,c,d],_ => h a b c d
theorem len5 {α : Type} {P : List α -> Prop} (h : ∀ a b c d e,P [a,b,c,d,e]) : ∀ us,us.length = 5 -> P us
 | [a,b,c,d,e],_ => h a b c d e
end DL
namespace DL
section
variable {ga : DS -> Ou Bool} {fa : Fn} {F G : Sm} {δ : DS} {b : Bool} {d : D} {i : Nat} {j w : Int}
theorem if_no (h : ga δ = .ok b) (hb : b = false) : sSeq (sIf ga F sNext) G δ = G δ := by
 subst hb
 show ((ga δ).bind _).bind _ = _
 rw [h]; rfl
theorem if_ret (h : ga δ = .ok b) (hb : b = true) (hd : fa δ = .ok d) : sSeq (sIf ga (sSeq (sRet fa) sNext) sNext) G δ = .ok (.rt d) := by
 subst hb
 show ((ga δ).bind _).bind _ = _
 rw [h]
 show (((fa δ).bind _).bind _).bind _ = _
 rw [hd]; rfl
theorem ret_is (hd : fa δ = .ok d) : sSeq (sRet fa) G δ = .ok (.rt d) := by
 show ((fa δ).bind _).bind _ = _
 rw [hd]; rfl
theorem forL_nx {g : D -> DS -> Ou DS} {x : D} {xs : List D} {δ1 δ2 : DS} (h1 : g x δ = .ok δ1) (h2 : F δ1 = .ok (.nx δ2)) : forL g F (x :: xs) δ = forL g F xs δ2 := by
 conv => lhs; unfold forL
 rw [h1]
 show (F δ1).bind _ = _
 rw [h2]; rfl
theorem run_rt {n : Nat} {ds : List D} (h : F (startD n ds) = .ok (.rt d)) : runD false n F ds = .ok d := by
 unfold runD
 rw [h]; rfl
end
end DL
namespace Bt
theorem bits_le_iff {x y n : Nat} : bits (x ^^^ y) ≤ n ↔ x / 2 ^ n = y / 2 ^ n := by
 constructor
 ·intro h
  have e := div_same (f := x) (l := y)
  obtain ⟨d,rfl⟩ := Nat.exists_eq_add_of_le h
  rw [Nat.pow_add,← Nat.div_div_eq_div_mul,← Nat.div_div_eq_div_mul,e]
 ·intro h
  refine bits_le ?_
  have : (x ^^^ y) / 2 ^ n = 0 := by rw [Nat.xor_div_two_pow,h]; simp
  have p := Nat.two_pow_pos n
  exact (Nat.div_eq_zero_iff_lt p).mp this
theorem div_up {x y m n : Nat} (h : x / 2 ^ m = y / 2 ^ m) (hmn : m ≤ n) : x / 2 ^ n = y / 2 ^ n := by
 obtain ⟨d,rfl⟩ := Nat.exists_eq_add_of_le hmn
 rw [Nat.pow_add,← Nat.div_div_eq_div_mul,← Nat.div_div_eq_div_mul,h]
theorem in_block {x q i : Nat} : x / 2 ^ i = q ↔ q * 2 ^ i ≤ x ∧ x < q * 2 ^ i + 2 ^ i := by
 have p := Nat.two_pow_pos i
 rw [Nat.div_eq_iff p]
 have e : q * 2 ^ i + 2 ^ i - 1 + 1 = q * 2 ^ i + 2 ^ i := by lia
 constructor
 ·rintro ⟨h1,h2⟩; exact ⟨h1,by lia⟩
 ·rintro ⟨h1,h2⟩; exact ⟨h1,by lia⟩
theorem bits_blocks {q i r j x y a c : Nat} (hd : q * 2 ^ i + 2 ^ i ≤ r * 2 ^ j) (hx : x / 2 ^ i = q) (ha : a / 2 ^ i = q) (hy : y / 2 ^ j = r) (hc : c / 2 ^ j = r) : bits (x ^^^ y) = bits (a ^^^ c) := by
 have key : ∀ u v,u / 2 ^ i = q -> v / 2 ^ j = r -> ∀ m,u / 2 ^ m = v / 2 ^ m -> i ≤ m ∧ j ≤ m := by
  intro u v hu hv m h
  have h1 := in_block.mp hu
  have h2 := in_block.mp hv
  constructor
  ·refine Nat.le_of_not_lt fun hm => ?_
   have := div_up h (Nat.le_of_lt hm)
   rw [hu] at this
   have := in_block.mp this.symm
   lia
  ·refine Nat.le_of_not_lt fun hm => ?_
   have := div_up h (Nat.le_of_lt hm)
   rw [hv] at this
   have := in_block.mp this
   lia
 have one : ∀ u v u' v',u / 2 ^ i = q -> v / 2 ^ j = r -> u' / 2 ^ i = q -> v' / 2 ^ j = r -> bits (u ^^^ v) ≤ bits (u' ^^^ v') := by
  intro u v u' v' hu hv hu' hv'
  have h := bits_le_iff.mp (Nat.le_refl (bits (u' ^^^ v')))
  obtain ⟨h1,h2⟩ := key u' v' hu' hv' _ h
  refine bits_le_iff.mpr ?_
  rw [div_up (hu.trans hu'.symm) h1,div_up (hv.trans hv'.symm) h2]
  exact h
 exact Nat.le_antisymm (one x y a c hx hy ha hc) (one a c x y ha hc hx hy)
theorem bits_pos {x y : Nat} (h : x < y) : 0 < bits (x ^^^ y) := by
 refine Nat.pos_of_ne_zero fun e => ?_
 have := bits_le_iff.mp (Nat.le_of_eq e)
 simp at this
 lia
theorem halves {q i r j n Q : Nat} (hd : q * 2 ^ i + 2 ^ i ≤ r * 2 ^ j) (hn : bits ((q * 2 ^ i) ^^^ (r * 2 ^ j)) = n + 1) (hQ : q * 2 ^ i / 2 ^ (n + 1) = Q) :
  Q * 2 ^ (n + 1) ≤ q * 2 ^ i ∧ q * 2 ^ i + 2 ^ i ≤ Q * 2 ^ (n + 1) + 2 ^ n ∧ Q * 2 ^ (n + 1) + 2 ^ n ≤ r * 2 ^ j ∧ r * 2 ^ j + 2 ^ j ≤ Q * 2 ^ (n + 1) + 2 ^ (n + 1) := by
 have pi := Nat.two_pow_pos i
 have pj := Nat.two_pow_pos j
 have pn := Nat.two_pow_pos n
 have hlt : q * 2 ^ i < r * 2 ^ j := by lia
 have hz : (q * 2 ^ i) ^^^ (r * 2 ^ j) ≠ 0 := fun e => by
  have := xor_zero_eq e
  lia
 obtain ⟨m,Q',h1,h2,h3,h4⟩ := half (Nat.le_of_lt hlt) hz
 obtain rfl : m = n := by lia
 obtain rfl : Q' = Q := by rw [← h2,← hQ]
 have pr : ∀ x y,x / 2 ^ i = q -> y / 2 ^ j = r -> x < Q' * 2 ^ (m + 1) + 2 ^ m ∧ Q' * 2 ^ (m + 1) + 2 ^ m ≤ y ∧ y < Q' * 2 ^ (m + 1) + 2 ^ (m + 1) := by
  intro x y hx hy
  have e := bits_blocks hd hx (Nat.mul_div_cancel q pi) hy (Nat.mul_div_cancel r pj)
  have b1 := in_block.mp hx
  have b2 := in_block.mp hy
  have hxy : x < y := by lia
  have hz2 : x ^^^ y ≠ 0 := fun e => by
   have := xor_zero_eq e
   lia
  obtain ⟨m',Q2,g1,g2,g3,g4⟩ := half (Nat.le_of_lt hxy) hz2
  obtain rfl : m' = m := by lia
  have hb : x / 2 ^ (m' + 1) = y / 2 ^ (m' + 1) := bits_le_iff.mp (Nat.le_of_eq g1)
  have hi : i ≤ m' + 1 := by
   refine Nat.le_of_not_lt fun hm => ?_
   have := div_up hb (Nat.le_of_lt hm)
   rw [hx] at this
   have := in_block.mp this.symm
   lia
  have hQ2 : Q2 = Q' := by
   rw [← g2,← h2]
   exact div_up (hx.trans (Nat.mul_div_cancel q pi).symm) hi
  subst hQ2
  rw [hb] at g2
  have := in_block.mp g2
  exact ⟨g3,g4,this.2⟩
 have f1 : (q * 2 ^ i + 2 ^ i - 1) / 2 ^ i = q := in_block.mpr ⟨by lia,by lia⟩
 have f2 : (r * 2 ^ j) / 2 ^ j = r := Nat.mul_div_cancel r pj
 have f3 : (r * 2 ^ j + 2 ^ j - 1) / 2 ^ j = r := in_block.mpr ⟨by lia,by lia⟩
 have a1 := pr _ _ f1 f2
 have a2 := pr _ _ f1 f3
 have a3 := in_block.mp h2
 lia
end Bt
namespace Tr
open DL
abbrev all : Nat := 1073741824
inductive T
 | lf (a : Nat) (d : D)
 | nd (q k : Nat) (l r : T)
namespace T
def q : T -> Nat
 | lf a _ => a
 | nd q _ _ _ => q
def e : T -> Nat
 | lf _ _ => 0
 | nd _ k _ _ => k + 1
def lo (t : T) : Nat := t.q * 2 ^ t.e
def sz (t : T) : Nat := 2 ^ t.e
def ds : T -> List (Nat × D)
 | lf a d => [(a,d)]
 | nd _ _ l r => l.ds ++ r.ds
end T
inductive Good : T -> Prop
 | lf {a : Nat} {d : D} : a < all -> Good (.lf a d)
 | nd {q k : Nat} {l r : T} : Good l -> Good r -> q * 2 ^ (k + 1) ≤ l.lo -> l.lo + l.sz ≤ q * 2 ^ (k + 1) + 2 ^ k -> q * 2 ^ (k + 1) + 2 ^ k ≤ r.lo -> r.lo + r.sz ≤ q * 2 ^ (k + 1) + 2 ^ (k + 1) -> q * 2 ^ (k + 1) + 2 ^ (k + 1) ≤ all -> Good (.nd q k l r)
def mk (l r : T) : T := .nd (l.lo / 2 ^ Bt.bits (l.lo ^^^ r.lo)) (Bt.bits (l.lo ^^^ r.lo) - 1) l r
theorem sz_pos (t : T) : 0 < t.sz := Nat.two_pow_pos _
theorem Good.up {t : T} (h : Good t) : t.lo + t.sz ≤ all := by
 cases h with
 | lf h => simp [T.lo,T.sz,T.q,T.e]; lia
 | nd _ _ _ _ _ _ h => exact h
theorem mk_good {l r : T} (hl : Good l) (hr : Good r) (hd : l.lo + l.sz ≤ r.lo) : Good (mk l r) := by
 have pl := sz_pos l
 have pr := sz_pos r
 have ul := hl.up
 have ur := hr.up
 have hpos : 0 < Bt.bits (l.lo ^^^ r.lo) := Bt.bits_pos (by lia)
 obtain ⟨m,hm⟩ : ∃ m,Bt.bits (l.lo ^^^ r.lo) = m + 1 := ⟨Bt.bits (l.lo ^^^ r.lo) - 1,by lia⟩
 have hh := Bt.halves (q := l.q) (i := l.e) (r := r.q) (j := r.e) (n := m) hd hm rfl
 have h30 : (2 : Nat) ^ 30 = all := by decide
 have hm30 : m + 1 ≤ 30 := by
  rw [← hm]
  exact Bt.bits_le (Nat.xor_lt_two_pow (by rw [h30]; lia) (by rw [h30]; lia))
 have hb := Bt.block (f := l.lo) (n := m + 1) (by rw [h30]; lia) hm30
 rw [h30] at hb
 unfold mk
 rw [hm]
 exact .nd hl hr hh.1 hh.2.1 hh.2.2.1 hh.2.2.2 hb
theorem mk_same {q k : Nat} {l r : T} (h : Good (.nd q k l r)) : mk l r = .nd q k l r := by
 cases h with
 | nd hl hr h1 h2 h3 h4 h5 =>
  have pl := sz_pos l
  have pr := sz_pos r
  have pk := Nat.two_pow_pos k
  have e2 : 2 ^ (k + 1) = 2 ^ k * 2 := Nat.pow_succ ..
  have b1 : l.lo / 2 ^ (k + 1) = q := Bt.in_block.mpr ⟨h1,by lia⟩
  have b2 : r.lo / 2 ^ (k + 1) = q := Bt.in_block.mpr ⟨by lia,by lia⟩
  have ek : q * 2 ^ (k + 1) = 2 * q * 2 ^ k := by rw [e2,Nat.mul_comm (2 ^ k) 2,← Nat.mul_assoc,Nat.mul_comm q 2]
  have b3 : l.lo / 2 ^ k = 2 * q := Bt.in_block.mpr ⟨by lia,by lia⟩
  have b4 : r.lo / 2 ^ k = 2 * q + 1 := Bt.in_block.mpr ⟨by rw [Nat.add_mul]; lia,by rw [Nat.add_mul]; lia⟩
  have c1 : Bt.bits (l.lo ^^^ r.lo) ≤ k + 1 := Bt.bits_le_iff.mpr (b1.trans b2.symm)
  have c2 : ¬ Bt.bits (l.lo ^^^ r.lo) ≤ k := fun z => by
   have := Bt.bits_le_iff.mp z
   lia
  have c3 : Bt.bits (l.lo ^^^ r.lo) = k + 1 := by lia
  unfold mk
  rw [c3,b1]
  rfl
theorem times_in {t : T} (h : Good t) : ∀ p ∈ t.ds,t.lo ≤ p.1 ∧ p.1 < t.lo + t.sz := by
 induction h with
 | lf h => intro p hp; simp [T.ds] at hp; subst hp; simp [T.lo,T.sz,T.q,T.e]
 | @nd q k l r hl hr h1 h2 h3 h4 h5 ihl ihr =>
  intro p hp
  have pk := Nat.two_pow_pos k
  have e2 : 2 ^ (k + 1) = 2 ^ k * 2 := Nat.pow_succ ..
  show q * 2 ^ (k + 1) ≤ p.1 ∧ p.1 < q * 2 ^ (k + 1) + 2 ^ (k + 1)
  rcases List.mem_append.mp hp with hp | hp
  ·have := ihl p hp; lia
  ·have := ihr p hp; lia
theorem ds_sorted {t : T} (h : Good t) : t.ds.Pairwise (fun a b => a.1 < b.1) := by
 induction h with
 | lf h => simp [T.ds]
 | nd hl hr h1 h2 h3 h4 h5 ihl ihr =>
  unfold T.ds
  rw [List.pairwise_append]
  refine ⟨ihl,ihr,fun a ha b hb => ?_⟩
  have := times_in hl a ha
  have := times_in hr b hb
  lia
theorem ds_ne : ∀ t : T,t.ds ≠ []
 | .lf a d => by simp [T.ds]
 | .nd q k l r => by
  have := ds_ne l
  simp [T.ds,this]
def insK (a : Nat) (d : D) : List (Nat × D) -> List (Nat × D)
 | [] => [(a,d)]
 | p :: r => if a < p.1 then (a,d) :: p :: r else p :: insK a d r
theorem insK_front {a : Nat} {d : D} : ∀ {r : List (Nat × D)},(∀ p ∈ r,a < p.1) -> insK a d r = (a,d) :: r
 | [],_ => rfl
 | p :: r,h => by simp [insK,h p List.mem_cons_self]
theorem insK_back {a : Nat} {d : D} : ∀ {r : List (Nat × D)},(∀ p ∈ r,p.1 < a) -> insK a d r = r ++ [(a,d)]
 | [],_ => rfl
 | p :: r,h => by
  have h1 := h p List.mem_cons_self
  simp only [insK,List.cons_append]
  rw [if_neg (by lia),insK_back fun p hp => h p (List.mem_cons_of_mem _ hp)]
theorem insK_left {a : Nat} {d : D} : ∀ {l r : List (Nat × D)},(∀ p ∈ r,a < p.1) -> insK a d (l ++ r) = insK a d l ++ r
 | [],r,h => by rw [List.nil_append,insK_front h]; rfl
 | p :: l,r,h => by
  simp only [List.cons_append,insK]
  by_cases hc : a < p.1
  ·rw [if_pos hc,if_pos hc]; rfl
  ·rw [if_neg hc,if_neg hc,insK_left h]; rfl
theorem insK_right {a : Nat} {d : D} : ∀ {l r : List (Nat × D)},(∀ p ∈ l,p.1 < a) -> insK a d (l ++ r) = l ++ insK a d r
 | [],r,h => rfl
 | p :: l,r,h => by
  have h1 := h p List.mem_cons_self
  simp only [List.cons_append,insK]
  rw [if_neg (by lia),insK_right fun p hp => h p (List.mem_cons_of_mem _ hp)]
def put (a : Nat) (d : D) : T -> Option T
 | .lf b e => if a < b then some (mk (.lf a d) (.lf b e)) else if b < a then some (mk (.lf b e) (.lf a d)) else none
 | .nd q k l r => if a < q * 2 ^ (k + 1) then some (mk (.lf a d) (.nd q k l r)) else if q * 2 ^ (k + 1) + 2 ^ (k + 1) ≤ a then some (mk (.nd q k l r) (.lf a d))
  else if a < q * 2 ^ (k + 1) + 2 ^ k then (put a d l).map fun l' => mk l' r else (put a d r).map fun r' => mk l r'
def Within (t : T) (Q n : Nat) : Prop := Q * 2 ^ n ≤ t.lo ∧ t.lo + t.sz ≤ Q * 2 ^ n + 2 ^ n
theorem mk_within {l r : T} {Q n : Nat} (hd : l.lo + l.sz ≤ r.lo) (hl : Within l Q n) (hr : Within r Q n) : Within (mk l r) Q n := by
 have pl := sz_pos l
 have pr := sz_pos r
 obtain ⟨l1,l2⟩ := hl
 obtain ⟨r1,r2⟩ := hr
 have b1 : l.lo / 2 ^ n = Q := Bt.in_block.mpr ⟨l1,by lia⟩
 have b2 : r.lo / 2 ^ n = Q := Bt.in_block.mpr ⟨by lia,by lia⟩
 have hb : Bt.bits (l.lo ^^^ r.lo) ≤ n := Bt.bits_le_iff.mpr (b1.trans b2.symm)
 have hpos : 0 < Bt.bits (l.lo ^^^ r.lo) := Bt.bits_pos (by lia)
 show Q * 2 ^ n ≤ l.lo / 2 ^ Bt.bits (l.lo ^^^ r.lo) * 2 ^ (Bt.bits (l.lo ^^^ r.lo) - 1 + 1) ∧ l.lo / 2 ^ Bt.bits (l.lo ^^^ r.lo) * 2 ^ (Bt.bits (l.lo ^^^ r.lo) - 1 + 1) + 2 ^ (Bt.bits (l.lo ^^^ r.lo) - 1 + 1) ≤ Q * 2 ^ n + 2 ^ n
 have e : Bt.bits (l.lo ^^^ r.lo) - 1 + 1 = Bt.bits (l.lo ^^^ r.lo) := by lia
 rw [e]
 generalize Bt.bits (l.lo ^^^ r.lo) = m at *
 obtain ⟨c,rfl⟩ := Nat.exists_eq_add_of_le hb
 have hq : l.lo / 2 ^ m / 2 ^ c = Q := by rw [Nat.div_div_eq_div_mul,← Nat.pow_add]; exact b1
 have hw := Bt.in_block.mp hq
 have e1 : Q * 2 ^ (m + c) = Q * 2 ^ c * 2 ^ m := by rw [Nat.pow_add,Nat.mul_comm (2 ^ m),Nat.mul_assoc]
 have e2 : 2 ^ (m + c) = 2 ^ c * 2 ^ m := by rw [Nat.pow_add,Nat.mul_comm]
 have g1 : Q * 2 ^ c * 2 ^ m ≤ l.lo / 2 ^ m * 2 ^ m := Nat.mul_le_mul_right _ hw.1
 have g2 : (l.lo / 2 ^ m + 1) * 2 ^ m ≤ (Q * 2 ^ c + 2 ^ c) * 2 ^ m := Nat.mul_le_mul_right _ hw.2
 rw [Nat.add_mul,Nat.add_mul,Nat.one_mul] at g2
 rw [e1,e2]
 exact ⟨g1,g2⟩
structure PutOk (a : Nat) (d : D) (t t' : T) : Prop where
 eq : put a d t = some t'
 good : Good t'
 ds : t'.ds = insK a d t.ds
 win : ∀ Q n,Within t Q n -> a / 2 ^ n = Q -> Within t' Q n
theorem lf_within {a : Nat} {d : D} {Q n : Nat} (h : a / 2 ^ n = Q) : Within (.lf a d) Q n := by
 have := Bt.in_block.mp h
 simp only [Within,T.lo,T.sz,T.q,T.e,Nat.pow_zero,Nat.mul_one]
 lia
theorem put_ok {a : Nat} {d : D} (ha : a < all) {t : T} (h : Good t) (hn : ∀ p ∈ t.ds,p.1 ≠ a) : ∃ t',PutOk a d t t' := by
 have gl : Good (.lf a d) := .lf ha
 have la : (T.lf a d).lo = a := by simp [T.lo,T.q,T.e]
 have sa : (T.lf a d).sz = 1 := rfl
 induction h with
 | @lf b e hb =>
  have hne : b ≠ a := hn (b,e) (by simp [T.ds])
  have lb : (T.lf b e).lo = b := by simp [T.lo,T.q,T.e]
  have sb : (T.lf b e).sz = 1 := rfl
  have gb : Good (.lf b e) := .lf hb
  by_cases h1 : a < b
  ·have hd : (T.lf a d).lo + (T.lf a d).sz ≤ (T.lf b e).lo := by lia
   exact ⟨mk (.lf a d) (.lf b e),by simp [put,h1],mk_good gl gb hd,by simp [mk,T.ds,insK,h1],fun Q n w1 w2 => mk_within hd (lf_within w2) w1⟩
  ·have h2 : b < a := by lia
   have hd : (T.lf b e).lo + (T.lf b e).sz ≤ (T.lf a d).lo := by lia
   exact ⟨mk (.lf b e) (.lf a d),by simp [put,h1,h2],mk_good gb gl hd,by simp [mk,T.ds,insK,h1],fun Q n w1 w2 => mk_within hd w1 (lf_within w2)⟩
 | @nd q k l r hl hr h1 h2 h3 h4 h5 ihl ihr =>
  have G : Good (.nd q k l r) := .nd hl hr h1 h2 h3 h4 h5
  have tin := times_in G
  have L : (T.nd q k l r).lo = q * 2 ^ (k + 1) := rfl
  have S : (T.nd q k l r).sz = 2 ^ (k + 1) := rfl
  have pk := Nat.two_pow_pos k
  have e2 : 2 ^ (k + 1) = 2 ^ k * 2 := Nat.pow_succ ..
  by_cases c1 : a < q * 2 ^ (k + 1)
  ·have hd : (T.lf a d).lo + (T.lf a d).sz ≤ (T.nd q k l r).lo := by lia
   refine ⟨mk (.lf a d) (.nd q k l r),by simp [put,c1],mk_good gl G hd,?_,fun Q n w1 w2 => mk_within hd (lf_within w2) w1⟩
   rw [insK_front fun p hp => by have := tin p hp; lia]
   rfl
  ·by_cases c2 : q * 2 ^ (k + 1) + 2 ^ (k + 1) ≤ a
   ·have hd : (T.nd q k l r).lo + (T.nd q k l r).sz ≤ (T.lf a d).lo := by lia
    refine ⟨mk (.nd q k l r) (.lf a d),by simp [put,c1,c2],mk_good G gl hd,?_,fun Q n w1 w2 => mk_within hd w1 (lf_within w2)⟩
    rw [insK_back fun p hp => by have := tin p hp; lia]
    rfl
   ·have ek : q * 2 ^ (k + 1) = 2 * q * 2 ^ k := by rw [e2,Nat.mul_comm (2 ^ k) 2,← Nat.mul_assoc,Nat.mul_comm q 2]
    by_cases c3 : a < q * 2 ^ (k + 1) + 2 ^ k
    ·obtain ⟨l',P⟩ := ihl fun p hp => hn p (List.mem_append_left _ hp)
     have wl : Within l' (2 * q) k := P.win (2 * q) k ⟨by lia,by lia⟩ (Bt.in_block.mpr ⟨by lia,by lia⟩)
     have G' : Good (.nd q k l' r) := .nd P.good hr (by have := wl.1; lia) (by have := wl.2; lia) h3 h4 h5
     have em := mk_same G'
     refine ⟨.nd q k l' r,?_,G',?_,fun Q n w1 _ => w1⟩
     ·simp [put,c1,c2,c3,P.eq,em]
     ·show l'.ds ++ r.ds = insK a d (l.ds ++ r.ds)
      rw [insK_left fun p hp => by have := times_in hr p hp; lia,P.ds]
    ·obtain ⟨r',P⟩ := ihr fun p hp => hn p (List.mem_append_right _ hp)
     have eb : (2 * q + 1) * 2 ^ k = q * 2 ^ (k + 1) + 2 ^ k := by rw [Nat.add_mul,Nat.one_mul,ek]
     have wr : Within r' (2 * q + 1) k := P.win (2 * q + 1) k ⟨by lia,by lia⟩ (Bt.in_block.mpr ⟨by lia,by lia⟩)
     have G' : Good (.nd q k l r') := .nd hl P.good h1 h2 (by have := wr.1; lia) (by have := wr.2; lia) h5
     have em := mk_same G'
     refine ⟨.nd q k l r',?_,G',?_,fun Q n w1 _ => w1⟩
     ·simp [put,c1,c2,c3,P.eq,em]
     ·show l.ds ++ r'.ds = insK a d (l.ds ++ r.ds)
      rw [insK_right fun p hp => by have := times_in hl p hp; lia,P.ds]
theorem put_new {a : Nat} {d : D} : ∀ t : T,put a d t ≠ none -> Good t -> ∀ p ∈ t.ds,p.1 ≠ a
 | .lf b e,h,_ => fun p hp z => by
  simp [T.ds] at hp
  subst hp
  simp at z
  subst z
  simp [put] at h
 | .nd q k l r,h,G => fun p hp z => by
  have tin := times_in G p hp
  have L : (T.nd q k l r).lo = q * 2 ^ (k + 1) := rfl
  have S : (T.nd q k l r).sz = 2 ^ (k + 1) := rfl
  cases G with
  | nd hl hr h1 h2 h3 h4 h5 =>
   have n1 : ¬ a < q * 2 ^ (k + 1) := by lia
   have n2 : ¬ q * 2 ^ (k + 1) + 2 ^ (k + 1) ≤ a := by lia
   simp only [put,if_neg n1,if_neg n2] at h
   rcases List.mem_append.mp hp with hp | hp
   ·have := times_in hl p hp
    rw [if_pos (by lia)] at h
    exact put_new l (fun z => h (by rw [z]; rfl)) hl p hp z
   ·have := times_in hr p hp
    rw [if_neg (by lia)] at h
    exact put_new r (fun z => h (by rw [z]; rfl)) hr p hp z
end Tr
namespace Tr
open DL
instance (t : T) (Q n : Nat) : Decidable (Within t Q n) := by unfold Within; infer_instance
def insT (Q n : Nat) : T -> Option T
 | .lf a d => if Within (.lf a d) Q n then some (.lf a d) else none
 | .nd q k l r => if Within (.nd q k l r) Q n then some (.nd q k l r)
  else if q * 2 ^ (k + 1) ≤ Q * 2 ^ n ∧ Q * 2 ^ n + 2 ^ n ≤ q * 2 ^ (k + 1) + 2 ^ k then insT Q n l
  else if q * 2 ^ (k + 1) + 2 ^ k ≤ Q * 2 ^ n ∧ Q * 2 ^ n + 2 ^ n ≤ q * 2 ^ (k + 1) + 2 ^ (k + 1) then insT Q n r else none
def dsO : Option T -> List (Nat × D)
 | some t => t.ds
 | none => []
theorem filter_all {P : Nat × D -> Bool} {l : List (Nat × D)} (h : ∀ p ∈ l,P p = true) : l.filter P = l := List.filter_eq_self.mpr h
theorem filter_none {P : Nat × D -> Bool} {l : List (Nat × D)} (h : ∀ p ∈ l,P p = false) : l.filter P = [] := List.filter_eq_nil_iff.mpr fun p hp => by simp [h p hp]
theorem insT_ok {Q n : Nat} {t : T} (h : Good t) : dsO (insT Q n t) = t.ds.filter (fun p => decide (p.1 / 2 ^ n = Q)) ∧ ∀ s,insT Q n t = some s -> Good s ∧ s.e ≤ t.e := by
 induction h with
 | @lf a d ha =>
  unfold insT
  by_cases hw : Within (.lf a d) Q n
  ·rw [if_pos hw]
   have hb : a / 2 ^ n = Q := by
    obtain ⟨h1,h2⟩ := hw
    simp only [T.lo,T.sz,T.q,T.e,Nat.pow_zero,Nat.mul_one] at h1 h2
    exact Bt.in_block.mpr ⟨h1,by lia⟩
   exact ⟨by simp [dsO,T.ds,hb],fun s hs => by cases hs; exact ⟨.lf ha,Nat.le_refl _⟩⟩
  ·rw [if_neg hw]
   have hb : ¬ a / 2 ^ n = Q := fun z => hw (lf_within z)
   exact ⟨by simp [dsO,T.ds,hb],fun s hs => by cases hs⟩
 | @nd q k l r hl hr h1 h2 h3 h4 h5 ihl ihr =>
  have G : Good (.nd q k l r) := .nd hl hr h1 h2 h3 h4 h5
  have tin := times_in G
  have L : (T.nd q k l r).lo = q * 2 ^ (k + 1) := rfl
  have S : (T.nd q k l r).sz = 2 ^ (k + 1) := rfl
  have pk := Nat.two_pow_pos k
  have pn := Nat.two_pow_pos n
  have e2 : 2 ^ (k + 1) = 2 ^ k * 2 := Nat.pow_succ ..
  have el : l.e ≤ k := by
   refine Nat.le_of_not_lt fun z => ?_
   have := Nat.pow_lt_pow_right (a := 2) (by decide) z
   have : l.sz = 2 ^ l.e := rfl
   lia
  have er : r.e ≤ k := by
   refine Nat.le_of_not_lt fun z => ?_
   have := Nat.pow_lt_pow_right (a := 2) (by decide) z
   have : r.sz = 2 ^ r.e := rfl
   lia
  have ek : q * 2 ^ (k + 1) = 2 * q * 2 ^ k := by rw [e2,Nat.mul_comm (2 ^ k) 2,← Nat.mul_assoc,Nat.mul_comm q 2]
  unfold insT
  by_cases hw : Within (.nd q k l r) Q n
  ·rw [if_pos hw]
   refine ⟨?_,fun s hs => by cases hs; exact ⟨G,Nat.le_refl _⟩⟩
   refine (filter_all fun p hp => ?_).symm
   have := tin p hp
   obtain ⟨w1,w2⟩ := hw
   exact decide_eq_true (Bt.in_block.mpr ⟨by lia,by lia⟩)
  ·rw [if_neg hw]
   by_cases c1 : q * 2 ^ (k + 1) ≤ Q * 2 ^ n ∧ Q * 2 ^ n + 2 ^ n ≤ q * 2 ^ (k + 1) + 2 ^ k
   ·rw [if_pos c1]
    refine ⟨?_,fun s hs => ?_⟩
    ·rw [ihl.1]
     show _ = (l.ds ++ r.ds).filter _
     rw [List.filter_append,filter_none (l := r.ds) fun p hp => ?_,List.append_nil]
     have := times_in hr p hp
     refine decide_eq_false fun z => ?_
     have := Bt.in_block.mp z
     lia
    ·have := ihl.2 s hs
     exact ⟨this.1,by show s.e ≤ k + 1; lia⟩
   ·rw [if_neg c1]
    by_cases c2 : q * 2 ^ (k + 1) + 2 ^ k ≤ Q * 2 ^ n ∧ Q * 2 ^ n + 2 ^ n ≤ q * 2 ^ (k + 1) + 2 ^ (k + 1)
    ·rw [if_pos c2]
     refine ⟨?_,fun s hs => ?_⟩
     ·rw [ihr.1]
      show _ = (l.ds ++ r.ds).filter _
      rw [List.filter_append,filter_none (l := l.ds) fun p hp => ?_,List.nil_append]
      have := times_in hl p hp
      refine decide_eq_false fun z => ?_
      have := Bt.in_block.mp z
      lia
     ·have := ihr.2 s hs
      exact ⟨this.1,by show s.e ≤ k + 1; lia⟩
    ·rw [if_neg c2]
     refine ⟨(filter_none fun p hp => decide_eq_false fun z => ?_).symm,fun s hs => by cases hs⟩
     have ht := tin p hp
     have hp1 : p.1 / 2 ^ (k + 1) = q := Bt.in_block.mpr ⟨by lia,by lia⟩
     rcases Nat.lt_or_ge k n with hk | hk
     ·
      apply hw
      obtain ⟨c,rfl⟩ := Nat.exists_eq_add_of_le (show k + 1 ≤ n from hk)
      have hq : q / 2 ^ c = Q := by rw [← hp1,Nat.div_div_eq_div_mul,← Nat.pow_add]; exact z
      have w := Bt.in_block.mp hq
      have e3 : Q * 2 ^ (k + 1 + c) = Q * 2 ^ c * 2 ^ (k + 1) := by rw [Nat.pow_add,Nat.mul_comm (2 ^ (k + 1)),Nat.mul_assoc]
      have e4 : 2 ^ (k + 1 + c) = 2 ^ c * 2 ^ (k + 1) := by rw [Nat.pow_add,Nat.mul_comm]
      have g1 : Q * 2 ^ c * 2 ^ (k + 1) ≤ q * 2 ^ (k + 1) := Nat.mul_le_mul_right _ w.1
      have g2 : (q + 1) * 2 ^ (k + 1) ≤ (Q * 2 ^ c + 2 ^ c) * 2 ^ (k + 1) := Nat.mul_le_mul_right _ w.2
      rw [Nat.add_mul,Nat.add_mul,Nat.one_mul] at g2
      refine ⟨?_,?_⟩
      ·rw [e3,L]; exact g1
      ·rw [e3,e4,L,S]; exact g2
     ·
      obtain ⟨c,rfl⟩ := Nat.exists_eq_add_of_le hk
      have fit : ∀ w,p.1 / 2 ^ (n + c) = w -> w * 2 ^ (n + c) ≤ Q * 2 ^ n ∧ Q * 2 ^ n + 2 ^ n ≤ w * 2 ^ (n + c) + 2 ^ (n + c) := fun w hw' => by
       have hq : Q / 2 ^ c = w := by rw [← z,Nat.div_div_eq_div_mul,← Nat.pow_add]; exact hw'
       have v := Bt.in_block.mp hq
       have e3 : w * 2 ^ (n + c) = w * 2 ^ c * 2 ^ n := by rw [Nat.pow_add,Nat.mul_comm (2 ^ n),Nat.mul_assoc]
       have e4 : 2 ^ (n + c) = 2 ^ c * 2 ^ n := by rw [Nat.pow_add,Nat.mul_comm]
       have g1 : w * 2 ^ c * 2 ^ n ≤ Q * 2 ^ n := Nat.mul_le_mul_right _ v.1
       have g2 : (Q + 1) * 2 ^ n ≤ (w * 2 ^ c + 2 ^ c) * 2 ^ n := Nat.mul_le_mul_right _ v.2
       rw [Nat.add_mul,Nat.add_mul,Nat.one_mul] at g2
       rw [e3,e4]
       exact ⟨g1,g2⟩
      by_cases hm : p.1 < q * 2 ^ (n + c + 1) + 2 ^ (n + c)
      ·have f := fit (2 * q) (Bt.in_block.mpr ⟨by lia,by lia⟩)
       exact c1 ⟨by lia,by lia⟩
      ·have eb : (2 * q + 1) * 2 ^ (n + c) = q * 2 ^ (n + c + 1) + 2 ^ (n + c) := by rw [Nat.add_mul,Nat.one_mul,ek]
       have f := fit (2 * q + 1) (Bt.in_block.mpr ⟨by lia,by lia⟩)
       exact c2 ⟨by lia,by lia⟩
def cov : Nat -> Nat -> Nat -> List (Nat × Nat)
 | 0,_,_ => []
 | r + 1,lo,e => if lo + 2 ^ r ≤ e then (lo / 2 ^ r,r) :: cov r (lo + 2 ^ r) e else cov r lo e
theorem two_parts {lo mid e : Nat} (h1 : lo ≤ mid) (h2 : mid ≤ e) : ∀ {l : List (Nat × D)},l.Pairwise (fun a b => a.1 < b.1) -> l.filter (fun p => decide (lo ≤ p.1 ∧ p.1 < mid)) ++ l.filter (fun p => decide (mid ≤ p.1 ∧ p.1 < e)) = l.filter (fun p => decide (lo ≤ p.1 ∧ p.1 < e))
 | [],_ => rfl
 | p :: l,h => by
  obtain ⟨h3,h4⟩ := List.pairwise_cons.mp h
  have ih := two_parts h1 h2 h4
  by_cases c1 : lo ≤ p.1 ∧ p.1 < mid
  ·have c2 : ¬ (mid ≤ p.1 ∧ p.1 < e) := by lia
   have c3 : lo ≤ p.1 ∧ p.1 < e := by lia
   rw [List.filter_cons_of_pos (by simpa using c1),List.filter_cons_of_neg (by simpa using c2),List.filter_cons_of_pos (by simpa using c3),List.cons_append,ih]
  ·by_cases c2 : mid ≤ p.1 ∧ p.1 < e
   ·have c3 : lo ≤ p.1 ∧ p.1 < e := by lia
    have hn : l.filter (fun p => decide (lo ≤ p.1 ∧ p.1 < mid)) = [] := filter_none fun x hx => by
     have := h3 x hx
     exact decide_eq_false (by lia)
    rw [List.filter_cons_of_neg (by simpa using c1),List.filter_cons_of_pos (by simpa using c2),List.filter_cons_of_pos (by simpa using c3),hn,List.nil_append]
    rw [hn,List.nil_append] at ih
    rw [ih]
   ·have c3 : ¬ (lo ≤ p.1 ∧ p.1 < e) := by lia
    rw [List.filter_cons_of_neg (by simpa using c1),List.filter_cons_of_neg (by simpa using c2),List.filter_cons_of_neg (by simpa using c3),ih]
theorem cov_ds {t : T} (h : Good t) : ∀ (r lo e : Nat),lo % 2 ^ r = 0 -> lo ≤ e -> e < lo + 2 ^ r -> ((cov r lo e).filterMap fun b => insT b.1 b.2 t).flatMap T.ds = t.ds.filter (fun p => decide (lo ≤ p.1 ∧ p.1 < e))
 | 0,lo,e,_,h2,h3 => by
  have : lo = e := by simp at h3; lia
  subst this
  exact (filter_none fun p _ => decide_eq_false (by lia)).symm
 | r + 1,lo,e,h1,h2,h3 => by
  have p := Nat.two_pow_pos r
  have e2 : 2 ^ (r + 1) = 2 ^ r * 2 := Nat.pow_succ ..
  have hm : lo % 2 ^ r = 0 := by
   have hd : 2 ^ (r + 1) ∣ lo := Nat.dvd_of_mod_eq_zero h1
   exact Nat.mod_eq_zero_of_dvd (Nat.dvd_trans ⟨2,e2⟩ hd)
  unfold cov
  by_cases hc : lo + 2 ^ r ≤ e
  ·rw [if_pos hc]
   have ih := cov_ds h r (lo + 2 ^ r) e (by rw [Nat.add_mod_right]; exact hm) hc (by lia)
   have hb : lo / 2 ^ r * 2 ^ r = lo := Nat.div_mul_cancel (Nat.dvd_of_mod_eq_zero hm)
   have hi := (insT_ok (Q := lo / 2 ^ r) (n := r) h).1
   have hf : t.ds.filter (fun p => decide (p.1 / 2 ^ r = lo / 2 ^ r)) = t.ds.filter (fun p => decide (lo ≤ p.1 ∧ p.1 < lo + 2 ^ r)) := by
    congr 1
    funext p
    congr 1
    rw [Bt.in_block,hb]
   rw [hf] at hi
   rw [← two_parts (show lo ≤ lo + 2 ^ r by lia) hc (ds_sorted h),← hi,← ih]
   cases e : insT (lo / 2 ^ r) r t with
   | none => simp [e,dsO]
   | some s => simp [e,dsO]
  ·rw [if_neg hc]
   exact cov_ds h r lo e hm h2 (by lia)
theorem cov_good {t : T} (h : Good t) {cs : List (Nat × Nat)} : ∀ s ∈ cs.filterMap fun b => insT b.1 b.2 t,Good s := fun s hs => by
 obtain ⟨b,_,hb⟩ := List.mem_filterMap.mp hs
 exact ((insT_ok h).2 s hb).1
end Tr
namespace Tr
open DL
section
variable {τ : Type} (en : τ -> D) (lone : Nat -> D -> τ) (join : τ -> τ -> τ)
def tv : T -> τ
 | .lf a d => lone a d
 | .nd _ _ l r => join (tv l) (tv r)
def enc : T -> D
 | .lf a d => .tup [.int (a : Int),.int 1,en (lone a d),d]
 | .nd q k l r => .tup [.int ((q * 2 ^ (k + 1) : Nat) : Int),.int ((2 ^ (k + 1) : Nat) : Int),en (join (tv lone join l) (tv lone join r)),enc l,enc r]
def encO : Option T -> D
 | some t => enc en lone join t
 | none => .non
theorem enc_form : ∀ t : T,∃ r,enc en lone join t = .tup (.int (t.lo : Int) :: .int (t.sz : Int) :: en (tv lone join t) :: r)
 | .lf a d => ⟨[d],by simp [enc,tv,T.lo,T.sz,T.q,T.e]⟩
 | .nd q k l r => ⟨_,rfl⟩
theorem enc_mk {l r : T} (h : l.lo < r.lo) : enc en lone join (mk l r) = .tup [.int ((l.lo / 2 ^ Bt.bits (l.lo ^^^ r.lo) * 2 ^ Bt.bits (l.lo ^^^ r.lo) : Nat) : Int),.int ((2 ^ Bt.bits (l.lo ^^^ r.lo) : Nat) : Int),en (join (tv lone join l) (tv lone join r)),enc en lone join l,enc en lone join r] := by
 have hp := Bt.bits_pos h
 have e : Bt.bits (l.lo ^^^ r.lo) - 1 + 1 = Bt.bits (l.lo ^^^ r.lo) := by lia
 show D.tup [.int ((l.lo / 2 ^ Bt.bits (l.lo ^^^ r.lo) * 2 ^ (Bt.bits (l.lo ^^^ r.lo) - 1 + 1) : Nat) : Int),.int ((2 ^ (Bt.bits (l.lo ^^^ r.lo) - 1 + 1) : Nat) : Int),_,_,_] = _
 rw [e]
theorem self_enc {m : Nat} (he : ∀ x,Self m (en x)) : ∀ t : T,Good t -> (∀ p ∈ t.ds,Self m p.2) -> Self (m + t.e + 1) (enc en lone join t)
 | .lf a d,_,h => by
  refine Self.tup fun x hx => ?_
  simp only [List.mem_cons,List.not_mem_nil,or_false] at hx
  have hm : 1 ≤ m ∨ m = 0 := by lia
  have hd := h (a,d) (by simp [T.ds])
  have h1 : 1 ≤ m := by
   rcases hm with h | h
   ·exact h
   ·subst h; exact nomatch hd
  rcases hx with rfl | rfl | rfl | rfl
  ·exact (Self.int _).mono h1
  ·exact (Self.int _).mono h1
  ·exact he _
  ·exact hd
 | .nd q k l r,G,h => by
  cases G with
  | nd hl hr h1 h2 h3 h4 h5 =>
   have pk := Nat.two_pow_pos k
   have el : l.e ≤ k := by
    refine Nat.le_of_not_lt fun z => ?_
    have := Nat.pow_lt_pow_right (a := 2) (by decide) z
    have : l.sz = 2 ^ l.e := rfl
    lia
   have er : r.e ≤ k := by
    refine Nat.le_of_not_lt fun z => ?_
    have := Nat.pow_lt_pow_right (a := 2) (by decide) z
    have : r.sz = 2 ^ r.e := rfl
    have : 2 ^ (k + 1) = 2 ^ k * 2 := Nat.pow_succ ..
    lia
   have i1 := self_enc he l hl fun p hp => h p (List.mem_append_left _ hp)
   have i2 := self_enc he r hr fun p hp => h p (List.mem_append_right _ hp)
   show Self (m + (k + 1) + 1) _
   refine Self.tup fun x hx => ?_
   simp only [List.mem_cons,List.not_mem_nil,or_false] at hx
   rcases hx with rfl | rfl | rfl | rfl | rfl
   ·exact (Self.int _).mono (by lia)
   ·exact (Self.int _).mono (by lia)
   ·exact (he _).mono (by lia)
   ·exact i1.mono (by lia)
   ·exact i2.mono (by lia)
theorem depth {t : T} (h : Good t) : t.e ≤ 30 := by
 refine Nat.le_of_not_lt fun z => ?_
 have u := h.up
 have : (2 : Nat) ^ 31 ≤ 2 ^ t.e := Nat.pow_le_pow_right (by decide) z
 have h31 : (2 : Nat) ^ 31 = 2147483648 := by decide
 have : t.sz = 2 ^ t.e := rfl
 have : all = 1073741824 := rfl
 lia
theorem sub_e {q k : Nat} {l r : T} (G : Good (.nd q k l r)) : Good l ∧ Good r ∧ l.e ≤ k ∧ r.e ≤ k ∧ l.lo + l.sz ≤ r.lo := by
 cases G with
 | nd hl hr h1 h2 h3 h4 h5 =>
  have pk := Nat.two_pow_pos k
  refine ⟨hl,hr,?_,?_,by lia⟩
  ·refine Nat.le_of_not_lt fun z => ?_
   have := Nat.pow_lt_pow_right (a := 2) (by decide) z
   have : l.sz = 2 ^ l.e := rfl
   lia
  ·refine Nat.le_of_not_lt fun z => ?_
   have := Nat.pow_lt_pow_right (a := 2) (by decide) z
   have : r.sz = 2 ^ r.e := rfl
   have : 2 ^ (k + 1) = 2 ^ k * 2 := Nat.pow_succ ..
   lia
end
end Tr
namespace Tr
open DL PySem
theorem insK_perm {a : Nat} {d : D} : ∀ l : List (Nat × D),(insK a d l).Perm ((a,d) :: l)
 | [] => .refl _
 | p :: l => by
  simp only [insK]
  split
  ·exact .refl _
  ·exact ((insK_perm l).cons p).trans (.swap ..)
def bkeys (al : List (Nat × D)) : List L2.Key := al.map fun p => .inl (p.1 : Int)
def dict (al : List (Nat × D)) : D := .dic (bkeys al) (al.map (·.2))
structure Book (al : List (Nat × D)) (o : Option T) : Prop where
 good : match o with | some t => Good t | none => True
 perm : (dsO o).Perm al
theorem Book.sorted {al : List (Nat × D)} {o : Option T} (b : Book al o) : (dsO o).Pairwise (fun x y => x.1 < y.1) := by
 cases o with
 | none => exact .nil
 | some t => exact ds_sorted b.good
theorem Book.sort {al : List (Nat × D)} {o : Option T} (b : Book al o) (hl : al.length < 64) : gSortD (dict al) = .ok (.lst (((dsO o).map fun p => (p.1 : Int)).map D.int)) := by
 have e : bkeys al = (al.map fun p => (p.1 : Int)).map Sum.inl := by simp [bkeys]
 have hk := keysI_map (al.map fun p => (p.1 : Int))
 have hs : (dsO o).map (fun p => (p.1 : Int)) = isort (al.map fun p => (p.1 : Int)) := by
  refine isort_uniq (b.perm.map _) ?_
  rw [List.pairwise_map]
  exact b.sorted.imp fun h => by lia
 simp only [gSortD,dict]
 rw [e,hk,hs]
 simp [hl]
theorem Book.put {al : List (Nat × D)} {o : Option T} (b : Book al o) {a : Nat} {d : D} {t : T} (hg : Good t) (hd : t.ds = insK a d (dsO o)) : Book (al ++ [(a,d)]) (some t) := by
 refine ⟨hg,?_⟩
 show t.ds.Perm _
 rw [hd]
 exact (insK_perm _).trans ((b.perm.cons _).trans (List.perm_append_singleton ..).symm)
theorem Book.none_at {al : List (Nat × D)} {o : Option T} (b : Book al o) {a : Nat} (h : ∀ p ∈ al,p.1 ≠ a) : ∀ p ∈ dsO o,p.1 ≠ a := fun p hp => h p (b.perm.mem_iff.mp hp)
end Tr
namespace Tr
open DL
theorem first_in {t : T} (h : Good t) : ∃ p r,t.ds = p :: r ∧ t.lo ≤ p.1 := by
 cases e : t.ds with
 | nil => exact absurd e (ds_ne t)
 | cons p r => exact ⟨p,r,rfl,(times_in h p (by rw [e]; exact List.mem_cons_self)).1⟩
theorem split_at {m : Nat} : ∀ {a b a' b' : List (Nat × D)},a ++ b = a' ++ b' -> (∀ p ∈ a,p.1 < m) -> (∀ p ∈ b,m ≤ p.1) -> (∀ p ∈ a',p.1 < m) -> (∀ p ∈ b',m ≤ p.1) -> a = a' ∧ b = b'
 | [],b,[],b',h,_,_,_,_ => ⟨rfl,by simpa using h⟩
 | [],b,x :: a',b',h,_,hb,ha',_ => by
  have : x ∈ b := by
   have h' : b = x :: (a' ++ b') := by simpa using h
   rw [h']; exact List.mem_cons_self
  have := hb x this
  have := ha' x List.mem_cons_self
  lia
 | x :: a,b,[],b',h,ha,_,_,hb' => by
  have : x ∈ b' := by
   have h' : x :: (a ++ b) = b' := by simpa using h
   rw [← h']; exact List.mem_cons_self
  have := hb' x this
  have := ha x List.mem_cons_self
  lia
 | x :: a,b,y :: a',b',h,ha,hb,ha',hb' => by
  have h1 : x = y ∧ a ++ b = a' ++ b' := by simpa using h
  obtain ⟨rfl,h2⟩ := h1
  obtain ⟨e1,e2⟩ := split_at h2 (fun p hp => ha p (List.mem_cons_of_mem _ hp)) hb (fun p hp => ha' p (List.mem_cons_of_mem _ hp)) hb'
  exact ⟨by rw [e1],e2⟩
theorem stretch_told {q k q' k' x y : Nat} (h1 : q * 2 ^ (k + 1) ≤ x) (h2 : x < q * 2 ^ (k + 1) + 2 ^ k) (h3 : q * 2 ^ (k + 1) + 2 ^ k ≤ y) (h4 : y < q * 2 ^ (k + 1) + 2 ^ (k + 1))
  (g1 : q' * 2 ^ (k' + 1) ≤ x) (g2 : x < q' * 2 ^ (k' + 1) + 2 ^ k') (g3 : q' * 2 ^ (k' + 1) + 2 ^ k' ≤ y) (g4 : y < q' * 2 ^ (k' + 1) + 2 ^ (k' + 1)) : q = q' ∧ k = k' := by
 have one : ∀ {q k x y : Nat},q * 2 ^ (k + 1) ≤ x -> x < q * 2 ^ (k + 1) + 2 ^ k -> q * 2 ^ (k + 1) + 2 ^ k ≤ y -> y < q * 2 ^ (k + 1) + 2 ^ (k + 1) -> Bt.bits (x ^^^ y) = k + 1 ∧ x / 2 ^ (k + 1) = q := by
  intro q k x y h1 h2 h3 h4
  have pk := Nat.two_pow_pos k
  have e2 : 2 ^ (k + 1) = 2 ^ k * 2 := Nat.pow_succ ..
  have ek : q * 2 ^ (k + 1) = 2 * q * 2 ^ k := by rw [e2,Nat.mul_comm (2 ^ k) 2,← Nat.mul_assoc,Nat.mul_comm q 2]
  have b1 : x / 2 ^ (k + 1) = q := Bt.in_block.mpr ⟨h1,by lia⟩
  have b2 : y / 2 ^ (k + 1) = q := Bt.in_block.mpr ⟨by lia,h4⟩
  have b3 : x / 2 ^ k = 2 * q := Bt.in_block.mpr ⟨by lia,by lia⟩
  have b4 : y / 2 ^ k = 2 * q + 1 := Bt.in_block.mpr ⟨by rw [Nat.add_mul]; lia,by rw [Nat.add_mul]; lia⟩
  have c1 : Bt.bits (x ^^^ y) ≤ k + 1 := Bt.bits_le_iff.mpr (b1.trans b2.symm)
  have c2 : ¬ Bt.bits (x ^^^ y) ≤ k := fun z => by
   have := Bt.bits_le_iff.mp z
   lia
  exact ⟨by lia,b1⟩
 obtain ⟨a1,a2⟩ := one h1 h2 h3 h4
 obtain ⟨a3,a4⟩ := one g1 g2 g3 g4
 obtain rfl : k = k' := by lia
 exact ⟨by rw [← a2,← a4],rfl⟩
theorem one_tree : ∀ {t t' : T},Good t -> Good t' -> t.ds = t'.ds -> t = t'
 | .lf a d,.lf b e,_,_,h => by
  simp [T.ds] at h
  rw [h.1,h.2]
 | .lf a d,.nd q k l r,_,G',h => by
  have hl : (T.nd q k l r).ds.length = 1 := by rw [← h]; rfl
  have e : (T.nd q k l r).ds = l.ds ++ r.ds := rfl
  rw [e,List.length_append] at hl
  have := List.length_pos_iff.mpr (ds_ne l)
  have := List.length_pos_iff.mpr (ds_ne r)
  lia
 | .nd q k l r,.lf b e,G,_,h => by
  have hl : (T.nd q k l r).ds.length = 1 := by rw [h]; rfl
  have e : (T.nd q k l r).ds = l.ds ++ r.ds := rfl
  rw [e,List.length_append] at hl
  have := List.length_pos_iff.mpr (ds_ne l)
  have := List.length_pos_iff.mpr (ds_ne r)
  lia
 | .nd q k l r,.nd q' k' l' r',G,G',h => by
  cases G with
  | nd hl hr h1 h2 h3 h4 h5 =>
   cases G' with
   | nd hl' hr' h1' h2' h3' h4' h5' =>
    have h : l.ds ++ r.ds = l'.ds ++ r'.ds := h
    obtain ⟨x,rx,ex,_⟩ := first_in hl
    obtain ⟨x',rx',ex',_⟩ := first_in hl'
    have hx : x = x' := by
     rw [ex,ex'] at h
     simp only [List.cons_append,List.cons.injEq] at h
     exact h.1
    obtain ⟨ry,y,ey⟩ := snoc (ds_ne r)
    obtain ⟨ry',y',ey'⟩ := snoc (ds_ne r')
    have hy : y = y' := by
     rw [ey,ey',← List.append_assoc,← List.append_assoc] at h
     have := (List.append_inj' h rfl).2
     simpa using this
    subst hx hy
    have a1 := times_in hl x (by rw [ex]; exact List.mem_cons_self)
    have a2 := times_in hl' x (by rw [ex']; exact List.mem_cons_self)
    have b1 := times_in hr y (by rw [ey]; simp)
    have b2 := times_in hr' y (by rw [ey']; simp)
    obtain ⟨rfl,rfl⟩ := stretch_told (q := q) (k := k) (q' := q') (k' := k') (x := x.1) (y := y.1) (by lia) (by lia) (by lia) (by lia) (by lia) (by lia) (by lia) (by lia)
    obtain ⟨e1,e2⟩ := split_at (m := q * 2 ^ (k + 1) + 2 ^ k) h (fun p hp => by have := times_in hl p hp; lia) (fun p hp => by have := times_in hr p hp; lia) (fun p hp => by have := times_in hl' p hp; lia) (fun p hp => by have := times_in hr' p hp; lia)
    rw [one_tree hl hl' e1,one_tree hr hr' e2]
end Tr
namespace Tr
open DL
def left2 : Option T -> Option T -> Option T
 | none,r => r
 | l,none => l
 | some l,some r => some (mk l r)
def out (a : Nat) : T -> Option (Option T)
 | .lf b _ => if a = b then some none else none
 | .nd q k l r => if a < q * 2 ^ (k + 1) ∨ q * 2 ^ (k + 1) + 2 ^ (k + 1) ≤ a then none
  else if a < q * 2 ^ (k + 1) + 2 ^ k then (out a l).map fun l' => left2 l' (some r) else (out a r).map fun r' => left2 (some l) r'
def but (a : Nat) (l : List (Nat × D)) : List (Nat × D) := l.filter fun p => decide (p.1 ≠ a)
structure OutOk (a : Nat) (t : T) (o : Option T) : Prop where
 eq : out a t = some o
 good : ∀ s,o = some s -> Good s
 ds : dsO o = but a t.ds
 win : ∀ s,o = some s -> ∀ Q n,Within t Q n -> Within s Q n
end Tr
namespace DL
open PySem PySem.Spec PyProof.Rows L2
section
variable {X : Cx} {pins : List (Addr × Obj)} {σ : L2.St} {H H' : Hp} {s : Shared} {a kS l q : Addr} {o : Obj} {g : Int -> Int} {vs : List Value} {ns : List Int} {A : Around} {E : Value -> Shared -> Prop}
theorem no_cell (I : Inv X pins σ H s) (e : s.heap.get? a = some o) (h : ∀ v,o.data ≠ .cell v) : ∀ x c,X.env.cells.lookup x = some c -> c ≠ a := fun x c z w => by
 obtain ⟨v,ob,e1,e2⟩ := I.cell x c z
 rw [w,e] at e1; cases e1
 exact h v e2
theorem adopt {u : HO} (I : Inv X pins σ H s) (hn : H a = none) (h0 : X.s₀.heap.objs.size ≤ a) (hL : a ≠ X.env.locals) (hc : ∀ x c,X.env.cells.lookup x = some c -> c ≠ a) (hp : ∀ p ∈ X.pn ++ pins,p.1 ≠ a)
  (new : ObjOk X.prog X.w (upd H a u) s.heap a u) : Inv X pins σ (upd H a u) s := by
 have ne : ∀ {b v},H b = some v -> b ≠ a := fun {b v} e z => by rw [z,hn] at e; cases e
 refine ⟨I.ok,I.os,I.bare,⟨I.base.keep,I.base.slot,fun b ob e n hx => ?_,I.base.there,fun b xs e => ?_,fun b ob v e => ?_,fun b ps e => ?_⟩,I.loc,I.cell,?_,fun x c e => ?_,fun p hq => ?_,fun b v e => ?_,I.len⟩
 ·rw [upd_ne (Nat.ne_of_lt (Nat.lt_of_lt_of_le (Heap.lt_size e) h0))]
  exact I.base.free b ob e n hx
 ·have := I.base.tups b xs e
  rw [upd_ne (ne this)]; exact this
 ·have := I.base.frzs b ob v e
  rw [upd_ne (ne this)]; exact this
 ·obtain ⟨more,this⟩ := I.base.tbls b ps e
  exact ⟨more,by rw [upd_ne (ne this)]; exact this⟩
 ·rw [upd_ne (Ne.symm hL)]; exact I.free
 ·rw [upd_ne (hc x c e)]; exact I.freeC x c e
 ·obtain ⟨h1,h2,h3⟩ := I.pin p hq
  exact ⟨h1,by rw [upd_ne (hp p hq)]; exact h2,h3⟩
 ·by_cases hb : b = a
  ·subst hb
   rw [upd_same] at e; cases e
   exact new
  ·rw [upd_ne hb] at e
   exact (I.hok b v e).stay (fun _ _ _ z => z) (fun c z => by rw [upd_ne (ne z)]; exact z) fun c xs z => by rw [upd_ne (ne z)]; exact z
def KeyC (X : Cx) (A : Around) (pins : List (Addr × Obj)) (σ : L2.St) (H : Hp) (f : Value) (ns : List Int) (g : Int -> Int) : Prop :=
 ∀ (pl : List (Addr × Obj)) (s' : Shared) (H' : Hp) (i : Int) (t : Tok),i ∈ ns -> Same H H' -> Inv X (pins ++ pl) σ H' s' ->
  wpAny (model X.prog X.w) A (call f [.int i t]) (fun v s2 => (∃ t',v = .int (g i) t') ∧ ∃ H2,Same H' H2 ∧ Inv X (pins ++ pl) σ H2 s2) (fun _ _ => False) s'
theorem ints_at : ∀ {us : List Value} {ms : List Int},IntsAre us ms -> ∀ {j : Nat} {x : Value},us[j]? = some x -> ∃ n t,ms[j]? = some n ∧ x = .int n t
 | _,_,.nil,j,x,h => by simp at h
 | _,_,.cons n t r,j,x,h => by
  cases j with
  | zero => simp only [List.getElem?_cons_zero,Option.some.injEq] at h ⊢; exact ⟨n,t,rfl,h.symm⟩
  | succ j => simp only [List.getElem?_cons_succ] at h ⊢; exact ints_at r h
theorem key_rest {f : Value} {b : Bool} {e1 : Nat} {Q : PySem.Fin -> Shared -> Prop} (I : Inv X (pins ++ [(kS,seqObj "list" #[] 0),(a,seqObj "list" #[] e1)]) σ H s) (hka : kS ≠ a)
  (hk0 : X.s₀.heap.objs.size ≤ kS) (ha0 : X.s₀.heap.objs.size ≤ a) (hpk : ∀ p ∈ X.pn ++ pins,p.1 ≠ kS) (hpa : ∀ p ∈ X.pn ++ pins,p.1 ≠ a) (hv : IntsAre vs ns) (h64 : ns.length < 64) (key : KeyC X A pins σ H f ns g)
  (h : ∀ s2 H2 out c,Same H H2 -> Inv X pins σ H2 s2 -> s2.heap.get? a = some (seqObj "list" out c) -> H2 a = none -> KskOut b (ns.map g) vs out.toList -> Q (.done (.ret .none)) s2) :
  wpAny (model X.prog X.w) A (ksk_rest a f b vs.toArray e1 (.ref kS)) Q E s := by
 have hlen := hv.length
 unfold ksk_rest
 refine wpAny_bind (wpAny_rule ?_)
 first
  | rw [List.forIn_toArray]
  | (rw [← Array.forIn_toList]; simp only [List.toList_toArray])
  | rw [← Array.forIn_toList]
 refine wpAny_bind (ksk_fold (fun i s2 => ∃ H2 kA e,Same H H2 ∧ Inv X (pins ++ [(kS,seqObj "list" kA e),(a,seqObj "list" #[] e1)]) σ H2 s2 ∧ IntsAre kA.toList ((ns.map g).take i)) vs 0 s
  ⟨H,#[],0,.refl H,I,by simpa using IntsAre.nil⟩ ?step ?done)
 case step =>
  rintro j x s2 hx ⟨H2,kA,e,S2,I2,hk⟩
  rw [Nat.zero_add] at hk ⊢
  obtain ⟨n,t,hn,rfl⟩ := ints_at hv hx
  have hj : j < ns.length := (List.getElem?_eq_some_iff.mp hn).1
  have hz : kA.size ≤ 64 := by
   have h1 := hk.length
   rw [Array.length_toList,List.length_take,List.length_map] at h1
   omega
  refine wpAny_bind (wpAny_attempt (wpAny_mono (key _ s2 H2 n t (List.mem_of_getElem? hn) S2 I2) (fun v s3 hw => ?_) fun _ _ hF => hF.elim))
  obtain ⟨⟨t3,rfl⟩,H3,S3,I3⟩ := hw
  try dsimp only
  obtain ⟨nk,nkH,nkL,nkf,nkc⟩ := I3.pin (kS,seqObj "list" kA e) (by simp)
  obtain ⟨na,naH,naL,naf,nac⟩ := I3.pin (a,seqObj "list" #[] e1) (by simp)
  have s1 := Heap.SameBut.update s3.heap kS (Obj.mapSeq (·.push (.int (g n) t3)))
  obtain ⟨c2,hc2⟩ : ∃ c2,(s3.heap.update kS (Obj.mapSeq (·.push (.int (g n) t3)))).get? kS = some (seqObj "list" (kA.push (.int (g n) t3)) c2) := ⟨_,get?_update_seq nk (·.push (.int (g n) t3))⟩
  have e2 : (ns.map g).take (j + 1) = (ns.map g).take j ++ [g n] := by rw [List.take_add_one,List.getElem?_map,hn]; simp
  have I4 : Inv X pins σ H3 s3 := I3.unpinned
  have I5 := I4.turned (t' := s3.toks) (h' := s3.heap.update kS (Obj.mapSeq (·.push (.int (g n) t3)))) (it := kS) (fun b o hb q => (s1.2 b hb).trans q) nkH nkL (.inr hk0) (no_cell I4 nk nkc) hpk
  refine wpAny_bind (listUpdate_at nk rfl ?_ (by rw [sizeLine_eq]; omega) (Nat.le_trans (Nat.le_of_eq (Array.size_push ..)) (by rw [sizeLine_eq]; omega)))
  refine wpAny_pure ⟨rfl,H3,kA.push (.int (g n) t3),c2,S2.trans S3,?_,?_⟩
  ·refine I5.pins_of fun p hp => ?_
   rcases List.mem_append.mp hp with hp | hp
   ·exact I5.pin p (List.mem_append_right _ hp)
   ·rcases List.mem_cons.mp hp with rfl | hp
    ·exact ⟨hc2,nkH,nkL,nkf,fun v z => by cases z⟩
    ·rw [List.mem_singleton.mp hp]
     exact ⟨(s1.2 a hka.symm).trans na,naH,naL,naf,nac⟩
  ·rw [Array.toList_push,e2]
   exact ksk_snoc hk
 case done =>
  rintro s2 ⟨H2,kA,e,S2,I2,hk⟩
  have hk' : IntsAre kA.toList (ns.map g) := by
   have e3 : (ns.map g).take (0 + vs.length) = ns.map g := List.take_of_length_le (by rw [List.length_map]; omega)
   rw [e3] at hk
   exact hk
  obtain ⟨nk,nkH,nkL,nkf,nkc⟩ := I2.pin (kS,seqObj "list" kA e) (by simp)
  obtain ⟨na,naH,naL,naf,nac⟩ := I2.pin (a,seqObj "list" #[] e1) (by simp)
  have I4 : Inv X pins σ H2 s2 := I2.unpinned
  obtain ⟨m,hns,_⟩ := id I4.loc
  have mem : ∀ {b : Addr} {o : Obj},(b,o) ∈ (Att.ledger s2.heap X.env.locals kS).filter (fun p => decide (p.1 ≠ a)) ↔ (b ≠ X.env.locals ∧ b ≠ kS ∧ s2.heap.get? b = some o) ∧ b ≠ a := fun {b o} => by
   rw [List.mem_filter,Att.mem_ledger,decide_eq_true_iff]
  have N : News (Att.noObjs s2.heap) X.env.locals s2.heap ((Att.ledger s2.heap X.env.locals kS).filter (fun p => decide (p.1 ≠ a)) ++ [(kS,seqObj "list" kA e),(a,seqObj "list" #[] e1)]) := by
   rintro ⟨b,o⟩ hp
   rcases List.mem_append.mp hp with hp | hp
   ·obtain ⟨⟨h1,h2,h3⟩,h4⟩ := mem.mp hp
    exact ⟨h3,h1,Att.noObjs_get _ _⟩
   ·rcases List.mem_cons.mp hp with z | hp
    ·cases z
     exact ⟨nk,nkL,Att.noObjs_get _ _⟩
    ·cases List.mem_singleton.mp hp
     exact ⟨na,naL,Att.noObjs_get _ _⟩
  refine wpAny_bind (listItems_at nk rfl ?_)
  refine ksk_end_ (b := b) (vs := vs) (Att.fr_all hns) N hka (fun ⟨b,o⟩ hp => (mem.mp hp).1.2.1) (fun ⟨b,o⟩ hp => (mem.mp hp).2) hk' (by rw [List.length_map]; omega) (by omega) fun h3 tk out c F3 N3 hout => ?_
  have kp : ∀ b o,b ≠ X.env.locals -> b ∉ [kS,a] -> s2.heap.get? b = some o -> h3.get? b = some o := fun b o n1 n2 z => by
   have n3 : b ≠ kS ∧ b ≠ a := by simpa using n2
   exact (N3 (b,o) (List.mem_cons_of_mem _ (mem.mpr ⟨⟨n1,n3.1,z⟩,n3.2⟩))).1
  have nsl : ∀ m',s2.heap.Ns X.env.locals m' -> h3.Ns X.env.locals m' := fun m' z => by
   rw [z.eq_nsMap,← hns.eq_nsMap]
   exact F3.ns
  have nt : ∀ {b v},H2 b = some v -> b ≠ X.env.locals ∧ b ∉ [kS,a] := fun {b v} z => by
   refine ⟨fun w => ?_,fun w => ?_⟩
   ·rw [w,I4.free] at z; cases z
   ·rcases List.mem_cons.mp w with w | w
    ·rw [w,nkH] at z; cases z
    ·rw [List.mem_singleton.mp w,naH] at z; cases z
  refine h _ H2 out c S2 (I4.step (g' := s2.gens) (d' := s2.drawn) (t' := tk) (h' := h3) (H' := H2) (ch := [kS,a]) (fun b hb => ?_) (fun b o n1 _ n2 z _ => kp b o n1 n2 z) (fun b o n1 _ n2 z _ => ⟨o.slots,kp b o n1 n2 z⟩) (fun _ _ _ _ z => z)
   (fun b o n2 z => ?_) (fun _ _ z => z) (fun _ _ _ z => z) (fun b ps z => ⟨#[],by rw [z]; simp⟩) nsl (fun b v z => ?_) I4.bare) (N3 (a,seqObj "list" out c) (List.mem_cons_self ..)).1 naH hout
  ·rcases List.mem_cons.mp hb with w | w
   ·rw [w]; exact ⟨.inr hk0,nkL,no_cell I4 nk nkc,hpk⟩
   ·rw [List.mem_singleton.mp w]; exact ⟨.inr ha0,naL,no_cell I4 na nac,hpa⟩
  ·by_cases w : b = X.env.locals
   ·subst w
    obtain ⟨o',_,_,z',_⟩ := F3.ns
    exact ⟨o',z'⟩
   ·exact ⟨o,kp b o w n2 z⟩
  ·refine (I4.hok b v z).stay (fun b' u w y => ?_) (fun _ w => w) fun _ _ w => w
   have := nt z
   rcases w with w | w
   ·rw [w] at y ⊢; exact kp b u this.1 this.2 y
   ·exact kp b' u (nt w).1 (nt w).2 y
def vInt : Value -> Int
 | .int n _ => n
 | _ => 0
theorem ints_map : ∀ {us : List Value} {ms : List Int},IntsAre us ms -> us.map vInt = ms
 | _,_,.nil => rfl
 | _,_,.cons n t r => by rw [List.map_cons,ints_map r]; rfl
theorem ints_all : ∀ {us : List Value} {ms : List Int},IntsAre us ms -> ∀ v ∈ us,∃ n t,v = Value.int n t
 | _,_,.nil,v,h => by cases h
 | _,_,.cons n t r,v,h => by
  rcases List.mem_cons.mp h with rfl | h
  ·exact ⟨n,t,rfl⟩
  ·exact ints_all r v h
theorem ints_by : ∀ {us : List Value},(∀ v ∈ us,∃ n t,v = Value.int n t) -> IntsAre us (us.map vInt)
 | [],_ => .nil
 | u :: us,h => by
  obtain ⟨n,t,rfl⟩ := h u (List.mem_cons_self ..)
  exact .cons n t (ints_by fun v hv => h v (List.mem_cons_of_mem _ hv))
theorem ints_turned {us : List Value} (p : us.Perm vs) (hv : IntsAre vs ns) : ∃ ms,IntsAre us ms ∧ ms.Perm ns :=
 ⟨us.map vInt,ints_by fun v h => ints_all hv v (p.mem_iff.mp h),by rw [← ints_map hv]; exact p.map vInt⟩
theorem sort_keyed {Q : Value -> Shared -> Prop} (I : Inv X pins σ H s) (hl : s.heap.IsList l vs.toArray) (hv : IntsAre vs ns) (h64 : ns.length < 64) (key : KeyC X X.A.in1.in1 pins σ H (.ref q) ns g)
  (h : ∀ (D : Addr) (H2 : Hp) (s2 : Shared) (out : List Int),Same H H2 -> H D = none -> H2 D = none -> Inv X pins σ (upd H2 D (.lst (out.map V.int))) s2 -> out.Perm ns -> Q (.ref D) s2) :
  wpAny (model X.prog X.w) X.A (call (.builtin "sorted") [.ref l] [(Str.ofString "key",.ref q)]) Q E s := by
 have hlen := hv.length
 have hz : vs.length ≤ sizeLine := by rw [sizeLine_eq]; omega
 refine call_function_entry_kw kind_sorted plain_sorted entry_sorted (ksk_s1 _ _) ?_
 unfold Builtin.«sorted»
 refine wpAny_bind (m := checkCount "sorted" 1 1 _) (wpAny_pure (wpAny_bind (collect_list hl ?_ hz)))
 refine wpAny_bind (wpAny_newList ?_ hz)
 have hsz : ((s.heap.push (seqObj "list" #[] 0)).update s.heap.objs.size (Obj.mapSeq (· ++ vs.toArray))).objs.size = s.heap.objs.size + 1 := (Heap.size_update ..).trans (size_push' ..)
 generalize hg1 : (s.heap.push (seqObj "list" #[] 0)).update s.heap.objs.size (Obj.mapSeq (· ++ vs.toArray)) = g1 at hsz ⊢
 have k1 : ∀ b o,s.heap.get? b = some o -> g1.get? b = some o := fun b o z => by
  have hlt : b < s.heap.objs.size := Heap.lt_size z
  rw [← hg1,Heap.get?_update_ne _ _ _ _ (Nat.ne_of_lt hlt),Heap.get?_push_ne _ _ _ (Nat.ne_of_lt hlt)]; exact z
 show wpAny _ _ _ _ _ { s with heap := g1.push (seqObj "list" vs.toArray 0) }
 have ho2 : (g1.push (seqObj "list" vs.toArray 0)).get? g1.objs.size = some (seqObj "list" vs.toArray 0) := Heap.get?_push_size _ rfl
 have z2 : (g1.push (seqObj "list" vs.toArray 0)).objs.size = s.heap.objs.size + 2 := by rw [size_push',hsz]
 have k2 : ∀ b o,s.heap.get? b = some o -> (g1.push (seqObj "list" vs.toArray 0)).get? b = some o := fun b o z => Heap.get?_push_of_some _ (k1 b o z)
 rw [hsz] at ho2 ⊢
 generalize g1.push (seqObj "list" vs.toArray 0) = g2 at ho2 z2 k2 ⊢
 refine wpAny_bind (wpAny_holding (wpAny_call_entry_kw slot_list_sort ⟨_,ho2,rfl⟩ entry_list_sort ?body (ksk_l1 _ _)))
 case body =>
  rw [ksk_t1]
  unfold ksk_tree
  have s1 := Heap.SameBut.update g2 (s.heap.objs.size + 1) (Obj.mapSeq fun _ => (#[] : Array Value))
  obtain ⟨e1,ho3⟩ : ∃ e1,(g2.update (s.heap.objs.size + 1) (Obj.mapSeq fun _ => (#[] : Array Value))).get? (s.heap.objs.size + 1) = some (seqObj "list" #[] e1) := ⟨_,get?_update_seq ho2 fun _ => #[]⟩
  have z3 : (g2.update (s.heap.objs.size + 1) (Obj.mapSeq fun _ => (#[] : Array Value))).objs.size = s.heap.objs.size + 2 := (Heap.size_update ..).trans z2
  have k3 : ∀ b o,s.heap.get? b = some o -> (g2.update (s.heap.objs.size + 1) (Obj.mapSeq fun _ => (#[] : Array Value))).get? b = some o := fun b o z =>
   (s1.2 b (Nat.ne_of_lt (Nat.lt_succ_of_lt (Heap.lt_size z)))).trans (k2 b o z)
  refine wpAny_bind (listItems_at ho2 rfl (wpAny_bind (listUpdate_at ho2 rfl ?_ (by rw [List.size_toArray]; exact hz) (Nat.zero_le _))))
  generalize g2.update (s.heap.objs.size + 1) (Obj.mapSeq fun _ => (#[] : Array Value)) = g3 at ho3 z3 k3 ⊢
  refine wpAny_bind (seqEpoch_at ho3 rfl (wpAny_bind (wpAny_newTuple ?_ (by show vs.length ≤ _; exact hz))))
  refine wpAny_bind (wpAny_newList ?_ (Nat.zero_le _))
  refine wpAny_holding ?_
  have ho5 : ((g3.push (seqObj "tuple" vs.toArray 0)).push (seqObj "list" #[] 0)).get? (g3.push (seqObj "tuple" vs.toArray 0)).objs.size = some (seqObj "list" #[] 0) := Heap.get?_push_size _ rfl
  have ho4 : ((g3.push (seqObj "tuple" vs.toArray 0)).push (seqObj "list" #[] 0)).get? (s.heap.objs.size + 1) = some (seqObj "list" #[] e1) := Heap.get?_push_of_some _ (Heap.get?_push_of_some _ ho3)
  have k4 : ∀ b o,s.heap.get? b = some o -> ((g3.push (seqObj "tuple" vs.toArray 0)).push (seqObj "list" #[] 0)).get? b = some o := fun b o z => Heap.get?_push_of_some _ (Heap.get?_push_of_some _ (k3 b o z))
  have z4 : (g3.push (seqObj "tuple" vs.toArray 0)).objs.size = s.heap.objs.size + 3 := by rw [size_push',z3]
  show wpAny _ _ (ksk_rest _ _ _ _ _ (.ref (g3.push (seqObj "tuple" vs.toArray 0)).objs.size)) _ _ { s with heap := (g3.push (seqObj "tuple" vs.toArray 0)).push (seqObj "list" #[] 0) }
  rw [z4] at ho5 ⊢
  generalize (g3.push (seqObj "tuple" vs.toArray 0)).push (seqObj "list" #[] 0) = g4 at ho5 ho4 k4 ⊢
  have I4 : Inv X pins σ H { s with heap := g4 } := I.kept (t' := s.toks) k4
  have nw : ∀ {d : Nat},s.heap.objs.size ≤ d -> H d = none ∧ d ≠ X.env.locals ∧ d ∉ X.fs := fun hd => ⟨I.hok.fresh hd,Nat.ne_of_gt (Nat.lt_of_lt_of_le I.lt hd),I.nofs hd⟩
  have np : ∀ {d : Nat},s.heap.objs.size ≤ d -> ∀ p ∈ X.pn ++ pins,p.1 ≠ d := fun hd p hp => Nat.ne_of_lt (Nat.lt_of_lt_of_le (Heap.lt_size (I.pin p hp).1) hd)
  have I5 : Inv X (pins ++ [(s.heap.objs.size + 3,seqObj "list" #[] 0),(s.heap.objs.size + 1,seqObj "list" #[] e1)]) σ H { s with heap := g4 } := I4.pins_of fun p hp => by
   rcases List.mem_append.mp hp with hp | hp
   ·exact I4.pin p (List.mem_append_right _ hp)
   ·rcases List.mem_cons.mp hp with rfl | hp
    ·exact ⟨ho5,(nw (Nat.le_add_right _ _)).1,(nw (Nat.le_add_right _ _)).2.1,(nw (Nat.le_add_right _ _)).2.2,fun v z => by cases z⟩
    ·rw [List.mem_singleton.mp hp]
     exact ⟨ho4,(nw (Nat.le_add_right _ _)).1,(nw (Nat.le_add_right _ _)).2.1,(nw (Nat.le_add_right _ _)).2.2,fun v z => by cases z⟩
  refine key_rest (a := s.heap.objs.size + 1) (kS := s.heap.objs.size + 3) I5 (Nat.ne_of_gt (Nat.add_lt_add_left (by decide : 1 < 3) _)) (Nat.le_trans I.sz (Nat.le_add_right _ _)) (Nat.le_trans I.sz (Nat.le_add_right _ _)) (np (Nat.le_add_right _ _)) (np (Nat.le_add_right _ _)) hv h64 key
   fun s2 H2 out c S2 I2 e2 n2 hout => ⟨_,rfl,?_⟩
  obtain ⟨ps,p1,p2,_⟩ := hout
  have pp : out.toList.Perm vs := by
   rw [p2]
   refine (p1.map Prod.snd).trans ?_
   rw [List.map_snd_zip (by rw [List.length_map]; omega)]
  obtain ⟨ms,m1,m2⟩ := ints_turned pp hv
  refine wpAny_pure ⟨_,rfl,h _ H2 s2 ms S2 (nw (Nat.le_add_right _ _)).1 n2 (adopt I2 n2 (Nat.le_trans I.sz (Nat.le_add_right _ _)) (nw (Nat.le_add_right _ _)).2.1 (no_cell I2 e2 fun v z => by cases z) (np (Nat.le_add_right _ _)) ?_) m2⟩
  exact ⟨by rw [List.length_map,m2.length_eq,sizeLine_eq]; omega,out.toList,c,ints_vals m1,e2⟩
end
end DL
namespace DL
open PySem PySem.Spec PyProof.Rows L2
def lamCx (X : Cx) (A : Around) (p y : Str) (qual : Str) (sc : Scope) (f : Addr) (cd : Value) (c : Addr) (s : Shared) (H : Hp) : Cx where
 prog := X.prog
 w := X.w
 K := X.K
 mg := X.mg
 base := X.base
 A := A.deeper (PySem.W.envX qual sc s.heap.objs.size f cd [(y,c)])
 N := [p,y]
 s₀ := s
 H₀ := H
 env := PySem.W.envX qual sc s.heap.objs.size f cd [(y,c)]
 outer := X.stack
 stack := PySem.W.envX qual sc s.heap.objs.size f cd [(y,c)] :: X.stack
 ex := []
 fn := fun _ => false
 calm := true
 pn := []
 xe := fun _ _ => False
def CodeAt (c : Addr) (qual : Str) : Heap -> Prop := fun h => h.CodeRec (.ref c) qual
def Tab (P : Addr) (lp : Pos) (qual : Str) (H : Hp) : Prop :=
 ∃ ps,H P = some (.tbl ps) ∧ TriplesOk ps.toList ∧ (codeAmong lp ps.toList = none ∨ ∃ c,codeAmong lp ps.toList = some (.ref c) ∧ H c = some (.ext (CodeAt c qual)))
structure LamB (mg : Str -> Option Value) (base : Heap) (c P : Addr) : Prop where
 code : PySem.W.CodeHd base c P
 blt : base.BuiltinsAt mg P
 ne : mainGlobals ≠ P
def SameT (P : Addr) (H H' : Hp) : Prop := ∀ b o,b ≠ P -> H b = some o -> H' b = some o
structure LamSc (p y : Str) (sc : Scope) : Prop where
 kind : sc.kind = .function
 co : sc.isCoroutine = false
 gen : sc.isGenerator = false
 nocell : ∀ x ∈ sc.names,x.2 ≠ .cell
 loc : sc.names.lookup p = some .local
 free : sc.names.lookup y = some .free
 only : ∀ x ∈ sc.names,x.2 = .free -> x.1 = y
section
variable {X : Cx} {A : Around} {pins : List (Addr × Obj)} {σ : L2.St} {H : Hp} {s : Shared} {p y qual : Str} {sc : Scope} {f c : Addr} {cd : Value}
theorem lam_start {i : Int} {t : Tok} {v : V} {u : Value} {h1 : Heap} {tk : Nat} (S : LamSc p y sc) (I : Inv X pins σ H s) (hd : A.handled = none) (hA : A.frames = some X.stack) (hc : X.env.cells.lookup y = some c)
  (hu : s.heap.IsCell c (some u)) (r : RelV v u) (hns : h1.Ns s.heap.objs.size (fun x => ([(p,Value.int i t)] : List (Str × Value)).reverse.lookup x)) (hk : ∀ b o,s.heap.get? b = some o -> h1.get? b = some o) :
  Inv (lamCx X A p y qual sc f cd c s H) [] [some (.int i),some v] H { s with heap := h1,toks := tk } := by
 have one : ∀ {x : Str} {c' : Addr},([(y,c)] : List (Str × Addr)).lookup x = some c' -> x = y ∧ c' = c := fun {x c'} e => by
  rw [List.lookup_cons] at e
  cases hb : x == y with
  | true => rw [hb] at e; cases e; exact ⟨eq_of_beq hb,rfl⟩
  | false => rw [hb] at e; cases e
 have cell : h1.IsCell c (some u) := let ⟨o,e1,e2⟩ := hu; ⟨o,hk _ _ e1,e2⟩
 have noA : ∀ b : Addr,b ∉ ([] : List Addr) := fun b z => nomatch z
 have ly : ([(y,c)] : List (Str × Addr)).lookup y = some c := by rw [List.lookup_cons,beq_self_eq_true]
 refine ⟨⟨I.ok.mod,S.kind,rfl,rfl,Nat.le_refl _,fun a b c' e1 e2 => (one e1).1.trans (one e2).1.symm,fun x hx => ?_,fun x c' e => absurd e Bool.false_ne_true,fun _ => hd,Around.frames_deeper hA,.inr ⟨rfl,rfl⟩,fun b z => absurd z (noA b),fun b o e => I.bs b o e,
  Nat.le_trans I.ok.bsz I.sz,fun b _ _ => noA b,fun b z => absurd z (noA b),I.stack,I.stkFree⟩,rfl,I.bare,Un.kept hk,⟨_,hns,fun j x v' e1 e2 e3 => ?_⟩,fun x c' e => ?_,I.hok.fresh (Nat.le_refl _),fun x c' e => ?_,(fun q hq => by cases hq),I.hok.kept hk,rfl⟩
 ·have hx' : sc.names.lookup x = some .cell ∨ sc.names.lookup x = some .free := hx
  rcases hx' with z | z
  ·exact absurd rfl (S.nocell _ (PySem.mem_of_lookup z))
  ·have : x = y := S.only _ (PySem.mem_of_lookup z) rfl
   subst this
   exact ⟨c,ly⟩
 ·have e1' : ([p,y] : List Str)[j]? = some x := e1
  match j,e1',e2 with
  | 0,e1',e2 =>
   cases e1'
   cases e2
   exact ⟨.int i t,⟨t,rfl⟩,.inl ⟨S.loc,by simp⟩⟩
  | 1,e1',e2 =>
   cases e1'
   cases e2
   exact ⟨u,r,.inr ⟨.inr S.free,c,ly,cell⟩⟩
 ·obtain ⟨rfl,rfl⟩ := one e
  exact ⟨_,cell⟩
 ·obtain ⟨rfl,rfl⟩ := one e
  exact I.freeC _ _ hc
theorem lam_key {name : Str} {params : Arguments} {body : Expr} {mv ctv : Value} {c' : Addr} {ns : List Int} {iy : Nat} {v : V} {d : D} {B : Addr -> Prop} {fb : Fn} {g : Int -> Int} (S : LamSc p y sc) (hd : A.handled = none) (hA : A.frames = some X.stack) (hroom : A.depth < recursionLimit)
  (hf : (f,PySem.W.kla_obj name qual params body sc [(y,c)] mv c' ctv) ∈ pins) (hco : H c' = some (.ext (CodeAt c' qual)))
  (hc : X.env.cells.lookup y = some c) (hyN : X.N[iy]? = some y) (hyk : X.env.scope.names.lookup y = some .cell) (hσ : σ[iy]? = some (some v)) (hrep : Rep X.K B H d v)
  (hbind : ∀ u : Value,bindArgs (PySem.W.kla_fn name qual params body sc [(y,c)] mv (.ref c') ctv) ⟨[u],[]⟩ = pure [(p,u)])
  (hb : ∀ (s' : Shared) (H' : Hp),PE (lamCx X A p y qual sc f (.ref c') c s' H') body (tX X.K E0 .W fb)) (hg : ∀ i ∈ ns,fb [.val (.int i),.val d] = .ok (.int (g i))) :
  KeyC X A pins σ H (.ref f) ns g := by
 intro pl s' H' i t hi hS I
 have pf := (I.pin _ (List.mem_append_right _ (List.mem_append_left _ hf))).1
 have pc : s'.heap.CodeRec (.ref c') qual := (I.hok c' _ (hS _ _ hco)).1
 obtain ⟨m,hm,hl⟩ := id I.loc
 obtain ⟨u,ru,hlk⟩ := hl iy y v hyN hσ (.inr (.inl hyk))
 have hcell : s'.heap.IsCell c (some u) := by
  rcases hlk with ⟨z,_⟩ | ⟨_,c2,z,w⟩
  ·have z' : X.env.scope.names.lookup y = some .local := z
   rw [hyk] at z'; cases z'
  ·rw [hc] at z; cases z
   exact w
 refine wpAny_call (PySem.W.kla_callFunE hroom pf rfl S.co S.gen rfl pc ?_)
 rw [hbind]
 refine wpAny_pure (wpAny_newFunctionEnv S.nocell (fun x hx => by rw [List.mem_singleton.mp hx]; exact S.loc) (fun h1 hns hsb => ?_) S.kind)
 have hk1 : ∀ b o,s'.heap.get? b = some o -> h1.get? b = some o := fun b o e => hsb.extBut b o (Nat.ne_of_lt (Heap.lt_size e)) (Heap.get?_push_of_some _ e)
 refine ⟨I.nolimit.keeps hk1,PySem.W.kla_codeExpr ?_⟩
 have J := lam_start (A := A) (p := p) (qual := qual) (sc := sc) (f := f) (cd := .ref c') (tk := s'.toks + 1) S I hd hA hc hcell ru hns hk1
 have hr : Reps X.K B H' [.int i,d] [.int i,v] := ⟨.int i,[v],rfl,rfl,v,[],rfl,hrep.same hS,rfl⟩
 have ab := start_abs (N := [p,y]) hr (Nat.le_refl _)
 refine wpAny_mono (hb s' H' [] _ _ H' (fun v2 H2 => v2 = .int (g i) ∧ Same H' H2) J ⟨_,_,rfl,ab,?_⟩) (fun u2 s2 h2 => ?_) fun _ _ h2 => h2.elim
 ·show Res X.K E0 _ (fb [.val (.int i),.val d]) _
  rw [hg i hi]
  intro v2 H2 e2 q2
  exact ⟨q2,e2⟩
 ·obtain ⟨v2,H2,J2,r2,rfl,e2⟩ := h2
  obtain ⟨t2,rfl⟩ := r2
  exact ⟨⟨t2,rfl⟩,H2,e2,I.call' J2.os J2.base J2.hok J2.bare fun b z => nomatch z⟩
theorem code_at {c' : Addr} {h : Heap} (x : h.CodeRec (.ref c') qual) : ObjOk X.prog X.w H h c' (.ext (CodeAt c' qual)) := by
 obtain ⟨c2,o,vs,t,e,g1,g2⟩ := id x
 cases e
 refine ⟨x,⟨o,g1⟩,fun h1 h2 x1 k => ?_⟩
 obtain ⟨c2,o',vs',t',e,y1,y2⟩ := x1
 cases e
 exact ⟨c',o',vs',t',rfl,k o' y1,y2⟩
theorem lam_make {M : Model} {A' : Around} {E : Value -> Shared -> Prop} {Q : Value -> Shared -> Prop} {c0 P : Addr} {params : Arguments} {body : Expr} {lp : Pos} {cl : List (Str × Addr)} (L : LamB X.mg X.base c0 P) (hcode : X.env.code = .ref c0) (hT : Tab P lp (X.env.qual ++ "<lambda>") H) (I : Inv X pins σ H s)
  (hcl : closureFor sc X.env = pure cl) (hdef : defaultsOf params X.env = ([],[]))
  (h : ∀ (f c' : Addr) (ctv mv : Value) (H1 : Hp) (s1 : Shared),SameT P H H1 -> Tab P lp (X.env.qual ++ "<lambda>") H1 -> H1 c' = some (.ext (CodeAt c' (X.env.qual ++ "<lambda>"))) -> Inv X pins σ H1 s1 -> s.heap.objs.size ≤ f -> H1 f = none ->
   s1.heap.get? f = some (PySem.W.kla_obj "<lambda>" (X.env.qual ++ "<lambda>") params body sc cl mv c' ctv) -> Q (.ref f) s1) :
  wpAny M A' (eval (.Lambda params body sc lp) X.env) Q E s := by
 obtain ⟨ps,hP,ht,hn⟩ := hT
 have hPo : s.heap.get? P = some (PySem.W.tabObj ps) := I.hok P _ hP
 have hbs : s.heap.BuiltinsAt X.mg P := let ⟨bm,o,b1,b2,b3,b4,b5,b6⟩ := L.blt; ⟨bm,o,b1,b2,b3,b4,I.bk _ _ b5,b6⟩
 have hgs : s.heap.Ns mainGlobals X.mg := let ⟨o,es,ep,e,r⟩ := I.ok.mod.glob; ⟨o,es,ep,I.bk _ _ e,r⟩
 have hC := L.code.keeps I.bk
 refine PySem.W.kla_eval hdef ?_
 rcases hn with hn | ⟨c',hn,hc'⟩
 ·refine PySem.W.kla_makeFunction (mg := X.mg) hcl I.ok.glob hgs hcode hC hPo ht hn L.ne hbs fun c' ctv h' tk hx hge hlt hrec htb => ?_
  have neP : ∀ {b v},H b = some v -> (∀ qs,v ≠ .tbl qs) -> b ≠ P := fun {b v} e z w => by rw [w,hP] at e; cases e; exact z _ rfl
  have nec : ∀ {b v},H b = some v -> b ≠ c' := fun {b v} e => Nat.ne_of_lt (Nat.lt_of_lt_of_le (I.hok.lt e) hge)
  have hPc : P ≠ c' := nec hP
  have e1 : upd (upd H P (.tbl (ps ++ #[rawInt lp.line,rawInt lp.col,.ref c']))) c' (.ext (CodeAt c' (X.env.qual ++ "<lambda>"))) P = some (.tbl (ps ++ #[rawInt lp.line,rawInt lp.col,.ref c'])) := by rw [upd_ne hPc,upd_same]
  have oth : ∀ {b : Addr},b ≠ P -> b ≠ c' -> upd (upd H P (.tbl (ps ++ #[rawInt lp.line,rawInt lp.col,.ref c']))) c' (.ext (CodeAt c' (X.env.qual ++ "<lambda>"))) b = H b := fun {b} h1 h2 => by rw [upd_ne h2,upd_ne h1]
  have ltc : ∀ {b o},s.heap.get? b = some o -> b ≠ c' := fun {b o} e => Nat.ne_of_lt (Nat.lt_of_lt_of_le (Heap.lt_size e) hge)
  have nP : ∀ {b},H b = none -> b ≠ P := fun {b} e w => by rw [w,hP] at e; cases e
  have J : Inv X pins σ (upd (upd H P (.tbl (ps ++ #[rawInt lp.line,rawInt lp.col,.ref c']))) c' (.ext (CodeAt c' (X.env.qual ++ "<lambda>")))) { s with heap := h',toks := tk } := by
   refine I.step (g' := s.gens) (d' := s.drawn) (ch := []) (fun _ z => nomatch z) (fun b o _ _ _ e n => hx b o (nP n) e) (fun b o _ _ _ e n => ⟨o.slots,hx b o (nP n) e⟩) (fun b o _ e n => by rw [oth (nP n) (ltc e)]; exact n)
    (fun b o _ e => ?_) (fun b xs e => by rw [oth (neP e fun _ z => by cases z) (nec e)]; exact e) (fun b o v e => by rw [oth (neP e fun _ z => by cases z) (nec e)]; exact e) (fun b qs e => ?_) (fun m hm => hm.extBut hx (nP I.free)) (fun b v e => ?_) I.bare
   ·by_cases hb : b = P
    ·exact ⟨_,by rw [hb]; exact htb⟩
    ·exact ⟨o,hx b o hb e⟩
   ·by_cases hb : b = P
    ·subst hb
     rw [hP] at e; cases e
     exact ⟨_,e1⟩
    ·exact ⟨#[],by rw [oth hb (nec e),e]; simp⟩
   ·by_cases hbc : b = c'
    ·subst hbc
     rw [upd_same] at e; cases e
     exact code_at hrec
    ·by_cases hb : b = P
     ·subst hb
      rw [e1] at e; cases e
      exact htb
     ·rw [oth hb hbc] at e
      refine (I.hok b v e).stay (fun b' o w z => hx b' o ?_ z) (fun b' w => by rw [oth (neP w fun _ z => by cases z) (nec w)]; exact w) fun b' xs w => by rw [oth (neP w fun _ z => by cases z) (nec w)]; exact w
      rcases w with rfl | w
      ·exact hb
      ·exact neP w fun _ z => by cases z
  have J2 := J.kept (t' := tk) (h' := h'.push (PySem.W.kla_obj "<lambda>" (X.env.qual ++ "<lambda>") params body sc cl ((X.mg "__name__").getD .none) c' ctv)) fun b u e => Heap.get?_push_of_some _ e
  refine h _ c' ctv _ _ _ (fun b o hb e => by rw [oth hb (nec e)]; exact e) ⟨_,e1,?_,.inr ⟨c',?_,upd_same⟩⟩ upd_same J2 (Nat.le_trans hge (Nat.le_of_lt hlt)) (J.hok.fresh (Nat.le_refl _)) (Heap.get?_push_size _ rfl)
  ·rw [Array.toList_append]
   exact TriplesOk_snoc _ _ _ _ ht
  ·rw [Array.toList_append]
   exact codeAmong_snoc _ ht hn
 ·refine PySem.W.kla_makeFunctionHit (mg := X.mg) hcl I.ok.glob hgs hcode hC hPo ht hn hbs fun ctv h' tk hk hsz => ?_
  have J := I.kept (t' := tk) (h' := h'.push { cls := .type "function",data := .func (PySem.W.kla_fn "<lambda>" (X.env.qual ++ "<lambda>") params body sc cl ((X.mg "__name__").getD .none) (.ref c') ctv) }) fun b u e => Heap.get?_push_of_some _ (hk b u e)
  exact h _ c' ctv _ H _ (fun b o _ e => e) ⟨ps,hP,ht,.inr ⟨c',hn,hc'⟩⟩ hc' J hsz (I.hok.fresh hsz) (Heap.get?_push_size _ rfl)
theorem Tab.same {P : Addr} {lp : Pos} {H H' : Hp} (h : Tab P lp qual H) (e : Same H H') : Tab P lp qual H' := by
 obtain ⟨ps,h1,h2,h3⟩ := h
 refine ⟨ps,e _ _ h1,h2,h3.imp id ?_⟩
 rintro ⟨c,h4,h5⟩
 exact ⟨c,h4,e _ _ h5⟩
theorem Tab.ne {P a : Addr} {lp : Pos} {o : HO} (h : Tab P lp qual H) (e : H a = some o) (n : ∀ ps,o ≠ .tbl ps) : a ≠ P := fun z => by
 obtain ⟨ps,h1,_⟩ := h
 rw [z,h1] at e; cases e
 exact n _ rfl
theorem stayT {K : PySem.W.Frag} {B : Addr -> Prop} {P : Addr} {lp : Pos} {H H' : Hp} (h : Tab P lp qual H) (e : SameT P H H') (hB : ¬ B P) : Stay K B H H' where
 tup := fun a xs z => by
  rcases z with (z | ⟨o,z⟩) | z
  ·exact .inl (.inl (e _ _ (h.ne z fun _ w => by cases w) z))
  ·exact .inl (.inr ⟨o,e _ _ (h.ne z fun _ w => by cases w) z⟩)
  ·exact .inr z
 frz := fun a xs z => by
  rcases z with ⟨o,z⟩ | z
  ·exact .inl ⟨o,e _ _ (h.ne z fun _ w => by cases w) z⟩
  ·exact .inr z
 keep := fun a o z w => e _ _ (fun q => hB (q ▸ z)) w
theorem repT {K : PySem.W.Frag} {B : Addr -> Prop} {P : Addr} {lp : Pos} {H H' : Hp} {d : D} {v : V} (h : Tab P lp qual H) (e : SameT P H H') (hB : ¬ B P) (r : Rep K B H d v) : Rep K B H' d v := Rep.mono (fun _ _ z _ => z) (stayT h e hB) d v r
theorem sqT {K : PySem.W.Frag} {P a : Addr} {lp : Pos} {H H' : Hp} {xs : List V} (h : Tab P lp qual H) (e : SameT P H H') (r : SqL K H a xs) : SqL K H' a xs := by
 rcases r with (r | ⟨o,r⟩) | r
 ·exact .inl (.inl (e _ _ (h.ne r fun _ w => by cases w) r))
 ·exact .inl (.inr ⟨o,e _ _ (h.ne r fun _ w => by cases w) r⟩)
 ·exact .inr r
theorem rep_ints : ∀ {K : PySem.W.Frag} {B : Addr -> Prop} {H : Hp} {ns : List Int} {xs : List V},Reps K B H (ns.map D.int) xs -> xs = ns.map V.int
 | _,_,_,[],xs,r => by simpa [Reps] using r
 | K,B,H,n :: ns,xs,r => by
  simp only [List.map_cons,Reps] at r
  obtain ⟨v,r1,rfl,h1,h2⟩ := r
  rw [rep_ints h2]
  simp only [Rep] at h1
  rw [h1]; rfl
def tO (K : PySem.W.Frag) (P : Addr) (lp : Pos) (q : Str) (iy : Nat) (fl fb : Fn) : TE := fun σ H Q => ∃ (c : Cn) (δ : DS) (d : D) (ns : List Int) (g : Int -> Int),c.K = K ∧ Abs c σ δ H ∧ δ[iy]? = some (.val d) ∧ ¬ c.B P ∧ Tab P lp q H ∧ fl δ = .ok (.lst (ns.map D.int)) ∧
 ns.length < 64 ∧ (∀ i ∈ ns,fb [.val (.int i),.val d] = .ok (.int (g i))) ∧ ∀ (l : Addr) (H' : Hp) (out : List Int),SameT P H H' -> Tab P lp q H' -> H l = none -> H' l = some (.lst (out.map V.int)) -> out.Perm ns -> Q (.ref l) H'
theorem xsortK {kk : Nat} {c0 P : Addr} {params : Arguments} {body lc : Expr} {lp p1 pos kp : Pos} {iy : Nat} {fl fb : Fn} (L : LamB X.mg X.base c0 P) (hcode : X.env.code = .ref c0) (S : LamSc p y sc) (hr : Room (kk + 3) X.A)
  (hyN : X.N[iy]? = some y) (hyk : X.env.scope.names.lookup y = some .cell) (hc : ∃ c,X.env.cells.lookup y = some c ∧ closureFor sc X.env = pure [(y,c)]) (hdef : defaultsOf params X.env = ([],[]))
  (hbind : ∀ (c c' : Addr) (mv ctv u : Value),bindArgs (PySem.W.kla_fn "<lambda>" (X.env.qual ++ "<lambda>") params body sc [(y,c)] mv (.ref c') ctv) ⟨[u],[]⟩ = pure [(p,u)])
  (ha : PA X [lc] (tXA X.K E0 .S [fl])) (hb : ∀ (f c c' : Addr) (s' : Shared) (H' : Hp),Room kk (lamCx X X.A.in1.in1 p y (X.env.qual ++ "<lambda>") sc f (.ref c') c s' H').A -> PE (lamCx X X.A.in1.in1 p y (X.env.qual ++ "<lambda>") sc f (.ref c') c s' H') body (tX X.K E0 .W fb))
  (hm : X.mg "sorted" = none) (hgl : Gl X "sorted" := by rfl) (he : starEach [lc] X.env = (false,eval lc X.env) :: starEach [] X.env := by rfl) :
  PE X (.Call (.Name "sorted" p1) [lc] [⟨some "key",.Lambda params body sc lp,kp⟩] pos) (tO X.K P lp (X.env.qual ++ "<lambda>") iy fl fb) := by
 intro pins s σ H Q I ⟨c,δ,d,ns,g,hK,ab,hδ,hB,hT,hfl,h64,hg,q⟩
 obtain ⟨ca,hca,hcl⟩ := hc
 obtain ⟨v,hσ,hrep⟩ := ab.val iy d hδ
 have hA : ¬ Av c σ δ P := fun z => hB z.1
 refine wpAny_Call_Name_kw (ld_blt I hgl hm rfl ?_ (by decide) (by decide))
 refine callWith_kw (thn (ha pos pins s σ H (fun vs H1 => ∃ a,vs = [.ref a] ∧ SqL X.K H1 a (ns.map V.int) ∧ Same H H1) I ⟨c,δ,hK,ab,?_⟩) fun us s1 ⟨vs,H1,I1,r,hvs⟩ => ?_) (by rw [he]; rfl) (by rw [he]; rfl)
 ·show Res _ _ _ (fArgs [fl] δ) _
  have : fArgs [fl] δ = .ok [.lst (ns.map D.int)] := by simp [fArgs,hfl]
  rw [this]
  intro vs H1 e1 r1
  simp only [Reps] at r1
  obtain ⟨v1,r2,rfl,r3,r4⟩ := r1
  simp only [Rep] at r3
  obtain ⟨a,xs,rfl,_,h1,h2⟩ := r3
  have := rep_ints h2
  subst this
  subst r4
  exact ⟨a,rfl,.of h1,e1⟩
 ·obtain ⟨a,rfl,hq,e1⟩ := hvs
  obtain ⟨u,rfl,ru⟩ := vals1 r
  obtain rfl : u = Value.ref a := ru
  refine kws_cons (lam_make L hcode (hT.same e1) I1 hcl hdef fun f c' ctv mv H2 s2 e2 T2 hc2 I2 hsz hf2 ho2 => kws_nil ?_)
  show wpAny _ _ (call (.builtin "sorted") [.ref a] [(Str.ofString "key",.ref f)]) _ _ _
  obtain ⟨its,r',pl,hz⟩ := I2.list (sqT (hT.same e1) e2 hq)
  have hI := vals_ints r'
  have I3 : Inv X (pins ++ [(f,PySem.W.kla_obj "<lambda>" (X.env.qual ++ "<lambda>") params body sc [(y,ca)] mv c' ctv)]) σ H2 s2 := I2.pins_of fun z hp => by
   rcases List.mem_append.mp hp with hp | hp
   ·exact I2.pin z (List.mem_append_right _ hp)
   ·rw [List.mem_singleton.mp hp]
    exact ⟨ho2,hf2,Nat.ne_of_gt (Nat.lt_of_lt_of_le I1.lt hsz),I1.nofs hsz,fun w x => by cases x⟩
  have hrep2 : Rep X.K (Av c σ δ) H2 d v := by rw [← hK]; exact repT (hT.same e1) e2 hA (hrep.same e1)
  refine sort_keyed I3 pl.isList hI h64 (lam_key S hr.hd I.ok.frames hr.in1.in1.depth (List.mem_append_right _ (List.mem_singleton.mpr rfl)) hc2 hca hyN hyk hσ hrep2 (fun u => hbind _ _ _ _ u) (fun s' H' => hb f ca c' s' H' (hr.in1.in1.deeper _)) hg) fun l H4 s4 out e4 n0 n4 I4 p4 => ?_
  have e5 : Same H2 (upd H4 l (.lst (out.map V.int))) := fun b o z => by
   rw [upd_ne (fun w => by rw [w,n0] at z; cases z)]; exact e4 b o z
  have e6 : SameT P H (upd H4 l (.lst (out.map V.int))) := fun b o n z => e5 b o (e2 b o n (e1 b o z))
  refine ⟨.ref l,_,I4.unpinned,rfl,q l _ out e6 (T2.same e5) ?_ upd_same p4⟩
  cases w : H l with
  | none => rfl
  | some o =>
   have : l ≠ P := fun z => by
    obtain ⟨ps,h1,_⟩ := T2
    rw [← z,n0] at h1; cases h1
   have := e2 l o this (e1 l o w)
   rw [n0] at this; cases this
end
end DL
namespace DL
open PySem PySem.Spec PyProof.Rows L2
structure LP where
 P : Addr
 lp : Pos
 q : Str
def LP.T (Λ : LP) (H : Hp) : Prop := Tab Λ.P Λ.lp Λ.q H
def cnL (K : PySem.W.Frag) (Λ : LP) (H₀ : Hp) : Cn := { K := K,B := fun a => a ≠ Λ.P,H₀ := H₀,G := [] }
def EndL (K : PySem.W.Frag) (Λ : LP) (He : Hp) (D : Ends) : Fl -> Prop
 | .nx δ' => ∀ H₀ σ' H',Λ.T H₀ -> SameT Λ.P He H₀ -> Abs (cnL K Λ H₀) σ' δ' H' -> D.nx σ' H'
 | .rt d => ∀ v H',Λ.T H' -> SameT Λ.P He H' -> Rep K (fun a => a ≠ Λ.P) H' d v -> D.rt v H'
 | _ => False
def tL (K : PySem.W.Frag) (Λ : LP) (He : Hp) (F : Sm) : TS := fun D σ H => ∃ H₀ δ,Λ.T H₀ ∧ SameT Λ.P He H₀ ∧ Abs (cnL K Λ H₀) σ δ H ∧ Res K E0 H₀ (F δ) (EndL K Λ He D)
def noOwn (δ : DS) : Bool := δ.all fun s => match s with
 | .own _ => false
 | _ => true
section
variable {X : Cx} {Λ : LP} {He H H1 H2 : Hp} {P : Addr} {F G : Sm} {st : Stmt} {sts : List Stmt} {K : PySem.W.Frag}
theorem SameT.refl : SameT P H H := fun _ _ _ e => e
theorem SameT.next (a : SameT P H H1) (b : Same H1 H2) : SameT P H H2 := fun c o n e => b c o (a c o n e)
theorem SameT.of (b : Same H H1) : SameT P H H1 := fun c o _ e => b c o e
theorem SameT.trans (a : SameT P H H1) (b : SameT P H1 H2) : SameT P H H2 := fun c o n e => b c o n (a c o n e)
theorem LP.T.grow (t : Λ.T H) (e : Same H H1) : Λ.T H1 := Tab.same t e
theorem LP.T.at_ (t : Λ.T H) : H Λ.P ≠ none := by
 obtain ⟨ps,h,_⟩ := t
 rw [h]; simp
theorem res0 {α : Type} {o : Ou α} {k : α -> Prop} (h : Res K E0 H o k) : Res K E0 H1 o k := by
 cases o with
 | ok a => exact h
 | ex e => exact (let ⟨_,_,g⟩ := h; g H (Same.refl H)).elim
 | bad => exact h
theorem no_own {δ : DS} (h : noOwn δ = true) {i : Nat} {d : D} (e : δ[i]? = some (Sl.own d)) : False := by
 have := List.all_eq_true.mp h _ (List.mem_of_getElem? e)
 cases this
theorem not_own {δ : DS} {σ : St} {a : Addr} (h : noOwn δ = true) : ¬ Own σ δ a := fun ⟨i,d,e,_⟩ => no_own h e
theorem rebase {H₀ : Hp} {σ : St} {δ : DS} (ab : Abs (cnL K Λ H₀) σ δ H) (hn : noOwn δ = true) (t : Λ.T H) (e : SameT Λ.P H H1) (t1 : Λ.T H1) : Abs (cnL K Λ H1) σ δ H1 where
 same := Same.refl _
 fr := fun a h z => t1.at_ (z ▸ h)
 len := ab.len
 val := fun i d h => by
  obtain ⟨v,h1,h2⟩ := ab.val i d h
  exact ⟨v,h1,repT t e (fun z => z.1 rfl) h2⟩
 own := fun i d h => (no_own hn h).elim
 gho := fun d v h => by cases h
 inj := fun i j di dj p h => (no_own hn h).elim
 pin := fun i p hP => (nomatch hP)
theorem forget {c : Cn} {σ : St} {δ : DS} {k : Nat} (ab : Abs c σ δ H) : Abs c σ (δ.set k .un) H := by
 have back : ∀ {i : Nat} {s : Sl},(δ.set k .un)[i]? = some s -> s ≠ .un -> δ[i]? = some s := fun {i s} e n => by
  by_cases hk : k = i
  ·subst hk
   by_cases hl : k < δ.length
   ·rw [List.getElem?_set_self hl] at e; cases e; exact (n rfl).elim
   ·rw [List.getElem?_eq_none (by rw [List.length_set]; omega)] at e; cases e
  ·rw [List.getElem?_set_ne hk] at e; exact e
 have ow : ∀ {a},Own σ (δ.set k .un) a -> Own σ δ a := fun ⟨i,d,e,z⟩ => ⟨i,d,back e (by simp),z⟩
 have av : ∀ {a},Av c σ δ a -> Av c σ (δ.set k .un) a := fun z => ⟨z.1,fun w => z.2 (ow w)⟩
 refine ⟨ab.same,ab.fr,by rw [List.length_set]; exact ab.len,fun i d h => ?_,fun i d h => ?_,fun d v h => (ab.gho d v h).weak fun _ => av,fun i j di dj p h1 h2 => ab.inj i j di dj p (back h1 (by simp)) (back h2 (by simp)),fun i p hP d h => ab.pin i p hP d (back h (by simp))⟩
 ·obtain ⟨v,h1,h2⟩ := ab.val i d (back h (by simp))
  exact ⟨v,h1,h2.weak fun _ => av⟩
 ·obtain ⟨p,xs,h1,h2,h3,h4⟩ := ab.own i d (back h (by simp))
  exact ⟨p,xs,h1,h2,h3,h4.weak fun _ => av⟩
theorem xl_of (h : PS X st (tS X.K E0 false F)) : PS X st (tL X.K Λ He F) := h.imp fun D σ H ⟨H₀,δ,t,e,ab,q⟩ => ⟨cnL X.K Λ H₀,δ,rfl,⟨ab,rfl⟩,q.imp fun r _ k => by
 cases r with
 | nx δ' => exact fun σ' H' ab' => k H₀ σ' H' t e ab'
 | rt d => exact fun v H' e' r' => k v H' (t.grow e') (e.next e') r'
 | bk δ' => exact k.elim
 | ct δ' => exact k.elim⟩
theorem xls_of (h : PSs X sts (tS X.K E0 false F)) : PSs X sts (tL X.K Λ He F) := h.imp fun D σ H ⟨H₀,δ,t,e,ab,q⟩ => ⟨cnL X.K Λ H₀,δ,rfl,⟨ab,rfl⟩,q.imp fun r _ k => by
 cases r with
 | nx δ' => exact fun σ' H' ab' => k H₀ σ' H' t e ab'
 | rt d => exact fun v H' e' r' => k v H' (t.grow e') (e.next e') r'
 | bk δ' => exact k.elim
 | ct δ' => exact k.elim⟩
theorem xl_cons (h1 : PS X st (tL X.K Λ He F)) (h2 : PSs X sts (tL X.K Λ He G)) : PSs X (st :: sts) (tL X.K Λ He (sSeq F G)) := (pss_cons h1 h2).imp fun D σ H ⟨H₀,δ,t,e,ab,q⟩ =>
 ⟨H₀,δ,t,e,ab,(Res.bind q).imp fun r _ k => by
  cases r with
  | nx δ' => exact fun H₀' σ' H' t' e' ab' => ⟨H₀',δ',t',e',ab',res0 k⟩
  | rt d => exact k
  | bk δ' => exact k.elim
  | ct δ' => exact k.elim⟩
end
def spL (K : PySem.W.Frag) (Λ : LP) (n : Nat) (mm : List D -> Ou D) : Sp := fun vs H Q _ => ∃ ds : List D,ds.length = n ∧ Reps K (fun a => a ≠ Λ.P) H ds vs ∧ Λ.T H ∧
 Res K E0 H (mm ds) fun d => ∀ v H',Λ.T H' -> SameT Λ.P H H' -> Rep K (fun a => a ≠ Λ.P) H' d v -> Q v H'
def spO (K : PySem.W.Frag) (Λ : LP) (n : Nat) (mo : List D -> Ou (List Int)) : Sp := fun vs H Q _ => ∃ (ds : List D) (ns : List Int),ds.length = n ∧ Reps K (fun a => a ≠ Λ.P) H ds vs ∧ Λ.T H ∧ mo ds = .ok ns ∧
 ∀ (l : Addr) (H' : Hp) (out : List Int),SameT Λ.P H H' -> Λ.T H' -> H l = none -> H' l = some (.lst (out.map V.int)) -> out.Perm ns -> Q (.ref l) H'
def isI : Ou D -> Bool
 | .ok (.int _) => true
 | _ => false
def theI : Ou D -> Int
 | .ok (.int i) => i
 | _ => 0
def intsOf : List D -> Option (List Int)
 | [] => some []
 | .int i :: r => (intsOf r).map (i :: ·)
 | _ :: _ => none
theorem intsOf_eq : ∀ {xs : List D} {ns : List Int},intsOf xs = some ns -> xs = ns.map D.int
 | [],ns,h => by cases h; rfl
 | .int i :: r,ns,h => by
  simp only [intsOf,Option.map_eq_some_iff] at h
  obtain ⟨ms,h1,rfl⟩ := h
  rw [List.map_cons,← intsOf_eq h1]
 | .non :: _,_,h => by simp [intsOf] at h
 | .bl _ :: _,_,h => by simp [intsOf] at h
 | .str _ :: _,_,h => by simp [intsOf] at h
 | .tup _ :: _,_,h => by simp [intsOf] at h
 | .lst _ :: _,_,h => by simp [intsOf] at h
 | .frl _ :: _,_,h => by simp [intsOf] at h
 | .dic _ _ :: _,_,h => by simp [intsOf] at h
 | .obj _ :: _,_,h => by simp [intsOf] at h
 | .dip _ _ :: _,_,h => by simp [intsOf] at h
def mOrd (n iy : Nat) (fl fb : Fn) (ds : List D) : Ou (List Int) := match fl (startD n ds),ds[iy]? with
 | .ok (.lst xs),some d => (match intsOf xs with
  | some ns => if ns.length < 64 ∧ ns.all (fun i => isI (fb [.val (.int i),.val d])) = true then .ok ns else .bad
  | none => .bad)
 | _,_ => .bad
section
variable {P : Program} {w : World} {K : PySem.W.Frag} {mg : Str -> Option Value} {base : Heap} {Λ : LP}
theorem start_absL {N : List Str} {H : Hp} {ds : List D} {vs : List V} (t : Λ.T H) (r : Reps K (fun a => a ≠ Λ.P) H ds vs) (hl : ds.length ≤ N.length) : Abs (cnL K Λ H) (start N vs) (startD N.length ds) H := by
 have e : (fun a => a ≠ Λ.P ∨ H a = none) = fun a => a ≠ Λ.P := funext fun a => propext ⟨fun z => z.elim id fun z w => t.at_ (w ▸ z),.inl⟩
 have := start_abs (N := N) r hl
 unfold cnL
 rw [← e]
 exact this
theorem fn_ofL {N ps : List Str} {st : Stmt} {x : Str} {k : Nat} {F : Sm} {f : Addr} {fd : FuncData} (Fn : Fun K x x st f fd) (sc : FnScope N ps (defScope st)) (hn : ps.length ≤ N.length)
  (hbody : ∀ (f : Addr) (cdv : Value) (A : Around) (outer : List Env) (s : Shared) (H : Hp) (E : XK),Room k (A.deeper (envOfC x (defScope st) s.heap.objs.size f cdv)) ->
   PSs (cxOf CX0 P w K mg base N x (defScope st) f cdv A outer s H E).nox (defBody st) (tL K Λ H F)) : FnOk P w K mg base CX0 (k + 1) f fd ps (spL K Λ ps.length (runD false N.length F)) := by
 refine Fn.ok sc (fun vs H Q E h => ?_) (fun cdv A outer s H vs Q E hr h => ⟨_,hbody f cdv A outer s H E hr,?_⟩)
 ·obtain ⟨ds,hl,r,_⟩ := h
  rw [r.length]; exact hl
 ·obtain ⟨ds,hl,r,t,h⟩ := h
  refine ⟨H,startD N.length ds,t,SameT.refl,start_absL t r (by rw [hl]; exact hn),(Res.bind h).imp fun z _ k => ?_⟩
  cases z with
  | rt d => exact k
  | nx δ => exact fun H₀ σ' H' t' e' ab => k .non H' (t'.grow ab.same) (e'.next ab.same) (by simp [Rep])
  | bk δ => exact k.elim
  | ct δ => exact k.elim
end
structure DfL (P : Program) (w : World) (K : PySem.W.Frag) (mg : Str -> Option Value) (base : Heap) (Λ : LP) (x : Str) (k : Nat) (ps : List Str) (mm : List D -> Ou D) : Prop where
 ex : ∃ f fd,FnOk P w K mg base CX0 k f fd ps (spL K Λ ps.length mm) ∧ Binds K fd ps [] ∧ PySem.W.keepIn K (.ref f) = true ∧ mg x = some (.ref f)
structure DfO (P : Program) (w : World) (K : PySem.W.Frag) (mg : Str -> Option Value) (base : Heap) (Λ : LP) (x : Str) (k : Nat) (ps : List Str) (mo : List D -> Ou (List Int)) : Prop where
 ex : ∃ f fd,FnOk P w K mg base CX0 k f fd ps (spO K Λ ps.length mo) ∧ Binds K fd ps [] ∧ PySem.W.keepIn K (.ref f) = true ∧ mg x = some (.ref f)
section
variable {P : Program} {w : World} {K : PySem.W.Frag} {mg : Str -> Option Value} {base : Heap} {Λ : LP}
theorem DfL.mono {x : Str} {j k : Nat} {ps : List Str} {mm : List D -> Ou D} (h : DfL P w K mg base Λ x j ps mm) (hj : j ≤ k) : DfL P w K mg base Λ x k ps mm := by
 obtain ⟨f,fd,h1,h2⟩ := h.ex
 exact ⟨f,fd,h1.mono hj,h2⟩
theorem DfO.mono {x : Str} {j k : Nat} {ps : List Str} {mo : List D -> Ou (List Int)} (h : DfO P w K mg base Λ x j ps mo) (hj : j ≤ k) : DfO P w K mg base Λ x k ps mo := by
 obtain ⟨f,fd,h1,h2⟩ := h.ex
 exact ⟨f,fd,h1.mono hj,h2⟩
theorem dfL_of {N ps : List Str} {st : Stmt} {x : Str} {k : Nat} {F : Sm} (S : Src K mg x st ps) (sc : FnScope N ps (defScope st)) (hn : ps.length ≤ N.length)
  (hbody : ∀ (f : Addr) (cdv : Value) (A : Around) (outer : List Env) (s : Shared) (H : Hp) (E : XK),Room k (A.deeper (envOfC x (defScope st) s.heap.objs.size f cdv)) ->
   PSs (cxOf CX0 P w K mg base N x (defScope st) f cdv A outer s H E).nox (defBody st) (tL K Λ H F)) : DfL P w K mg base Λ x (k + 1) ps (runD false N.length F) := by
 obtain ⟨f,fd,Fn,b,hm⟩ := S.ex
 exact ⟨f,fd,fn_ofL Fn sc hn hbody,b,Fn.kp,hm⟩
theorem dfO_of {N ps : List Str} {st : Stmt} {x : Str} {k iy : Nat} {fl fb : Fn} {c0 : Addr} {e : Expr} {pos : Pos} (S : Src K mg x st ps) (sc : FnScope N ps (defScope st)) (hn : ps.length ≤ N.length) (hcd : ∀ f fd,mg x = some (.ref f) -> (∃ oc od sl,K.lookup f = some ⟨oc,od,.func fd,sl⟩) -> fd.code = .ref c0)
  (hb : defBody st = [.Return (some e) pos])
  (hbody : ∀ (f : Addr) (A : Around) (outer : List Env) (s : Shared) (H : Hp) (E : XK),Room k (A.deeper (envOfC x (defScope st) s.heap.objs.size f (.ref c0))) ->
   PE (cxOf CX0 P w K mg base N x (defScope st) f (.ref c0) A outer s H E).nox e (tO K Λ.P Λ.lp Λ.q iy fl fb)) : DfO P w K mg base Λ x (k + 1) ps (mOrd N.length iy fl fb) := by
 obtain ⟨f,fd,Fn,b,hm⟩ := S.ex
 refine ⟨f,fd,?_,b,Fn.kp,hm⟩
 have hc := hcd f fd hm
 obtain ⟨oc,od,kV,doc,pm,an,cdv,ct,osl,rfl,lk,hci⟩ := Fn.ex
 have hc2 : cdv = .ref c0 := hc ⟨_,_,_,lk⟩
 subst hc2
 refine fn_of lk hci sc (fun vs H Q E h => ?_) fun A outer s H vs Q E hr h => ?_
 ·obtain ⟨ds,ns,hl,r,_⟩ := h
  rw [r.length]; exact hl
 ·obtain ⟨ds,ns,hl,r,t,hmo,q⟩ := h
  rw [hb]
  refine ⟨_,(pss_cons (ps_ret (hbody f A outer s H E hr)) pss_nil).nox,?_⟩
  have ab := start_absL (N := N) t r (by rw [hl]; exact hn)
  unfold mOrd at hmo
  split at hmo
  ·rename_i xs d hfl hd
   split at hmo
   ·rename_i ns' hns
    split at hmo
    ·rename_i hcond
     cases hmo
     have := intsOf_eq hns
     subst this
     obtain ⟨h64,hall⟩ := hcond
     have hd' : (startD N.length ds)[iy]? = some (Sl.val d) := by
      have hi : iy < ds.length := (List.getElem?_eq_some_iff.mp hd).1
      unfold startD
      rw [List.getElem?_append_left (by rw [List.length_map]; exact hi),List.getElem?_map,hd]; rfl
     refine ⟨cnL K Λ H,startD N.length ds,d,ns,fun i => theI (fb [.val (.int i),.val d]),rfl,ab,hd',fun z => z rfl,t,hfl,h64,fun i hi => ?_,q⟩
     have := List.all_eq_true.mp hall i hi
     cases hfb : fb [.val (.int i),.val d] with
     | ok z =>
      rw [hfb] at this
      cases z <;> first | (show Ou.ok _ = Ou.ok (D.int (theI (fb [.val (.int i),.val d]))); rw [hfb]; rfl) | (simp [isI] at this; done)
     | ex z => rw [hfb] at this; simp [isI] at this
     | bad => rw [hfb] at this; simp [isI] at this
    ·cases hmo
   ·cases hmo
  ·cases hmo
end
def sSetL (i : Nat) (f : Fn) : Sm := fun δ => if noOwn δ = true then sSet i f δ else .bad
open Classical in
noncomputable def sForP (fs : List Fn) (mo : List D -> Ou (List Int)) (g : D -> DS -> Ou DS) (F : Sm) (ik : Nat) : Sm := fun δ => if noOwn δ = true then (fArgs fs δ).bind fun ds => (mo ds).bind fun ns =>
 if h : ∃ δ',∀ out : List Int,out.Perm ns -> ∃ δ1,forL g F (out.map D.int) δ = .ok (.nx δ1) ∧ δ1.set ik .un = δ' then .ok (.nx (choose h)) else .bad else .bad
theorem ints_nums : ∀ ms : List Int,intsOf (ms.map D.int) = some ms
 | [] => rfl
 | m :: ms => by rw [List.map_cons]; unfold intsOf; rw [ints_nums ms]; rfl
theorem e_ord {n iy : Nat} {fl fb : Fn} {ds : List D} {d : D} {ns : List Int} (h1 : fl (startD n ds) = .ok (.lst (ns.map D.int))) (h2 : ds[iy]? = some d) (h3 : ns.length < 64) (h4 : ns.all (fun i => isI (fb [.val (.int i),.val d])) = true) : mOrd n iy fl fb ds = .ok ns := by
 unfold mOrd
 rw [h1,h2]
 simp only [ints_nums]
 rw [if_pos ⟨h3,h4⟩]
theorem e_forP {fs : List Fn} {mo : List D -> Ou (List Int)} {g : D -> DS -> Ou DS} {F : Sm} {ik : Nat} {δ δ' : DS} {ds : List D} {ns : List Int} (h1 : noOwn δ = true) (h2 : fArgs fs δ = .ok ds) (h3 : mo ds = .ok ns)
  (h4 : ∀ out : List Int,out.Perm ns -> ∃ δ1,forL g F (out.map D.int) δ = .ok (.nx δ1) ∧ δ1.set ik .un = δ') : sForP fs mo g F ik δ = .ok (.nx δ') := by
 have hex : ∃ δ',∀ out : List Int,out.Perm ns -> ∃ δ1,forL g F (out.map D.int) δ = .ok (.nx δ1) ∧ δ1.set ik .un = δ' := ⟨δ',h4⟩
 obtain ⟨δ1,e1,e2⟩ := Classical.choose_spec hex ns (List.Perm.refl _)
 obtain ⟨δ2,e3,e4⟩ := h4 ns (List.Perm.refl _)
 rw [e1] at e3
 cases e3
 unfold sForP
 rw [if_pos h1,h2,bind_ok,h3,bind_ok,dif_pos hex,← e2,e4]
section
variable {X : Cx} {Λ : LP} {He : Hp} {x y : Str} {k : Nat} {ps : List Str} {mm : List D -> Ou D} {mo : List D -> Ou (List Int)} {e : Expr} {es : List Expr} {fs : List Fn} {p pos pos2 : Pos} {F : Sm}
theorem xl_forP (ik : Nat) {tg : Expr} {body : List Stmt} {g : D -> DS -> Ou DS} (h : DfO X.prog X.w X.K X.mg X.base Λ x k ps mo) (hr : Room k X.A) (hp : PassesOwn (model X.prog X.w) X.A X.env X.xe) (hc : X.calm = true) (ha : PA X (e :: es) (tXA X.K E0 .W fs))
  (hG : PG X tg (tG X.K E0 g)) (hb : PSs X body (tS X.K E0 false F)) (hl : fs.length = ps.length := by rfl) (hg : Gl X x := by rfl) (hdb : (x == ("__debug__" : Str)) = false := by decide)
  (he : starEach (e :: es) X.env = (false,eval e X.env) :: starEach es X.env := by rfl) (hpl : (backTo pos (starEach es X.env)).any (·.1) = false := by rfl)
  (hs : ∀ z,foldedSetIterable (.Call (.Name x p) (e :: es) [] pos) X.env z = pure z := by intro _; rfl) :
  PS X (.For tg (.Call (.Name x p) (e :: es) [] pos) body [] pos2) (tL X.K Λ He (sForP fs mo g F ik)) := by
 obtain ⟨f,fd,h1,h2,h3,h4⟩ := h.ex
 refine (ps_for hp hc (pi_list (pe_call h1 hr hg h4 h3 h2 .nil pass0 ha hdb he hpl)) hG hb hs).imp fun D σ H ⟨H₀,δ,t,e0,ab,q⟩ => ?_
 unfold sForP at q
 split at q
 ·rename_i hn
  refine ⟨cnL X.K Λ H₀,δ,rfl,ab,(Res.bind q).imp fun ds hds k vs H1 e1 r1 => ?_⟩
  have t1 : Λ.T H1 := (t.grow ab.same).grow e1
  cases hmo : mo ds with
  | ex z => rw [hmo] at k; exact (let ⟨_,_,g⟩ := (res0 (H1 := H) k); g H (Same.refl _)).elim
  | bad => rw [hmo] at k; exact k.elim
  | ok ns =>
   rw [hmo] at k
   simp only [bind_ok] at k
   split at k
   ·rename_i hex
    have hch := Classical.choose_spec hex
    refine ⟨ds,ns,by rw [fArgs_len hds]; exact hl,by rw [List.append_nil]; exact r1,t1,hmo,fun l H2 out e2 t2 nl hl2 perm => ⟨l,rfl,⟨_,.of hl2⟩,?_⟩⟩
    have ab2 := rebase (ab.grow e1) hn t1 e2 t2
    have reps : ∀ (B : Addr -> Prop) (H : Hp) (zs : List Int),Reps X.K B H (zs.map DL.D.int) (zs.map V.int) := fun B H zs => by
     induction zs with
     | nil => simp [Reps]
     | cons z zs ih => exact ⟨_,_,rfl,rfl,ih⟩
    have hlP : l ≠ Λ.P := fun z => by
     obtain ⟨ps,z1,_⟩ := t2
     rw [← z,hl2] at z1; cases z1
    have rl : Rep X.K (Av (cnL X.K Λ H2) σ δ) H2 (.lst (out.map DL.D.int)) (.ref l) := by
     simp only [Rep]
     exact ⟨l,_,rfl,⟨hlP,not_own hn⟩,hl2,reps _ _ out⟩
    obtain ⟨δ1,hf1,hf2⟩ := hch out perm
    refine rd_for (c := cnL X.K Λ H2) (ds := out.map DL.D.int) rfl ab2 rl (fun B H z => ?_) ?_ rfl
    ·simp only [Rep] at z
     obtain ⟨b,ys,ez,_,w1,w2⟩ := z
     cases ez
     exact ⟨ys,.of w1,w2⟩
    ·rw [hf1]
     intro σ' H' ab'
     refine k H2 σ' H' t2 ((e0.next (ab.same.trans e1)).trans e2) ?_
     rw [← hf2]
     exact forget ab'
   ·exact k.elim
 ·exact q.elim
end
end DL
namespace DL
open PySem PySem.Spec PyProof.Rows L2
section
theorem codeL {P : Program} {w : World} {K : PySem.W.Frag} {mg mb : Str -> Option Value} {k : Nat} {fa a c T : Addr} {fd : FuncData} {x : Str} {lp : Pos} {q : Str} {mm : List D -> Ou D} {s₁ : Shared} {vs : List Value} {ns : List Int}
  (KX : K.In s₁.heap) (hns : s₁.heap.Ns mainGlobals mg) (hb : s₁.heap.Ns builtinsNs mb) (hbb : ∀ x : Str,x ≠ "__name__" -> mb x = bootBuiltins x) (hlim : s₁.heap.NoLimit) (hg : s₁.gens = #[])
  (hbm : ∃ bm ob,mg "__builtins__" = some (.ref bm) ∧ bm ≠ builtinsNs ∧ s₁.heap.get? bm = some ob ∧ ob.cls = .type "module" ∧ ob.dict = some builtinsNs ∧ ob.data = .plain)
  (hC : PySem.W.CodeHd s₁.heap c T) (hT : s₁.heap.get? T = some (PySem.W.tabObj #[])) (hTK : K.lookup T = none)
  (ha : s₁.heap.get? a = some { cls := .type "list",data := .seq vs.toArray }) (hi : IntsAre vs ns) (hl : ns.length ≤ sizeLine) (hr : Room k callerA)
  (F : ∀ base : Heap,K.In base -> base.Ns mainGlobals mg -> LamB mg base c T -> FnOk P w K mg base CX0 k fa fd [x] (spL K ⟨T,lp,q⟩ 1 mm)) (hbind : ∀ (s : Shared) (u : Value),BindsTo s fd ⟨[u],[]⟩ [(x,u)])
  (law : mm [.frl (ns.map D.int)] = .ok (.bl true)) :
  codeAny (model P w) callerA (.call (.ref fa) ⟨[.ref a],[]⟩) (fun r s' => r = .ok (.ret (.bool true)) ∧ OldK s₁.heap s'.heap ∧ s'.os = s₁.os ∧ AllBare s'.gens) s₁ := by
 have rv := ints_vals hi
 have lenV := hi.length
 have haT : a ≠ T := fun z => by rw [z,hT] at ha; cases ha
 have core : ∀ H : Hp,H T = some (.tbl #[]) -> (∀ b,b ≠ T -> H b = none ∨ (b = a ∧ K.lookup a = none ∧ H b = some (.frz { cls := .type "list",data := .seq vs.toArray } (.lst (ns.map V.int))))) -> FrK K H a (ns.map V.int) -> HOk P w H s₁.heap ->
   codeAny (model P w) callerA (.call (.ref fa) ⟨[.ref a],[]⟩) (fun r s' => r = .ok (.ret (.bool true)) ∧ OldK s₁.heap s'.heap ∧ s'.os = s₁.os ∧ AllBare s'.gens) s₁ := by
  intro H hHT hO hS hok
  have free : ∀ {b : Addr} {o : Obj},s₁.heap.get? b = some o -> o.cls ≠ .none -> o.cls ≠ .type "list" -> H b = none := fun {b o} e h1 h2 => by
   have hbT : b ≠ T := fun z => by rw [z,hT] at e; cases e; exact h1 rfl
   rcases hO b hbT with z | ⟨z,_,_⟩
   ·exact z
   ·rw [z,ha] at e; cases e; exact (h2 rfl).elim
  have freeD : ∀ {b : Addr} {o : Obj} {es : Array DictEntry} {ep : Nat},s₁.heap.get? b = some o -> o.data = .dict es ep -> H b = none := fun {b o es ep} e d => by
   have hbT : b ≠ T := fun z => by rw [z,hT] at e; cases e; cases d
   rcases hO b hbT with z | ⟨z,_,_⟩
   ·exact z
   ·rw [z,ha] at e; cases e; cases d
  have up : ∀ {b : Addr} {o : Obj},s₁.heap.get? b = some o -> H b = none -> (hidT s₁.heap H).get? b = some o := fun e n => hidT_get e n
  have nsK : ∀ {b : Addr} {m : Str -> Option Value},s₁.heap.Ns b m -> (hidT s₁.heap H).Ns b m := fun {b m} ⟨o,es,ep,e,d,r⟩ => ⟨o,es,ep,up e (freeD e d),d,r⟩
  have hKb : K.In (hidT s₁.heap H) := fun b o e => up (KX b o e) (by
   have hbT : b ≠ T := fun z => by rw [z,hTK] at e; cases e
   rcases hO b hbT with z | ⟨z,h1,_⟩
   ·exact z
   ·rw [z,h1] at e; cases e)
  have hM : Mod K mg (hidT s₁.heap H) := ⟨hKb,nsK hns,⟨mb,nsK hb,hbb⟩,let ⟨mc,h1,h2⟩ := hlim; ⟨mc,nsK h1,h2⟩⟩
  have hLB : LamB mg (hidT s₁.heap H) c T := by
   refine ⟨?_,?_,fun z => ?_⟩
   ·obtain ⟨o,ws,file,tf,flags,tg,inF,text,tt,e1,e2,r⟩ := hC
    exact ⟨o,ws,file,tf,flags,tg,inF,text,tt,up e1 (free e1 (by rw [e2]; nofun) (by rw [e2]; simp)),e2,r⟩
   ·obtain ⟨bm,ob,b1,b2,b3,b4,b5,b6⟩ := hbm
    refine ⟨bm,ob,b1,b2,fun z => ?_,fun z => ?_,up b3 (free b3 (by rw [b4]; nofun) (by rw [b4]; simp)),b4,b5,b6⟩
    ·obtain ⟨o,es,ep,e,hd,_⟩ := hns
     rw [z,e] at b3; cases b3; rw [hd] at b6; cases b6
    ·rw [z,hT] at b3; cases b3; cases b4
   ·obtain ⟨o,es,ep,e,hd,_⟩ := hns
    rw [z,hT] at e; cases e; cases hd
  have e0 : Env0 P w K mg (hidT s₁.heap H) callerA [] s₁ H := ⟨rfl,hM,fun b o e => of_hidT e,Nat.le_of_eq (hidT_size _ _),trivial,fun b z => (nomatch z),hok,.of_eq hg⟩
  have tab : LP.T ⟨T,lp,q⟩ H := ⟨#[],hHT,trivial,.inl rfl⟩
  refine codeAny_mono ((F _ hKb (nsK hns) hLB).run callerA [] s₁ H ⟨[.ref a],[]⟩ [.ref a] [.ref a] (fun v _ => v = .bl true) E0 hr e0 (hbind s₁ (.ref a)) (.cons rfl .nil) ⟨[.frl (ns.map D.int)],rfl,?_,tab,?_⟩) fun r s' h => ?_
  ·simp only [Reps]
   refine ⟨.ref a,[],rfl,?_,rfl⟩
   simp only [Rep]
   exact ⟨a,_,rfl,hS,Reps.ints ns⟩
  ·rw [law]
   intro v H' _ _ r
   simpa only [Rep] using r
  ·cases r with
   | error e => exact False.elim h
   | ok fl =>
    cases fl with
    | next => exact False.elim h
    | brk => exact False.elim h
    | cont => exact False.elim h
    | ret u =>
     obtain ⟨v,H',os,bare,un,hok',r',rfl⟩ := h
     obtain rfl : u = Value.bool true := r'
     have kp : ∀ b o,b ≠ T -> s₁.heap.get? b = some o -> s'.heap.get? b = some o := fun b o hbT e => by
      rcases hO b hbT with z | ⟨z,_,z2⟩
      ·exact un.keep b o e z (fun w => nomatch w) (fun w => nomatch w)
      ·obtain ⟨e2,_⟩ := hok' b _ (un.frzs b _ _ z2)
       obtain ⟨e1,_⟩ := hok b _ z2
       rw [e] at e1; cases e1
       exact e2
     obtain ⟨more,hm⟩ := un.tbls T #[] hHT
     have hT' : s'.heap.get? T = some (PySem.W.tabObj (#[] ++ more)) := hok' T _ hm
     refine ⟨rfl,⟨fun b o e => ?_,fun b o e => ?_⟩,os,bare⟩
     ·by_cases hbT : b = T
      ·subst hbT
       rw [hT] at e; cases e
       exact .inr (.inl ⟨(hC.tab hT).isCodeTable,rfl,#[],more,rfl,hT'⟩)
      ·exact .inl (kp b o hbT e)
     ·by_cases hbT : b = T
      ·exact ⟨_,by rw [hbT]; exact hT'⟩
      ·exact ⟨o,kp b o hbT e⟩
 have okT : ∀ {H : Hp} {u : HO},some (HO.tbl #[]) = some u -> ObjOk P w H s₁.heap T u := fun {H u} z => by cases z; exact hT
 cases hk : K.lookup a with
 | some o =>
  have e := KX a o hk
  rw [ha] at e; cases e
  refine core (fun b => if b = T then some (.tbl #[]) else none) (if_pos rfl) (fun b hbT => .inl (if_neg hbT)) (.inr ⟨_,vs.toArray,_,hk,rfl,rfl,rfl,by rw [List.size_toArray,lenV]; exact hl,by simpa using rv⟩) fun b u z => ?_
  by_cases hbT : b = T
  ·subst hbT
   exact okT ((if_pos rfl).symm.trans z)
  ·have z' := (if_neg hbT).symm.trans z
   cases z'
 | none =>
  refine core (fun b => if b = T then some (.tbl #[]) else if b = a then some (.frz { cls := .type "list",data := .seq vs.toArray } (.lst (ns.map V.int))) else none) (if_pos rfl) (fun b hbT => ?_) (.inl ⟨{ cls := .type "list",data := .seq vs.toArray },(if_neg haT).trans (if_pos rfl)⟩) fun b u z => ?_
  ·by_cases hb : b = a
   ·exact .inr ⟨hb,hk,(if_neg hbT).trans (if_pos hb)⟩
   ·exact .inl ((if_neg hbT).trans (if_neg hb))
  ·by_cases hbT : b = T
   ·subst hbT
    exact okT ((if_pos rfl).symm.trans z)
   ·by_cases hb : b = a
    ·have z' := (if_pos hb).symm.trans ((if_neg hbT).symm.trans z)
     cases z'
     subst hb
     exact ⟨ha,by rw [List.length_map]; exact hl,vs,_,rv,ha⟩
    ·have z' := (if_neg hb).symm.trans ((if_neg hbT).symm.trans z)
     cases z'
theorem walkL {l : PySem.W.OpenLaw} {n k : Nat} {qq : Program} {loose : List Str} {XP : (Str -> Option Value) -> Heap -> Prop} {YP : World -> Heap -> Prop} {d : DefRec} {K : Params -> PySem.W.Frag} {x : Str} {lp : Pos} {q : Str} {mm : List D -> Ou D} {c T : Addr}
  (hn : l.most = some n) (hn2 : n ≤ sizeLine) (hdf : d.params.defaults = []) (hr : Room k callerA) (hY : ∀ (w : World) (h : Heap),YP w h -> (K w.params).In h)
  (hTb : ∀ (w : World) (h : Heap),YP w h -> h.get? T = some (PySem.W.tabObj #[])) (hCd : ∀ w : World,PySem.W.codeHdIn (K w.params) c T = true) (hTK : ∀ w : World,(K w.params).lookup T = none)
  (law : ∀ ns : List Int,ns.length ≤ n -> mm [.frl (ns.map D.int)] = .ok (.bl true))
  (F : ∀ (w : World) (mg : Str -> Option Value) (fa : Addr) (h : Heap),(K w.params).In h -> h.Ns mainGlobals mg -> mg d.name = some (.ref fa) ->
   ∃ fd : FuncData,(∀ (s : Shared) (u : Value),BindsTo s fd ⟨[u],[]⟩ [(x,u)]) ∧ ∀ base : Heap,(K w.params).In base -> base.Ns mainGlobals mg -> LamB mg base c T -> FnOk l.prog w (K w.params) mg base CX0 k fa fd [x] (spL (K w.params) ⟨T,lp,q⟩ 1 mm)) :
  PySem.W.WalkO qq loose XP YP l.row.toRowW d [] (fun f vs => PySem.call f vs) := by
 refine Att.attach_call hn hdf fun w s₀ s₁ mg mb fa o pm cd doc a vs ns G Y ho hd hcd hmg hobj hints hlen hg => ?_
 have KX := hY w _ Y
 obtain ⟨fd,hb,hF⟩ := F w mg fa _ KX G.T.g hmg
 exact codeL KX G.T.g G.T.b G.T.builtins G.T.nolimit hg G.T.bmain (PySem.W.codeHd_of_K KX (hCd w)) (hTb w _ Y) (hTK w) hobj hints (Nat.le_trans hlen hn2) hr hF hb (law ns hlen)
theorem tab_code {K : PySem.W.Frag} {h : Heap} {mg : Str -> Option Value} {x : Str} {c T : Addr} (ht : PySem.W.tabIn K x = some (c,T)) (X : K.In h) (G : h.Ns mainGlobals mg) :
  ∀ f fd,mg x = some (.ref f) -> (∃ oc od sl,K.lookup f = some ⟨oc,od,.func fd,sl⟩) -> fd.code = .ref c := fun f fd hm ⟨_,_,_,lk⟩ => PySem.W.law_code X G ht hm (X _ _ lk) rfl
end
end DL
namespace DL
open PySem PySem.Spec PyProof.Rows L2
section
variable {X : Cx}
def pairI : D -> Option (Int × Int)
 | .tup [.int a,.int b] => some (a,b)
 | _ => none
def gLtP (x y : D) : Ou D := match pairI x,pairI y with
 | some p,some q => .ok (.bl (Tim.plt p q))
 | _,_ => .bad
def rLtP (K : PySem.W.Frag) : R2 := fun x y H Q => ∃ p q,PrV K H x p ∧ PrV K H y q ∧ Q (.bl (Tim.plt p q)) H
end
@[simp] theorem e_ltP {a b c d : Int} : gLtP (.tup [.int a,.int b]) (.tup [.int c,.int d]) = .ok (.bl (Tim.plt (a,b) (c,d))) := rfl
end DL
namespace DL
open PySem PySem.Spec PyProof.Rows L2
section
variable {X : Cx} {elt tg : Expr} {ifs : List Expr} {scope : Scope} {N' : List Str} {k : Nat} {ix : List Nat} {pos : Pos} {g : D -> DS -> Ou DS} {gc : DS -> Ou Bool} {fe fl fl2 fl3 : Fn} {a b c : Expr} {p : Pos}
def rOkD (a : Int) : Bool := decide (-1000000000 ≤ a ∧ a ≤ 1000000000)
def downN (a b : Int) : Nat := (a - b).toNat
theorem size_down {a b : Int} : Builtin.Range.rangeSize a b (-1) = (downN a b : Int) := by
 unfold Builtin.Range.rangeSize downN
 rw [if_neg (by decide)]
 by_cases h : b < a
 ·rw [if_pos (by lia)]
  have : (a - b - 1) / (-(-1)) = a - b - 1 := by simp
  lia
 ·rw [if_neg (by lia)]; lia
theorem small_down {a b : Int} (h : rOkD a = true ∧ rOkD b = true) : Builtin.Range.small a b (-1) = true := by
 have h1 := of_decide_eq_true h.1
 have h2 := of_decide_eq_true h.2
 unfold Builtin.Range.small
 have hs : Builtin.Range.rangeSize a b (-1) ≤ 4000000000000 ∧ 0 ≤ Builtin.Range.rangeSize a b (-1) := by
  rw [size_down]; unfold downN; lia
 generalize hS : Builtin.Range.rangeSize a b (-1) = S at hs ⊢
 rw [if_neg (by decide)]
 simp only [Builtin.Range.rangeFitsLong,Bool.and_eq_true,Bool.or_eq_true,decide_eq_true_eq,beq_iff_eq]
 lia
def iRngD (ta : TA) : TI := fun σ H R => ta σ H fun vs H1 => ∃ i j : Int,vs = [.int i,.int j,.int (-1)] ∧ (rOkD i = true ∧ rOkD j = true) ∧ R (Its i (-1) (downN i j)) H1
theorem pi_rangeD {tg : Expr} {pos : Pos} {ta : TA} (hg : Gl X "range") (hm : X.mg "range" = none) (ha : PA X [a,b,c] ta) (hs : starEach [a,b,c] X.env = (false,eval a X.env) :: starEach [b,c] X.env := by rfl) (hpl : (backTo pos (starEach [b,c] X.env)).any (·.1) = false := by rfl) :
  PI X tg (.Call (.Name "range" p) [a,b,c] [] pos) (iRngD ta) := by
 intro pins s σ H R I h
 refine Call_ (ld_blt I hg hm boot_range (PyProof.Rows.callWith_type1 (thn (ha pos pins s σ H _ I h) fun us s1 ⟨vs,H1,I1,r1,q1⟩ => ?_) hs hpl))
 obtain ⟨i,j,e,hk,q⟩ := q1
 subst e
 have h1 := of_decide_eq_true hk.1
 have h2 := of_decide_eq_true hk.2
 cases r1 with
 | cons r rr =>
  cases rr with
  | cons r' rr =>
   cases rr with
   | cons r'' rr =>
    cases rr
    obtain ⟨t,rfl⟩ := r
    obtain ⟨t',rfl⟩ := r'
    obtain ⟨t'',rfl⟩ := r''
    refine call_range_3 (by decide) ?_ (.inl (PyProof.noPylong_small (by lia)))
    refine wpAny_pyIter_range (IsRange.new ..) (small_down hk) ?_
    have I2 : Inv X pins σ H1 { s1 with heap := s1.heap.push { cls := .type "range",data := .fields #[.int i t,.int j t',.int (-1) t''] },toks := s1.toks } := I1.kept fun b o e => Heap.get?_push_of_some _ e
    refine ⟨(s1.heap.push { cls := .type "range",data := .fields #[.int i t,.int j t',.int (-1) t''] }).objs.size,[(s1.heap.push { cls := .type "range",data := .fields #[.int i t,.int j t',.int (-1) t''] }).objs.size],_,_,H1,rfl,
     I2.kept (t' := s1.toks) fun b o e => Heap.get?_push_of_some _ e,turn_step _ i (-1) (downN i j),?_,fun b hb => ?_,q⟩
    ·have e1 : i + ((0 : Nat) : Int) * (-1) = i := by simp
     have e2 : ((downN i j : Nat) : Int) - ((0 : Nat) : Int) = Builtin.Range.rangeSize i j (-1) := by rw [size_down]; simp
     show IsRangeIter _ _ (i + ((0 : Nat) : Int) * (-1)) (((downN i j : Nat) : Int) - ((0 : Nat) : Int)) (-1)
     rw [e1,e2]
     exact Heap.get?_push_size _ rfl
    ·have e : b = (s1.heap.push { cls := .type "range",data := .fields #[.int i t,.int j t',.int (-1) t''] }).objs.size := by simpa using hb
     subst e
     exact I2.fpOk (Nat.le_refl _) (I2.hok.fresh (Nat.le_refl _))
theorem srcDn {K : PySem.W.Frag} {B : Addr -> Prop} {H1 : Hp} {lo st : Int} {n : Nat} : SrcI (Its lo st n) K B H1 (rngS lo st n) :=
 ⟨fun i H' _ hi => by rw [rngS_len] at hi; exact hi,fun i H' x H'' d _ hd y => by
  obtain ⟨h1,rfl⟩ := rngS_get hd
  exact ⟨y.1,by rw [y.2]; simp [Rep]⟩,fun H' _ => by
  show n ≤ _
  rw [rngS_len]; exact Nat.le_refl _⟩
def fRangeD (fs : List Fn) : DS -> Ou (List D) := fun δ => (fArgs fs δ).bind fun ds => match ds with
 | [.int i,.int j,.int (-1)] => if rOkD i = true ∧ rOkD j = true then .ok (rngS i (-1) (downN i j)) else .bad
 | _ => .bad
theorem xcompRD (S : CNames X scope N' k ix) (hm : X.mg "range" = none) (ha : PA X [a,b,c] (tXA X.K E0 .W [fl,fl2,fl3]))
  (hb : ∀ C s2 H2 fp pins,PG (blk X N' scope C s2 H2 fp pins) tg (tG X.K E0 g) ∧ PCs (blk X N' scope C s2 H2 fp pins) ifs (tT X.K E0 gc) ∧ PE (blk X N' scope C s2 H2 fp pins) elt (tX X.K E0 .S fe))
  {rp : Pos} (hc : X.calm = true := by rfl) (hgl : Gl X "range" := by rfl) (hse : starEach [a,b,c] X.env = (false,eval a X.env) :: starEach [b,c] X.env := by rfl) (hpl : (backTo rp (starEach [b,c] X.env)).any (·.1) = false := by rfl) (hs : ∀ x,foldedSetIterable (.Call (.Name "range" p) [a,b,c] [] rp) X.env x = pure x := by intro _; rfl) :
  CompR X (.ListComp elt [⟨tg,.Call (.Name "range" p) [a,b,c] [] rp,ifs,0⟩] scope pos) (tX X.K E0 .F (fComp (fRangeD [fl,fl2,fl3]) g gc fe k ix)) :=
 (comp_r hc S (pi_rangeD hgl hm ha hse hpl) hb hs).imp fun σ H Q q => comp_read q fun c δ R hK ab kq => by
  refine ⟨c,δ,hK,ab,(Res.bind kq).imp fun ds hds z vs H1 e1 r1 => ?_⟩
  have hl : ds.length = 3 := fArgs_len hds
  obtain ⟨d,d',d'',rfl⟩ : ∃ d d' d'',ds = [d,d',d''] := by
   match ds,hl with
   | [d,d',d''],_ => exact ⟨d,d',d'',rfl⟩
  obtain ⟨v,v',v'',rfl,r2,r3,r4⟩ := Reps.three' r1
  cases d <;> first | exact z.elim | skip
  cases d' <;> first | exact z.elim | skip
  cases d'' <;> first | exact z.elim | skip
  simp only [Rep] at r2 r3 r4
  subst r2; subst r3; subst r4
  rename_i i j l
  by_cases h1 : l = -1
  ·subst h1
   by_cases hj : rOkD i = true ∧ rOkD j = true
   ·simp only [if_pos hj] at z
    exact ⟨i,j,rfl,hj,z _ H1 e1 srcDn⟩
   ·simp only [if_neg hj] at z
    exact z.elim
  ·exfalso
   split at z
   ·rename_i h
    simp only [List.cons.injEq,D.int.injEq] at h
    exact h1 h.2.2.1
   ·exact z
end
end DL
namespace DL
open PySem PySem.Spec PyProof.Rows L2
structure Sr0 (K : PySem.W.Frag) (mg : Str -> Option Value) (x : Str) (st : Stmt) : Prop where
 ex : ∃ f fd,Fun K x x st f fd ∧ mg x = some (.ref f)
structure Ms0 (K : PySem.W.Frag) (C : Addr) (x qual : Str) (st : Stmt) : Prop where
 ex : ∃ f fd,Fun K x qual st f fd ∧ Meth K C x f
structure Ck (K : PySem.W.Frag) (C : Addr) (x : Str) : Prop where
 cl : Cls K C
 ns : PySem.W.nsIn K mainGlobals x = some (some (.ref C))
abbrev Bnd (x qual : Str) (st : Stmt) (ps : List Str) : Prop := ∀ (kV doc pm : Value) (an : Option Addr) (cdv ct : Value) (us : List Value),us.length = ps.length -> bindArgs (PySem.W.fnOf x qual (defArgs st) (defBody st) (defScope st) .none kV doc pm an cdv ct) ⟨us,[]⟩ = pure (ps.zip us)
section
variable {P : Program} {w : World} {K : PySem.W.Frag} {mg : Str -> Option Value} {base h : Heap} {x qual c : Str} {st : Stmt} {f C : Addr} {od an : Option Addr} {sl : Array (Option Value)} {oc kV dc pm cd ct : Value}
theorem sr0_mk (X : K.In h) (G : h.Ns mainGlobals mg) (a : PySem.W.nsIn K mainGlobals x = some (some (.ref f))) (l : K.lookup f = some ⟨oc,od,.func (PySem.W.fnOf x x (defArgs st) (defBody st) (defScope st) .none kV dc pm an cd ct),sl⟩)
  (c : PySem.W.codeIn K cd x = true) (k : PySem.W.keepIn K (.ref f) = true) : Sr0 K mg x st := ⟨f,_,fun_mk l c k,PySem.W.mg_of X G a⟩
theorem ms0_mk (a : PySem.W.findIn K (.ref C) x = some (some (.ref f))) (l : K.lookup f = some ⟨oc,od,.func (PySem.W.fnOf x qual (defArgs st) (defBody st) (defScope st) .none kV dc pm an cd ct),sl⟩)
  (c : PySem.W.codeIn K cd qual = true) (k : PySem.W.keepIn K (.ref f) = true) (i : PySem.W.isFn K (.ref f) = true) : Ms0 K C x qual st := ⟨f,_,fun_mk l c k,⟨a,i,k⟩⟩
theorem ck_mk (a : PySem.W.nsIn K mainGlobals x = some (some (.ref C))) (l : PySem.W.plainGet K C Str.empty = true) (c : PySem.W.hasDictIn K C = true) (k : PySem.W.plainOver K C = true) (i : PySem.W.findIn K (.ref C) "__setattr__" = some (some (.builtin "object.__setattr__"))) : Ck K C x := ⟨⟨l,c,k,i⟩,a⟩
theorem mk0_mk (X : K.In h) (G : h.Ns mainGlobals mg) (a : PySem.W.nsIn K mainGlobals x = some (some (.ref C))) (l : PySem.W.makesIn K C = true) (c : PySem.W.findIn K (.ref C) "__init__" = some (some (.builtin "object.__init__"))) (k : PySem.W.keepIn K (.ref C) = true) :
  Mk0 K C ∧ PySem.W.nsIn K mainGlobals x = some (some (.ref C)) ∧ mg x = some (.ref C) := ⟨⟨l,c,k⟩,a,PySem.W.mg_of X G a⟩
theorem cst_mk {u : Value} {d : V} (X : K.In h) (G : h.Ns mainGlobals mg) (a : PySem.W.nsIn K mainGlobals x = some (some u)) (r : L2.RelV d u) : mg x = some u ∧ L2.RelV d u := ⟨PySem.W.mg_of X G a,r⟩
theorem Sr0.src {ps : List Str} (S : Sr0 K mg x st) (hb : Bnd x x st ps := by intro _ _ _ _ _ _; first | exact len1 fun _ => rfl | exact len2 fun _ _ => rfl | exact len3 fun _ _ _ => rfl | exact len4 fun _ _ _ _ => rfl | exact len5 fun _ _ _ _ _ => rfl | exact len0 rfl) : Src K mg x st ps := by
 obtain ⟨f,fd,h1,h2⟩ := S.ex
 exact ⟨f,fd,h1,h1.binds hb,h2⟩
variable {N ps : List Str} {k : Nat} {fr : Bool} {F : Sm} {fd : FuncData} {mm : List D -> Ou D}
theorem df_mk (S : Sr0 K mg x st)
  (hbody : ∀ {f : Addr} {cdv : Value} {A : Around} {outer : List Env} {s : Shared} {H : Hp} {E : XK},N.Nodup -> Room k (A.deeper (envOfC x (defScope st) s.heap.objs.size f cdv)) ->
   PSs (cxOf CX0 P w K mg base N x (defScope st) f cdv A outer s H E).nox (defBody st) (tS K E0 fr F)) (sc : FnScope N ps (defScope st) := by exact ⟨rfl,rfl,rfl,by decide +kernel,rfl,by decide +kernel,by decide +kernel⟩) (hn : ps.length ≤ N.length := by decide)
  (hb : Bnd x x st ps := by intro _ _ _ _ _ _; first | exact len1 fun _ => rfl | exact len2 fun _ _ => rfl | exact len3 fun _ _ _ => rfl | exact len4 fun _ _ _ _ => rfl | exact len5 fun _ _ _ _ _ => rfl | exact len0 rfl) : Df P w K mg base x (k + 1) ps fr (runD fr N.length F) := df_of (S.src hb) sc hn fun _ _ _ _ _ _ _ => hbody sc.nd
theorem fn_mk (S : Fun K x qual st f fd)
  (hbody : ∀ {f : Addr} {cdv : Value} {A : Around} {outer : List Env} {s : Shared} {H : Hp} {E : XK},N.Nodup -> Room k (A.deeper (envOfC qual (defScope st) s.heap.objs.size f cdv)) ->
   PSs (cxOf CX0 P w K mg base N qual (defScope st) f cdv A outer s H E).nox (defBody st) (tS K E0 fr F)) (sc : FnScope N ps (defScope st) := by exact ⟨rfl,rfl,rfl,by decide +kernel,rfl,by decide +kernel,by decide +kernel⟩) (hn : ps.length ≤ N.length := by decide) :
  FnOk P w K mg base CX0 (k + 1) f fd ps (spD K fr ps.length (runD fr N.length F)) := fn_ofM S sc hn fun _ _ _ _ _ _ _ => hbody sc.nd
theorem mdf_fn (q : Ck K C c) (S : Ms0 K C x qual st) (h : ∀ {f : Addr} {fd : FuncData},Fun K x qual st f fd -> FnOk P w K mg base CX0 k f fd ps (spD K fr ps.length mm))
  (hb : Bnd x qual st ps := by intro _ _ _ _ _ _; first | exact len1 fun _ => rfl | exact len2 fun _ _ => rfl | exact len3 fun _ _ _ => rfl | exact len4 fun _ _ _ _ => rfl | exact len5 fun _ _ _ _ _ => rfl) : MDf P w K mg base c x k ps fr mm := by
 obtain ⟨f,fd,h1,h2⟩ := S.ex
 exact ⟨C,f,fd,q.cl,q.ns,h2,h h1,h1.binds hb⟩
theorem mdf_mk (q : Ck K C c) (S : Ms0 K C x qual st)
  (hbody : ∀ {f : Addr} {cdv : Value} {A : Around} {outer : List Env} {s : Shared} {H : Hp} {E : XK},N.Nodup -> Room k (A.deeper (envOfC qual (defScope st) s.heap.objs.size f cdv)) ->
   PSs (cxOf CX0 P w K mg base N qual (defScope st) f cdv A outer s H E).nox (defBody st) (tS K E0 fr F)) (sc : FnScope N ps (defScope st) := by exact ⟨rfl,rfl,rfl,by decide +kernel,rfl,by decide +kernel,by decide +kernel⟩) (hn : ps.length ≤ N.length := by decide)
  (hb : Bnd x qual st ps := by intro _ _ _ _ _ _; first | exact len1 fun _ => rfl | exact len2 fun _ _ => rfl | exact len3 fun _ _ _ => rfl | exact len4 fun _ _ _ _ => rfl | exact len5 fun _ _ _ _ _ => rfl) : MDf P w K mg base c x (k + 1) ps fr (runD fr N.length F) := mdf_fn q S (fun h1 => fn_mk h1 hbody sc hn) hb
end
section
variable {X : Cx} {m : Md} {e : Expr} {es : List Expr} {fs : List Fn} {p pos : Pos} {x : Str} {ps : List Str} {j k : Nat} {mm : List D -> Ou D}
theorem xcl (h : Df X.prog X.w X.K X.mg X.base x j ps false mm) (hr : Room k X.A) (ha : PA X (e :: es) (tXA X.K E0 m fs)) (hj : j ≤ k := by omega) (hl : fs.length = ps.length := by rfl) (hg : Gl X x := by rfl) (hdb : (x == ("__debug__" : Str)) = false := by decide)
  (he : starEach (e :: es) X.env = (false,eval e X.env) :: starEach es X.env := by rfl) (hpl : (backTo pos (starEach es X.env)).any (·.1) = false := by rfl) (hm : notF m = true := by rfl) : PE X (.Call (.Name x p) (e :: es) [] pos) (tX X.K E0 m (fCall mm fs)) := xcall (h.mono hj) hr ha hl hg hdb he hpl hm
end
end DL
namespace DL
open PySem PySem.Spec PyProof.Rows L2
def lolD (nss : List (List Int)) : D := .lst (nss.map fun ns => .lst (ns.map D.int))
inductive NF where
 | nx (nss : List (List Int)) (δ : DS) | rt (d : D)
abbrev Nm := List (List Int) -> DS -> Ou NF
def Inn (H : Hp) : List Addr -> List (List Int) -> Prop
 | [],nss => nss = []
 | p :: ps,nss => ∃ ns r,nss = ns :: r ∧ H p = some (.lst (ns.map V.int)) ∧ Inn H ps r
theorem Inn.same {H H' : Hp} (e : Same H H') : ∀ {ps : List Addr} {nss : List (List Int)},Inn H ps nss -> Inn H' ps nss
 | [],_,h => h
 | p :: ps,_,⟨ns,r,h1,h2,h3⟩ => ⟨ns,r,h1,e _ _ h2,Inn.same e h3⟩
theorem Inn.len {H : Hp} : ∀ {ps : List Addr} {nss : List (List Int)},Inn H ps nss -> nss.length = ps.length
 | [],_,h => by rw [show _ = [] from h]; rfl
 | p :: ps,_,⟨ns,r,h1,h2,h3⟩ => by rw [h1,List.length_cons,List.length_cons,Inn.len h3]
theorem Inn.app {H : Hp} : ∀ {ps qs : List Addr} {nss mss : List (List Int)},Inn H ps nss -> Inn H qs mss -> Inn H (ps ++ qs) (nss ++ mss)
 | [],_,_,_,h,h' => by rw [show _ = [] from h]; exact h'
 | p :: ps,_,_,_,⟨ns,r,h1,h2,h3⟩,h' => ⟨ns,r ++ _,by rw [h1]; rfl,h2,Inn.app h3 h'⟩
theorem Inn.get {H : Hp} : ∀ {ps : List Addr} {nss : List (List Int)},Inn H ps nss -> ∀ (n : Nat) (ns : List Int),nss[n]? = some ns -> ∃ p,ps[n]? = some p ∧ H p = some (.lst (ns.map V.int))
 | [],_,h => fun n ns e => by rw [show _ = [] from h] at e; simp at e
 | p :: ps,_,⟨ms,r,h1,h2,h3⟩ => fun n ns e => by
  subst h1
  cases n with
  | zero => simp at e; subst e; exact ⟨p,rfl,h2⟩
  | succ n => simpa using Inn.get h3 n ns (by simpa using e)
theorem Inn.off {H : Hp} {q : Addr} {o : HO} : ∀ {ps : List Addr} {nss : List (List Int)},Inn H ps nss -> q ∉ ps -> Inn (upd H q o) ps nss
 | [],_,h,_ => h
 | p :: ps,_,⟨ms,r,h1,h2,h3⟩,hq => ⟨ms,r,h1,by rw [upd_ne (fun z => hq (by rw [← z]; exact List.mem_cons_self))]; exact h2,Inn.off h3 fun z => hq (List.mem_cons_of_mem _ z)⟩
theorem Inn.set {H : Hp} {q : Addr} {ms : List Int} : ∀ {ps : List Addr} {nss : List (List Int)} {n : Nat},Inn H ps nss -> ps.Nodup -> ps[n]? = some q -> Inn (upd H q (.lst (ms.map V.int))) ps (nss.set n ms)
 | [],_,_,_,_,e => by simp at e
 | p :: ps,_,n,⟨ns,r,h1,h2,h3⟩,hd,e => by
  subst h1
  obtain ⟨hd1,hd2⟩ := List.nodup_cons.mp hd
  cases n with
  | zero => simp at e; subst e; exact ⟨ms,r,rfl,upd_same,Inn.off h3 hd1⟩
  | succ n =>
   have e' : ps[n]? = some q := by simpa using e
   have hm : q ∈ ps := List.mem_of_getElem? e'
   exact ⟨ns,r.set n ms,rfl,by rw [upd_ne (fun z => hd1 (by rw [z]; exact hm))]; exact h2,Inn.set h3 hd2 e'⟩
abbrev cnN (K : PySem.W.Frag) (q : Addr) (ps : List Addr) (H : Hp) : Cn := { K := K,B := fun a => a ≠ q ∧ a ∉ ps,H₀ := H,G := [] }
structure AbsN (K : PySem.W.Frag) (i : Nat) (He : Hp) (nss : List (List Int)) (σ : St) (δ : DS) (H : Hp) (q : Addr) (ps : List Addr) : Prop where
 same : Same He H
 newq : He q = none
 newp : ∀ p ∈ ps,He p = none
 out : q ∉ ps
 nd : ps.Nodup
 at_ : σ[i]? = some (some (.ref q))
 top : H q = some (.lst (ps.map V.ref))
 inn : Inn H ps nss
 no : noOwn δ = true
 un : δ[i]? = some .un
 ab : Abs (cnN K q ps H) σ δ H
def EndN (K : PySem.W.Frag) (i : Nat) (He : Hp) (D : Ends) : NF -> Prop
 | .nx nss δ => ∀ σ' H' q ps,AbsN K i He nss σ' δ H' q ps -> D.nx σ' H'
 | .rt d => ∀ H',Same He H' -> D.rt (toV d) H'
def tN (K : PySem.W.Frag) (i : Nat) (He : Hp) (F : Nm) : TS := fun D σ H => ∃ nss δ q ps,AbsN K i He nss σ δ H q ps ∧ Res K E0 H (F nss δ) (EndN K i He D)
section
variable {K : PySem.W.Frag} {i : Nat} {He H H' : Hp} {nss : List (List Int)} {σ : St} {δ : DS} {q : Addr} {ps : List Addr}
theorem Abs.fresh {c : Cn} (ab : Abs c σ δ H) (hn : noOwn δ = true) {B : Addr -> Prop} (hB : ∀ a o,c.B a -> H a = some o -> B a) (fr : ∀ a,H a = none -> B a) : Abs { K := c.K,B := B,H₀ := H,G := [] } σ δ H where
 same := Same.refl _
 fr := fr
 len := ab.len
 val := fun i d h => by
  obtain ⟨v,h1,h2⟩ := ab.val i d h
  exact ⟨v,h1,Rep.mono (fun a o w z => ⟨hB a o w.1 z,not_own hn⟩) (.of_same (Same.refl _)) d v h2⟩
 own := fun i d h => (no_own hn h).elim
 gho := fun d v h => by cases h
 inj := fun i j di dj p h => (no_own hn h).elim
 pin := fun i p hP => (nomatch hP)
theorem AbsN.grow (a : AbsN K i He nss σ δ H q ps) (e : Same H H') : AbsN K i He nss σ δ H' q ps where
 same := a.same.trans e
 newq := a.newq
 newp := a.newp
 out := a.out
 nd := a.nd
 at_ := a.at_
 top := e _ _ a.top
 inn := a.inn.same e
 no := a.no
 un := a.un
 ab := Abs.fresh (a.ab.grow e) a.no (fun _ _ z _ => z) fun b hb => ⟨fun z => (by
  have := e _ _ a.top; rw [← z,hb] at this; cases this),fun z => (a.ab.fr b (e.free hb)).2 z⟩
theorem inn_reps (K : PySem.W.Frag) : ∀ {ps : List Addr} {nss : List (List Int)},Inn H ps nss -> Reps K (fun _ => True) H (nss.map fun ns => D.lst (ns.map D.int)) (ps.map V.ref)
 | [],_,h => by rw [show _ = [] from h]; simp [Reps]
 | p :: ps,_,⟨ns,r,h1,h2,h3⟩ => by
  subst h1
  rw [List.map_cons,List.map_cons]
  exact ⟨_,_,rfl,by simp only [Rep]; exact ⟨p,_,rfl,trivial,h2,Reps.ints ns⟩,inn_reps K h3⟩
theorem noOwn_set {j : Nat} {d : D} (h : noOwn δ = true) : noOwn (δ.set j (.val d)) = true := by
 unfold noOwn at h ⊢
 rw [List.all_eq_true] at h ⊢
 intro s hs
 rcases List.mem_or_eq_of_mem_set hs with hs | rfl
 ·exact h s hs
 ·rfl
theorem AbsN.full (a : AbsN K i He nss σ δ H q ps) : Abs { K := K,B := fun _ => True,H₀ := H,G := [] } σ (δ.set i (.val (lolD nss))) H := by
 have h1 := Abs.fresh (B := fun _ => True) a.ab a.no (fun _ _ _ _ => trivial) fun _ _ => trivial
 have r : Rep K (Av { K := K,B := fun _ => True,H₀ := H,G := [] } σ δ) H (lolD nss) (.ref q) := by
  have z : Rep K (fun _ => True) H (lolD nss) (.ref q) := by
   simp only [lolD,Rep]; exact ⟨q,_,rfl,trivial,a.top,inn_reps K a.inn⟩
  exact z.weak fun _ _ => ⟨trivial,not_own a.no⟩
 have h2 := h1.set_val (i := i) (Same.refl _) r
 have e : σ.set i (some (.ref q)) = σ := by
  refine List.ext_getElem? fun j => ?_
  by_cases hj : i = j
  ·subst hj
   rw [List.getElem?_set_self (List.getElem?_eq_some_iff.mp a.at_).1,a.at_]
  ·rw [List.getElem?_set_ne hj]
 rw [e] at h2
 exact h2
theorem same_upd {p : Addr} {o : HO} (e : Same He H) (hp : He p = none) : Same He (upd H p o) := fun b u z => by
 rw [upd_ne (fun w => by rw [w,hp] at z; cases z)]; exact e b u z
theorem AbsN.mut (a : AbsN K i He nss σ δ H q ps) {n : Nat} {p : Addr} {old ms : List Int} (hp : ps[n]? = some p) (ho : H p = some (.lst (old.map V.int))) : AbsN K i He (nss.set n ms) σ δ (upd H p (.lst (ms.map V.int))) q ps := by
 have hm : p ∈ ps := List.mem_of_getElem? hp
 have hqp : q ≠ p := fun z => a.out (z ▸ hm)
 have st : Stay K (cnN K q ps H).B H (upd H p (.lst (ms.map V.int))) := ⟨fun b ys z => by
   rcases z with (z | ⟨o,z⟩) | z
   ·exact .inl (.inl (by rw [upd_ne (fun w => by rw [w,ho] at z; cases z)]; exact z))
   ·exact .inl (.inr ⟨o,by rw [upd_ne (fun w => by rw [w,ho] at z; cases z)]; exact z⟩)
   ·exact .inr z,fun b ys z => by
   rcases z with ⟨o,z⟩ | z
   ·exact .inl ⟨o,by rw [upd_ne (fun w => by rw [w,ho] at z; cases z)]; exact z⟩
   ·exact .inr z,fun b o z w => by rw [upd_ne (fun y : b = p => z.2 (by rw [y]; exact hm))]; exact w⟩
 refine ⟨same_upd a.same (a.newp p hm),a.newq,a.newp,a.out,a.nd,a.at_,by rw [upd_ne hqp]; exact a.top,a.inn.set a.nd hp,a.no,a.un,⟨Same.refl _,fun b hb => ?_,a.ab.len,fun j d h => ?_,fun j d h => (no_own a.no h).elim,fun d v h => (by cases h),fun j k dj dk p h => (no_own a.no h).elim,fun j p hP => (nomatch hP)⟩⟩
 ·refine a.ab.fr b ?_
  by_cases e : b = p
  ·subst e; rw [upd_same] at hb; cases hb
  ·rw [upd_ne e] at hb; exact hb
 ·obtain ⟨v,h1,h2⟩ := a.ab.val j d h
  refine ⟨v,h1,?_⟩
  have h3 : Rep K (cnN K q ps H).B H d v := h2.weak fun _ z => z.1
  exact (Rep.mono (fun _ _ z _ => z) st d v h3).weak fun _ z => ⟨z,not_own a.no⟩
end
def nNext : Nm := fun nss δ => .ok (.nx nss δ)
def nSeq (F G : Nm) : Nm := fun nss δ => (F nss δ).bind fun r => match r with
 | .nx nss' δ' => G nss' δ'
 | .rt d => .ok (.rt d)
def nIf (i : Nat) (g : DS -> Ou Bool) (F G : Nm) : Nm := fun nss δ => (g (δ.set i (.val (lolD nss)))).bind fun b => if b = true then F nss δ else G nss δ
def nRet (f : Fn) : Nm := fun _ δ => (f δ).bind fun d => if isS d = true then .ok (.rt d) else .bad
def nSet (j : Nat) (f : Fn) : Nm := fun nss δ => (f δ).bind fun d => .ok (.nx nss (δ.set j (.val d)))
def forN (j : Nat) (F : Nm) : List D -> Nm
 | [],nss,δ => .ok (.nx nss δ)
 | x :: xs,nss,δ => (F nss (δ.set j (.val x))).bind fun r => match r with
  | .nx nss' δ' => forN j F xs nss' δ'
  | .rt d => .ok (.rt d)
def nRng (j : Nat) (fa : Fn) (F : Nm) : Nm := fun nss δ => (fa δ).bind fun d => match d with
 | .int n => if rOk n = true then forN j F (rng 0 n.toNat) nss δ else .bad
 | _ => .bad
def nApp (fk fv : Fn) : Nm := fun nss δ => (fk δ).bind fun k => (fv δ).bind fun v => match k,v with
 | .int a,.int z => (match ixN nss.length a with
  | some n => (match nss[n]? with
   | some ns => if ns.length < sizeLine then .ok (.nx (nss.set n (ns ++ [z])) δ) else .bad
   | none => .bad)
  | none => .bad)
 | _,_ => .bad
def nPut (fk fb fv : Fn) : Nm := fun nss δ => (fv δ).bind fun v => (fk δ).bind fun k => (fb δ).bind fun b => match k,b,v with
 | .int a,.int c,.int z => (match ixN nss.length a with
  | some n => (match nss[n]? with
   | some ns => (match ixN ns.length c with
    | some m => .ok (.nx (nss.set n (ns.set m z)) δ)
    | none => .bad)
   | none => .bad)
  | none => .bad)
 | _,_,_ => .bad
section
variable {X : Cx} {i j : Nat} {He : Hp} {F G : Nm} {st : Stmt} {sts : List Stmt} {e ek eb : Expr} {fe fk fb : Fn} {g : DS -> Ou Bool} {pos : Pos} {x y : Str}
theorem xn_nil : PSs X [] (tN X.K i He nNext) := pss_nil.imp fun D σ H ⟨nss,δ,q,ps,a,k⟩ => k σ H q ps a
theorem xn_cons (h1 : PS X st (tN X.K i He F)) (h2 : PSs X sts (tN X.K i He G)) : PSs X (st :: sts) (tN X.K i He (nSeq F G)) := (pss_cons h1 h2).imp fun D σ H ⟨nss,δ,q,ps,a,k⟩ =>
 ⟨nss,δ,q,ps,a,(Res.bind k).imp fun r _ k => by
  cases r with
  | nx nss' δ' => exact fun σ' H' q' ps' a' => ⟨nss',δ',q',ps',a',res0 k⟩
  | rt d => exact k⟩
theorem xn_if {t : Expr} {sa sb : List Stmt} (hc : PT X t (tT X.K E0 g)) (ha : PSs X sa (tN X.K i He F)) (hb : PSs X sb (tN X.K i He G)) : PS X (.If t sa sb pos) (tN X.K i He (nIf i g F G)) := (ps_if hc ha hb).imp fun D σ H ⟨nss,δ,q,ps,a,k⟩ => by
 refine ⟨_,_,rfl,a.full,(Res.bind k).imp fun b _ k H' e => ?_⟩
 cases b with
 | true => exact ⟨nss,δ,q,ps,a.grow e,res0 k⟩
 | false => exact ⟨nss,δ,q,ps,a.grow e,res0 k⟩
theorem xn_ret (he : PE X e (tX X.K E0 .W fe)) : PS X (.Return (some e) pos) (tN X.K i He (nRet fe)) := (ps_ret he).imp fun D σ H ⟨nss,δ,q,ps,a,k⟩ => by
 refine ⟨_,_,rfl,a.ab,(Res.bind k).imp fun d _ k v H' e r => ?_⟩
 by_cases hd : isS d = true
 ·rw [if_pos hd] at k
  rw [Rep.toS hd (show Rep _ _ H' d v from r)]
  exact k H' (a.same.trans e)
 ·rw [if_neg hd] at k; exact k.elim
theorem xn_set (j : Nat) {pos' : Pos} (hN : X.N.Nodup) (he : PE X e (tX X.K E0 .S fe)) (hij : j ≠ i := by decide) (hi : X.N[j]? = some x := by rfl) (hx : Loc X.env.scope x := by first | exact Or.inl rfl | exact Or.inr rfl) (hs : swapsWith e (some (.Name x pos')) pos.line X.env = pure false := by rfl)
  (hf : X.fn x = true ∨ X.env.scope.names.lookup x = some .local := by first | exact .inl rfl | exact .inr rfl) : PS X (.Assign [.Name x pos'] e pos) (tN X.K i He (nSet j fe)) := (ps_set hN hi hx he hs hf).imp fun D σ H ⟨nss,δ,q,ps,a,k⟩ => by
 refine ⟨_,_,rfl,a.ab,(Res.bind k).imp fun d _ k v H1 e1 r1 => k _ H1 q ps ?_⟩
 have b := a.grow e1
 have r : Rep X.K (Av (cnN X.K q ps H1) σ δ) H1 d v := Rep.weak (show Rep X.K (Av (cnN X.K q ps H) σ δ) H1 d v from r1) fun _ z => ⟨z.1,not_own a.no⟩
 exact ⟨b.same,b.newq,b.newp,b.out,b.nd,by rw [List.getElem?_set_ne hij]; exact b.at_,b.top,b.inn,noOwn_set b.no,by rw [List.getElem?_set_ne hij]; exact b.un,b.ab.set_val (Same.refl _) r⟩
theorem xn_rng (j : Nat) {p pos fpos px : Pos} {a : Expr} {fa : Fn} {body : List Stmt} (hp : PassesOwn (model X.prog X.w) X.A X.env X.xe) (hc : X.calm = true) (hm : X.mg "range" = none) (hN : X.N.Nodup) (ha : PA X [a] (tXA X.K E0 .W [fa])) (hb : PSs X body (tN X.K i He F)) (hij : j ≠ i := by decide)
  (hi : X.N[j]? = some x := by rfl) (hx : Loc X.env.scope x := by first | exact Or.inl rfl | exact Or.inr rfl) (hf : X.fn x = true ∨ X.env.scope.names.lookup x = some .local := by first | exact .inl rfl | exact .inr rfl)
  (hgl : Gl X "range" := by rfl) (hse : starEach [a] X.env = [(false,eval a X.env)] := by rfl) (hs : ∀ x,foldedSetIterable (.Call (.Name "range" p) [a] [] pos) X.env x = pure x := by intro _; rfl) :
  PS X (.For (.Name x px) (.Call (.Name "range" p) [a] [] pos) body [] fpos) (tN X.K i He (nRng j fa F)) := (ps_for hp hc (pi_range1 hgl hm ha hse) (pg_name hN hi hx hf) hb hs).imp fun D σ H ⟨nss,δ,q,ps,ab,k⟩ => by
 refine ⟨_,δ,rfl,ab.ab,?_⟩
 unfold nRng at k
 have k' : Res X.K E0 H (fArgs [fa] δ) fun ds => ∃ d,ds = [d] ∧ Res X.K E0 H (match d with | .int n => if rOk n = true then forN j F (rng 0 n.toNat) nss δ else .bad | _ => .bad) (EndN X.K i He D) := by
  unfold fArgs
  cases h : fa δ with
  | ok d => rw [h] at k; exact ⟨d,rfl,k⟩
  | ex z => rw [h] at k; exact k
  | bad => rw [h] at k; exact k
 refine k'.imp fun ds hds ⟨d,e,k⟩ vs H1 e1 r1 => ?_
 subst e
 obtain ⟨v,rfl,r2⟩ := r1.one'
 obtain ⟨n,rfl⟩ : ∃ n,d = .int n := by
  cases d <;> first | exact k.elim | exact ⟨_,rfl⟩
 simp only [Rep] at r2
 subst r2
 by_cases hj : rOk n = true
 ·simp only [hj,if_true] at k
  have hj' := of_decide_eq_true hj
  refine ⟨n,rfl,hj'.1,hj'.2,fun t m σ H => m = n.toNat - t ∧ t ≤ n.toNat ∧ ∃ nss δ q ps,AbsN X.K i He nss σ δ H q ps ∧ Res X.K E0 H (forN j F ((rng 0 n.toNat).drop t) nss δ) (EndN X.K i He D),⟨_,rfl,Nat.zero_le _,nss,δ,q,ps,ab.grow e1,res0 k⟩,?_⟩
  rintro t m σ H ⟨rfl,ht,nss,δ,q,ps,ab,k⟩
  by_cases hlt : t < n.toNat
  ·refine .inr ⟨hlt,fun σ' H' => ∃ nss δ q ps,AbsN X.K i He nss σ' δ H' q ps ∧ Res X.K E0 H' (forN j F ((rng 0 n.toNat).drop (t + 1)) nss δ) (EndN X.K i He D),fun σ' H' z => ⟨n.toNat - (t + 1),by omega,rfl,hlt,z⟩,?_⟩
   rintro v H' ⟨rfl,rfl⟩
   have hl : t < (rng 0 n.toNat).length := by rw [rng_len]; exact hlt
   rw [List.drop_eq_getElem_cons hl] at k
   have he : (rng 0 n.toNat)[t] = .int (0 + (t : Int)) := by
    have := rng_get (lo := 0) (n := n.toNat) (i := t) (List.getElem?_eq_getElem hl)
    exact this.2
   rw [he] at k
   have r : Rep X.K (Av (cnN X.K q ps H') σ δ) H' (.int (0 + (t : Int))) (.int (0 + (t : Int))) := by simp [Rep]
   refine ⟨nss,δ.set j (.val (.int (0 + (t : Int)))),q,ps,⟨ab.same,ab.newq,ab.newp,ab.out,ab.nd,by rw [List.getElem?_set_ne hij]; exact ab.at_,ab.top,ab.inn,noOwn_set ab.no,by rw [List.getElem?_set_ne hij]; exact ab.un,ab.ab.set_val (Same.refl _) r⟩,(Res.bind k).imp fun r _ k => ?_⟩
   cases r with
   | nx nss' δ' => exact fun σ' H' q' ps' a' => ⟨nss',δ',q',ps',a',res0 k⟩
   | rt d => exact k
  ·have e : t = n.toNat := by omega
   subst e
   rw [List.drop_eq_nil_of_le (by rw [rng_len]; exact Nat.le_refl _)] at k
   exact .inl ⟨Nat.le_refl _,k σ H q ps ab⟩
 ·simp only [if_neg hj] at k
  exact k.elim
theorem xn_app {px sp apos cpos : Pos} (hk : PE X ek (tX X.K E0 .W fk)) (he : PE X e (tX X.K E0 .W fe)) (hN : X.N[i]? = some x := by rfl) (hv : Vis X.env.scope x := by first | exact Or.inl rfl | exact Or.inr (Or.inl rfl) | exact Or.inr (Or.inr rfl)) (hd : (x == ("__debug__" : Str)) = false := by decide) (hcd : (x == ("__classdict__" : Str)) = false := by decide)
  (hpi : PlainIx ek := by exact fun _ _ => rfl) (hst : starEach [e] X.env = (false,eval e X.env) :: starEach [] X.env := by rfl) (hs : swapsWith (.Call (.Attribute (.Subscript (.Name x px) ek sp) "append" apos) [e] [] cpos) none pos.line X.env = pure false := by rfl)
  (hb : attributeBase (.Subscript (.Name x px) ek sp) "append" X.env (eval (.Subscript (.Name x px) ek sp) X.env) = eval (.Subscript (.Name x px) ek sp) X.env := by rfl) (h1 : (apos.endLine == cpos.line) = true := by rfl)
  (h2 : (backTo cpos (starEach ([] : List Expr) X.env)).any (·.1) = false := by rfl)
  (hfew : ((backTo cpos (starEach [e] X.env)).all (fun x => !x.1) && (backToKw cpos (keywordEach [] X.env)).all (fun x => x.1.isSome) && decide (([e] : List Expr).length + ([] : List Keyword).length + (if ([] : List Keyword).isEmpty then 0 else 1) < 30)) = true := by rfl) :
  PS X (.Expr (.Call (.Attribute (.Subscript (.Name x px) ek sp) "append" apos) [e] [] cpos) pos) (tN X.K i He (nApp fk fe)) :=
 (ps_expr (pe_bm PySem.F.plainAttrs_list PySem.F.slot_list_append PySem.F.type_list_append mt_append (pe_ix ix_list (pv i hN hv hd hcd) hk hpi) (pa_cons he pa_nil hst) hb hfew h1 hst h2) hs).imp fun D σ H ⟨nss,δ,q,ps,a,k⟩ => by
 refine ⟨.ref q,a.at_,_,_,rfl,a.ab,(Res.bind k).imp fun dk h0 k kv H1 e1 r1 => ?_⟩
 have a1 := a.grow e1
 cases hfe : fe δ with
 | ex z => rw [hfe] at k; exact (let ⟨_,_,g⟩ := (res0 (H1 := H) k); g H (Same.refl _)).elim
 | bad => rw [hfe] at k; exact k.elim
 | ok dv =>
  rw [hfe] at k
  simp only [bind_ok] at k
  have r1' : Rep X.K (cnN X.K q ps H).B H1 dk kv := r1
  cases dk <;> first | exact k.elim | skip
  rename_i n
  cases dv <;> first | exact k.elim | skip
  rename_i z
  simp only [Rep] at r1'
  subst r1'
  simp only at k
  cases e0 : ixN nss.length n with
  | none => rw [e0] at k; exact k.elim
  | some m =>
   rw [e0] at k
   simp only at k
   cases e2 : nss[m]? with
   | none => rw [e2] at k; exact k.elim
   | some ns =>
    rw [e2] at k
    simp only at k
    by_cases hl : ns.length < sizeLine
    ·rw [if_pos hl] at k
     obtain ⟨p,hp,hq⟩ := a1.inn.get m ns e2
     have hat : atI (ps.map V.ref) n = some (.ref p) := by
      unfold atI
      rw [List.length_map,← a1.inn.len,e0]
      show (ps.map V.ref)[m]? = _
      rw [List.getElem?_map,hp]; rfl
     refine ⟨q,_,n,_,rfl,rfl,.of a1.top,hat,.inl ⟨rfl,_,.of hq⟩,_,_,rfl,a1.ab,?_⟩
     show Res X.K E0 H1 (fe δ) _
     rw [hfe]
     intro v H2 e3 r3
     have a2 := a1.grow e3
     have r3' : Rep X.K (cnN X.K q ps H1).B H2 (.int z) v := r3
     simp only [Rep] at r3'
     subst r3'
     refine ⟨p,ns.map V.int,.int z,rfl,rfl,e3 _ _ hq,by rw [List.length_map]; exact hl,k σ _ q ps ?_⟩
     have := a2.mut (ms := ns ++ [z]) hp (e3 _ _ hq)
     rw [List.map_append] at this
     exact this
    ·rw [if_neg hl] at k; exact k.elim
theorem xn_put {px sp tpos : Pos} (hk : PE X ek (tX X.K E0 .W fk)) (hb : PE X eb (tX X.K E0 .W fb)) (he : PE X e (tX X.K E0 .W fe)) (hN : X.N[i]? = some x := by rfl) (hv : Vis X.env.scope x := by first | exact Or.inl rfl | exact Or.inr (Or.inl rfl) | exact Or.inr (Or.inr rfl)) (hd : (x == ("__debug__" : Str)) = false := by decide) (hcd : (x == ("__classdict__" : Str)) = false := by decide)
  (hpi : PlainIx ek := by exact fun _ _ => rfl)
  (ha : ∀ v,assign (.Subscript (.Subscript (.Name x px) ek sp) eb tpos) X.env v = (do
   let ov ← holding [v] (eval (.Subscript (.Name x px) ek sp) X.env)
   let iv ← holding [v,ov] (eval eb X.env)
   standAt tpos
   holding [v,ov,iv] (setItem ov iv v)
   release [v,ov,iv] []) := by intro _; rfl)
  (hs : swapsWithSole [.Subscript (.Subscript (.Name x px) ek sp) eb tpos] e pos.line X.env = pure false := by rfl) (hw : swappedStores [.Subscript (.Subscript (.Name x px) ek sp) eb tpos] e X.env = pure none := by rfl) (ha1 : (assignEach [.Subscript (.Subscript (.Name x px) ek sp) eb tpos] X.env).map (·.2) = [assign (.Subscript (.Subscript (.Name x px) ek sp) eb tpos) X.env] := by rfl) :
  PS X (.Assign [.Subscript (.Subscript (.Name x px) ek sp) eb tpos] e pos) (tN X.K i He (nPut fk fb fe)) := (ps_asg he (pg_sub (pe_ix ix_list (pv i hN hv hd hcd) hk hpi) hb set_list ha) hs hw ha1).imp fun D σ H ⟨nss,δ,q,ps,a,k⟩ => by
 refine ⟨_,_,rfl,a.ab,(Res.bind k).imp fun dv h9 k9 v H1 e1 r1 => ?_⟩
 have a1 := a.grow e1
 refine ⟨.ref q,a.at_,_,_,rfl,a1.ab,(res0 (Res.bind k9)).imp fun dk h0 k kv H2 e2 r2 => ?_⟩
 have a2 := a1.grow e2
 have r1' : Rep X.K (cnN X.K q ps H).B H1 dv v := r1
 have r2' : Rep X.K (cnN X.K q ps H1).B H2 dk kv := r2
 cases hfb : fb δ with
 | ex z => rw [hfb] at k; exact (let ⟨_,_,g⟩ := (res0 (H1 := H) k); g H (Same.refl _)).elim
 | bad => rw [hfb] at k; exact k.elim
 | ok db =>
  rw [hfb] at k
  simp only [bind_ok] at k
  obtain ⟨n,rfl⟩ : ∃ n,dk = .int n := by cases dk <;> first | exact k.elim | exact ⟨_,rfl⟩
  obtain ⟨c,rfl⟩ : ∃ n,db = .int n := by cases db <;> first | exact k.elim | exact ⟨_,rfl⟩
  obtain ⟨z,rfl⟩ : ∃ n,dv = .int n := by cases dv <;> first | exact k.elim | exact ⟨_,rfl⟩
  simp only [Rep] at r1' r2'
  subst r1'; subst r2'
  simp only at k
  cases e0 : ixN nss.length n with
  | none => rw [e0] at k; exact k.elim
  | some m =>
   rw [e0] at k
   simp only at k
   cases e4 : nss[m]? with
   | none => rw [e4] at k; exact k.elim
   | some ns =>
    rw [e4] at k
    simp only at k
    cases e5 : ixN ns.length c with
    | none => rw [e5] at k; exact k.elim
    | some t =>
     rw [e5] at k
     simp only at k
     obtain ⟨p,hp,hq⟩ := a2.inn.get m ns e4
     have hat : atI (ps.map V.ref) n = some (.ref p) := by
      unfold atI
      rw [List.length_map,← a2.inn.len,e0]
      show (ps.map V.ref)[m]? = _
      rw [List.getElem?_map,hp]; rfl
     refine ⟨q,_,n,_,rfl,rfl,.of a2.top,hat,_,_,rfl,a2.ab,?_⟩
     show Res X.K E0 H2 (fb δ) _
     rw [hfb]
     intro bv H3 e3 r3
     have a3 := a2.grow e3
     have r3' : Rep X.K (cnN X.K q ps H2).B H3 (.int c) bv := r3
     simp only [Rep] at r3'
     subst r3'
     refine ⟨p,ns.map V.int,c,t,rfl,rfl,e3 _ _ hq,by rw [List.length_map]; exact e5,k σ _ q ps ?_⟩
     have := a3.mut (ms := ns.set t z) hp (e3 _ _ hq)
     rw [List.map_set] at this
     exact this
end
end DL
namespace DL
open PySem PySem.Spec PyProof.Rows L2
def fInts (f : Fn) : Fn := fun δ => (f δ).bind fun d => match d with
 | .lst xs => (match intsOf xs with
  | some _ => .ok d
  | none => .bad)
 | _ => .bad
def asInts : D -> Option (List Int)
 | .lst xs => intsOf xs
 | _ => none
def asLol : List D -> Option (List (List Int))
 | [] => some []
 | d :: r => (asInts d).bind fun ns => (asLol r).map (ns :: ·)
theorem fInts_ok {f : Fn} {δ : DS} {d : D} (h : fInts f δ = .ok d) : ∃ ns : List Int,d = .lst (ns.map D.int) ∧ f δ = .ok d := by
 unfold fInts at h
 cases e : f δ with
 | ex z => rw [e] at h; cases h
 | bad => rw [e] at h; cases h
 | ok d' =>
  rw [e] at h
  cases d' <;> first | (cases h; done) | skip
  rename_i xs
  simp only [bind_ok] at h
  cases e2 : intsOf xs with
  | none => rw [e2] at h; cases h
  | some ns =>
   rw [e2] at h
   cases h
   exact ⟨ns,by rw [intsOf_eq e2],rfl⟩
theorem ints_back : ∀ ns : List Int,intsOf (ns.map D.int) = some ns := ints_nums
theorem Inn.mem {H : Hp} : ∀ {ps : List Addr} {nss : List (List Int)},Inn H ps nss -> ∀ p ∈ ps,H p ≠ none
 | [],_,_,p,hp => by cases hp
 | a :: ps,_,⟨ms,r,_,w1,w2⟩,p,hp => by
  rcases List.mem_cons.mp hp with rfl | hp
  ·rw [w1]; simp
  ·exact Inn.mem w2 p hp
section
variable {c : Cn} {σ : St} {δ : DS} {H1 : Hp}
theorem comp_coreF {K : PySem.W.Frag} {J : It} {ds : List DL.D} {g : DL.D -> DS -> Ou DS} {gc : DS -> Ou Bool} {fe : Fn} {k : Nat} {ix : List Nat} {Q : VK} (hK : c.K = K) (ab : Abs c σ δ H1) (src : SrcI J c.K (Av c σ δ) H1 ds) (hl : ds.length ≤ sizeLine)
  (kq : Res K E0 c.H₀ (compL g gc (fInts fe) ds (dsIn k ix δ)) fun es => ∀ D ps nss H',asLol es = some nss -> H1 D = none -> Same H1 H' -> H' D = some (.lst (ps.map V.ref)) -> Inn H' ps nss -> ps.Nodup -> D ∉ ps -> (∀ p ∈ ps,H1 p = none) -> Q (.ref D) H') :
  ∀ D,H1 D = none -> ∃ W : Nat -> Nat -> St -> List V -> Hp -> Prop,(∃ m,W 0 m (σin k ix σ) [] (upd H1 D (.lst []))) ∧
   ∀ i m σ ys H,W i m σ ys H -> H D = some (.lst ys) ∧ ((J.stop i H ∧ Q (.ref D) H) ∨ (J.go i H ∧ ys.length < sizeLine ∧ ∃ N : St -> List V -> Hp -> Prop,(∀ σ' ys' H',N σ' ys' H' -> ∃ m',m' < m ∧ W (i + 1) m' σ' ys' H') ∧
    ∀ x H',J.yld i H x H' -> tG K E0 g x σ H' fun σ2 H2 => tT K E0 gc σ2 H2 fun b H3 => if b = true then tX K E0 .F fe σ2 H3 fun y H4 => H4 D = some (.lst ys) ∧ N σ2 (ys ++ [y]) (upd H4 D (.lst (ys ++ [y]))) else N σ2 ys H3)) := by
 intro D hD
 let c' : Cn := { K := c.K,B := fun q => Av c σ δ q ∧ q ≠ D,H₀ := H1,G := [] }
 have hB' : ¬ c'.B D := fun z => z.2 rfl
 let P : Nat -> St -> List V -> Hp -> Prop := fun i σ' ys H' => ∃ δ' ps nss,ys = ps.map V.ref ∧ Abs c' σ' δ' H' ∧ H' D = some (.lst ys) ∧ Inn H' ps nss ∧ ps.Nodup ∧ D ∉ ps ∧ (∀ p ∈ ps,H1 p = none) ∧ i ≤ ds.length ∧ ps.length ≤ i ∧
  Res K E0 c.H₀ (compL g gc (fInts fe) (ds.drop i) δ') fun rest => ∀ ps' nss' H'',Same H1 H'' -> asLol rest = some nss' -> H'' D = some (.lst ((ps ++ ps').map V.ref)) -> Inn H'' (ps ++ ps') (nss ++ nss') -> (ps ++ ps').Nodup -> D ∉ ps ++ ps' -> (∀ p ∈ ps ++ ps',H1 p = none) -> Q (.ref D) H''
 refine ⟨fun i m σ' ys H' => m = ds.length - i ∧ P i σ' ys H',⟨_,rfl,dsIn k ix δ,[],[],rfl,ab.block hD,upd_same,rfl,.nil,by simp,by simp,Nat.zero_le _,Nat.zero_le _,?_⟩,?_⟩
 ·exact kq.imp fun es _ z ps' nss' H'' e1 e0 e2 e3 e4 e5 e6 => z D ps' nss' H'' e0 hD e1 e2 e3 e4 e5 e6
 ·rintro i m σ' ys H' ⟨rfl,δ',ps,nss,rfl,ab',hDy,hin,hnd,hDp,hnew,hi,hes,q⟩
  refine ⟨hDy,?_⟩
  by_cases hlt : i < ds.length
  ·refine .inr ⟨src.go i H' ab'.same hlt,?_,P (i + 1),fun σ' ys' H' n => ⟨ds.length - (i + 1),by lia,rfl,n⟩,fun x H2 y => ?_⟩
   ·rw [List.length_map]; lia
   have hd : ds[i]? = some ds[i] := by simp [hlt]
   obtain ⟨rfl,rx⟩ := src.yld i H' x H2 _ ab'.same hd y
   rw [List.drop_eq_getElem_cons hlt] at q
   have rx' : Rep c'.K (Av c' σ' δ') H2 ds[i] x := Rep.mono (fun a o w1 w2 => ⟨⟨w1,ne_of_none w2 hD⟩,fun ow => by
    obtain ⟨_,_,z⟩ := Own.is ab' ow
    have w3 := (show c'.H₀ a = some o from w2).symm.trans z
    cases w3⟩) (.of_same ab'.same) _ x rx
   refine ⟨c',δ',ds[i],hK,ab',rx',(wish_mono (Res.bind q) ab.same).imp fun δ2 _ k2 σ2 H3 e3 ab2 => ?_⟩
   refine ⟨c',δ2,hK,ab2,(wish_mono (Res.bind k2) ab.same).imp fun b _ k3 H4 e4 => ?_⟩
   cases b with
   | false => exact ⟨δ2,ps,nss,rfl,ab2.grow e4,e4 _ _ (e3 _ _ hDy),(hin.same e3).same e4,hnd,hDp,hnew,hlt,by lia,k3⟩
   | true =>
    have k3' : Res K E0 c.H₀ ((fInts fe δ2).bind fun y => (compL g gc (fInts fe) (ds.drop (i + 1)) δ2).bind fun ys => .ok (y :: ys)) _ := k3
    have k4 := Res.bind k3'
    have k5 : Res K E0 H1 (fe δ2) fun dy => ∃ ns : List Int,dy = .lst (ns.map DL.D.int) ∧ Res K E0 c.H₀ (compL g gc (fInts fe) (ds.drop (i + 1)) δ2) fun rest => ∀ ps' nss' H'',Same H1 H'' -> asLol (dy :: rest) = some nss' -> H'' D = some (.lst ((ps ++ ps').map V.ref)) -> Inn H'' (ps ++ ps') (nss ++ nss') -> (ps ++ ps').Nodup -> D ∉ ps ++ ps' -> (∀ p ∈ ps ++ ps',H1 p = none) -> Q (.ref D) H'' := by
     cases hf : fInts fe δ2 with
     | ok dy =>
      obtain ⟨ns,h1,h2⟩ := fInts_ok hf
      rw [hf] at k4
      rw [h2]
      exact ⟨ns,h1,Res.bind k4⟩
     | ex z => rw [hf] at k4; exact (let ⟨_,_,g⟩ := (show Wish K E0 c.H₀ z from k4); (g c.H₀ (Same.refl _)).elim)
     | bad => rw [hf] at k4; exact k4.elim
    refine ⟨c',δ2,hK,ab2.grow e4,k5.imp fun dy _ ⟨ns,e9,k6⟩ y H5 e5 r5 => ?_⟩
    subst e9
    obtain ⟨p,xs,rfl,p1,p2,p3⟩ := r5
    obtain ⟨vs,rfl,p4⟩ := p3
    have hvs : vs = ns.map V.int := reps_ints p4
    subst hvs
    have hD4 := e4 _ _ (e3 _ _ hDy)
    have hD5 := e5 _ _ hD4
    have hpD : p ≠ D := fun z => by rw [z,hD4] at p1; cases p1
    have hpn : H1 p = none := by
     cases e : H1 p with
     | none => rfl
     | some o =>
      have := e4 _ _ (e3 _ _ (ab'.same _ _ e))
      rw [p1] at this; cases this
    have in4 := (hin.same e3).same e4
    have hpp : p ∉ ps := fun z => Inn.mem in4 p z p1
    have st : Stay c.K c'.B H5 (upd H5 D (.lst (ps.map V.ref ++ [.ref p]))) := ⟨fun q ys z => by
      rcases z with (z | ⟨o,z⟩) | z
      ·exact .inl (.inl (by rw [upd_ne (ne_of z hD5 (by intro w; cases w))]; exact z))
      ·exact .inl (.inr ⟨o,by rw [upd_ne (ne_of z hD5 (by intro w; cases w))]; exact z⟩)
      ·exact .inr z,fun q ys z => by
      rcases z with ⟨o,z⟩ | z
      ·exact .inl ⟨o,by rw [upd_ne (ne_of z hD5 (by intro w; cases w))]; exact z⟩
      ·exact .inr z,fun q o z w => by rw [upd_ne z.2]; exact w⟩
    have inn5 : Inn (upd H5 D (.lst (ps.map V.ref ++ [.ref p]))) (ps ++ [p]) (nss ++ [ns]) :=
     Inn.off (Inn.app (in4.same e5) ⟨ns,[],rfl,p2,rfl⟩) (by simp [hDp,Ne.symm hpD])
    refine ⟨hD5,δ2,ps ++ [p],nss ++ [ns],by simp,((ab2.grow e4).grow e5).off hD5 hD hB',upd_same,inn5,?_,by simp [hDp,Ne.symm hpD],fun a ha => ?_,hlt,by simp; lia,k6.imp fun rest _ k7 ps' nss' H'' s1 s0 s2 s3 s4 s5 s6 => k7 (p :: ps') (ns :: nss') H'' s1 ?_ ?_ ?_ ?_ ?_ ?_⟩
    ·rw [List.nodup_append]
     exact ⟨hnd,by simp,fun a ha b hb => by simp only [List.mem_singleton] at hb; subst hb; exact fun z => hpp (z ▸ ha)⟩
    ·rcases List.mem_append.mp ha with ha | ha
     ·exact hnew a ha
     ·simp only [List.mem_singleton] at ha; subst ha; exact hpn
    ·show (asInts (.lst (ns.map DL.D.int))).bind _ = _
     have : asInts (.lst (ns.map DL.D.int)) = some ns := ints_back ns
     rw [this,Option.bind_some,s0]; rfl
    ·simpa using s2
    ·simpa using s3
    ·simpa using s4
    ·simpa using s5
    ·simpa using s6
  ·have e : i = ds.length := by lia
   subst e
   rw [List.drop_length] at q
   exact .inl ⟨src.stop H' ab'.same,q [] [] H' ab'.same rfl (by simpa using hDy) (by simpa using hin) (by simpa using hnd) (by simpa using hDp) (by simpa using hnew)⟩
end
def sNest (i : Nat) (fi : DS -> Ou (List D)) (g : D -> DS -> Ou DS) (gc : DS -> Ou Bool) (fe : Fn) (k : Nat) (ix : List Nat) (G : Nm) : Sm := fun δ => if noOwn δ = true ∧ i < δ.length then (fi δ).bind fun ds => if ds.length ≤ sizeLine then (compL g gc (fInts fe) ds (dsIn k ix δ)).bind fun es => match asLol es with
 | some nss => (G nss (δ.set i .un)).bind fun r => (match r with
  | .rt d => if isS d = true then .ok (.rt d) else .bad
  | .nx _ _ => .bad)
 | none => .bad else .bad else .bad
section
variable {X : Cx} {iter elt tg : Expr} {ifs : List Expr} {scope : Scope} {N' : List Str} {k : Nat} {ix : List Nat} {pos spos pos' : Pos} {g : D -> DS -> Ou DS} {gc : DS -> Ou Bool} {fe fl : Fn} {G : Nm} {sts : List Stmt} {x : Str}
theorem noOwn_un {δ : DS} {i : Nat} (h : noOwn δ = true) : noOwn (δ.set i .un) = true := by
 unfold noOwn at h ⊢
 rw [List.all_eq_true] at h ⊢
 intro s hs
 rcases List.mem_or_eq_of_mem_set hs with hs | rfl
 ·exact h s hs
 ·rfl
theorem Abs.nest {c : Cn} {σ : St} {δ : DS} {H H2 : Hp} {i : Nat} {q : Addr} {ps : List Addr} (ab : Abs c σ δ H) (hno : noOwn δ = true) (hil : i < δ.length) (e2 : Same H H2) (hq : H q = none) (hp : ∀ p ∈ ps,H p = none) (hq2 : H2 q ≠ none) (hp2 : ∀ p ∈ ps,H2 p ≠ none) (v : V) :
  Abs (cnN c.K q ps H2) (σ.set i (some v)) (δ.set i .un) H2 := by
 have hn := noOwn_un (i := i) hno
 refine ⟨Same.refl _,fun a h => ⟨fun z => hq2 (z ▸ h),fun z => hp2 a z h⟩,by rw [List.length_set,List.length_set]; exact ab.len,fun j d h => ?_,fun j d h => (no_own hn h).elim,fun d v h => (by cases h),fun j k dj dk p h => (no_own hn h).elim,fun j p hP => (nomatch hP)⟩
 by_cases hj : i = j
 ·subst hj
  rw [List.getElem?_set_self hil] at h; cases h
 ·rw [List.getElem?_set_ne hj] at h
  obtain ⟨u,h1,h2⟩ := ab.val j d h
  refine ⟨u,by rw [List.getElem?_set_ne hj]; exact h1,Rep.mono (fun a o w z => ⟨⟨fun y => ?_,fun y => ?_⟩,not_own hn⟩) (.of_same e2) d u h2⟩
  ·rw [y,hq] at z; cases z
  ·rw [hp a y] at z; cases z
theorem xs_nest (i : Nat) (hN : X.N.Nodup) (S : CNames X scope N' k ix) (hi : PE X iter (tX X.K E0 .S fl))
  (hb : ∀ C s2 H2 fp pins,PG (blk X N' scope C s2 H2 fp pins) tg (tG X.K E0 g) ∧ PCs (blk X N' scope C s2 H2 fp pins) ifs (tT X.K E0 gc) ∧ PE (blk X N' scope C s2 H2 fp pins) elt (tX X.K E0 .F fe)) (h2 : ∀ He,PSs X sts (tN X.K i He G))
  (hc : X.calm = true := by rfl) (hs : ∀ x,foldedSetIterable iter X.env x = pure x := by intro _; rfl) (hix : X.N[i]? = some x := by rfl) (hx : Loc X.env.scope x := by first | exact Or.inl rfl | exact Or.inr rfl)
  (hsw : swapsWith (.ListComp elt [⟨tg,iter,ifs,0⟩] scope pos) (some (.Name x pos')) spos.line X.env = pure true := by rfl) (hf : X.fn x = true ∨ X.env.scope.names.lookup x = some .local := by first | exact .inl rfl | exact .inr rfl) :
  PSs X (.Assign [.Name x pos'] (.ListComp elt [⟨tg,iter,ifs,0⟩] scope pos) spos :: sts) (tS X.K E0 false (sNest i (fItems fl) g gc fe k ix G)) := by
 have h2' : PSs X sts (fun D σ H => ∃ He,tN X.K i He G D σ H) := fun pins s σ H D I ⟨He,h⟩ => h2 He pins s σ H D I h
 refine (pss_cons (ps_comp hN hix hx hsw hf hc S (pi_list hi) hb hs) h2').imp fun D σ H q => ?_
 obtain ⟨c,δ,hK,ab,q⟩ := q
 unfold sNest at q
 have hno : noOwn δ = true ∧ i < δ.length := by
  by_cases h : noOwn δ = true ∧ i < δ.length
  ·exact h
  ·rw [if_neg h] at q; exact q.elim
 rw [if_pos hno] at q
 obtain ⟨hno,hil⟩ := hno
 have hP : c.P = none := ab.none rfl
 have main : ∀ (J : It) (H1 : Hp) (ds : List DL.D),Same H H1 -> SrcI J c.K (Av c σ δ) H1 ds -> Res X.K E0 c.H₀ (if ds.length ≤ sizeLine then (compL g gc (fInts fe) ds (dsIn k ix δ)).bind fun es => match asLol es with
   | some nss => (G nss (δ.set i .un)).bind fun r => (match r with
    | .rt d => if isS d = true then .ok (.rt d) else .bad
    | .nx _ _ => .bad)
   | none => .bad else .bad) (EndP c false D) -> ∀ D',H1 D' = none -> ∃ W : Nat -> Nat -> St -> List V -> Hp -> Prop,(∃ m,W 0 m (σin k ix σ) [] (upd H1 D' (.lst []))) ∧
   ∀ t m σ1 ys H2,W t m σ1 ys H2 -> H2 D' = some (.lst ys) ∧ ((J.stop t H2 ∧ ∃ He,tN X.K i He G D (σ.set i (some (.ref D'))) H2) ∨ (J.go t H2 ∧ ys.length < sizeLine ∧ ∃ N : St -> List V -> Hp -> Prop,(∀ σ' ys' H',N σ' ys' H' -> ∃ m',m' < m ∧ W (t + 1) m' σ' ys' H') ∧
    ∀ x H',J.yld t H2 x H' -> tG X.K E0 g x σ1 H' fun σ2 H2 => tT X.K E0 gc σ2 H2 fun b H3 => if b = true then tX X.K E0 .F fe σ2 H3 fun y H4 => H4 D' = some (.lst ys) ∧ N σ2 (ys ++ [y]) (upd H4 D' (.lst (ys ++ [y]))) else N σ2 ys H3)) := by
  intro J H1 ds e1 src kq D' hD'
  have hl : ds.length ≤ sizeLine := by
   by_cases h : ds.length ≤ sizeLine
   ·exact h
   ·rw [if_neg h] at kq; exact kq.elim
  rw [if_pos hl] at kq
  refine comp_coreF (Q := fun v H2 => ∃ He,tN X.K i He G D (σ.set i (some v)) H2) (k := k) (ix := ix) hK (ab.toAbs.grow e1) src hl ((Res.bind kq).imp fun es _ z D1 ps nss H2 a0 a1 a2 a3 a4 a5 a6 a7 => ⟨H,?_⟩) D' hD'
  rw [a0] at z
  simp only at z
  have e2 : Same H H2 := e1.trans a2
  have n0 : ∀ p,H1 p = none -> H p = none := fun p h => e1.free h
  have nst := Abs.nest (c := c) (i := i) ab.toAbs hno hil e2 (n0 _ a1) (fun p hp => n0 p (a7 p hp)) (by rw [a3]; simp) (Inn.mem a4) (.ref D1)
  rw [hK] at nst
  refine ⟨nss,δ.set i .un,D1,ps,⟨e2,n0 _ a1,fun p hp => n0 p (a7 p hp),a6,a5,List.getElem?_set_self (by rw [← ab.len]; exact hil),a3,a4,noOwn_un hno,List.getElem?_set_self hil,nst⟩,(res0 (Res.bind z)).imp fun r _ w => ?_⟩
  cases r with
  | nx _ _ => exact w.elim
  | rt d =>
   by_cases hd : isS d = true
   ·simp only [if_pos hd] at w
    exact fun H' eH => w (toV d) H' (ab.same.trans eH) (RtM.of hP (Rep.ofS hd))
   ·simp only [if_neg hd] at w
    exact w.elim
 have q1 := Res.bind q
 unfold fItems at q1
 refine ⟨c,δ,hK,ab,(Res.bind q1).imp fun d _ z v H1 e1 r1 => ?_⟩
 have r1' : Rep c.K (Av c σ δ) H1 d v := r1
 cases d <;> first | exact z.elim | skip
 ·simp only [Rep] at r1'
  obtain ⟨p,xs,rfl,_,h1,h2⟩ := r1'
  exact ⟨p,rfl,⟨xs,by rw [← hK]; exact .of h1⟩,main (Itl X.K p) H1 _ e1 (by have := srcL (SqL.of h1) h2; rw [hK] at this ⊢; exact this) z⟩
 ·simp only [Rep] at r1'
  obtain ⟨p,xs,rfl,h1,h2⟩ := r1'
  exact ⟨p,rfl,⟨xs,by rw [← hK]; exact h1.sq⟩,main (Itl X.K p) H1 _ e1 (by have := srcL h1.sq h2; rw [hK] at this ⊢; exact this) z⟩
end
end DL
namespace DL
open PySem PySem.Spec PyProof.Rows L2
def tLX (K : PySem.W.Frag) (Λ : LP) (f : Fn) : TE := fun σ H Q => ∃ H₀ δ,Λ.T H₀ ∧ Abs (cnL K Λ H₀) σ δ H ∧ noOwn δ = true ∧ Res K E0 H₀ (f δ) fun d => ∀ v H',Λ.T H' -> SameT Λ.P H H' -> Rep K (fun a => a ≠ Λ.P) H' d v -> Q v H'
def tLA (K : PySem.W.Frag) (Λ : LP) (fs : List Fn) : TA := fun σ H Q => ∃ H₀ δ,Λ.T H₀ ∧ Abs (cnL K Λ H₀) σ δ H ∧ noOwn δ = true ∧ Res K E0 H₀ (fArgs fs δ) fun ds => ∀ vs H',Λ.T H' -> SameT Λ.P H H' -> Reps K (fun a => a ≠ Λ.P) H' ds vs -> Q vs H'
def tLT (K : PySem.W.Frag) (Λ : LP) (g : DS -> Ou Bool) : TT := fun σ H Q => ∃ H₀ δ,Λ.T H₀ ∧ Abs (cnL K Λ H₀) σ δ H ∧ noOwn δ = true ∧ Res K E0 H₀ (g δ) fun b => ∀ H',Λ.T H' -> SameT Λ.P H H' -> Q b H'
def sIfL (g : DS -> Ou Bool) (F G : Sm) : Sm := fun δ => if noOwn δ = true then sIf g F G δ else .bad
def sRetL (f : Fn) : Sm := fun δ => if noOwn δ = true then sRet f δ else .bad
section
variable {X : Cx} {Λ : LP} {He : Hp} {x : Str} {k j : Nat} {ps : List Str} {mm : List D -> Ou D} {e a : Expr} {es : List Expr} {fs : List Fn} {fe fa : Fn} {g : DS -> Ou Bool} {p pos : Pos} {F G : Sm}
theorem lx_of (h : PE X e (tX X.K E0 .W fe)) : PE X e (tLX X.K Λ fe) := h.imp fun σ H Q ⟨H₀,δ,t,ab,hn,q⟩ => ⟨cnL X.K Λ H₀,δ,rfl,ab,q.imp fun d _ k v H' e r => k v H' ((t.grow ab.same).grow e) (.of e) r⟩
theorem la_nil : PA X [] (tLA X.K Λ []) := pa_nil.imp fun σ H Q ⟨H₀,δ,t,ab,hn,q⟩ => q [] H (t.grow ab.same) .refl (by simp [Reps])
theorem la_cons (ha : PE X e (tLX X.K Λ fe)) (hr : PA X es (tLA X.K Λ fs)) (hs : starEach (e :: es) X.env = (false,eval e X.env) :: starEach es X.env := by rfl) : PA X (e :: es) (tLA X.K Λ (fe :: fs)) := (pa_cons ha hr hs).imp fun σ H Q ⟨H₀,δ,t,ab,hn,q⟩ =>
 ⟨H₀,δ,t,ab,hn,(Res.bind q).imp fun d _ k v H1 t1 e1 r1 => ⟨H1,δ,t1,rebase ab hn (t.grow ab.same) e1 t1,hn,(res0 (Res.bind k)).imp fun ds _ k vs H2 t2 e2 r2 => k (v :: vs) H2 t2 (e1.trans e2) ⟨v,vs,rfl,repT t1 e2 (fun z => z rfl) r1,r2⟩⟩⟩
theorem lx_call (h : DfL X.prog X.w X.K X.mg X.base Λ x j ps mm) (hr : Room k X.A) (ha : PA X (e :: es) (tXA X.K E0 .W fs)) (hj : j ≤ k := by omega) (hl : fs.length = ps.length := by rfl) (hg : Gl X x := by rfl) (hdb : (x == ("__debug__" : Str)) = false := by decide)
  (he : starEach (e :: es) X.env = (false,eval e X.env) :: starEach es X.env := by rfl) (hpl : (backTo pos (starEach es X.env)).any (·.1) = false := by rfl) : PE X (.Call (.Name x p) (e :: es) [] pos) (tLX X.K Λ (fCall mm fs)) := by
 obtain ⟨f,fd,h1,h2,h3,h4⟩ := h.ex
 refine (pe_call h1 (hr.mono hj) hg h4 h3 h2 .nil pass0 ha hdb he hpl).imp fun σ H Q ⟨H₀,δ,t,ab,hn,q⟩ => ?_
 refine ⟨cnL X.K Λ H₀,δ,rfl,ab,(Res.bind q).imp fun ds hds k vs H1 e1 r1 => ?_⟩
 have t1 : Λ.T H1 := (t.grow ab.same).grow e1
 exact ⟨ds,by rw [fArgs_len hds]; exact hl,by rw [List.append_nil]; exact r1,t1,(res0 k).imp fun d _ k v H' t' e' r' => k v H' t' ((SameT.of e1).trans e') r'⟩
theorem lx_callD (h : Df X.prog X.w X.K X.mg X.base x j ps false mm) (hr : Room k X.A) (ha : PA X (e :: es) (tLA X.K Λ fs)) (hj : j ≤ k := by omega) (hl : fs.length = ps.length := by rfl) (hg : Gl X x := by rfl) (hdb : (x == ("__debug__" : Str)) = false := by decide)
  (he : starEach (e :: es) X.env = (false,eval e X.env) :: starEach es X.env := by rfl) (hpl : (backTo pos (starEach es X.env)).any (·.1) = false := by rfl) : PE X (.Call (.Name x p) (e :: es) [] pos) (tLX X.K Λ (fCall mm fs)) := by
 obtain ⟨f,fd,h1,h2,h3,h4⟩ := h.ex
 refine (pe_call h1 (hr.mono hj) hg h4 h3 h2 .nil pass0 ha hdb he hpl).imp fun σ H Q ⟨H₀,δ,t,ab,hn,q⟩ => ?_
 refine ⟨H₀,δ,t,ab,hn,(Res.bind q).imp fun ds hds k vs H1 t1 e1 r1 => ?_⟩
 refine ⟨fun a => a ≠ Λ.P,ds,by rw [fArgs_len hds]; exact hl,by rw [List.append_nil]; exact r1,(res0 k).imp fun d _ k v H' e' r' => k v H' (t1.grow e') (e1.next e') (Rep.weak r' fun a z => ?_)⟩
 rcases z with z | z
 ·exact z
 ·exact fun w => t1.at_ (w ▸ z)
theorem lt_tru (ha : PE X a (tLX X.K Λ fa)) (he : ∀ whole,isTrue a X.env whole = (do let v ← whole; standAt a.pos; holding [v] (truthy v)) := by intro _; rfl) : PT X a (tLT X.K Λ (fTru fa)) := (pt_truth ha he).imp fun σ H Q ⟨H₀,δ,t,ab,hn,q⟩ => by
 refine ⟨H₀,δ,t,ab,hn,(Res.bind q).imp fun d _ k v H1 t1 e1 r1 => ?_⟩
 obtain ⟨z,h1,h2⟩ := rd_tru k r1
 exact ⟨z,h1,h2 H1 t1 e1⟩
theorem lt_not (ha : PT X a (tLT X.K Λ g)) : PT X (.UnaryOp .Not a pos) (tLT X.K Λ (fNotT g)) := (pt_not ha).imp fun σ H Q ⟨H₀,δ,t,ab,hn,q⟩ => ⟨H₀,δ,t,ab,hn,(Res.bind q).imp fun z _ k H1 t1 e1 => k H1 t1 e1⟩
theorem xl_ifT {t : Expr} {sa sb : List Stmt} (hc : PT X t (tLT X.K Λ g)) (ha : PSs X sa (tL X.K Λ He F)) (hb : PSs X sb (tL X.K Λ He G)) : PS X (.If t sa sb pos) (tL X.K Λ He (sIfL g F G)) := (ps_if hc ha hb).imp fun D σ H ⟨H₀,δ,t,e0,ab,q⟩ => by
 unfold sIfL at q
 split at q
 ·rename_i hn
  refine ⟨H₀,δ,t,ab,hn,(Res.bind q).imp fun b _ k H1 t1 e1 => ?_⟩
  have ab1 := rebase ab hn (t.grow ab.same) e1 t1
  cases b with
  | true => exact ⟨H1,δ,t1,(e0.next ab.same).trans e1,ab1,res0 k⟩
  | false => exact ⟨H1,δ,t1,(e0.next ab.same).trans e1,ab1,res0 k⟩
 ·exact q.elim
theorem xl_thaw (i : Nat) {st : Stmt} (h : PS X st (tL X.K Λ He F)) : PS X st (tL X.K Λ He fun δ => F (thaw i δ)) := h.imp fun D σ H ⟨H₀,δ,t,e,ab,q⟩ => ⟨H₀,_,t,e,ab.thaw i,q⟩
theorem xl_retX (h : PE X e (tLX X.K Λ fe)) : PS X (.Return (some e) pos) (tL X.K Λ He (sRetL fe)) := (ps_ret h).imp fun D σ H ⟨H₀,δ,t,e0,ab,q⟩ => by
 unfold sRetL at q
 split at q
 ·rename_i hn
  exact ⟨H₀,δ,t,ab,hn,(Res.bind q).imp fun d _ k v H1 t1 e1 r1 => k v H1 t1 ((e0.next ab.same).trans e1) r1⟩
 ·exact q.elim
end
end DL
set_option maxHeartbeats 4000000
namespace Pr
open PySem PySem.Spec PyProof.Rows L2 DL
def top (i : Nat) : Stmt := PySem.Challenge.pw_pastdesk_k38_what_stands_in_a_row.main.body.getD i (.Pass ⟨0,0,0,0⟩)
abbrev s_last_time : Stmt := top 8
abbrev s_holds : Stmt := top 9
abbrev s_within : Stmt := top 10
abbrev s_halves : Stmt := top 11
abbrev s_least : Stmt := top 12
abbrev s_cover : Stmt := top 13
abbrev s_stretch_of : Stmt := top 15
abbrev s_total_of : Stmt := top 16
abbrev s_is_leaf : Stmt := top 17
abbrev s_parts : Stmt := top 18
abbrev s_Kind__joined : Stmt := inClass (top 2) 4
abbrev s_Kind__nothing : Stmt := inClass (top 2) 3
abbrev s_joined_lack : Stmt := top 28
abbrev s_gone_in : Stmt := top 32
abbrev s_left_in : Stmt := top 33
abbrev s_Line__joined : Stmt := inClass (top 34) 4
abbrev s_Line__nothing : Stmt := inClass (top 34) 3
abbrev s_Pile__joined : Stmt := inClass (top 41) 4
abbrev s_Pile__nothing : Stmt := inClass (top 41) 3
abbrev s_row_total : Stmt := top 19
abbrev s_Kind__lone : Stmt := inClass (top 2) 2
abbrev s_puts_of : Stmt := top 26
abbrev s_takes_of : Stmt := top 27
abbrev s_Line__lone : Stmt := inClass (top 34) 2
abbrev s_Pile__lone : Stmt := inClass (top 41) 2
abbrev s_leaf : Stmt := top 20
abbrev s_knot : Stmt := top 21
abbrev s_beside : Stmt := top 22
abbrev s_is_early : Stmt := top 23
abbrev s_put_in : Stmt := top 24
abbrev s_number_put : Stmt := top 29
abbrev s_put_behind : Stmt := top 31
abbrev s_one_step_down : Stmt := top 37
abbrev s_inside : Stmt := top 36
abbrev s_ahead : Stmt := top 38
abbrev s_put_below : Stmt := top 40
abbrev s__law_cell_at : Stmt := top 43
abbrev s__law_whole : Stmt := top 44
abbrev s__law_number : Stmt := top 45
abbrev s__law_deed : Stmt := top 46
abbrev s__law_times : Stmt := top 47
abbrev s__law_row : Stmt := top 48
abbrev s__law_order : Stmt := top 49
abbrev s__law_tree : Stmt := top 50
abbrev s__law_end : Stmt := top 51
abbrev s__law_stood : Stmt := top 52
abbrev s__law_alike : Stmt := top 53
abbrev s_Kind__stand : Stmt := inClass (top 2) 8
abbrev s_Line__stand : Stmt := inClass (top 34) 9
abbrev s_Pile__stand : Stmt := inClass (top 41) 8
abbrev s__law_told_well : Stmt := top 54
abbrev s_law : Stmt := top 55
def b_last_time : Sm := (sSeq (sRet (f2 gSub (f2 gAdd (f2 gIx (fVar 0) (fC (.int 0))) (f2 gIx (fVar 0) (fC (.int 1)))) (fC (.int 1)))) sNext)
def m_last_time : List D -> Ou D := runD false 1 b_last_time
def b_holds : Sm := (sSeq (sRet (fChn gLe gLe (f2 gIx (fVar 0) (fC (.int 0))) (fVar 1) (fCall (m_last_time) [(fVar 0)]))) sNext)
def m_holds : List D -> Ou D := runD false 2 b_holds
def b_within : Sm := (sSeq (sRet (fAndV (fCall (m_holds) [(fVar 1),(f2 gIx (fVar 0) (fC (.int 0)))]) (fCall (m_holds) [(fVar 1),(fCall (m_last_time) [(fVar 0)])]))) sNext)
def m_within : List D -> Ou D := runD false 2 b_within
def b_halves : Sm := (sSeq (sSet 1 (f2 gIx (fVarS 0) (fC (.int 0)))) (sSeq (sSet 2 (f2 gDiv (f2 gIx (fVar 0) (fC (.int 1))) (fC (.int 2)))) (sSeq (sRet (fTup [(fTup [(fVar 1),(fVar 2)]),(fTup [(f2 gAdd (fVar 1) (fVar 2)),(fVar 2)])])) sNext)))
def m_halves : List D -> Ou D := runD false 3 b_halves
def b_least : Sm := (sSeq (sSet 2 (fCall gMin [(f2 gIx (fVar 0) (fC (.int 0))),(f2 gIx (fVar 1) (fC (.int 0)))])) (sSeq (sSet 3 (fCall gMax [(fCall (m_last_time) [(fVar 0)]),(fCall (m_last_time) [(fVar 1)])])) (sSeq (sSet 4 (f2 gShl (fC (.int 1)) (f1 gBits (f2 gXor (fVar 2) (fVar 3))))) (sSeq (sRet (fTup [(f2 gMul (f2 gDiv (fVar 2) (fVar 4)) (fVar 4)),(fVar 4)])) sNext))))
def m_least : List D -> Ou D := runD false 5 b_least
def b_cover : Sm := (sSeq (sOwn 1 (fLst [])) (sSeq (sSet 2 (fC (.int 0))) (sSeq (sSet 3 (fC (.int 1073741824))) (sSeq (whileF (fAsB (f2 gGt (fVar 3) (fC (.int 0)))) (sSeq (sIf (fAsB (f2 gLe (f2 gAdd (fVar 2) (fVar 3)) (fVar 0))) (sSeq (sApp 1 (fTup [(fVarS 2),(fVarS 3)])) (sSeq (sSet 2 (f2 gAdd (fVar 2) (fVar 3))) sNext)) sNext) (sSeq (sSet 3 (f2 gDiv (fVar 3) (fC (.int 2)))) sNext)) 40) (sSeq (sRetO 1) sNext)))))
def m_cover : List D -> Ou D := runD true 4 b_cover
def b_stretch_of : Sm := (sSeq (sRet (fTup [(f2 gIx (fVar 0) (fC (.int 0))),(f2 gIx (fVar 0) (fC (.int 1)))])) sNext)
def m_stretch_of : List D -> Ou D := runD false 1 b_stretch_of
def b_total_of : Sm := (sSeq (sRet (f2 gIx (fVar 0) (fC (.int 2)))) sNext)
def m_total_of : List D -> Ou D := runD false 1 b_total_of
def b_is_leaf : Sm := (sSeq (sRet (f2 gEq (f2 gIx (fVar 0) (fC (.int 1))) (fC (.int 1)))) sNext)
def m_is_leaf : List D -> Ou D := runD false 1 b_is_leaf
def b_parts : Sm := (sSeq (sRet (fLst [(f2 gIx (fVarS 0) (fC (.int 3))),(f2 gIx (fVarS 0) (fC (.int 4)))])) sNext)
def m_parts : List D -> Ou D := runD false 1 b_parts
def b_Kind__joined : Sm := (sSeq (sRet (f2 gAdd (fVar 1) (fVar 2))) sNext)
def m_Kind__joined : List D -> Ou D := runD false 3 b_Kind__joined
def b_Kind__nothing : Sm := (sSeq (sRet (fC (.int 0))) sNext)
def m_Kind__nothing : List D -> Ou D := runD false 1 b_Kind__nothing
def b_joined_lack : Sm := (sSeq (sRet (f2 gAdd (fVar 0) (fCall gMax [(fC (.int 0)),(f2 gSub (fVar 2) (fVar 1))]))) sNext)
def m_joined_lack : List D -> Ou D := runD false 3 b_joined_lack
def b_gone_in : Sm := (sSeq (sRet (f2 gSub (f2 gIx (fVar 0) (fC (.int 2))) (f2 gIx (fVar 0) (fC (.int 0))))) sNext)
def m_gone_in : List D -> Ou D := runD false 1 b_gone_in
def b_left_in : Sm := (sSeq (sRet (f2 gSub (f2 gIx (fVar 0) (fC (.int 1))) (fCall (m_gone_in) [(fVar 0)]))) sNext)
def m_left_in : List D -> Ou D := runD false 1 b_left_in
def b_Line__joined : Sm := (sSeq (sRet (fTup [(fCall (m_joined_lack) [(f2 gIx (fVar 1) (fC (.int 0))),(fCall (m_left_in) [(fVar 1)]),(f2 gIx (fVar 2) (fC (.int 0)))]),(f2 gAdd (f2 gIx (fVar 1) (fC (.int 1))) (f2 gIx (fVar 2) (fC (.int 1)))),(f2 gAdd (f2 gIx (fVar 1) (fC (.int 2))) (f2 gIx (fVar 2) (fC (.int 2))))])) sNext)
def m_Line__joined : List D -> Ou D := runD false 3 b_Line__joined
def b_Line__nothing : Sm := (sSeq (sRet (fTup [(fC (.int 0)),(fC (.int 0)),(fC (.int 0))])) sNext)
def m_Line__nothing : List D -> Ou D := runD false 1 b_Line__nothing
def b_Pile__joined : Sm := (sSeq (sRet (fTup [(fCall (m_joined_lack) [(f2 gIx (fVar 1) (fC (.int 0))),(f2 gIx (fVar 1) (fC (.int 1))),(f2 gIx (fVar 2) (fC (.int 0)))]),(f2 gAdd (f2 gIx (fVar 2) (fC (.int 1))) (fCall gMax [(fC (.int 0)),(f2 gSub (f2 gIx (fVar 1) (fC (.int 1))) (f2 gIx (fVar 2) (fC (.int 0))))]))])) sNext)
def m_Pile__joined : List D -> Ou D := runD false 3 b_Pile__joined
def b_Pile__nothing : Sm := (sSeq (sRet (fTup [(fC (.int 0)),(fC (.int 0))])) sNext)
def m_Pile__nothing : List D -> Ou D := runD false 1 b_Pile__nothing
def b_row_total : Sm := (sSeq (sSet 2 (fMeth [("Kind",m_Kind__nothing),("Line",m_Line__nothing),("Pile",m_Pile__nothing)] (fVarS 0) [])) (sSeq (sFor (fVarS 1) (gNm 3) (sSeq (sSet 2 (fMeth [("Kind",m_Kind__joined),("Line",m_Line__joined),("Pile",m_Pile__joined)] (fVarS 0) [(fVarS 2),(fCall (m_total_of) [(fVarS 3)])])) sNext)) (sSeq (sRet (fVar 2)) sNext)))
def m_row_total : List D -> Ou D := runD false 4 b_row_total
def b_Kind__lone : Sm := (sSeq (sRet (fC (.int 1))) sNext)
def m_Kind__lone : List D -> Ou D := runD false 3 b_Kind__lone
def b_puts_of : Sm := (sSeq (sRet (fIfE (fAsB (f2 gEq (f2 gIx (fVar 0) (fC (.int 0))) (fC (.str "put")))) (fC (.int 1)) (fC (.int 0)))) sNext)
def m_puts_of : List D -> Ou D := runD false 1 b_puts_of
def b_takes_of : Sm := (sSeq (sRet (fIfE (fAsB (f2 gEq (f2 gIx (fVar 0) (fC (.int 0))) (fC (.str "take")))) (fC (.int 1)) (fC (.int 0)))) sNext)
def m_takes_of : List D -> Ou D := runD false 1 b_takes_of
def b_Line__lone : Sm := (sSeq (sRet (fTup [(fCall (m_takes_of) [(fVar 2)]),(fCall (m_puts_of) [(fVar 2)]),(fCall (m_takes_of) [(fVar 2)])])) sNext)
def m_Line__lone : List D -> Ou D := runD false 3 b_Line__lone
def b_Pile__lone : Sm := (sSeq (sRet (fTup [(fCall (m_takes_of) [(fVar 2)]),(fCall (m_puts_of) [(fVar 2)])])) sNext)
def m_Pile__lone : List D -> Ou D := runD false 3 b_Pile__lone
def b_leaf : Sm := (sSeq (sRet (fTup [(fVar 1),(fC (.int 1)),(fMeth [("Kind",m_Kind__lone),("Line",m_Line__lone),("Pile",m_Pile__lone)] (fVar 0) [(fVar 1),(fVar 2)]),(fVar 2)])) sNext)
def m_leaf : List D -> Ou D := runD false 3 b_leaf
def b_knot : Sm := (sSeq (sSet 3 (fCall (m_least) [(fCall (m_stretch_of) [(fVarS 1)]),(fCall (m_stretch_of) [(fVarS 2)])])) (sSeq (sSet 4 (fMeth [("Kind",m_Kind__joined),("Line",m_Line__joined),("Pile",m_Pile__joined)] (fVarS 0) [(fCall (m_total_of) [(fVarS 1)]),(fCall (m_total_of) [(fVarS 2)])])) (sSeq (sRet (fTup [(f2 gIx (fVar 3) (fC (.int 0))),(f2 gIx (fVar 3) (fC (.int 1))),(fVar 4),(fVar 1),(fVar 2)])) sNext)))
def m_knot : List D -> Ou D := runD false 5 b_knot
def b_beside : Sm := (sSeq (sIf (fAsB (f2 gLt (f2 gIx (fVar 2) (fC (.int 0))) (f2 gIx (fVar 1) (fC (.int 0))))) (sSeq (sRet (fCall (m_knot) [(fVar 0),(fVar 2),(fVar 1)])) sNext) sNext) (sSeq (sRet (fCall (m_knot) [(fVar 0),(fVar 1),(fVar 2)])) sNext))
def m_beside : List D -> Ou D := runD false 3 b_beside
def b_is_early : Sm := (sSeq (sRet (fCall (m_holds) [(f2 gIx (fCall (m_halves) [(fCall (m_stretch_of) [(fVar 0)])]) (fC (.int 0))),(fVar 1)])) sNext)
def m_is_early : List D -> Ou D := runD false 2 b_is_early
def b_put_in (r_put_in : List D -> Ou D) : Sm := (sSeq (sIf (fAsB (f1 gIsN (fVar 1))) (sSeq (sRet (fCall (m_leaf) [(fVar 0),(fVar 2),(fVar 3)])) sNext) sNext) (sSeq (sIf (fNotT (fTru (fCall (m_holds) [(fCall (m_stretch_of) [(fVar 1)]),(fVar 2)]))) (sSeq (sRet (fCall (m_beside) [(fVar 0),(fVar 1),(fCall (m_leaf) [(fVar 0),(fVar 2),(fVar 3)])])) sNext) sNext) (sSeq (sIf (fTru (fCall (m_is_leaf) [(fVar 1)])) (sSeq sBad sNext) sNext) (sSeq (sIf (fTru (fCall (m_is_early) [(fVar 1),(fVar 2)])) (sSeq (sRet (fCall (m_knot) [(fVar 0),(fCall (r_put_in) [(fVar 0),(f2 gIx (fVar 1) (fC (.int 3))),(fVar 2),(fVar 3)]),(f2 gIx (fVar 1) (fC (.int 4)))])) sNext) sNext) (sSeq (sRet (fCall (m_knot) [(fVar 0),(f2 gIx (fVar 1) (fC (.int 3))),(fCall (r_put_in) [(fVar 0),(f2 gIx (fVar 1) (fC (.int 4))),(fVar 2),(fVar 3)])])) sNext)))))
def m_put_in : Nat -> List D -> Ou D
 | 0,_ => .bad
 | n + 1,ds => runD false 4 (b_put_in (m_put_in n)) ds
def b_number_put : Sm := (sSeq (sRet (fIfE (fAsB (f1 gIsN (fVar 0))) (fC .non) (f2 gIx (f2 gIx (fVar 0) (fC (.int 3))) (fC (.int 1))))) sNext)
def m_number_put : List D -> Ou D := runD false 1 b_number_put
def b_put_behind (r_put_behind : List D -> Ou D) : Sm := (sSeq (sSet 2 (fVarS 1)) (sSeq (sFor (fVarS 0) (gNm 3) (sSeq (sSet 4 (f2 gIx (fCall (m_total_of) [(fVarS 3)]) (fC (.int 1)))) (sSeq (sIf (fAsB (f2 gLt (fVar 2) (fVar 4))) (sSeq (sRet (fIfE (fTru (fCall (m_is_leaf) [(fVar 3)])) (fVar 3) (fCall (r_put_behind) [(fCall (m_parts) [(fVar 3)]),(fVar 2)]))) sNext) sNext) (sSeq (sSet 2 (f2 gSub (fVar 2) (fVar 4))) sNext)))) (sSeq (sRet (fC .non)) sNext)))
def m_put_behind : Nat -> List D -> Ou D
 | 0,_ => .bad
 | n + 1,ds => runD false 5 (b_put_behind (m_put_behind n)) ds
def b_one_step_down : Sm := (sSeq (sIf (fTru (fCall (m_is_leaf) [(fVar 0)])) (sSeq (sRet (fC .non)) sNext) sNext) (sSeq (sSet 2 (fCall (m_halves) [(fCall (m_stretch_of) [(fVarS 0)])])) (sSeq (sIf (fTru (fCall (m_within) [(fVar 1),(f2 gIx (fVar 2) (fC (.int 0)))])) (sSeq (sRet (f2 gIx (fVar 0) (fC (.int 3)))) sNext) sNext) (sSeq (sIf (fTru (fCall (m_within) [(fVar 1),(f2 gIx (fVar 2) (fC (.int 1)))])) (sSeq (sRet (f2 gIx (fVar 0) (fC (.int 4)))) sNext) sNext) (sSeq (sRet (fC .non)) sNext)))))
def m_one_step_down : List D -> Ou D := runD false 3 b_one_step_down
def b_inside : Sm := (sSeq (sSet 2 (fVarS 0)) (sSeq (whileF (fAndT (fAsB (f1 gNotN (fVar 2))) (fNotT (fTru (fCall (m_within) [(fCall (m_stretch_of) [(fVar 2)]),(fVar 1)])))) (sSeq (sSet 2 (fCall (m_one_step_down) [(fVarS 2),(fVarS 1)])) sNext) 40) (sSeq (sRet (fVar 2)) sNext)))
def m_inside : List D -> Ou D := runD false 3 b_inside
def b_ahead : Sm := (sSeq (sSet 2 (fComp (fItems (fCall (m_cover) [(fVarS 1)])) (gNm 0) fYes (fCall (m_inside) [(fVarS 1),(fVarS 0)]) 1 [0])) (sSeq (sRet (fComp (fItems (fVarS 2)) (gNm 0) (fAsB (f1 gNotN (fVar 0))) (fVarS 0) 1 [])) sNext))
def m_ahead : List D -> Ou D := runD true 3 b_ahead
def b_put_below (r_put_below : List D -> Ou D) : Sm := (sSeq (sSet 2 (fVarS 1)) (sSeq (sForV (fVarS 0) (gNm 3) (sSeq (sSet 4 (fCall (m_total_of) [(fVarS 3)])) (sSeq (sIf (fAsB (f2 gLt (fVar 2) (f2 gIx (fVar 4) (fC (.int 1))))) (sSeq (sRet (fIfE (fTru (fCall (m_is_leaf) [(fVar 3)])) (fVar 3) (fCall (r_put_below) [(fCall (m_parts) [(fVar 3)]),(fVar 2)]))) sNext) sNext) (sSeq (sSet 2 (f2 gAdd (f2 gSub (fVar 2) (f2 gIx (fVar 4) (fC (.int 1)))) (f2 gIx (fVar 4) (fC (.int 0))))) sNext)))) (sSeq (sRet (fC .non)) sNext)))
def m_put_below : Nat -> List D -> Ou D
 | 0,_ => .bad
 | n + 1,ds => runD false 5 (b_put_below (m_put_below n)) ds
def b__law_cell_at : Sm := (sSeq (sIf (fAsB (f2 gLt (fVar 1) (fCall gLen [(fVar 0)]))) (sSeq (sRet (f2 gIx (fVar 0) (fVar 1))) sNext) sNext) (sSeq (sRet (fC (.int 0))) sNext))
def m__law_cell_at : List D -> Ou D := runD false 2 b__law_cell_at
def b__law_whole : Sm := (sSeq (sRet (fAndV (f1 (gIs "int") (fVar 0)) (fNotV (f1 (gIs "bool") (fVar 0))))) sNext)
def m__law_whole : List D -> Ou D := runD false 1 b__law_whole
def b__law_number : Sm := (sSeq (sSet 2 (f2 gMod (fVar 0) (fC (.int 4)))) (sSeq (sIf (fAsB (f2 gEq (fVar 2) (fC (.int 0)))) (sSeq (sRet (f2 gSub (f2 gMod (f2 gAdd (f2 gDiv (fVar 0) (fC (.int 4))) (f2 gMul (f2 gMul (fC (.int 17)) (fVar 1)) (fVar 1))) (fC (.int 101))) (fC (.int 50)))) sNext) sNext) (sSeq (sIf (fAsB (f2 gEq (fVar 2) (fC (.int 1)))) (sSeq (sRet (f2 gSub (f2 gMod (f2 gDiv (fVar 0) (fC (.int 4))) (f2 gMul (fC (.int 2)) (f2 gPow (fC (.int 10)) (fC (.int 30))))) (f2 gPow (fC (.int 10)) (fC (.int 30))))) sNext) sNext) (sSeq (sIf (fAsB (f2 gEq (fVar 2) (fC (.int 2)))) (sSeq (sRet (f2 gSub (f2 gMod (f2 gDiv (fVar 0) (fC (.int 4))) (fC (.int 5))) (fC (.int 2)))) sNext) sNext) (sSeq (sRet (f2 gMod (f2 gDiv (fVar 0) (fC (.int 4))) (f2 gPow (fC (.int 10)) (fC (.int 60))))) sNext)))))
def m__law_number : List D -> Ou D := runD false 3 b__law_number
def b__law_deed : Sm := (sSeq (sSet 3 (f2 gMod (fVar 0) (fC (.int 8)))) (sSeq (sIf (fAsB (f2 gLt (fVar 3) (f2 gAdd (fC (.int 3)) (fVar 2)))) (sSeq (sRet (fTup [(fC (.str "put")),(fCall (m__law_number) [(f2 gDiv (fVar 0) (fC (.int 8))),(fVar 1)])])) sNext) sNext) (sSeq (sIf (fAsB (f2 gLt (fVar 3) (fC (.int 6)))) (sSeq (sRet (fTup [(fC (.str "take"))])) sNext) sNext) (sSeq (sIf (fAsB (f2 gEq (fVar 3) (fC (.int 7)))) (sSeq (sRet (fTup [(fC (.str "many"))])) sNext) sNext) (sSeq (sIf (fAsB (f2 gEq (f2 gMod (f2 gDiv (fVar 0) (fC (.int 8))) (fC (.int 3))) (fC (.int 2)))) (sSeq (sRet (fTup [(fC (.str "look")),(f2 gMod (f2 gDiv (fVar 0) (fC (.int 24))) (f2 gPow (fC (.int 10)) (fC (.int 60))))])) sNext) sNext) (sSeq (sRet (fTup [(fC (.str "look")),(f2 gMod (f2 gAdd (f2 gDiv (fVar 0) (fC (.int 24))) (fVar 1)) (fC (.int 7)))])) sNext))))))
def m__law_deed : List D -> Ou D := runD false 4 b__law_deed
def b__law_times : Sm := (sSeq (sSet 2 (f2 gIx (fLst [(fC (.int 1)),(fC (.int 5)),(fC (.int 16777216))]) (f2 gMod (fVar 1) (fC (.int 3))))) (sSeq (sOwn 3 (fLst [])) (sSeq (sSet 4 (fC (.int 0))) (sSeq (sRng [(fCall gLen [(fVar 0)])] (gNm 5) (sSeq (sApp 3 (fVarS 4)) (sSeq (sSet 4 (f2 gAdd (f2 gAdd (fVar 4) (fC (.int 1))) (f2 gMod (f2 gAdd (f2 gDiv (f2 gIx (fVar 0) (fVar 5)) (fC (.int 3))) (f2 gIx (fVar 0) (f2 gSub (fVar 5) (fC (.int 1))))) (fVar 2)))) sNext))) (sSeq (fun δ => (sIf (fAsB (f2 gEq (fVar 3) (fLst []))) (sSeq (sRet (fLst [])) sNext) sNext) (thaw 3 δ)) (sSeq (sSet 6 (f2 gMod (f2 gDiv (fVar 1) (fC (.int 3))) (f2 gSub (fC (.int 1073741824)) (f2 gIx (fVar 3) (f1 gNeg (fC (.int 1))))))) (sSeq (sRet (fComp (fItems (fVarS 3)) (gNm 0) fYes (f2 gAdd (fVar 1) (fVar 0)) 1 [6])) sNext)))))))
def m__law_times : List D -> Ou D := runD false 7 b__law_times
def b__law_row : Sm := (sSeq (sSet 1 (fSl (fVarS 0) (some (fC (.int 1))) (some (fC (.int 63))))) (sSeq (sSet 2 (f2 gMod (f2 gDiv (fCall (m__law_cell_at) [(fVar 0),(fC (.int 0))]) (fC (.int 7))) (fC (.int 3)))) (sSeq (sSet 3 (fCall (m__law_times) [(fVarS 1),(fCall (m__law_cell_at) [(fVarS 0),(fC (.int 0))])])) (sSeq (sRet (fComp (fRange [(fCall gLen [(fVar 1)])]) (gNm 0) fYes (fTup [(f2 gIx (fVarS 1) (fVar 0)),(fCall (m__law_deed) [(f2 gIx (fVarS 2) (fVar 0)),(fVarS 0),(fVarS 3)])]) 1 [3,1,2])) sNext))))
def m__law_row : List D -> Ou D := runD false 4 b__law_row
def fl__law_order : Fn := (fComp (fRange [(fVar 1)]) (gNm 0) fYes (fVarS 0) 1 [])
def fb__law_order : Fn := (f2 gMod (f2 gAdd (f2 gMul (fCall (m__law_cell_at) [(fVar 1),(fVar 0)]) (fC (.int 48271))) (f2 gMul (f2 gMul (fVar 0) (fVar 0)) (fC (.int 7919)))) (fC (.int 65537)))
def mo__law_order : List D -> Ou (List Int) := mOrd 2 0 fl__law_order fb__law_order
noncomputable def b__law_tree : Sm := (sSeq (sSet 3 (fC .non)) (sSeq (sForP [(fVar 2),(fCall gLen [(fVar 1)])] mo__law_order (gNm 4) (sSeq (sSet 3 (fCall (m_put_in 64) [(fVarS 0),(fVarS 3),(f2 gIx (f2 gIx (fVarS 1) (fVar 4)) (fC (.int 0))),(f2 gIx (f2 gIx (fVarS 1) (fVar 4)) (fC (.int 1)))])) sNext) 4) (sSeq (sRet (fVar 3)) sNext)))
noncomputable def m__law_tree : List D -> Ou D := runD false 5 b__law_tree
def b__law_end : Sm := (sSeq (sSet 2 (f2 gMod (fVar 1) (fC (.int 4)))) (sSeq (sIf (fOrT (fAsB (f2 gEq (fVar 2) (fC (.int 3)))) (fAsB (f2 gEq (fVar 0) (fLst [])))) (sSeq (sRet (f2 gMod (f2 gDiv (fVar 1) (fC (.int 4))) (fC (.int 1073741825)))) sNext) sNext) (sSeq (sRet (f2 gAdd (f2 gIx (f2 gIx (fVar 0) (f2 gMod (f2 gDiv (fVar 1) (fC (.int 4))) (fCall gLen [(fVar 0)]))) (fC (.int 0))) (f2 gMod (fVar 2) (fC (.int 2))))) sNext)))
def m__law_end : List D -> Ou D := runD false 3 b__law_end
def b__law_stood : Sm := (sSeq (sOwn 3 (fLst [])) (sSeq (sFor (fVarS 0) (gNm2 4 5) (sSeq (sIf (fAndT (fAsB (f2 gLt (fVar 4) (fVar 1))) (fAsB (f2 gEq (f2 gIx (fVar 5) (fC (.int 0))) (fC (.str "put"))))) (sSeq (sApp 3 (f2 gIx (fVarS 5) (fC (.int 1)))) sNext) sNext) (sSeq (sIf (fAndT (fAsB (f2 gLt (fVar 4) (fVar 1))) (fAndT (fAsB (f2 gEq (f2 gIx (fVar 5) (fC (.int 0))) (fC (.str "take")))) (fTru (fVar 2)))) (sSeq (sOwn 3 (fSlO 3 (some (fC (.int 1))) none)) sNext) (sSeq (sIf (fAndT (fAsB (f2 gLt (fVar 4) (fVar 1))) (fAsB (f2 gEq (f2 gIx (fVar 5) (fC (.int 0))) (fC (.str "take"))))) (sSeq (sOwn 3 (fSlO 3 none (some (f1 gNeg (fC (.int 1)))))) sNext) sNext) sNext)) sNext))) (sSeq (sRetO 3) sNext)))
def m__law_stood : List D -> Ou D := runD true 6 b__law_stood
def b__law_alike : Sm := (sSeq (sIf (fOrT (fNotT (fTru (f1 (gIs "list") (fVar 0)))) (fAsB (f2 gNe (fCall gLen [(fVar 0)]) (fCall gLen [(fVar 1)])))) (sSeq (sRet (fC (.bl false))) sNext) sNext) (sSeq (sRng [(fCall gLen [(fVar 1)])] (gNm 2) (sSeq (sIf (fOrT (fNotT (fTru (fCall (m__law_whole) [(f2 gIx (fVar 0) (fVar 2))]))) (fAsB (f2 gNe (f2 gIx (fVar 0) (fVar 2)) (f2 gIx (fVar 1) (fVar 2))))) (sSeq (sRet (fC (.bl false))) sNext) sNext) sNext)) (sSeq (sRet (fC (.bl true))) sNext)))
def m__law_alike : List D -> Ou D := runD false 3 b__law_alike
def b_Kind__stand : Sm := (sSeq (sRet (fLst [])) sNext)
def m_Kind__stand : List D -> Ou D := runD true 2 b_Kind__stand
def b_Line__stand : Sm := (sSeq (sSet 2 (fCall (m_row_total) [(fVarS 0),(fVarS 1)])) (sSeq (sRet (fComp (fRange [(fCall (m_gone_in) [(fVar 2)]),(f2 gIx (fVar 2) (fC (.int 1)))]) (gNm 0) fYes (fCall (m_number_put) [(fCall (m_put_behind 64) [(fVarS 1),(fVarS 0)])]) 1 [1])) sNext))
def m_Line__stand : List D -> Ou D := runD true 3 b_Line__stand
def b_Pile__stand : Sm := (sSeq (sSet 2 (f2 gIx (fCall (m_row_total) [(fVarS 0),(fVarS 1)]) (fC (.int 1)))) (sSeq (sRet (fComp (fRangeD [(f2 gSub (fVar 2) (fC (.int 1))),(f1 gNeg (fC (.int 1))),(f1 gNeg (fC (.int 1)))]) (gNm 0) fYes (fCall (m_number_put) [(fCall (m_put_below 64) [(fVarS 1),(fVarS 0)])]) 1 [1])) sNext))
def m_Pile__stand : List D -> Ou D := runD true 3 b_Pile__stand
def b__law_told_well : Sm := (sSeq (sIf (fNotT (fTru (fCall (m__law_alike) [(fMeth [("Kind",m_Kind__stand),("Line",m_Line__stand),("Pile",m_Pile__stand)] (fVarS 0) [(fLst [])]),(fLst [])]))) (sSeq (sRet (fC (.bl false))) sNext) sNext) (sNest 5 (fItems (fVarS 3)) (gNm 0) fYes (fMeth [("Kind",m_Kind__stand),("Line",m_Line__stand),("Pile",m_Pile__stand)] (fVarS 1) [(fCall (m_ahead) [(fVarS 2),(fVarS 0)])]) 1 [0,1] (nSeq (nRng 6 (fCall gLen [(fVar 3)]) (nSeq (nSet 7 (fCall (m__law_stood) [(fVarS 2),(f2 gIx (fVarS 3) (fVar 6)),(fVarS 4)])) (nSeq (nIf 5 (fNotT (fTru (fCall (m__law_alike) [(f2 gIx (fVar 5) (fVar 6)),(fVar 7)]))) (nSeq (nRet (fC (.bl false))) nNext) nNext) (nSeq (nApp (fVar 6) (fC (.int 7))) (nSeq (nPut (fVar 6) (fC (.int 0)) (fC (.int 5))) (nSeq (nSet 8 (fCall (m_ahead) [(fVarS 1),(f2 gIx (fVarS 3) (fVar 6))])) (nSeq (nSet 9 (f1 gListOf (fVarS 8))) (nSeq (nIf 5 (fOrT (fNotT (fTru (fCall (m__law_alike) [(fMeth [("Kind",m_Kind__stand),("Line",m_Line__stand),("Pile",m_Pile__stand)] (fVarS 0) [(fVarS 8)]),(fVar 7)]))) (fAsB (f2 gNe (fVar 8) (fVar 9)))) (nSeq (nRet (fC (.bl false))) nNext) nNext) nNext)))))))) (nSeq (nRet (fC (.bl true))) nNext))))
def m__law_told_well : List D -> Ou D := runD false 10 b__law_told_well
noncomputable def b_law : Sm := (sSeq (sSet 1 (fSl (fCall (m__law_row) [(fVarS 0)]) none (some (fC (.int 40))))) (sSeq (sSet 2 (fMake0 "Pile")) (sSeq (sSet 3 (fMake0 "Line")) (sSeq (sOwn 4 (fLst [(fC (.int 0)),(fC (.int 1073741824))])) (sSeq (sRng [(fC (.int 6))] (gNm 5) (sSeq (sApp 4 (fCall (m__law_end) [(fVarS 1),(f2 gAdd (fCall (m__law_cell_at) [(fVar 0),(fVar 5)]) (f2 gMul (fC (.int 5)) (fVar 5)))])) sNext)) (sSeq (fun δ => (sIfL (fNotT (fTru (fCall (m__law_told_well) [(fVar 2),(fCall (m__law_tree) [(fVar 2),(fVar 1),(fVar 0)]),(fVar 1),(fVar 4),(fC (.bl false))]))) (sSeq (sRet (fC (.bl false))) sNext) sNext) (thaw 4 δ)) (sSeq (sRetL (fCall (m__law_told_well) [(fVar 3),(fCall (m__law_tree) [(fVar 3),(fVar 1),(fVar 0)]),(fVar 1),(fVar 4),(fC (.bl true))])) sNext)))))))
noncomputable def m_law : List D -> Ou D := runD false 6 b_law
structure Rc (P : Program) (w : World) (K : PySem.W.Frag) (mg : Str -> Option Value) (base : Heap) (C_Kind C_Line C_Pile cL T : Addr) (u_ALL_TIMES : Value) : Prop where
 q0 : Ck K C_Kind "Kind"
 q1 : Ck K C_Line "Line"
 q2 : Ck K C_Pile "Pile"
 k0 : Mk0 K C_Line ∧ PySem.W.nsIn K mainGlobals "Line" = some (some (.ref C_Line)) ∧ mg "Line" = some (.ref C_Line)
 k1 : Mk0 K C_Pile ∧ PySem.W.nsIn K mainGlobals "Pile" = some (some (.ref C_Pile)) ∧ mg "Pile" = some (.ref C_Pile)
 t0 : Sr0 K mg "last_time" s_last_time
 t1 : Sr0 K mg "holds" s_holds
 t2 : Sr0 K mg "within" s_within
 t3 : Sr0 K mg "halves" s_halves
 t4 : Sr0 K mg "least" s_least
 t5 : Sr0 K mg "cover" s_cover
 t6 : Sr0 K mg "stretch_of" s_stretch_of
 t7 : Sr0 K mg "total_of" s_total_of
 t8 : Sr0 K mg "is_leaf" s_is_leaf
 t9 : Sr0 K mg "parts" s_parts
 t12 : Sr0 K mg "joined_lack" s_joined_lack
 t13 : Sr0 K mg "gone_in" s_gone_in
 t14 : Sr0 K mg "left_in" s_left_in
 t19 : Sr0 K mg "row_total" s_row_total
 t21 : Sr0 K mg "puts_of" s_puts_of
 t22 : Sr0 K mg "takes_of" s_takes_of
 t25 : Sr0 K mg "leaf" s_leaf
 t26 : Sr0 K mg "knot" s_knot
 t27 : Sr0 K mg "beside" s_beside
 t28 : Sr0 K mg "is_early" s_is_early
 t29 : Sr0 K mg "put_in" s_put_in
 t30 : Sr0 K mg "number_put" s_number_put
 t31 : Sr0 K mg "put_behind" s_put_behind
 t32 : Sr0 K mg "one_step_down" s_one_step_down
 t33 : Sr0 K mg "inside" s_inside
 t34 : Sr0 K mg "ahead" s_ahead
 t35 : Sr0 K mg "put_below" s_put_below
 t36 : Sr0 K mg "_law_cell_at" s__law_cell_at
 t37 : Sr0 K mg "_law_whole" s__law_whole
 t38 : Sr0 K mg "_law_number" s__law_number
 t39 : Sr0 K mg "_law_deed" s__law_deed
 t40 : Sr0 K mg "_law_times" s__law_times
 t41 : Sr0 K mg "_law_row" s__law_row
 t42 : Sr0 K mg "_law_order" s__law_order
 t43 : Sr0 K mg "_law_tree" s__law_tree
 t44 : Sr0 K mg "_law_end" s__law_end
 t45 : Sr0 K mg "_law_stood" s__law_stood
 t46 : Sr0 K mg "_law_alike" s__law_alike
 t50 : Sr0 K mg "_law_told_well" s__law_told_well
 t51 : Sr0 K mg "law" s_law
 m0 : Ms0 K C_Kind "joined" "Kind.joined" s_Kind__joined
 m1 : Ms0 K C_Kind "lone" "Kind.lone" s_Kind__lone
 m2 : Ms0 K C_Kind "nothing" "Kind.nothing" s_Kind__nothing
 m3 : Ms0 K C_Kind "stand" "Kind.stand" s_Kind__stand
 m4 : Ms0 K C_Line "joined" "Line.joined" s_Line__joined
 m5 : Ms0 K C_Line "lone" "Line.lone" s_Line__lone
 m6 : Ms0 K C_Line "nothing" "Line.nothing" s_Line__nothing
 m7 : Ms0 K C_Line "stand" "Line.stand" s_Line__stand
 m8 : Ms0 K C_Pile "joined" "Pile.joined" s_Pile__joined
 m9 : Ms0 K C_Pile "lone" "Pile.lone" s_Pile__lone
 m10 : Ms0 K C_Pile "nothing" "Pile.nothing" s_Pile__nothing
 m11 : Ms0 K C_Pile "stand" "Pile.stand" s_Pile__stand
 z_bool : mg "bool" = none
 z_int : mg "int" = none
 z_isinstance : mg "isinstance" = none
 z_len : mg "len" = none
 z_list : mg "list" = none
 z_max : mg "max" = none
 z_min : mg "min" = none
 z_range : mg "range" = none
 z_reversed : mg "reversed" = none
 z_sorted : mg "sorted" = none
 c0 : mg "ALL_TIMES" = some u_ALL_TIMES ∧ L2.RelV (toV (.int 1073741824)) u_ALL_TIMES
 cd : ∀ f fd,mg "_law_order" = some (.ref f) -> (∃ oc od sl,K.lookup f = some ⟨oc,od,.func fd,sl⟩) -> fd.code = .ref cL
section
variable {P : Program} {w : World} {K : PySem.W.Frag} {mg : Str -> Option Value} {base : Heap} {C_Kind C_Line C_Pile cL T : Addr} {u_ALL_TIMES : Value} (R : Rc P w K mg base C_Kind C_Line C_Pile cL T u_ALL_TIMES)
include R
theorem df_last_time : Df P w K mg base "last_time" 1 ["stretch"] false m_last_time := df_mk (N := ["stretch"]) (F := b_last_time) R.t0 fun nd hr => by
 exact (by refine xs_cons ?_ ?_; exact (xs_ret (xop od_sub (xop od_add (xix (xv 0) xint) (xix (xv 0) xint)) xint)); exact xs_nil)
theorem df_holds : Df P w K mg base "holds" 2 ["stretch","number"] false m_holds := df_mk (N := ["stretch","number"]) (F := b_holds) R.t1 fun nd hr => by
 exact (by refine xs_cons ?_ ?_; exact (xs_ret (xchn od_le od_le (xix (xv 0) xint) (xv 1) (xcl (df_last_time R) hr (xa_cons (xv 0) xa_nil)))); exact xs_nil)
theorem df_within : Df P w K mg base "within" 3 ["one","other"] false m_within := df_mk (N := ["one","other"]) (F := b_within) R.t2 fun nd hr => by
 exact (by refine xs_cons ?_ ?_; exact (xs_ret (xand (xcl (df_holds R) hr (xa_cons (xv 1) (xa_cons (xix (xv 0) xint) xa_nil))) (xone (xcl (df_holds R) hr (xa_cons (xv 1) (xa_cons (xcl (df_last_time R) hr (xa_cons (xv 0) xa_nil)) xa_nil)))))); exact xs_nil)
theorem df_halves : Df P w K mg base "halves" 1 ["stretch"] false m_halves := df_mk (N := ["stretch","low","half"]) (F := b_halves) R.t3 fun nd hr => by
 exact (by refine xs_cons ?_ ?_; exact (xs_set 1 nd (xix (xvS 0) xint)); exact (by refine xs_cons ?_ ?_; exact (xs_set 2 nd (xop od_div (xix (xv 0) xint) xint)); exact (by refine xs_cons ?_ ?_; exact (xs_ret (xtup (xa_cons (xtup (xa_cons (xv 1) (xa_cons (xv 2) xa_nil))) (xa_cons (xtup (xa_cons (xop od_add (xv 1) (xv 2)) (xa_cons (xv 2) xa_nil))) xa_nil)))); exact xs_nil)))
theorem df_least : Df P w K mg base "least" 2 ["one","other"] false m_least := df_mk (N := ["one","other","first","last","size"]) (F := b_least) R.t4 fun nd hr => by
 exact (by refine xs_cons ?_ ?_; exact (xs_set 2 nd (xb cd_min R.z_min (xa_cons (xix (xv 0) xint) (xa_cons (xix (xv 1) xint) xa_nil)))); exact (by refine xs_cons ?_ ?_; exact (xs_set 3 nd (xb cd_max R.z_max (xa_cons (xcl (df_last_time R) hr (xa_cons (xv 0) xa_nil)) (xa_cons (xcl (df_last_time R) hr (xa_cons (xv 1) xa_nil)) xa_nil)))); exact (by refine xs_cons ?_ ?_; exact (xs_set 4 nd (xop od_shl xint (xbits (xop od_xor (xv 2) (xv 3))))); exact (by refine xs_cons ?_ ?_; exact (xs_ret (xtup (xa_cons (xop od_mul (xop od_div (xv 2) (xv 4)) (xv 4)) (xa_cons (xv 4) xa_nil)))); exact xs_nil))))
theorem df_cover : Df P w K mg base "cover" 1 ["end"] true m_cover := df_mk (N := ["end","parts","low","size"]) (F := b_cover) R.t5 fun nd hr => by
 exact (by refine xs_cons ?_ ?_; exact (xs_own 1 nd (xlst xa_nil)); exact (by refine xs_cons ?_ ?_; exact (xs_set 2 nd xint); exact (by refine xs_cons ?_ ?_; exact (xs_set 3 nd (xglob R.c0.1 R.c0.2)); exact (by refine xs_cons ?_ ?_; exact (xs_while 40 PassesOwn.never (xt_cmp od_gt (xv 3) xint (nomark _)) (by refine xs_cons ?_ ?_; exact (xs_if (xt_cmp od_le (xop od_add (xv 2) (xv 3)) (xv 0) (nomark _)) (by refine xs_cons ?_ ?_; exact (xs_app 1 (xtup (xa_cons (xvS 2) (xa_cons (xvS 3) xa_nil)))); exact (by refine xs_cons ?_ ?_; exact (xs_set 2 nd (xop od_add (xv 2) (xv 3))); exact xs_nil)) xs_nil); exact (by refine xs_cons ?_ ?_; exact (xs_set 3 nd (xop od_div (xv 3) xint)); exact xs_nil))); exact (by refine xs_cons ?_ ?_; exact (xs_retO 1); exact xs_nil)))))
theorem df_stretch_of : Df P w K mg base "stretch_of" 1 ["tree"] false m_stretch_of := df_mk (N := ["tree"]) (F := b_stretch_of) R.t6 fun nd hr => by
 exact (by refine xs_cons ?_ ?_; exact (xs_ret (xtup (xa_cons (xix (xv 0) xint) (xa_cons (xix (xv 0) xint) xa_nil)))); exact xs_nil)
theorem df_total_of : Df P w K mg base "total_of" 1 ["tree"] false m_total_of := df_mk (N := ["tree"]) (F := b_total_of) R.t7 fun nd hr => by
 exact (by refine xs_cons ?_ ?_; exact (xs_ret (xix (xv 0) xint)); exact xs_nil)
theorem df_is_leaf : Df P w K mg base "is_leaf" 1 ["tree"] false m_is_leaf := df_mk (N := ["tree"]) (F := b_is_leaf) R.t8 fun nd hr => by
 exact (by refine xs_cons ?_ ?_; exact (xs_ret (xcmp (od_eq hr.units) (xix (xv 0) xint) xint (nomark _))); exact xs_nil)
theorem df_parts : Df P w K mg base "parts" 1 ["tree"] false m_parts := df_mk (N := ["tree"]) (F := b_parts) R.t9 fun nd hr => by
 exact (by refine xs_cons ?_ ?_; exact (xs_ret (toW (m := .F) (xlst (xa_cons (xix (xvS 0) xint) (xa_cons (xix (xvS 0) xint) xa_nil))))); exact xs_nil)
theorem hm_Kind_joined : MDf P w K mg base "Kind" "joined" 1 ["self","one","other"] false m_Kind__joined := mdf_mk (N := ["self","one","other"]) (F := b_Kind__joined) R.q0 R.m0 fun nd hr => by
 exact (by refine xs_cons ?_ ?_; exact (xs_ret (xop od_add (xv 1) (xv 2))); exact xs_nil)
theorem hm_Kind_nothing : MDf P w K mg base "Kind" "nothing" 1 ["self"] false m_Kind__nothing := mdf_mk (N := ["self"]) (F := b_Kind__nothing) R.q0 R.m2 fun nd hr => by
 exact (by refine xs_cons ?_ ?_; exact (xs_ret xint); exact xs_nil)
theorem df_joined_lack : Df P w K mg base "joined_lack" 1 ["lack","left","next_lack"] false m_joined_lack := df_mk (N := ["lack","left","next_lack"]) (F := b_joined_lack) R.t12 fun nd hr => by
 exact (by refine xs_cons ?_ ?_; exact (xs_ret (xop od_add (xv 0) (xb cd_max R.z_max (xa_cons xint (xa_cons (xop od_sub (xv 2) (xv 1)) xa_nil))))); exact xs_nil)
theorem df_gone_in : Df P w K mg base "gone_in" 1 ["total"] false m_gone_in := df_mk (N := ["total"]) (F := b_gone_in) R.t13 fun nd hr => by
 exact (by refine xs_cons ?_ ?_; exact (xs_ret (xop od_sub (xix (xv 0) xint) (xix (xv 0) xint))); exact xs_nil)
theorem df_left_in : Df P w K mg base "left_in" 2 ["total"] false m_left_in := df_mk (N := ["total"]) (F := b_left_in) R.t14 fun nd hr => by
 exact (by refine xs_cons ?_ ?_; exact (xs_ret (xop od_sub (xix (xv 0) xint) (xcl (df_gone_in R) hr (xa_cons (xv 0) xa_nil)))); exact xs_nil)
theorem hm_Line_joined : MDf P w K mg base "Line" "joined" 3 ["self","one","other"] false m_Line__joined := mdf_mk (N := ["self","one","other"]) (F := b_Line__joined) R.q1 R.m4 fun nd hr => by
 exact (by refine xs_cons ?_ ?_; exact (xs_ret (xtup (xa_cons (xcl (df_joined_lack R) hr (xa_cons (xix (xv 1) xint) (xa_cons (xcl (df_left_in R) hr (xa_cons (xv 1) xa_nil)) (xa_cons (xix (xv 2) xint) xa_nil)))) (xa_cons (xop od_add (xix (xv 1) xint) (xix (xv 2) xint)) (xa_cons (xop od_add (xix (xv 1) xint) (xix (xv 2) xint)) xa_nil))))); exact xs_nil)
theorem hm_Line_nothing : MDf P w K mg base "Line" "nothing" 1 ["self"] false m_Line__nothing := mdf_mk (N := ["self"]) (F := b_Line__nothing) R.q1 R.m6 fun nd hr => by
 exact (by refine xs_cons ?_ ?_; exact (xs_ret (xtup (xa_cons xint (xa_cons xint (xa_cons xint xa_nil))))); exact xs_nil)
theorem hm_Pile_joined : MDf P w K mg base "Pile" "joined" 2 ["self","one","other"] false m_Pile__joined := mdf_mk (N := ["self","one","other"]) (F := b_Pile__joined) R.q2 R.m8 fun nd hr => by
 exact (by refine xs_cons ?_ ?_; exact (xs_ret (xtup (xa_cons (xcl (df_joined_lack R) hr (xa_cons (xix (xv 1) xint) (xa_cons (xix (xv 1) xint) (xa_cons (xix (xv 2) xint) xa_nil)))) (xa_cons (xop od_add (xix (xv 2) xint) (xb cd_max R.z_max (xa_cons xint (xa_cons (xop od_sub (xix (xv 1) xint) (xix (xv 2) xint)) xa_nil)))) xa_nil)))); exact xs_nil)
theorem hm_Pile_nothing : MDf P w K mg base "Pile" "nothing" 1 ["self"] false m_Pile__nothing := mdf_mk (N := ["self"]) (F := b_Pile__nothing) R.q2 R.m10 fun nd hr => by
 exact (by refine xs_cons ?_ ?_; exact (xs_ret (xtup (xa_cons xint (xa_cons xint xa_nil)))); exact xs_nil)
theorem df_row_total : Df P w K mg base "row_total" 4 ["kind","knots"] false m_row_total := df_mk (N := ["kind","knots","total","one"]) (F := b_row_total) R.t19 fun nd hr => by
 exact (by refine xs_cons ?_ ?_; exact (xs_set 2 nd (xmeth0 (MAll.cons ((hm_Kind_nothing R).mono (by omega)) rfl (MAll.cons ((hm_Line_nothing R).mono (by omega)) rfl (MAll.cons ((hm_Pile_nothing R).mono (by omega)) rfl MAll.nil))) hr (xvS 0))); exact (by refine xs_cons ?_ ?_; exact (xs_for PassesOwn.never rfl (xvS 1) (xg_name 3 nd) (by refine xs_cons ?_ ?_; exact (xs_set 2 nd (xmeth (MAll.cons ((hm_Kind_joined R).mono (by omega)) rfl (MAll.cons ((hm_Line_joined R).mono (by omega)) rfl (MAll.cons ((hm_Pile_joined R).mono (by omega)) rfl MAll.nil))) hr (xvS 0) (xa_cons (xvS 2) (xa_cons (xcl (df_total_of R) hr (xa_cons (xvS 3) xa_nil)) xa_nil)))); exact xs_nil)); exact (by refine xs_cons ?_ ?_; exact (xs_ret (xv 2)); exact xs_nil)))
theorem hm_Kind_lone : MDf P w K mg base "Kind" "lone" 1 ["self","at","deed"] false m_Kind__lone := mdf_mk (N := ["self","at","deed"]) (F := b_Kind__lone) R.q0 R.m1 fun nd hr => by
 exact (by refine xs_cons ?_ ?_; exact (xs_ret xint); exact xs_nil)
theorem df_puts_of : Df P w K mg base "puts_of" 1 ["deed"] false m_puts_of := df_mk (N := ["deed"]) (F := b_puts_of) R.t21 fun nd hr => by
 exact (by refine xs_cons ?_ ?_; exact (xs_ret (xife (xt_cmp (od_eq hr.units) (xix (xv 0) xint) xstr (nomark _)) xint xint)); exact xs_nil)
theorem df_takes_of : Df P w K mg base "takes_of" 1 ["deed"] false m_takes_of := df_mk (N := ["deed"]) (F := b_takes_of) R.t22 fun nd hr => by
 exact (by refine xs_cons ?_ ?_; exact (xs_ret (xife (xt_cmp (od_eq hr.units) (xix (xv 0) xint) xstr (nomark _)) xint xint)); exact xs_nil)
theorem hm_Line_lone : MDf P w K mg base "Line" "lone" 2 ["self","at","deed"] false m_Line__lone := mdf_mk (N := ["self","at","deed"]) (F := b_Line__lone) R.q1 R.m5 fun nd hr => by
 exact (by refine xs_cons ?_ ?_; exact (xs_ret (xtup (xa_cons (xcl (df_takes_of R) hr (xa_cons (xv 2) xa_nil)) (xa_cons (xcl (df_puts_of R) hr (xa_cons (xv 2) xa_nil)) (xa_cons (xcl (df_takes_of R) hr (xa_cons (xv 2) xa_nil)) xa_nil))))); exact xs_nil)
theorem hm_Pile_lone : MDf P w K mg base "Pile" "lone" 2 ["self","at","deed"] false m_Pile__lone := mdf_mk (N := ["self","at","deed"]) (F := b_Pile__lone) R.q2 R.m9 fun nd hr => by
 exact (by refine xs_cons ?_ ?_; exact (xs_ret (xtup (xa_cons (xcl (df_takes_of R) hr (xa_cons (xv 2) xa_nil)) (xa_cons (xcl (df_puts_of R) hr (xa_cons (xv 2) xa_nil)) xa_nil)))); exact xs_nil)
theorem df_leaf : Df P w K mg base "leaf" 3 ["kind","at","deed"] false m_leaf := df_mk (N := ["kind","at","deed"]) (F := b_leaf) R.t25 fun nd hr => by
 exact (by refine xs_cons ?_ ?_; exact (xs_ret (xtup (xa_cons (xv 1) (xa_cons xint (xa_cons (xmeth (MAll.cons ((hm_Kind_lone R).mono (by omega)) rfl (MAll.cons ((hm_Line_lone R).mono (by omega)) rfl (MAll.cons ((hm_Pile_lone R).mono (by omega)) rfl MAll.nil))) hr (xv 0) (xa_cons (xv 1) (xa_cons (xv 2) xa_nil))) (xa_cons (xv 2) xa_nil)))))); exact xs_nil)
theorem df_knot : Df P w K mg base "knot" 4 ["kind","left","right"] false m_knot := df_mk (N := ["kind","left","right","stretch","total"]) (F := b_knot) R.t26 fun nd hr => by
 exact (by refine xs_cons ?_ ?_; exact (xs_set 3 nd (xcl (df_least R) hr (xa_cons (xcl (df_stretch_of R) hr (xa_cons (xvS 1) xa_nil)) (xa_cons (xcl (df_stretch_of R) hr (xa_cons (xvS 2) xa_nil)) xa_nil)))); exact (by refine xs_cons ?_ ?_; exact (xs_set 4 nd (xmeth (MAll.cons ((hm_Kind_joined R).mono (by omega)) rfl (MAll.cons ((hm_Line_joined R).mono (by omega)) rfl (MAll.cons ((hm_Pile_joined R).mono (by omega)) rfl MAll.nil))) hr (xvS 0) (xa_cons (xcl (df_total_of R) hr (xa_cons (xvS 1) xa_nil)) (xa_cons (xcl (df_total_of R) hr (xa_cons (xvS 2) xa_nil)) xa_nil)))); exact (by refine xs_cons ?_ ?_; exact (xs_ret (xtup (xa_cons (xix (xv 3) xint) (xa_cons (xix (xv 3) xint) (xa_cons (xv 4) (xa_cons (xv 1) (xa_cons (xv 2) xa_nil))))))); exact xs_nil)))
theorem df_beside : Df P w K mg base "beside" 5 ["kind","tree","other"] false m_beside := df_mk (N := ["kind","tree","other"]) (F := b_beside) R.t27 fun nd hr => by
 exact (by refine xs_cons ?_ ?_; exact (xs_if (xt_cmp od_lt (xix (xv 2) xint) (xix (xv 1) xint) (nomark _)) (by refine xs_cons ?_ ?_; exact (xs_ret (xcl (df_knot R) hr (xa_cons (xv 0) (xa_cons (xv 2) (xa_cons (xv 1) xa_nil))))); exact xs_nil) xs_nil); exact (by refine xs_cons ?_ ?_; exact (xs_ret (xcl (df_knot R) hr (xa_cons (xv 0) (xa_cons (xv 1) (xa_cons (xv 2) xa_nil))))); exact xs_nil))
theorem df_is_early : Df P w K mg base "is_early" 3 ["tree","at"] false m_is_early := df_mk (N := ["tree","at"]) (F := b_is_early) R.t28 fun nd hr => by
 exact (by refine xs_cons ?_ ?_; exact (xs_ret (xcl (df_holds R) hr (xa_cons (xix (xcl (df_halves R) hr (xa_cons (xcl (df_stretch_of R) hr (xa_cons (xv 0) xa_nil)) xa_nil)) xint) (xa_cons (xv 1) xa_nil)))); exact xs_nil)
theorem df_put_in : ∀ n : Nat,Df P w K mg base "put_in" (6 + n) ["kind","tree","at","deed"] false (m_put_in n)
 | 0 => df_bad R.t29.src
 | n + 1 => by
  have h_put_in := df_put_in n
  exact df_mk (N := ["kind","tree","at","deed"]) (F := b_put_in (m_put_in n)) R.t29 fun nd hr => by
   replace hr : Room (6 + n) _ := hr
   exact (by refine xs_cons ?_ ?_; exact (xs_if (xt_isN (xv 1)) (by refine xs_cons ?_ ?_; exact (xs_ret (xcl (df_leaf R) hr (xa_cons (xv 0) (xa_cons (xv 2) (xa_cons (xv 3) xa_nil))))); exact xs_nil) xs_nil); exact (by refine xs_cons ?_ ?_; exact (xs_if (xt_not (xt (xcl (df_holds R) hr (xa_cons (xcl (df_stretch_of R) hr (xa_cons (xv 1) xa_nil)) (xa_cons (xv 2) xa_nil))))) (by refine xs_cons ?_ ?_; exact (xs_ret (xcl (df_beside R) hr (xa_cons (xv 0) (xa_cons (xv 1) (xa_cons (xcl (df_leaf R) hr (xa_cons (xv 0) (xa_cons (xv 2) (xa_cons (xv 3) xa_nil)))) xa_nil))))); exact xs_nil) xs_nil); exact (by refine xs_cons ?_ ?_; exact (xs_if (xt (xcl (df_is_leaf R) hr (xa_cons (xv 1) xa_nil))) (by refine xs_cons ?_ ?_; exact xs_raise; exact xs_nil) xs_nil); exact (by refine xs_cons ?_ ?_; exact (xs_if (xt (xcl (df_is_early R) hr (xa_cons (xv 1) (xa_cons (xv 2) xa_nil)))) (by refine xs_cons ?_ ?_; exact (xs_ret (xcl (df_knot R) hr (xa_cons (xv 0) (xa_cons (xcl h_put_in hr (xa_cons (xv 0) (xa_cons (xix (xv 1) xint) (xa_cons (xv 2) (xa_cons (xv 3) xa_nil))))) (xa_cons (xix (xv 1) xint) xa_nil))))); exact xs_nil) xs_nil); exact (by refine xs_cons ?_ ?_; exact (xs_ret (xcl (df_knot R) hr (xa_cons (xv 0) (xa_cons (xix (xv 1) xint) (xa_cons (xcl h_put_in hr (xa_cons (xv 0) (xa_cons (xix (xv 1) xint) (xa_cons (xv 2) (xa_cons (xv 3) xa_nil))))) xa_nil))))); exact xs_nil)))))
theorem df_number_put : Df P w K mg base "number_put" 1 ["knot"] false m_number_put := df_mk (N := ["knot"]) (F := b_number_put) R.t30 fun nd hr => by
 exact (by refine xs_cons ?_ ?_; exact (xs_ret (xife (xt_isN (xv 0)) xnon (xix (xix (xv 0) xint) xint))); exact xs_nil)
theorem df_put_behind : ∀ n : Nat,Df P w K mg base "put_behind" (2 + n) ["knots","earlier"] false (m_put_behind n)
 | 0 => df_bad R.t31.src
 | n + 1 => by
  have h_put_behind := df_put_behind n
  exact df_mk (N := ["knots","earlier","still_earlier","knot","puts"]) (F := b_put_behind (m_put_behind n)) R.t31 fun nd hr => by
   replace hr : Room (2 + n) _ := hr
   exact (by refine xs_cons ?_ ?_; exact (xs_set 2 nd (xvS 1)); exact (by refine xs_cons ?_ ?_; exact (xs_for PassesOwn.never rfl (xvS 0) (xg_name 3 nd) (by refine xs_cons ?_ ?_; exact (xs_set 4 nd (xix (xcl (df_total_of R) hr (xa_cons (xvS 3) xa_nil)) xint)); exact (by refine xs_cons ?_ ?_; exact (xs_if (xt_cmp od_lt (xv 2) (xv 4) (nomark _)) (by refine xs_cons ?_ ?_; exact (xs_ret (xife (xt (xcl (df_is_leaf R) hr (xa_cons (xv 3) xa_nil))) (xv 3) (xcl h_put_behind hr (xa_cons (xcl (df_parts R) hr (xa_cons (xv 3) xa_nil)) (xa_cons (xv 2) xa_nil))))); exact xs_nil) xs_nil); exact (by refine xs_cons ?_ ?_; exact (xs_set 2 nd (xop od_sub (xv 2) (xv 4))); exact xs_nil)))); exact (by refine xs_cons ?_ ?_; exact (xs_ret xnon); exact xs_nil)))
theorem df_one_step_down : Df P w K mg base "one_step_down" 4 ["tree","stretch"] false m_one_step_down := df_mk (N := ["tree","stretch","both"]) (F := b_one_step_down) R.t32 fun nd hr => by
 exact (by refine xs_cons ?_ ?_; exact (xs_if (xt (xcl (df_is_leaf R) hr (xa_cons (xv 0) xa_nil))) (by refine xs_cons ?_ ?_; exact (xs_ret xnon); exact xs_nil) xs_nil); exact (by refine xs_cons ?_ ?_; exact (xs_set 2 nd (xcl (df_halves R) hr (xa_cons (xcl (df_stretch_of R) hr (xa_cons (xvS 0) xa_nil)) xa_nil))); exact (by refine xs_cons ?_ ?_; exact (xs_if (xt (xcl (df_within R) hr (xa_cons (xv 1) (xa_cons (xix (xv 2) xint) xa_nil)))) (by refine xs_cons ?_ ?_; exact (xs_ret (xix (xv 0) xint)); exact xs_nil) xs_nil); exact (by refine xs_cons ?_ ?_; exact (xs_if (xt (xcl (df_within R) hr (xa_cons (xv 1) (xa_cons (xix (xv 2) xint) xa_nil)))) (by refine xs_cons ?_ ?_; exact (xs_ret (xix (xv 0) xint)); exact xs_nil) xs_nil); exact (by refine xs_cons ?_ ?_; exact (xs_ret xnon); exact xs_nil)))))
theorem df_inside : Df P w K mg base "inside" 5 ["tree","stretch"] false m_inside := df_mk (N := ["tree","stretch","there"]) (F := b_inside) R.t33 fun nd hr => by
 exact (by refine xs_cons ?_ ?_; exact (xs_set 2 nd (xvS 0)); exact (by refine xs_cons ?_ ?_; exact (xs_while 40 PassesOwn.never (PW.pt (xw_and (xt_notN (xv 2)) (xw_and1 (xt_not (xt (xcl (df_within R) hr (xa_cons (xcl (df_stretch_of R) hr (xa_cons (xv 2) xa_nil)) (xa_cons (xv 1) xa_nil)))))))) (by refine xs_cons ?_ ?_; exact (xs_set 2 nd (xcl (df_one_step_down R) hr (xa_cons (xvS 2) (xa_cons (xvS 1) xa_nil)))); exact xs_nil)); exact (by refine xs_cons ?_ ?_; exact (xs_ret (xv 2)); exact xs_nil)))
theorem df_ahead : Df P w K mg base "ahead" 6 ["tree","end"] true m_ahead := df_mk (N := ["tree","end","found"]) (F := b_ahead) R.t34 fun nd hr => by
 exact (by refine xs_cons ?_ ?_; exact (xs_setC 2 nd (by refine xcompL (N' := ["stretch","tree"]) (k := 1) (ix := [0]) (cnames _ ["tree","end","found"] ?_) ?_ fun _ _ _ _ _ => ⟨?_,?_,?_⟩; exact (by first | decide +kernel | (change cnOk (defScope s_ahead) _ _ _ _ _ = true; decide +kernel)); exact (toS (xcallF ((df_cover R).mono (by omega)) hr (xa_cons (xvS 1) xa_nil))); exact (xg_name 0 (show (["stretch","tree"] : List Str).Nodup from by decide +kernel)); exact xc_yes; exact (xcl (df_inside R) hr (xa_cons (xvS 1) (xa_cons (xvS 0) xa_nil))))); exact (by refine xs_cons ?_ ?_; exact (xs_retF (by refine CompR.pe ?_; refine xcompL (N' := ["knot"]) (k := 1) (ix := []) (cnames _ ["tree","end","found"] ?_) ?_ fun _ _ _ _ _ => ⟨?_,?_,?_⟩; exact (by first | decide +kernel | (change cnOk (defScope s_ahead) _ _ _ _ _ = true; decide +kernel)); exact (xvS 2); exact (xg_name 0 (show (["knot"] : List Str).Nodup from by decide +kernel)); exact (pcs_one (xt_notN (xv 0))); exact (xvS 0))); exact xs_nil))
theorem df_put_below : ∀ n : Nat,Df P w K mg base "put_below" (2 + n) ["knots","above"] false (m_put_below n)
 | 0 => df_bad R.t35.src
 | n + 1 => by
  have h_put_below := df_put_below n
  exact df_mk (N := ["knots","above","still_above","knot","total"]) (F := b_put_below (m_put_below n)) R.t35 fun nd hr => by
   replace hr : Room (2 + n) _ := hr
   exact (by refine xs_cons ?_ ?_; exact (xs_set 2 nd (xvS 1)); exact (by refine xs_cons ?_ ?_; exact (xs_forV PassesOwn.never rfl R.z_reversed (xvS 0) (xg_name 3 nd) (by refine xs_cons ?_ ?_; exact (xs_set 4 nd (xcl (df_total_of R) hr (xa_cons (xvS 3) xa_nil))); exact (by refine xs_cons ?_ ?_; exact (xs_if (xt_cmp od_lt (xv 2) (xix (xv 4) xint) (nomark _)) (by refine xs_cons ?_ ?_; exact (xs_ret (xife (xt (xcl (df_is_leaf R) hr (xa_cons (xv 3) xa_nil))) (xv 3) (xcl h_put_below hr (xa_cons (xcl (df_parts R) hr (xa_cons (xv 3) xa_nil)) (xa_cons (xv 2) xa_nil))))); exact xs_nil) xs_nil); exact (by refine xs_cons ?_ ?_; exact (xs_set 2 nd (xop od_add (xop od_sub (xv 2) (xix (xv 4) xint)) (xix (xv 4) xint))); exact xs_nil)))); exact (by refine xs_cons ?_ ?_; exact (xs_ret xnon); exact xs_nil)))
theorem df__law_cell_at : Df P w K mg base "_law_cell_at" 1 ["_law_script","_law_k"] false m__law_cell_at := df_mk (N := ["_law_script","_law_k"]) (F := b__law_cell_at) R.t36 fun nd hr => by
 exact (by refine xs_cons ?_ ?_; exact (xs_if (xt_cmp od_lt (xv 1) (xb cd_len R.z_len (xa_cons (xv 0) xa_nil)) (nomark _)) (by refine xs_cons ?_ ?_; exact (xs_ret (xix (xv 0) (xv 1))); exact xs_nil) xs_nil); exact (by refine xs_cons ?_ ?_; exact (xs_ret xint); exact xs_nil))
theorem df__law_whole : Df P w K mg base "_law_whole" 1 ["_law_found"] false m__law_whole := df_mk (N := ["_law_found"]) (F := b__law_whole) R.t37 fun nd hr => by
 exact (by refine xs_cons ?_ ?_; exact (xs_ret (xand (xis R.z_isinstance R.z_int (xv 0)) (xone (xnot (xis R.z_isinstance R.z_bool (xv 0)))))); exact xs_nil)
theorem df__law_number : Df P w K mg base "_law_number" 1 ["_law_cell","_law_k"] false m__law_number := df_mk (N := ["_law_cell","_law_k","_law_way"]) (F := b__law_number) R.t38 fun nd hr => by
 exact (by refine xs_cons ?_ ?_; exact (xs_set 2 nd (xop od_mod (xv 0) xint)); exact (by refine xs_cons ?_ ?_; exact (xs_if (xt_cmp (od_eq hr.units) (xv 2) xint (nomark _)) (by refine xs_cons ?_ ?_; exact (xs_ret (xop od_sub (xop od_mod (xop od_add (xop od_div (xv 0) xint) (xop od_mul (xop od_mul xint (xv 1)) (xv 1))) xint) xint)); exact xs_nil) xs_nil); exact (by refine xs_cons ?_ ?_; exact (xs_if (xt_cmp (od_eq hr.units) (xv 2) xint (nomark _)) (by refine xs_cons ?_ ?_; exact (xs_ret (xop od_sub (xop od_mod (xop od_div (xv 0) xint) (xop od_mul xint (xop od_pow xint xint))) (xop od_pow xint xint))); exact xs_nil) xs_nil); exact (by refine xs_cons ?_ ?_; exact (xs_if (xt_cmp (od_eq hr.units) (xv 2) xint (nomark _)) (by refine xs_cons ?_ ?_; exact (xs_ret (xop od_sub (xop od_mod (xop od_div (xv 0) xint) xint) xint)); exact xs_nil) xs_nil); exact (by refine xs_cons ?_ ?_; exact (xs_ret (xop od_mod (xop od_div (xv 0) xint) (xop od_pow xint xint))); exact xs_nil)))))
theorem df__law_deed : Df P w K mg base "_law_deed" 2 ["_law_cell","_law_k","_law_tilt"] false m__law_deed := df_mk (N := ["_law_cell","_law_k","_law_tilt","_law_way"]) (F := b__law_deed) R.t39 fun nd hr => by
 exact (by refine xs_cons ?_ ?_; exact (xs_set 3 nd (xop od_mod (xv 0) xint)); exact (by refine xs_cons ?_ ?_; exact (xs_if (xt_cmp od_lt (xv 3) (xop od_add xint (xv 2)) (nomark _)) (by refine xs_cons ?_ ?_; exact (xs_ret (xtup (xa_cons xstr (xa_cons (xcl (df__law_number R) hr (xa_cons (xop od_div (xv 0) xint) (xa_cons (xv 1) xa_nil))) xa_nil)))); exact xs_nil) xs_nil); exact (by refine xs_cons ?_ ?_; exact (xs_if (xt_cmp od_lt (xv 3) xint (nomark _)) (by refine xs_cons ?_ ?_; exact (xs_ret (xtup (xa_cons xstr xa_nil))); exact xs_nil) xs_nil); exact (by refine xs_cons ?_ ?_; exact (xs_if (xt_cmp (od_eq hr.units) (xv 3) xint (nomark _)) (by refine xs_cons ?_ ?_; exact (xs_ret (xtup (xa_cons xstr xa_nil))); exact xs_nil) xs_nil); exact (by refine xs_cons ?_ ?_; exact (xs_if (xt_cmp (od_eq hr.units) (xop od_mod (xop od_div (xv 0) xint) xint) xint (nomark _)) (by refine xs_cons ?_ ?_; exact (xs_ret (xtup (xa_cons xstr (xa_cons (xop od_mod (xop od_div (xv 0) xint) (xop od_pow xint xint)) xa_nil)))); exact xs_nil) xs_nil); exact (by refine xs_cons ?_ ?_; exact (xs_ret (xtup (xa_cons xstr (xa_cons (xop od_mod (xop od_add (xop od_div (xv 0) xint) (xv 1)) xint) xa_nil)))); exact xs_nil))))))
theorem df__law_times : Df P w K mg base "_law_times" 1 ["_law_cells","_law_cell"] false m__law_times := df_mk (N := ["_law_cells","_law_cell","_law_wide","_law_times_here","_law_at","_law_k","_law_shift"]) (F := b__law_times) R.t40 fun nd hr => by
 exact (by refine xs_cons ?_ ?_; refine @xs_set _ _ _ _ _ _ 2 _ _ nd ?_ rfl (by first | exact Or.inl rfl | exact Or.inr rfl) rfl (by first | exact .inl rfl | exact .inr rfl); refine xix ?_ ?_; refine toS ?_; refine xlst ?_; refine xa_cons ?_ ?_; exact xint; refine xa_cons ?_ ?_; exact xint; refine xa_cons ?_ ?_; exact xint; exact xa_nil; exact (xop od_mod (xv 1) xint); exact (by refine xs_cons ?_ ?_; exact (xs_own 3 nd (xlst xa_nil)); exact (by refine xs_cons ?_ ?_; exact (xs_set 4 nd xint); exact (by refine xs_cons ?_ ?_; exact (xs_rng1 PassesOwn.never rfl R.z_range (xa_cons (xb cd_len R.z_len (xa_cons (xv 0) xa_nil)) xa_nil) (xg_name 5 nd) (by refine xs_cons ?_ ?_; exact (xs_app 3 (xvS 4)); exact (by refine xs_cons ?_ ?_; exact (xs_set 4 nd (xop od_add (xop od_add (xv 4) xint) (xop od_mod (xop od_add (xop od_div (xix (xv 0) (xv 5)) xint) (xix (xv 0) (xop od_sub (xv 5) xint))) (xv 2)))); exact xs_nil))); exact (by refine xs_cons ?_ ?_; exact (xs_thaw 3 (xs_if (xt_cmp (od_eq hr.units) (xv 3) (toW (m := .F) (xlst xa_nil)) (nomark _)) (by refine xs_cons ?_ ?_; exact (xs_ret (toW (m := .F) (xlst xa_nil))); exact xs_nil) xs_nil)); exact (by refine xs_cons ?_ ?_; exact (xs_set 6 nd (xop od_mod (xop od_div (xv 1) xint) (xop od_sub xint (xix (xv 3) (xneg xint))))); exact (by refine xs_cons ?_ ?_; exact (xs_ret (toW (m := .F) (by refine CompR.pe ?_; refine xcompL (N' := ["_law_at","_law_shift"]) (k := 1) (ix := [6]) (cnames _ ["_law_cells","_law_cell","_law_wide","_law_times_here","_law_at","_law_k","_law_shift"] ?_) ?_ fun _ _ _ _ _ => ⟨?_,?_,?_⟩; exact (by first | decide +kernel | (change cnOk (defScope s__law_times) _ _ _ _ _ = true; decide +kernel)); exact (xvS 3); exact (xg_name 0 (show (["_law_at","_law_shift"] : List Str).Nodup from by decide +kernel)); exact xc_yes; exact (xop od_add (xv 1) (xv 0))))); exact xs_nil)))))))
theorem df__law_row : Df P w K mg base "_law_row" 3 ["_law_script"] false m__law_row := df_mk (N := ["_law_script","_law_cells","_law_tilt","_law_times_here"]) (F := b__law_row) R.t41 fun nd hr => by
 exact (by refine xs_cons ?_ ?_; exact (xs_set 1 nd (toS (xsl (xvS 0) (po_some' xint) (po_some' xint)))); exact (by refine xs_cons ?_ ?_; exact (xs_set 2 nd (xop od_mod (xop od_div (xcl (df__law_cell_at R) hr (xa_cons (xv 0) (xa_cons xint xa_nil))) xint) xint)); exact (by refine xs_cons ?_ ?_; exact (xs_set 3 nd (xcl (df__law_times R) hr (xa_cons (xvS 1) (xa_cons (xcl (df__law_cell_at R) hr (xa_cons (xvS 0) (xa_cons xint xa_nil))) xa_nil)))); exact (by refine xs_cons ?_ ?_; exact (xs_ret (toW (m := .F) (by refine CompR.pe ?_; refine xcompR1 (N' := ["_law_k","_law_times_here","_law_cells","_law_tilt"]) (k := 1) (ix := [3,1,2]) (cnames _ ["_law_script","_law_cells","_law_tilt","_law_times_here"] ?_) R.z_range ?_ fun _ _ _ _ _ => ⟨?_,?_,?_⟩; exact (by first | decide +kernel | (change cnOk (defScope s__law_row) _ _ _ _ _ = true; decide +kernel)); exact (xa_cons (xb cd_len R.z_len (xa_cons (xv 1) xa_nil)) xa_nil); exact (xg_name 0 (show (["_law_k","_law_times_here","_law_cells","_law_tilt"] : List Str).Nodup from by decide +kernel)); exact xc_yes; exact (xtup (xa_cons (xix (xvS 1) (xv 0)) (xa_cons (xcl (df__law_deed R) hr (xa_cons (xix (xvS 2) (xv 0)) (xa_cons (xvS 0) (xa_cons (xvS 3) xa_nil)))) xa_nil)))))); exact xs_nil))))
def lamA__law_order : Option (Scope × Pos) := match defBody s__law_order with
 | [.Return (some (.Call _ _ [⟨_,.Lambda _ _ sc lp,_⟩] _)) _] => some (sc,lp)
 | _ => none
abbrev lamS : Scope := ((lamA__law_order).map (·.1)).getD (defScope s__law_order)
abbrev lamL : Pos := ((lamA__law_order).map (·.2)).getD ⟨0,0,0,0⟩
abbrev lamP (T : Addr) : LP := ⟨T,lamL,("_law_order" : Str) ++ ".<locals>." ++ "<lambda>"⟩
omit R in
theorem lsc__law_order : LamSc "_law_k" "_law_script" lamS := ⟨rfl,rfl,rfl,by decide +kernel,rfl,rfl,by decide +kernel⟩
theorem df__law_order (LB : LamB mg base cL T) : DfO P w K mg base (lamP T) "_law_order" 5 ["_law_script","_law_size"] mo__law_order := by
 refine dfO_of (N := ["_law_script","_law_size"]) (fl := fl__law_order) (fb := fb__law_order) (iy := 0) R.t42.src ⟨rfl,rfl,rfl,by decide +kernel,rfl,by decide +kernel,by decide +kernel⟩ (by decide) R.cd rfl fun f A outer s H E hr => ?_
 have nd : (["_law_script","_law_size"] : List Str).Nodup := by decide +kernel
 exact xsortK (kk := 1) (p := "_law_k") (y := "_law_script") (iy := 0) LB rfl lsc__law_order hr rfl rfl ⟨_,rfl,rfl⟩ rfl (fun _ _ _ _ _ => rfl) (xa_cons (toS (by refine CompR.pe ?_; refine xcompR1 (N' := ["_law_k"]) (k := 1) (ix := []) (cnames _ ["_law_script","_law_size"] ?_) R.z_range ?_ fun _ _ _ _ _ => ⟨?_,?_,?_⟩; exact (by first | decide +kernel | (change cnOk (defScope s__law_order) _ _ _ _ _ = true; decide +kernel)); exact (xa_cons (xv 1) xa_nil); exact (xg_name 0 (show (["_law_k"] : List Str).Nodup from by decide +kernel)); exact xc_yes; exact (xvS 0))) xa_nil) (fun f2 c2 c3 s2 H2 hr => (xop od_mod (xop od_add (xop od_mul (xcl (df__law_cell_at R) hr (xa_cons (xv 1) (xa_cons (xv 0) xa_nil))) xint) (xop od_mul (xop od_mul (xv 0) (xv 0)) xint)) xint)) R.z_sorted
theorem df__law_tree (h__law_order : DfO P w K mg base (lamP T) "_law_order" 5 ["_law_script","_law_size"] mo__law_order) : DfL P w K mg base (lamP T) "_law_tree" 71 ["_law_kind","_law_row_here","_law_script"] m__law_tree := dfL_of (N := ["_law_kind","_law_row_here","_law_script","_law_tree_here","_law_k"]) (F := b__law_tree) R.t43.src ⟨rfl,rfl,rfl,by decide +kernel,rfl,by decide +kernel,by decide +kernel⟩ (by decide) fun f cdv A outer s H E hr => by
 have nd : (["_law_kind","_law_row_here","_law_script","_law_tree_here","_law_k"] : List Str).Nodup := by decide +kernel
 exact (by refine xl_cons ?_ ?_; exact (by refine xl_of ?_; exact (xs_set 3 nd xnon)); exact (by refine xl_cons ?_ ?_; exact (xl_forP 4 (h__law_order.mono (by omega)) hr PassesOwn.never rfl (xa_cons (xv 2) (xa_cons (xb cd_len R.z_len (xa_cons (xv 1) xa_nil)) xa_nil)) (xg_name 4 nd) (by refine xs_cons ?_ ?_; exact (xs_set 3 nd (xcl (df_put_in R 64) hr (xa_cons (xvS 0) (xa_cons (xvS 3) (xa_cons (xix (xix (xvS 1) (xv 4)) xint) (xa_cons (xix (xix (xvS 1) (xv 4)) xint) xa_nil)))))); exact xs_nil)); exact (by refine xls_of ?_; exact (by refine xs_cons ?_ ?_; exact (xs_ret (xv 3)); exact xs_nil))))
theorem df__law_end : Df P w K mg base "_law_end" 1 ["_law_row_here","_law_cell"] false m__law_end := df_mk (N := ["_law_row_here","_law_cell","_law_way"]) (F := b__law_end) R.t44 fun nd hr => by
 exact (by refine xs_cons ?_ ?_; exact (xs_set 2 nd (xop od_mod (xv 1) xint)); exact (by refine xs_cons ?_ ?_; exact (xs_if (PW.pt (xw_or (xt_cmp (od_eq hr.units) (xv 2) xint (nomark _)) (xw_or1 (xt_cmp (od_eq hr.units) (xv 0) (toW (m := .F) (xlst xa_nil)) (nomark _))))) (by refine xs_cons ?_ ?_; exact (xs_ret (xop od_mod (xop od_div (xv 1) xint) xint)); exact xs_nil) xs_nil); exact (by refine xs_cons ?_ ?_; exact (xs_ret (xop od_add (xix (xix (xv 0) (xop od_mod (xop od_div (xv 1) xint) (xb cd_len R.z_len (xa_cons (xv 0) xa_nil)))) xint) (xop od_mod (xv 2) xint))); exact xs_nil)))
theorem df__law_stood : Df P w K mg base "_law_stood" 1 ["_law_row_here","_law_end_here","_law_line"] true m__law_stood := df_mk (N := ["_law_row_here","_law_end_here","_law_line","_law_standing","_law_at","_law_deed_here"]) (F := b__law_stood) R.t45 fun nd hr => by
 exact (by refine xs_cons ?_ ?_; exact (xs_own 3 nd (xlst xa_nil)); exact (by refine xs_cons ?_ ?_; exact (xs_for PassesOwn.never rfl (xvS 0) (xg_2 4 5 nd) (by refine xs_cons ?_ ?_; exact (xs_if (PW.pt (xw_and (xt_cmp od_lt (xv 4) (xv 1) (nomark _)) (xw_and1 (xt_cmp (od_eq hr.units) (xix (xv 5) xint) xstr (nomark _))))) (by refine xs_cons ?_ ?_; exact (xs_app 3 (xix (xvS 5) xint)); exact xs_nil) xs_nil); exact (by refine xs_cons ?_ ?_; exact (xs_if (PW.pt (xw_and (xt_cmp od_lt (xv 4) (xv 1) (nomark _)) (xw_and (xt_cmp (od_eq hr.units) (xix (xv 5) xint) xstr (nomark _)) (xw_and1 (xt (xv 2)))))) (by refine xs_cons ?_ ?_; exact (xs_own 3 nd (xslO 3 (po_some' xint) po_none')); exact xs_nil) (by refine xs_cons ?_ ?_; exact (xs_if (PW.pt (xw_and (xt_cmp od_lt (xv 4) (xv 1) (nomark _)) (xw_and1 (xt_cmp (od_eq hr.units) (xix (xv 5) xint) xstr (nomark _))))) (by refine xs_cons ?_ ?_; exact (xs_own 3 nd (xslO 3 po_none' (po_some' (xneg xint)))); exact xs_nil) xs_nil); exact xs_nil)); exact xs_nil))); exact (by refine xs_cons ?_ ?_; exact (xs_retO 3); exact xs_nil)))
theorem df__law_alike : Df P w K mg base "_law_alike" 2 ["_law_found","_law_due"] false m__law_alike := df_mk (N := ["_law_found","_law_due","_law_k"]) (F := b__law_alike) R.t46 fun nd hr => by
 exact (by refine xs_cons ?_ ?_; exact (xs_if (PW.pt (xw_or (xt_not (xt (xis R.z_isinstance R.z_list (xv 0)))) (xw_or1 (xt_cmp (od_ne hr.units) (xb cd_len R.z_len (xa_cons (xv 0) xa_nil)) (xb cd_len R.z_len (xa_cons (xv 1) xa_nil)) (nomark _))))) (by refine xs_cons ?_ ?_; exact (xs_ret xbl); exact xs_nil) xs_nil); exact (by refine xs_cons ?_ ?_; exact (xs_rng1 PassesOwn.never rfl R.z_range (xa_cons (xb cd_len R.z_len (xa_cons (xv 1) xa_nil)) xa_nil) (xg_name 2 nd) (by refine xs_cons ?_ ?_; exact (xs_if (PW.pt (xw_or (xt_not (xt (xcl (df__law_whole R) hr (xa_cons (xix (xv 0) (xv 2)) xa_nil)))) (xw_or1 (xt_cmp (od_ne hr.units) (xix (xv 0) (xv 2)) (xix (xv 1) (xv 2)) (nomark _))))) (by refine xs_cons ?_ ?_; exact (xs_ret xbl); exact xs_nil) xs_nil); exact xs_nil)); exact (by refine xs_cons ?_ ?_; exact (xs_ret xbl); exact xs_nil)))
theorem hm_Kind_stand : MDf P w K mg base "Kind" "stand" 1 ["self","knots"] true m_Kind__stand := mdf_mk (N := ["self","knots"]) (F := b_Kind__stand) R.q0 R.m3 fun nd hr => by
 exact (by refine xs_cons ?_ ?_; exact (xs_retF (xlst xa_nil)); exact xs_nil)
theorem hm_Line_stand : MDf P w K mg base "Line" "stand" 67 ["self","knots"] true m_Line__stand := mdf_mk (N := ["self","knots","total"]) (F := b_Line__stand) R.q1 R.m7 fun nd hr => by
 exact (by refine xs_cons ?_ ?_; exact (xs_set 2 nd (xcl (df_row_total R) hr (xa_cons (xvS 0) (xa_cons (xvS 1) xa_nil)))); exact (by refine xs_cons ?_ ?_; exact (xs_retF (by refine CompR.pe ?_; refine xcompR2 (N' := ["earlier","knots"]) (k := 1) (ix := [1]) (cnames _ ["self","knots","total"] ?_) R.z_range ?_ fun _ _ _ _ _ => ⟨?_,?_,?_⟩; exact (by first | decide +kernel | (change cnOk (defScope s_Line__stand) _ _ _ _ _ = true; decide +kernel)); exact (xa_cons (xcl (df_gone_in R) hr (xa_cons (xv 2) xa_nil)) (xa_cons (xix (xv 2) xint) xa_nil)); exact (xg_name 0 (show (["earlier","knots"] : List Str).Nodup from by decide +kernel)); exact xc_yes; exact (xcl (df_number_put R) hr (xa_cons (xcl (df_put_behind R 64) hr (xa_cons (xvS 1) (xa_cons (xvS 0) xa_nil))) xa_nil)))); exact xs_nil))
theorem hm_Pile_stand : MDf P w K mg base "Pile" "stand" 67 ["self","knots"] true m_Pile__stand := mdf_mk (N := ["self","knots","many"]) (F := b_Pile__stand) R.q2 R.m11 fun nd hr => by
 exact (by refine xs_cons ?_ ?_; exact (xs_set 2 nd (xix (xcl (df_row_total R) hr (xa_cons (xvS 0) (xa_cons (xvS 1) xa_nil))) xint)); exact (by refine xs_cons ?_ ?_; exact (xs_retF (by refine CompR.pe ?_; refine xcompRD (N' := ["above","knots"]) (k := 1) (ix := [1]) (cnames _ ["self","knots","many"] ?_) R.z_range ?_ fun _ _ _ _ _ => ⟨?_,?_,?_⟩; exact (by first | decide +kernel | (change cnOk (defScope s_Pile__stand) _ _ _ _ _ = true; decide +kernel)); exact (xa_cons (xop od_sub (xv 2) xint) (xa_cons (xneg xint) (xa_cons (xneg xint) xa_nil))); exact (xg_name 0 (show (["above","knots"] : List Str).Nodup from by decide +kernel)); exact xc_yes; exact (xcl (df_number_put R) hr (xa_cons (xcl (df_put_below R 64) hr (xa_cons (xvS 1) (xa_cons (xvS 0) xa_nil))) xa_nil)))); exact xs_nil))
theorem df__law_told_well : Df P w K mg base "_law_told_well" 68 ["_law_kind","_law_tree_here","_law_row_here","_law_ends","_law_line"] false m__law_told_well := df_mk (N := ["_law_kind","_law_tree_here","_law_row_here","_law_ends","_law_line","_law_first","_law_k","_law_due","_law_handed","_law_stay"]) (F := b__law_told_well) R.t50 fun nd hr => by
 exact (by refine xs_cons ?_ ?_; exact (xs_if (xt_not (xt (xcl (df__law_alike R) hr (xa_cons (toW (m := .F) (xmethF (MAll.cons ((hm_Kind_stand R).mono (by omega)) rfl (MAll.cons ((hm_Line_stand R).mono (by omega)) rfl (MAll.cons ((hm_Pile_stand R).mono (by omega)) rfl MAll.nil))) hr (xvS 0) (xa_cons (toS (xlst xa_nil)) xa_nil))) (xa_cons (toW (m := .F) (xlst xa_nil)) xa_nil))))) (by refine xs_cons ?_ ?_; exact (xs_ret xbl); exact xs_nil) xs_nil); exact (by refine xs_nest (N' := ["_law_end_here","_law_kind","_law_tree_here"]) (k := 1) (ix := [0,1]) 5 nd (cnames _ ["_law_kind","_law_tree_here","_law_row_here","_law_ends","_law_line","_law_first","_law_k","_law_due","_law_handed","_law_stay"] ?_) ?_ (fun _ _ _ _ _ => ⟨?_,?_,?_⟩) (fun _ => ?_); exact (by first | decide +kernel | (change cnOk (defScope s__law_told_well) _ _ _ _ _ = true; decide +kernel)); exact (xvS 3); exact (xg_name 0 (show (["_law_end_here","_law_kind","_law_tree_here"] : List Str).Nodup from by decide +kernel)); exact xc_yes; exact (xmethF (MAll.cons ((hm_Kind_stand R).mono (by omega)) rfl (MAll.cons ((hm_Line_stand R).mono (by omega)) rfl (MAll.cons ((hm_Pile_stand R).mono (by omega)) rfl MAll.nil))) hr (xvS 1) (xa_cons (toS (xcallF ((df_ahead R).mono (by omega)) hr (xa_cons (xvS 2) (xa_cons (xvS 0) xa_nil)))) xa_nil)); exact (by refine xn_cons ?_ ?_; exact (xn_rng 6 PassesOwn.never rfl R.z_range nd (xa_cons (xb cd_len R.z_len (xa_cons (xv 3) xa_nil)) xa_nil) (by refine xn_cons ?_ ?_; exact (xn_set 7 nd (toS (xcallF ((df__law_stood R).mono (by omega)) hr (xa_cons (xvS 2) (xa_cons (xix (xvS 3) (xv 6)) (xa_cons (xvS 4) xa_nil)))))); exact (by refine xn_cons ?_ ?_; exact (xn_if (xt_not (xt (xcl (df__law_alike R) hr (xa_cons (xix (xv 5) (xv 6)) (xa_cons (xv 7) xa_nil))))) (by refine xn_cons ?_ ?_; exact (xn_ret xbl); exact xn_nil) xn_nil); exact (by refine xn_cons ?_ ?_; exact (xn_app (xv 6) xint); exact (by refine xn_cons ?_ ?_; exact (xn_put (xv 6) xint xint); exact (by refine xn_cons ?_ ?_; exact (xn_set 8 nd (toS (xcallF ((df_ahead R).mono (by omega)) hr (xa_cons (xvS 1) (xa_cons (xix (xvS 3) (xv 6)) xa_nil))))); exact (by refine xn_cons ?_ ?_; exact (xn_set 9 nd (toS (xlistOf R.z_list (xvS 8)))); exact (by refine xn_cons ?_ ?_; exact (xn_if (PW.pt (xw_or (xt_not (xt (xcl (df__law_alike R) hr (xa_cons (toW (m := .F) (xmethF (MAll.cons ((hm_Kind_stand R).mono (by omega)) rfl (MAll.cons ((hm_Line_stand R).mono (by omega)) rfl (MAll.cons ((hm_Pile_stand R).mono (by omega)) rfl MAll.nil))) hr (xvS 0) (xa_cons (xvS 8) xa_nil))) (xa_cons (xv 7) xa_nil))))) (xw_or1 (xt_cmp (od_ne hr.units) (xv 8) (xv 9) (nomark _))))) (by refine xn_cons ?_ ?_; exact (xn_ret xbl); exact xn_nil) xn_nil); exact xn_nil)))))))); exact (by refine xn_cons ?_ ?_; exact (xn_ret xbl); exact xn_nil))))
theorem fn_law {f : Addr} {fd : FuncData} (S_law : Fun K "law" "law" s_law f fd) (h__law_tree : DfL P w K mg base (lamP T) "_law_tree" 71 ["_law_kind","_law_row_here","_law_script"] m__law_tree) : FnOk P w K mg base CX0 72 f fd ["_law_script"] (spL K (lamP T) 1 m_law) := fn_ofL (N := ["_law_script","_law_row_here","_law_pile","_law_line","_law_ends","_law_k"]) (ps := ["_law_script"]) (F := b_law) S_law ⟨rfl,rfl,rfl,by decide +kernel,rfl,by decide +kernel,by decide +kernel⟩ (by decide) fun f cdv A outer s H E hr => by
 have nd : (["_law_script","_law_row_here","_law_pile","_law_line","_law_ends","_law_k"] : List Str).Nodup := by decide +kernel
 exact (by refine xl_cons ?_ ?_; exact (by refine xl_of ?_; exact (xs_set 1 nd (toS (xsl (xcl (df__law_row R) hr (xa_cons (xvS 0) xa_nil)) po_none' (po_some' xint))))); exact (by refine xl_cons ?_ ?_; exact (by refine xl_of ?_; exact (xs_set 2 nd (xmake0 R.k1.1 R.k1.2.1 R.k1.2.2))); exact (by refine xl_cons ?_ ?_; exact (by refine xl_of ?_; exact (xs_set 3 nd (xmake0 R.k0.1 R.k0.2.1 R.k0.2.2))); exact (by refine xl_cons ?_ ?_; exact (by refine xl_of ?_; exact (xs_own 4 nd (xlst (xa_cons xint (xa_cons xint xa_nil))))); exact (by refine xl_cons ?_ ?_; exact (by refine xl_of ?_; exact (xs_rng1 PassesOwn.never rfl R.z_range (xa_cons xint xa_nil) (xg_name 5 nd) (by refine xs_cons ?_ ?_; exact (xs_app 4 (xcl (df__law_end R) hr (xa_cons (xvS 1) (xa_cons (xop od_add (xcl (df__law_cell_at R) hr (xa_cons (xv 0) (xa_cons (xv 5) xa_nil))) (xop od_mul xint (xv 5))) xa_nil)))); exact xs_nil))); exact (by refine xl_cons ?_ ?_; exact (xl_thaw 4 (xl_ifT (lt_not (lt_tru (lx_callD (df__law_told_well R) hr (la_cons (lx_of (xv 2)) (la_cons (lx_call h__law_tree hr (xa_cons (xv 2) (xa_cons (xv 1) (xa_cons (xv 0) xa_nil)))) (la_cons (lx_of (xv 1)) (la_cons (lx_of (xv 4)) (la_cons (lx_of xbl) la_nil)))))))) (xls_of (by refine xs_cons ?_ ?_; exact (xs_ret xbl); exact xs_nil)) (xls_of xs_nil))); exact (by refine xl_cons ?_ ?_; exact (xl_retX (lx_callD (df__law_told_well R) hr (la_cons (lx_of (xv 3)) (la_cons (lx_call h__law_tree hr (xa_cons (xv 3) (xa_cons (xv 1) (xa_cons (xv 0) xa_nil)))) (la_cons (lx_of (xv 1)) (la_cons (lx_of (xv 4)) (la_cons (lx_of xbl) la_nil))))))); exact (by refine xls_of ?_; exact xs_nil))))))))
end
theorem all_mk {l : PySem.W.OpenLaw} {w : World} {K : PySem.W.Frag} {mg : Str -> Option Value} {fa C_Kind C_Line C_Pile cL T : Addr} {u_ALL_TIMES : Value} (h : Heap) (R : ∀ base,Rc l.prog w K mg base C_Kind C_Line C_Pile cL T u_ALL_TIMES) (hfa : mg "law" = some (.ref fa)) :
  ∃ fd : FuncData,(∀ (s : Shared) (v : Value),BindsTo s fd ⟨[v],[]⟩ [("_law_script",v)]) ∧ ∀ base : Heap,K.In base -> base.Ns mainGlobals mg -> LamB mg base cL T -> FnOk l.prog w K mg base CX0 72 fa fd ["_law_script"] (spL K (lamP T) 1 m_law) := by
 obtain ⟨f,fd,S,hm⟩ := (R h).t51.ex
 have e := hfa.symm.trans hm
 cases e
 obtain ⟨_,_,_,_,_,_,_,_,_,e,_,_⟩ := S.ex
 refine ⟨fd,fun s v => by rw [e]; exact .of_eq rfl,fun base _ _ LB => ?_⟩
 have h__law_order := df__law_order (R base) LB
 have h__law_tree := df__law_tree (R base) h__law_order
 exact fn_law (R base) S h__law_tree
theorem walk {l : PySem.W.OpenLaw} {qq : Program} {loose : List Str} {XP : (Str -> Option Value) -> Heap -> Prop} {YP : World -> Heap -> Prop} {d : DefRec} {K : Params -> PySem.W.Frag} {c T : Addr} (hn : l.most = some 63) (hdf : d.params.defaults = [])
  (hY : ∀ (w : World) (h : Heap),YP w h -> (K w.params).In h) (law : ∀ ns : List Int,ns.length ≤ 63 -> m_law [.frl (ns.map D.int)] = .ok (.bl true))
  (hTb : ∀ (w : World) (h : Heap),YP w h -> h.get? T = some (PySem.W.tabObj #[])) (hCd : ∀ w : World,PySem.W.codeHdIn (K w.params) c T = true) (hTK : ∀ w : World,(K w.params).lookup T = none)
  (F : ∀ (w : World) (mg : Str -> Option Value) (fa : Addr) (h : Heap),(K w.params).In h -> h.Ns mainGlobals mg -> mg d.name = some (.ref fa) ->
   ∃ fd : FuncData,(∀ (s : Shared) (u : Value),BindsTo s fd ⟨[u],[]⟩ [("_law_script",u)]) ∧ ∀ base : Heap,(K w.params).In base -> base.Ns mainGlobals mg -> LamB mg base c T -> FnOk l.prog w (K w.params) mg base CX0 72 fa fd ["_law_script"] (spL (K w.params) (lamP T) 1 m_law)) :
  PySem.W.WalkO qq loose XP YP l.row.toRowW d [] (fun f vs => PySem.call f vs) :=
 walkL (n := 63) (k := 72) (x := "_law_script") hn (by decide) hdf ⟨rfl,by decide,by decide⟩ hY hTb hCd hTK law F
end Pr
namespace Pr
open PySem L2 DL
theorem pow_int (k : Nat) : (2 : Int) ^ k = ((2 ^ k : Nat) : Int) := by simp
theorem bitXor_nat (x y : Nat) : Builtin.bitXor (x : Int) (y : Int) = ((x ^^^ y : Nat) : Int) := by
 have h1 : ¬ (0 : Int) ≤ Builtin.bitNot (x : Int) := by unfold Builtin.bitNot; omega
 have h2 : ¬ (0 : Int) ≤ Builtin.bitNot (y : Int) := by unfold Builtin.bitNot; omega
 have e : ∀ z : Int,Builtin.bitNot (Builtin.bitNot z) = z := fun z => by unfold Builtin.bitNot; omega
 have k1 : (0 : Int) ≤ (x : Int) := by omega
 have k2 : (0 : Int) ≤ (y : Int) := by omega
 have o := Bt.or_xor_and x y
 unfold Builtin.bitXor Builtin.bitOr Builtin.bitAnd
 simp [k1,k2,h1,h2,e]
 omega
theorem p30 : (2 : Nat) ^ 30 = 1073741824 := by decide
theorem last_time_eq (a b : Int) : m_last_time [.tup [.int a,.int b]] = .ok (.int (a + b - 1)) := by
 simp [m_last_time,b_last_time,startD,fVar,at_0,at_1]
theorem intBits_nat (z : Nat) : Builtin.Int.intBits (z : Int) = Bt.bits z := by
 unfold Builtin.Int.intBits Bt.bits
 by_cases h : z = 0
 ·subst h; rfl
 ·have h' : ((z : Int) == 0) = false := by simpa using h
  rw [if_neg h,h']
  simp
theorem least_eq {a b c d : Int} {f l : Nat} (hf : (if c < a then c else a) = (f : Int)) (hl : (if c + d - 1 > a + b - 1 then c + d - 1 else a + b - 1) = (l : Int)) (h1 : f < 1073741824) (h2 : l < 1073741824) :
  m_least [.tup [.int a,.int b],.tup [.int c,.int d]] = .ok (.tup [.int ((f / 2 ^ Bt.bits (f ^^^ l) * 2 ^ Bt.bits (f ^^^ l) : Nat) : Int),.int ((2 ^ Bt.bits (f ^^^ l) : Nat) : Int)]) := by
 have hb : Bt.bits (f ^^^ l) ≤ 30 := Bt.bits_le (Nat.xor_lt_two_pow (by rw [p30]; exact h1) (by rw [p30]; exact h2))
 generalize hn : Bt.bits (f ^^^ l) = n at *
 have p : (1 : Nat) ≤ 2 ^ n := Nat.one_le_two_pow
 have p2 : (2 : Nat) ^ n ≤ 1073741824 := by rw [← p30]; exact Nat.pow_le_pow_right (by decide) hb
 have c0 : cPow 1 (n : Int) = true := by simp [cPow]; omega
 have ep : (2 : Int) ^ n = ((2 ^ n : Nat) : Int) := pow_int n
 have c1 : cDiv (f : Int) ((2 ^ n : Nat) : Int) = true := by simp only [cDiv,decide_eq_true_eq]; omega
 have c2 : cMul ((f : Int) / ((2 ^ n : Nat) : Int)) ((2 ^ n : Nat) : Int) = true := by simp only [cMul,decide_eq_true_eq]; omega
 have ex : Builtin.bitXor (f : Int) (l : Int) = ((f ^^^ l : Nat) : Int) := bitXor_nat f l
 have eb : Builtin.Int.intBits ((f ^^^ l : Nat) : Int) = n := by rw [intBits_nat,hn]
 have em : ((f / 2 ^ n * 2 ^ n : Nat) : Int) = (f : Int) / ((2 ^ n : Nat) : Int) * ((2 ^ n : Nat) : Int) := by rw [Int.natCast_mul,Int.natCast_ediv]
 have hl2 : (if a + b < c + d then c + d - 1 else a + b - 1) = (l : Int) := by rw [← hl]; split <;> split <;> omega
 rw [em]
 generalize hz : ((2 ^ n : Nat) : Int) = z at *
 simp -implicitDefEqProofs [-e_min',-e_max',m_least,b_least,startD,fVar,at_0,at_1,last_time_eq,hf,hl,hl2,gBits,ex,eb,c0,ep,c1,c2]
abbrev tbL : MTab := [("Kind",m_Kind__lone),("Line",m_Line__lone),("Pile",m_Pile__lone)]
abbrev tbJ : MTab := [("Kind",m_Kind__joined),("Line",m_Line__joined),("Pile",m_Pile__joined)]
abbrev tbN : MTab := [("Kind",m_Kind__nothing),("Line",m_Line__nothing),("Pile",m_Pile__nothing)]
abbrev tbS : MTab := [("Kind",m_Kind__stand),("Line",m_Line__stand),("Pile",m_Pile__stand)]
structure Kd where
 C : Str
 en : List (Nat × D) -> D
 Okd : D -> Prop
 N : Nat
 lonM : List D -> Ou D
 jonM : List D -> Ou D
 notM : List D -> Ou D
 tl : tbM tbL (.obj C) = some lonM
 tj : tbM tbJ (.obj C) = some jonM
 tn : tbM tbN (.obj C) = some notM
 lon : ∀ (a : Nat) {d : D},Okd d -> lonM [.obj C,.int (a : Int),d] = .ok (en [(a,d)])
 jon : ∀ {xs ys : List (Nat × D)},xs.length + ys.length ≤ N -> jonM [.obj C,en xs,en ys] = .ok (en (xs ++ ys))
 nt : notM [.obj C] = .ok (en [])
 ime : ∀ xs,imm (en xs) = true
 imd : ∀ {d : D},Okd d -> imm d = true
 slf : ∀ xs,Self 6 (en xs)
 sld : ∀ {d : D},Okd d -> Self 6 d
def lone0 (a : Nat) (d : D) : List (Nat × D) := [(a,d)]
def join0 (xs ys : List (Nat × D)) : List (Nat × D) := xs ++ ys
open Tr in
theorem tv_ds : ∀ t : T,tv lone0 join0 t = t.ds
 | .lf a d => rfl
 | .nd q k l r => by
  show join0 (tv lone0 join0 l) (tv lone0 join0 r) = l.ds ++ r.ds
  rw [tv_ds l,tv_ds r]; rfl
open Tr in
abbrev E (K : Kd) : T -> D := enc K.en lone0 join0
open Tr in
abbrev EO (K : Kd) : Option T -> D := encO K.en lone0 join0
open Tr in
abbrev V (t : T) : List (Nat × D) := tv lone0 join0 t
section
open Tr
theorem c_hold {K X A d s : D} {b : Bool} (hs : m_stretch_of [X] = .ok s) (hh : m_holds [s,A] = .ok (.bl b)) : fNotT (fTru (fCall (m_holds) [(fCall (m_stretch_of) [(fVar 1)]),(fVar 2)])) [.val K,.val X,.val A,.val d] = .ok (!b) := by
 simp (decide := true) [tbM_tail,startD,fVar,fVarS,isT,at_0,at_1,at_2,at_3,at_4,hs,hh]
theorem put_far {F : List D -> Ou D} {K A d s f b : D} {xs : List D} (hs : m_stretch_of [.tup xs] = .ok s) (hh : m_holds [s,A] = .ok (.bl false)) (hl : m_leaf [K,A,d] = .ok f) (hb : m_beside [K,.tup xs,f] = .ok b) : runD false 4 (b_put_in F) [K,.tup xs,A,d] = .ok b := by
 refine run_rt ((if_no (b := false) rfl rfl).trans (if_ret (b := true) ?_ rfl ?_))
 ·exact c_hold hs hh
 ·show fCall (m_beside) [(fVar 0),(fVar 1),(fCall (m_leaf) [(fVar 0),(fVar 2),(fVar 3)])] [.val K,.val (.tup xs),.val A,.val d] = .ok b
  simp (decide := true) [tbM_tail,startD,fVar,fVarS,isT,at_0,at_1,at_2,at_3,at_4,hl,hb]
theorem put_in_way {F : List D -> Ou D} {K A d s z1 z2 z3 l r : D} (hs : m_stretch_of [.tup [z1,z2,z3,l,r]] = .ok s) (hh : m_holds [s,A] = .ok (.bl true)) (hl : m_is_leaf [.tup [z1,z2,z3,l,r]] = .ok (.bl false)) : runD false 4 (b_put_in F) [K,.tup [z1,z2,z3,l,r],A,d] = runD false 4 (sSeq (sIf (fTru (fCall (m_is_early) [(fVar 1),(fVar 2)])) (sSeq (sRet (fCall (m_knot) [(fVar 0),(fCall (F) [(fVar 0),(f2 gIx (fVar 1) (fC (.int 3))),(fVar 2),(fVar 3)]),(f2 gIx (fVar 1) (fC (.int 4)))])) sNext) sNext) (sSeq (sRet (fCall (m_knot) [(fVar 0),(f2 gIx (fVar 1) (fC (.int 3))),(fCall (F) [(fVar 0),(f2 gIx (fVar 1) (fC (.int 4))),(fVar 2),(fVar 3)])])) sNext)) [K,.tup [z1,z2,z3,l,r],A,d] := by
 have h1 : fTru (fCall (m_is_leaf) [(fVar 1)]) [.val K,.val (.tup [z1,z2,z3,l,r]),.val A,.val d] = .ok false := by simp (decide := true) [tbM_tail,startD,fVar,fVarS,isT,at_0,at_1,at_2,at_3,at_4,hl]
 have e : (b_put_in F) (startD 4 [K,.tup [z1,z2,z3,l,r],A,d]) = _ := (if_no (b := false) rfl rfl).trans ((if_no (c_hold hs hh) rfl).trans (if_no h1 rfl))
 unfold runD
 rw [e]
 try rfl
theorem put_early {F : List D -> Ou D} {K A d s l' b z1 z2 z3 l r : D} (hs : m_stretch_of [.tup [z1,z2,z3,l,r]] = .ok s) (hh : m_holds [s,A] = .ok (.bl true)) (hl : m_is_leaf [.tup [z1,z2,z3,l,r]] = .ok (.bl false)) (he : m_is_early [.tup [z1,z2,z3,l,r],A] = .ok (.bl true)) (hf : F [K,l,A,d] = .ok l') (hk : m_knot [K,l',r] = .ok b) : runD false 4 (b_put_in F) [K,.tup [z1,z2,z3,l,r],A,d] = .ok b := by
 rw [put_in_way hs hh hl]
 have h1 : fTru (fCall (m_is_early) [(fVar 1),(fVar 2)]) [.val K,.val (.tup [z1,z2,z3,l,r]),.val A,.val d] = .ok true := by simp (decide := true) [tbM_tail,startD,fVar,fVarS,isT,at_0,at_1,at_2,at_3,at_4,he]
 exact run_rt (if_ret h1 rfl (by simp (decide := true) [tbM_tail,startD,fVar,fVarS,isT,at_0,at_1,at_2,at_3,at_4,hf,hk]))
theorem put_late {F : List D -> Ou D} {K A d s l' b z1 z2 z3 l r : D} (hs : m_stretch_of [.tup [z1,z2,z3,l,r]] = .ok s) (hh : m_holds [s,A] = .ok (.bl true)) (hl : m_is_leaf [.tup [z1,z2,z3,l,r]] = .ok (.bl false)) (he : m_is_early [.tup [z1,z2,z3,l,r],A] = .ok (.bl false)) (hf : F [K,r,A,d] = .ok l') (hk : m_knot [K,l,l'] = .ok b) : runD false 4 (b_put_in F) [K,.tup [z1,z2,z3,l,r],A,d] = .ok b := by
 rw [put_in_way hs hh hl]
 have h1 : fTru (fCall (m_is_early) [(fVar 1),(fVar 2)]) [.val K,.val (.tup [z1,z2,z3,l,r]),.val A,.val d] = .ok false := by simp (decide := true) [tbM_tail,startD,fVar,fVarS,isT,at_0,at_1,at_2,at_3,at_4,he]
 exact run_rt ((if_no h1 rfl).trans (ret_is (by simp (decide := true) [tbM_tail,startD,fVar,fVarS,isT,at_0,at_1,at_2,at_3,at_4,hf,hk])))
variable (K : Kd)
theorem insK_len (a : Nat) (d : D) (l : List (Nat × D)) : (insK a d l).length = l.length + 1 := (insK_perm l).length_eq
theorem stretch_eq (t : T) : m_stretch_of [E K t] = .ok (.tup [.int (t.lo : Int),.int (t.sz : Int)]) := by
 obtain ⟨r,e⟩ := enc_form K.en lone0 join0 t
 rw [show E K t = _ from e]
 simp (decide := true) [tbM_tail,startD,fVar,fVarS,isT,at_0,at_1,at_2,at_3,at_4,m_stretch_of,b_stretch_of]
theorem total_of_eq (t : T) : m_total_of [E K t] = .ok (K.en (V t)) := by
 obtain ⟨r,e⟩ := enc_form K.en lone0 join0 t
 rw [show E K t = _ from e]
 simp (decide := true) [tbM_tail,startD,fVar,fVarS,isT,at_0,at_1,at_2,at_3,at_4,m_total_of,b_total_of]
theorem leaf_lf (a : Nat) (d : D) : m_is_leaf [E K (.lf a d)] = .ok (.bl true) := by
 simp (decide := true) [tbM_tail,startD,fVar,fVarS,isT,at_0,at_1,at_2,at_3,at_4,m_is_leaf,b_is_leaf,E,enc]
theorem leaf_nd (q k : Nat) (l r : T) : m_is_leaf [E K (.nd q k l r)] = .ok (.bl false) := by
 have h : ¬ ((2 ^ (k + 1) : Nat) : Int) = 1 := by
  have : 2 ^ (k + 1) = 2 ^ k * 2 := Nat.pow_succ ..
  have := Nat.two_pow_pos k
  omega
 simp only [E,enc]
 generalize ((2 ^ (k + 1) : Nat) : Int) = z at *
 simp (decide := true) [tbM_tail,startD,fVar,fVarS,isT,at_0,at_1,at_2,at_3,at_4,m_is_leaf,b_is_leaf,h]
theorem holds_eq (a b x : Int) : m_holds [.tup [.int a,.int b],.int x] = .ok (.bl (decide (a ≤ x) && decide (x ≤ a + b - 1))) := by
 simp (decide := true) [tbM_tail,startD,fVar,fVarS,isT,at_0,at_1,at_2,at_3,at_4,m_holds,b_holds,last_time_eq]
theorem knot_eq {l r : T} (hB : l.ds.length + r.ds.length ≤ K.N) (hl : Good l) (hr : Good r) (hd : l.lo + l.sz ≤ r.lo) : m_knot [.obj K.C,E K l,E K r] = .ok (E K (mk l r)) := by
 have pl := sz_pos l
 have pr := sz_pos r
 have ul := hl.up
 have ur := hr.up
 have hall : all = 1073741824 := rfl
 have e := Bt.bits_blocks (q := l.q) (i := l.e) (r := r.q) (j := r.e) (x := l.lo) (a := l.lo) (y := r.lo + r.sz - 1) (c := r.lo) hd (Nat.mul_div_cancel _ pl) (Nat.mul_div_cancel _ pl) (Bt.in_block.mpr ⟨by show r.lo ≤ _; omega,by show _ < r.lo + r.sz; omega⟩) (Nat.mul_div_cancel _ pr)
 have el := least_eq (a := (l.lo : Int)) (b := (l.sz : Int)) (c := (r.lo : Int)) (d := (r.sz : Int)) (f := l.lo) (l := r.lo + r.sz - 1) (by rw [if_neg (by omega)]) (by rw [if_pos (by omega)]; omega) (by omega) (by omega)
 rw [e] at el
 have em := enc_mk K.en lone0 join0 (l := l) (r := r) (by omega)
 rw [show E K (mk l r) = _ from em]
 have s1 := stretch_eq K l
 have s2 := stretch_eq K r
 have t1 := total_of_eq K l
 have t2 := total_of_eq K r
 have j := (show K.jonM [.obj K.C,K.en (tv lone0 join0 l),K.en (tv lone0 join0 r)] = .ok (K.en (join0 (tv lone0 join0 l) (tv lone0 join0 r))) by rw [tv_ds,tv_ds]; exact K.jon hB)
 generalize ((l.lo / 2 ^ Bt.bits (l.lo ^^^ r.lo) * 2 ^ Bt.bits (l.lo ^^^ r.lo) : Nat) : Int) = u1 at *
 generalize ((2 ^ Bt.bits (l.lo ^^^ r.lo) : Nat) : Int) = u2 at *
 change m_stretch_of [enc K.en lone0 join0 l] = _ at s1
 change m_stretch_of [enc K.en lone0 join0 r] = _ at s2
 change m_total_of [enc K.en lone0 join0 l] = _ at t1
 change m_total_of [enc K.en lone0 join0 r] = _ at t2
 show m_knot [.obj K.C,enc K.en lone0 join0 l,enc K.en lone0 join0 r] = _
 generalize enc K.en lone0 join0 l = L at *
 generalize enc K.en lone0 join0 r = R at *
 change _ = Ou.ok (K.en (join0 (tv lone0 join0 l) (tv lone0 join0 r))) at j
 change K.jonM [.obj K.C,K.en (tv lone0 join0 l),K.en (tv lone0 join0 r)] = _ at j
 change _ = Ou.ok (K.en (tv lone0 join0 l)) at t1
 change _ = Ou.ok (K.en (tv lone0 join0 r)) at t2
 have tj := K.tj
 simp (decide := true) [tbM_tail,startD,fVar,fVarS,isT,at_0,at_1,at_2,at_3,at_4,m_knot,b_knot,s1,s2,t1,t2,el,tj,j]
theorem leaf_eq (a : Nat) {d : D} (h : K.Okd d) : m_leaf [.obj K.C,.int (a : Int),d] = .ok (E K (.lf a d)) := by
 have l := K.lon a h
 have tl := K.tl
 simp (decide := true) [tbM_tail,startD,fVar,fVarS,isT,at_0,at_1,at_2,at_3,at_4,m_leaf,b_leaf,tl,l,E,enc,lone0]
theorem beside_eq {t : T} {a : Nat} {d : D} (hB : t.ds.length + 1 ≤ K.N) (ht : Good t) (ha : a < all) (hn : a < t.lo ∨ t.lo + t.sz ≤ a) : m_beside [.obj K.C,E K t,E K (.lf a d)] = .ok (E K (if a < t.lo then mk (.lf a d) t else mk t (.lf a d))) := by
 obtain ⟨r,e⟩ := enc_form K.en lone0 join0 t
 have gl : Good (.lf a d) := .lf ha
 have la : (T.lf a d).lo = a := by simp [T.lo,T.q,T.e]
 have sa : (T.lf a d).sz = 1 := rfl
 have e2 : E K (.lf a d) = .tup [.int (a : Int),.int 1,K.en (lone0 a d),d] := rfl
 by_cases h : a < t.lo
 ·have k := knot_eq K (l := .lf a d) (r := t) (by simp only [T.ds,List.length_cons,List.length_nil]; omega) gl ht (by omega)
  have h' : (a : Int) < (t.lo : Int) := by omega
  rw [if_pos h]
  change enc K.en lone0 join0 t = _ at e
  change m_knot [.obj K.C,E K (.lf a d),enc K.en lone0 join0 t] = _ at k
  show m_beside [.obj K.C,enc K.en lone0 join0 t,E K (.lf a d)] = _
  rw [e,e2] at k ⊢
  simp (decide := true) [tbM_tail,startD,fVar,fVarS,isT,at_0,at_1,at_2,at_3,at_4,m_beside,b_beside,h',k]
 ·have k := knot_eq K (l := t) (r := .lf a d) (by simp only [T.ds,List.length_cons,List.length_nil]; omega) ht gl (by omega)
  have h' : ¬ (a : Int) < (t.lo : Int) := by omega
  rw [if_neg h]
  change enc K.en lone0 join0 t = _ at e
  change m_knot [.obj K.C,enc K.en lone0 join0 t,E K (.lf a d)] = _ at k
  show m_beside [.obj K.C,enc K.en lone0 join0 t,E K (.lf a d)] = _
  rw [e,e2] at k ⊢
  simp (decide := true) [tbM_tail,startD,fVar,fVarS,isT,at_0,at_1,at_2,at_3,at_4,m_beside,b_beside,h',k]
theorem early_eq (q k a : Nat) (l r : T) : m_is_early [E K (.nd q k l r),.int (a : Int)] = .ok (.bl (decide (((q * 2 ^ (k + 1) : Nat) : Int) ≤ (a : Int)) && decide ((a : Int) ≤ ((q * 2 ^ (k + 1) : Nat) : Int) + ((2 ^ k : Nat) : Int) - 1))) := by
 have s := stretch_eq K (.nd q k l r)
 have e1 : ((T.nd q k l r).lo : Int) = ((q * 2 ^ (k + 1) : Nat) : Int) := rfl
 have e2 : ((T.nd q k l r).sz : Int) = ((2 ^ (k + 1) : Nat) : Int) := rfl
 have eh : ((2 ^ (k + 1) : Nat) : Int) / 2 = ((2 ^ k : Nat) : Int) := by
  have : 2 ^ (k + 1) = 2 ^ k * 2 := Nat.pow_succ ..
  omega
 rw [e1,e2] at s
 generalize E K (.nd q k l r) = z at *
 generalize ((q * 2 ^ (k + 1) : Nat) : Int) = lo at *
 generalize ((2 ^ (k + 1) : Nat) : Int) = sz at *
 generalize ((2 ^ k : Nat) : Int) = hz at *
 have h := holds_eq lo hz a
 simp (decide := true) [tbM_tail,startD,fVar,fVarS,isT,at_0,at_1,at_2,at_3,at_4,m_is_early,b_is_early,s,m_halves,b_halves,eh,h]
theorem put_eq {a : Nat} {d : D} (ha : a < all) (hd : K.Okd d) : ∀ (n : Nat) (t t' : T),t.ds.length + 1 ≤ K.N -> Good t -> t.e < n -> put a d t = some t' -> m_put_in n [.obj K.C,E K t,.int (a : Int),d] = .ok (E K t')
 | 0,t,_,_,_,h,_ => by omega
 | n + 1,.lf b e,t',hB,G,_,hp => by
  have hu : m_put_in (n + 1) [.obj K.C,E K (.lf b e),.int (a : Int),d] = runD false 4 (b_put_in (m_put_in n)) [.obj K.C,E K (.lf b e),.int (a : Int),d] := rfl
  rw [hu]
  generalize m_put_in n = F
  have lb : (T.lf b e).lo = b := by simp [T.lo,T.q,T.e]
  have sb : (T.lf b e).sz = 1 := rfl
  have hab : a ≠ b := fun z => by
   subst z
   simp [put] at hp
  have s := stretch_eq K (.lf b e)
  have lq := leaf_eq K a hd
  have bq := beside_eq K (d := d) hB G ha (by rw [lb,sb]; omega)
  rw [lb] at bq s
  rw [sb] at s
  have hh := holds_eq (b : Int) 1 a
  have hf : (decide ((b : Int) ≤ (a : Int)) && decide ((a : Int) ≤ (b : Int) + 1 - 1)) = false := by
   by_cases z : (b : Int) ≤ (a : Int)
   ·have : ¬ (a : Int) ≤ (b : Int) + 1 - 1 := by omega
    simp [this]; omega
   ·simp [z]
  rw [hf] at hh
  have ht : (if a < b then mk (.lf a d) (.lf b e) else mk (.lf b e) (.lf a d)) = t' := by
   simp only [put] at hp
   by_cases z : a < b
   ·rw [if_pos z] at hp ⊢; exact Option.some.inj hp
   ·rw [if_neg z,if_pos (show b < a by omega)] at hp
    rw [if_neg z]; exact Option.some.inj hp
  rw [ht] at bq
  have hx : ∃ xs,E K (.lf b e) = .tup xs := ⟨_,rfl⟩
  obtain ⟨xs,hx⟩ := hx
  rw [hx] at s bq ⊢
  have s' : m_stretch_of [.tup xs] = .ok (.tup [.int (b : Int),.int 1]) := s
  exact put_far s' hh lq bq
 | n + 1,.nd q k l r,t',hB,G,hn,hp => by
  have hBl : l.ds.length + r.ds.length + 1 ≤ K.N := by simpa only [T.ds,List.length_append] using hB
  have hu : m_put_in (n + 1) [.obj K.C,E K (.nd q k l r),.int (a : Int),d] = runD false 4 (b_put_in (m_put_in n)) [.obj K.C,E K (.nd q k l r),.int (a : Int),d] := rfl
  obtain ⟨hl,hr,el,er,hdj⟩ := sub_e G
  have hn' : k + 1 < n + 1 := hn
  have lb : (T.nd q k l r).lo = q * 2 ^ (k + 1) := rfl
  have sb : (T.nd q k l r).sz = 2 ^ (k + 1) := rfl
  have s := stretch_eq K (.nd q k l r)
  rw [lb,sb] at s
  have hh := holds_eq ((q * 2 ^ (k + 1) : Nat) : Int) ((2 ^ (k + 1) : Nat) : Int) a
  have ex : E K (.nd q k l r) = .tup [.int ((q * 2 ^ (k + 1) : Nat) : Int),.int ((2 ^ (k + 1) : Nat) : Int),K.en (join0 (V l) (V r)),E K l,E K r] := rfl
  have pk := Nat.two_pow_pos k
  have e2 : 2 ^ (k + 1) = 2 ^ k * 2 := Nat.pow_succ ..
  by_cases hin : a < q * 2 ^ (k + 1) ∨ q * 2 ^ (k + 1) + 2 ^ (k + 1) ≤ a
  ·have lq := leaf_eq K a hd
   have bq := beside_eq K (d := d) hB G ha (by rw [lb,sb]; exact hin)
   rw [lb] at bq
   have hf : (decide (((q * 2 ^ (k + 1) : Nat) : Int) ≤ (a : Int)) && decide ((a : Int) ≤ ((q * 2 ^ (k + 1) : Nat) : Int) + ((2 ^ (k + 1) : Nat) : Int) - 1)) = false := by
    rcases hin with z | z
    ·have : ¬ ((q * 2 ^ (k + 1) : Nat) : Int) ≤ (a : Int) := by omega
     rw [decide_eq_false this]; rfl
    ·have : ¬ (a : Int) ≤ ((q * 2 ^ (k + 1) : Nat) : Int) + ((2 ^ (k + 1) : Nat) : Int) - 1 := by omega
     rw [decide_eq_false this,Bool.and_false]
   rw [hf] at hh
   have ht : (if a < q * 2 ^ (k + 1) then mk (.lf a d) (.nd q k l r) else mk (.nd q k l r) (.lf a d)) = t' := by
    simp only [put] at hp
    by_cases z : a < q * 2 ^ (k + 1)
    ·rw [if_pos z] at hp ⊢; exact Option.some.inj hp
    ·rw [if_neg z,if_pos (by omega)] at hp
     rw [if_neg z]; exact Option.some.inj hp
   rw [ht] at bq
   rw [hu]
   rw [ex] at s bq ⊢
   exact put_far s hh lq bq
  ·have n1 : ¬ a < q * 2 ^ (k + 1) := fun z => hin (.inl z)
   have n2 : ¬ q * 2 ^ (k + 1) + 2 ^ (k + 1) ≤ a := fun z => hin (.inr z)
   have hf : (decide (((q * 2 ^ (k + 1) : Nat) : Int) ≤ (a : Int)) && decide ((a : Int) ≤ ((q * 2 ^ (k + 1) : Nat) : Int) + ((2 ^ (k + 1) : Nat) : Int) - 1)) = true := by
    rw [decide_eq_true (show ((q * 2 ^ (k + 1) : Nat) : Int) ≤ (a : Int) by omega),decide_eq_true (show (a : Int) ≤ ((q * 2 ^ (k + 1) : Nat) : Int) + ((2 ^ (k + 1) : Nat) : Int) - 1 by omega)]
    rfl
   rw [hf] at hh
   have lfn := leaf_nd K q k l r
   have eq := early_eq K q k a l r
   simp only [put,if_neg n1,if_neg n2] at hp
   by_cases c3 : a < q * 2 ^ (k + 1) + 2 ^ k
   ·have he : (decide (((q * 2 ^ (k + 1) : Nat) : Int) ≤ (a : Int)) && decide ((a : Int) ≤ ((q * 2 ^ (k + 1) : Nat) : Int) + ((2 ^ k : Nat) : Int) - 1)) = true := by
     rw [decide_eq_true (show ((q * 2 ^ (k + 1) : Nat) : Int) ≤ (a : Int) by omega),decide_eq_true (show (a : Int) ≤ ((q * 2 ^ (k + 1) : Nat) : Int) + ((2 ^ k : Nat) : Int) - 1 by omega)]
     rfl
    rw [he] at eq
    rw [if_pos c3] at hp
    cases hpl : put a d l with
    | none => rw [hpl] at hp; cases hp
    | some l' =>
     rw [hpl] at hp
     obtain rfl : mk l' r = t' := Option.some.inj hp
     have ih := put_eq ha hd n l l' (by omega) hl (by omega) hpl
     have hnl : ∀ p ∈ l.ds,p.1 ≠ a := put_new l (by rw [hpl]; simp) hl
     obtain ⟨l2,P⟩ := put_ok (d := d) ha hl hnl
     have el2 : l2 = l' := Option.some.inj (P.eq.symm.trans hpl)
     subst el2
     have ek : q * 2 ^ (k + 1) = 2 * q * 2 ^ k := by rw [e2,Nat.mul_comm (2 ^ k) 2,← Nat.mul_assoc,Nat.mul_comm q 2]
     have wl : Within l2 (2 * q) k := by
      cases G with
      | nd _ _ h1 h2 h3 h4 h5 => exact P.win (2 * q) k ⟨by omega,by omega⟩ (Bt.in_block.mpr ⟨by omega,by omega⟩)
     have hdis : l2.lo + l2.sz ≤ r.lo := by
      cases G with
      | nd _ _ h1 h2 h3 h4 h5 => have := wl.2; omega
     have kq := knot_eq K (by rw [P.ds,insK_len]; omega) P.good hr hdis
     rw [hu]
     rw [ex] at s lfn eq ⊢
     exact put_early s hh lfn eq ih kq
   ·have he : (decide (((q * 2 ^ (k + 1) : Nat) : Int) ≤ (a : Int)) && decide ((a : Int) ≤ ((q * 2 ^ (k + 1) : Nat) : Int) + ((2 ^ k : Nat) : Int) - 1)) = false := by
     rw [decide_eq_false (show ¬ (a : Int) ≤ ((q * 2 ^ (k + 1) : Nat) : Int) + ((2 ^ k : Nat) : Int) - 1 by omega),Bool.and_false]
    rw [he] at eq
    rw [if_neg c3] at hp
    cases hpl : put a d r with
    | none => rw [hpl] at hp; cases hp
    | some r' =>
     rw [hpl] at hp
     obtain rfl : mk l r' = t' := Option.some.inj hp
     have ih := put_eq ha hd n r r' (by omega) hr (by omega) hpl
     have hnr : ∀ p ∈ r.ds,p.1 ≠ a := put_new r (by rw [hpl]; simp) hr
     obtain ⟨r2,P⟩ := put_ok (d := d) ha hr hnr
     have el2 : r2 = r' := Option.some.inj (P.eq.symm.trans hpl)
     subst el2
     have ek : q * 2 ^ (k + 1) = 2 * q * 2 ^ k := by rw [e2,Nat.mul_comm (2 ^ k) 2,← Nat.mul_assoc,Nat.mul_comm q 2]
     have eb : (2 * q + 1) * 2 ^ k = q * 2 ^ (k + 1) + 2 ^ k := by rw [Nat.add_mul,Nat.one_mul,ek]
     have wr : Within r2 (2 * q + 1) k := by
      cases G with
      | nd _ _ h1 h2 h3 h4 h5 => exact P.win (2 * q + 1) k ⟨by omega,by omega⟩ (Bt.in_block.mpr ⟨by omega,by omega⟩)
     have hdis : l.lo + l.sz ≤ r2.lo := by
      cases G with
      | nd _ _ h1 h2 h3 h4 h5 => have := wr.1; omega
     have kq := knot_eq K (by rw [P.ds,insK_len]; omega) hl P.good hdis
     rw [hu]
     rw [ex] at s lfn eq ⊢
     exact put_late s hh lfn eq ih kq
def GoodO : Option T -> Prop
 | some t => Good t
 | none => True
theorem put_in_eq {o : Option T} (hB : (dsO o).length + 1 ≤ K.N) (h : GoodO o) {a : Nat} (ha : a < all) {d : D} (hd : K.Okd d) (hn : ∀ p ∈ dsO o,p.1 ≠ a) : ∃ t',m_put_in 64 [.obj K.C,EO K o,.int (a : Int),d] = .ok (E K t') ∧ Good t' ∧ t'.ds = insK a d (dsO o) := by
 cases o with
 | none =>
  refine ⟨.lf a d,?_,.lf ha,rfl⟩
  have hu : m_put_in 64 [.obj K.C,.non,.int (a : Int),d] = runD false 4 (b_put_in (m_put_in 63)) [.obj K.C,.non,.int (a : Int),d] := rfl
  show m_put_in 64 [.obj K.C,.non,.int (a : Int),d] = _
  rw [hu]
  exact run_rt (if_ret (b := true) rfl rfl (leaf_eq K a hd))
 | some t =>
  obtain ⟨t',P⟩ := put_ok (d := d) ha h hn
  have := depth h
  exact ⟨t',put_eq K ha hd 64 t t' hB h (by omega) P.eq,P.good,P.ds⟩
end
section
open Tr
variable (K : Kd)
theorem within_eq {a b c e : Int} (hb : 1 ≤ b) : m_within [.tup [.int a,.int b],.tup [.int c,.int e]] = .ok (.bl (decide (c ≤ a ∧ a + b ≤ c + e))) := by
 have h1 := holds_eq c e a
 have h2 := holds_eq c e (a + b - 1)
 have l := last_time_eq a b
 by_cases z : c ≤ a ∧ a + b ≤ c + e
 ·have x1 : (decide (c ≤ a) && decide (a ≤ c + e - 1)) = true := by simp; omega
  have x2 : (decide (c ≤ a + b - 1) && decide (a + b - 1 ≤ c + e - 1)) = true := by simp; omega
  rw [x1] at h1
  rw [x2] at h2
  rw [decide_eq_true z]
  simp (decide := true) [tbM_tail,startD,fVar,fVarS,isT,at_0,at_1,at_2,at_3,at_4,m_within,b_within,h1,h2,l]
 ·rw [decide_eq_false z]
  by_cases y : c ≤ a ∧ a ≤ c + e - 1
  ·have x1 : (decide (c ≤ a) && decide (a ≤ c + e - 1)) = true := by simp; omega
   have x2 : (decide (c ≤ a + b - 1) && decide (a + b - 1 ≤ c + e - 1)) = false := by simp; omega
   rw [x1] at h1
   rw [x2] at h2
   simp (decide := true) [tbM_tail,startD,fVar,fVarS,isT,at_0,at_1,at_2,at_3,at_4,m_within,b_within,h1,h2,l]
  ·have x1 : (decide (c ≤ a) && decide (a ≤ c + e - 1)) = false := by simp; omega
   rw [x1] at h1
   simp (decide := true) [tbM_tail,startD,fVar,fVarS,isT,at_0,at_1,at_2,at_3,at_4,m_within,b_within,h1,l]
def blk (b : Nat × Nat) : D := .tup [.int ((b.1 * 2 ^ b.2 : Nat) : Int),.int ((2 ^ b.2 : Nat) : Int)]
def down (Q n : Nat) : T -> Option T
 | .lf _ _ => none
 | .nd q k l r => if q * 2 ^ (k + 1) ≤ Q * 2 ^ n ∧ Q * 2 ^ n + 2 ^ n ≤ q * 2 ^ (k + 1) + 2 ^ k then some l else if q * 2 ^ (k + 1) + 2 ^ k ≤ Q * 2 ^ n ∧ Q * 2 ^ n + 2 ^ n ≤ q * 2 ^ (k + 1) + 2 ^ (k + 1) then some r else none
theorem insT_step (Q n : Nat) (t : T) : insT Q n t = if Within t Q n then some t else (down Q n t).bind (insT Q n) := by
 cases t with
 | lf a d => simp only [insT,down]; split <;> rfl
 | nd q k l r =>
  simp only [insT,down]
  split
  ·rfl
  ·split
   ·rfl
   ·split <;> rfl
theorem down_eq (Q n : Nat) (t : T) : m_one_step_down [E K t,blk (Q,n)] = .ok (EO K (down Q n t)) := by
 cases t with
 | lf a d =>
  have l := leaf_lf K a d
  have hx : ∃ xs,E K (.lf a d) = .tup xs := ⟨_,rfl⟩
  obtain ⟨xs,hx⟩ := hx
  rw [hx] at l ⊢
  show _ = Ou.ok D.non
  generalize blk (Q,n) = z
  simp (decide := true) [tbM_tail,startD,fVar,fVarS,isT,at_0,at_1,at_2,at_3,at_4,m_one_step_down,b_one_step_down,l]
 | nd q k l r =>
  have ln := leaf_nd K q k l r
  have s := stretch_eq K (.nd q k l r)
  have e1 : ((T.nd q k l r).lo : Int) = ((q * 2 ^ (k + 1) : Nat) : Int) := rfl
  have e2 : ((T.nd q k l r).sz : Int) = ((2 ^ (k + 1) : Nat) : Int) := rfl
  have pn := Nat.two_pow_pos n
  have ep : 2 ^ (k + 1) = 2 ^ k * 2 := Nat.pow_succ ..
  have eh : ((2 ^ (k + 1) : Nat) : Int) / 2 = ((2 ^ k : Nat) : Int) := by omega
  rw [e1,e2] at s
  have w1 := within_eq (a := ((Q * 2 ^ n : Nat) : Int)) (b := ((2 ^ n : Nat) : Int)) (c := ((q * 2 ^ (k + 1) : Nat) : Int)) (e := ((2 ^ k : Nat) : Int)) (by omega)
  have w2 := within_eq (a := ((Q * 2 ^ n : Nat) : Int)) (b := ((2 ^ n : Nat) : Int)) (c := ((q * 2 ^ (k + 1) : Nat) : Int) + ((2 ^ k : Nat) : Int)) (e := ((2 ^ k : Nat) : Int)) (by omega)
  have ex : E K (.nd q k l r) = .tup [.int ((q * 2 ^ (k + 1) : Nat) : Int),.int ((2 ^ (k + 1) : Nat) : Int),K.en (join0 (V l) (V r)),E K l,E K r] := rfl
  have eb : blk (Q,n) = .tup [.int ((Q * 2 ^ n : Nat) : Int),.int ((2 ^ n : Nat) : Int)] := rfl
  have hv : m_halves [.tup [.int ((q * 2 ^ (k + 1) : Nat) : Int),.int ((2 ^ (k + 1) : Nat) : Int)]] = .ok (.tup [.tup [.int ((q * 2 ^ (k + 1) : Nat) : Int),.int ((2 ^ k : Nat) : Int)],.tup [.int (((q * 2 ^ (k + 1) : Nat) : Int) + ((2 ^ k : Nat) : Int)),.int ((2 ^ k : Nat) : Int)]]) := by
   generalize ((q * 2 ^ (k + 1) : Nat) : Int) = z1 at *
   generalize ((2 ^ (k + 1) : Nat) : Int) = z2 at *
   generalize ((2 ^ k : Nat) : Int) = z8 at *
   simp (decide := true) [tbM_tail,startD,fVar,fVarS,isT,at_0,at_1,at_2,at_3,at_4,m_halves,b_halves,eh]
  by_cases c1 : q * 2 ^ (k + 1) ≤ Q * 2 ^ n ∧ Q * 2 ^ n + 2 ^ n ≤ q * 2 ^ (k + 1) + 2 ^ k
  ·have d1 : ((q * 2 ^ (k + 1) : Nat) : Int) ≤ ((Q * 2 ^ n : Nat) : Int) ∧ ((Q * 2 ^ n : Nat) : Int) + ((2 ^ n : Nat) : Int) ≤ ((q * 2 ^ (k + 1) : Nat) : Int) + ((2 ^ k : Nat) : Int) := by omega
   rw [decide_eq_true d1] at w1
   have hd : down Q n (.nd q k l r) = some l := by simp only [down]; rw [if_pos c1]
   rw [hd]
   show _ = Ou.ok (E K l)
   rw [eb]
   rw [ex] at ln s ⊢
   generalize ((q * 2 ^ (k + 1) : Nat) : Int) = z1 at *
   generalize ((2 ^ (k + 1) : Nat) : Int) = z2 at *
   generalize K.en (join0 (V l) (V r)) = z3 at *
   generalize E K l = z4 at *
   generalize E K r = z5 at *
   generalize ((Q * 2 ^ n : Nat) : Int) = z6 at *
   generalize ((2 ^ n : Nat) : Int) = z7 at *
   generalize ((2 ^ k : Nat) : Int) = z8 at *
   simp (decide := true) [tbM_tail,startD,fVar,fVarS,isT,at_0,at_1,at_2,at_3,at_4,m_one_step_down,b_one_step_down,ln,s,hv,w1]
  ·have d1 : ¬ (((q * 2 ^ (k + 1) : Nat) : Int) ≤ ((Q * 2 ^ n : Nat) : Int) ∧ ((Q * 2 ^ n : Nat) : Int) + ((2 ^ n : Nat) : Int) ≤ ((q * 2 ^ (k + 1) : Nat) : Int) + ((2 ^ k : Nat) : Int)) := by omega
   rw [decide_eq_false d1] at w1
   by_cases c2 : q * 2 ^ (k + 1) + 2 ^ k ≤ Q * 2 ^ n ∧ Q * 2 ^ n + 2 ^ n ≤ q * 2 ^ (k + 1) + 2 ^ (k + 1)
   ·have d2 : ((q * 2 ^ (k + 1) : Nat) : Int) + ((2 ^ k : Nat) : Int) ≤ ((Q * 2 ^ n : Nat) : Int) ∧ ((Q * 2 ^ n : Nat) : Int) + ((2 ^ n : Nat) : Int) ≤ ((q * 2 ^ (k + 1) : Nat) : Int) + ((2 ^ k : Nat) : Int) + ((2 ^ k : Nat) : Int) := by omega
    rw [decide_eq_true d2] at w2
    have hd : down Q n (.nd q k l r) = some r := by simp only [down]; rw [if_neg c1,if_pos c2]
    rw [hd]
    show _ = Ou.ok (E K r)
    rw [eb]
    rw [ex] at ln s ⊢
    generalize ((q * 2 ^ (k + 1) : Nat) : Int) = z1 at *
    generalize ((2 ^ (k + 1) : Nat) : Int) = z2 at *
    generalize K.en (join0 (V l) (V r)) = z3 at *
    generalize E K l = z4 at *
    generalize E K r = z5 at *
    generalize ((Q * 2 ^ n : Nat) : Int) = z6 at *
    generalize ((2 ^ n : Nat) : Int) = z7 at *
    generalize ((2 ^ k : Nat) : Int) = z8 at *
    simp (decide := true) [tbM_tail,startD,fVar,fVarS,isT,at_0,at_1,at_2,at_3,at_4,m_one_step_down,b_one_step_down,ln,s,hv,w1,w2]
   ·have d2 : ¬ (((q * 2 ^ (k + 1) : Nat) : Int) + ((2 ^ k : Nat) : Int) ≤ ((Q * 2 ^ n : Nat) : Int) ∧ ((Q * 2 ^ n : Nat) : Int) + ((2 ^ n : Nat) : Int) ≤ ((q * 2 ^ (k + 1) : Nat) : Int) + ((2 ^ k : Nat) : Int) + ((2 ^ k : Nat) : Int)) := by omega
    rw [decide_eq_false d2] at w2
    have hd : down Q n (.nd q k l r) = none := by simp only [down]; rw [if_neg c1,if_neg c2]
    rw [hd]
    show _ = Ou.ok D.non
    rw [eb]
    rw [ex] at ln s ⊢
    generalize ((q * 2 ^ (k + 1) : Nat) : Int) = z1 at *
    generalize ((2 ^ (k + 1) : Nat) : Int) = z2 at *
    generalize K.en (join0 (V l) (V r)) = z3 at *
    generalize E K l = z4 at *
    generalize E K r = z5 at *
    generalize ((Q * 2 ^ n : Nat) : Int) = z6 at *
    generalize ((2 ^ n : Nat) : Int) = z7 at *
    generalize ((2 ^ k : Nat) : Int) = z8 at *
    simp (decide := true) [tbM_tail,startD,fVar,fVarS,isT,at_0,at_1,at_2,at_3,at_4,m_one_step_down,b_one_step_down,ln,s,hv,w1,w2]
theorem within_t (Q n : Nat) (t : T) : m_within [.tup [.int (t.lo : Int),.int (t.sz : Int)],blk (Q,n)] = .ok (.bl (decide (Within t Q n))) := by
 have pt := sz_pos t
 have w := within_eq (a := (t.lo : Int)) (b := (t.sz : Int)) (c := ((Q * 2 ^ n : Nat) : Int)) (e := ((2 ^ n : Nat) : Int)) (by omega)
 show m_within [.tup [.int (t.lo : Int),.int (t.sz : Int)],.tup [.int ((Q * 2 ^ n : Nat) : Int),.int ((2 ^ n : Nat) : Int)]] = _
 rw [w]
 have e : (((Q * 2 ^ n : Nat) : Int) ≤ (t.lo : Int) ∧ (t.lo : Int) + (t.sz : Int) ≤ ((Q * 2 ^ n : Nat) : Int) + ((2 ^ n : Nat) : Int)) ↔ Within t Q n := by unfold Tr.Within; omega
 by_cases z : Within t Q n
 ·rw [decide_eq_true z,decide_eq_true (e.mpr z)]
 ·rw [decide_eq_false z,decide_eq_false fun y => z (e.mp y)]
theorem inside_loop (Q n : Nat) (s0 : Sl) : ∀ (fuel : Nat) (o : Option T),GoodO o -> (∀ t,o = some t -> t.e + 1 < fuel) -> 0 < fuel -> whileF (fAndT (fAsB (f1 gNotN (fVar 2))) (fNotT (fTru (fCall (m_within) [(fCall (m_stretch_of) [(fVar 2)]),(fVar 1)])))) (sSeq (sSet 2 (fCall (m_one_step_down) [(fVarS 2),(fVarS 1)])) sNext) fuel [s0,.val (blk (Q,n)),.val (EO K o)] = .ok (.nx [s0,.val (blk (Q,n)),.val (EO K (o.bind (insT Q n)))])
 | 0,_,_,_,h => by omega
 | fuel + 1,none,_,_,_ => by
  show whileF _ _ (fuel + 1) [s0,.val (blk (Q,n)),.val .non] = .ok (.nx [s0,.val (blk (Q,n)),.val .non])
  simp only [whileF]
  simp (decide := true) [tbM_tail,startD,fVar,fVarS,isT,at_0,at_1,at_2,at_3,at_4]
 | fuel + 1,some t,G,hf,_ => by
  have hlt := hf t rfl
  have w := within_t Q n t
  have s := stretch_eq K t
  have hx : ∃ xs,E K t = .tup xs := by
   obtain ⟨r,e⟩ := enc_form K.en lone0 join0 t
   exact ⟨_,e⟩
  obtain ⟨xs,hx⟩ := hx
  have nn : gNotN (.tup xs) = .ok (.bl true) := rfl
  show whileF _ _ (fuel + 1) [s0,.val (blk (Q,n)),.val (E K t)] = .ok (.nx [s0,.val (blk (Q,n)),.val (EO K (insT Q n t))])
  rw [insT_step]
  by_cases z : Within t Q n
  ·rw [if_pos z]
   rw [decide_eq_true z] at w
   show _ = Ou.ok (Fl.nx [s0,.val (blk (Q,n)),.val (E K t)])
   rw [hx] at s ⊢
   generalize blk (Q,n) = B at *
   simp only [whileF]
   simp (decide := true) [tbM_tail,startD,fVar,fVarS,isT,at_0,at_1,at_2,at_3,at_4,nn,s,w]
  ·rw [if_neg z]
   rw [decide_eq_false z] at w
   have d := down_eq K Q n t
   have ih := inside_loop Q n s0 fuel (down Q n t) (by
    cases t with
    | lf a d => trivial
    | nd q k l r =>
     obtain ⟨hl,hr,_⟩ := sub_e G
     simp only [down]
     split
     ·exact hl
     ·split
      ·exact hr
      ·trivial) (by
    intro t' ht
    cases t with
    | lf a d => cases ht
    | nd q k l r =>
     obtain ⟨hl,hr,el,er,_⟩ := sub_e G
     have : (T.nd q k l r).e = k + 1 := rfl
     simp only [down] at ht
     split at ht
     ·cases ht; omega
     ·split at ht
      ·cases ht; omega
      ·cases ht) (by omega)
   rw [← ih]
   rw [hx] at s d ⊢
   generalize blk (Q,n) = B at *
   generalize EO K (down Q n t) = DD at *
   simp only [whileF]
   simp (decide := true) [tbM_tail,startD,fVar,fVarS,isT,at_0,at_1,at_2,at_3,at_4,nn,s,w,d]
theorem inside_eq (Q n : Nat) {o : Option T} (h : GoodO o) : m_inside [EO K o,blk (Q,n)] = .ok (EO K (o.bind (insT Q n))) := by
 have q := inside_loop K Q n (.val (EO K o)) 40 o h (fun t ht => by subst ht; have := depth h; omega) (by decide)
 generalize EO K (o.bind (insT Q n)) = R at *
 generalize EO K o = O at *
 generalize blk (Q,n) = B at *
 simp (decide := true) [tbM_tail,startD,fVar,fVarS,isT,at_0,at_1,at_2,at_3,at_4,m_inside,b_inside,q]
end
section
open Tr
variable (K : Kd)
def szN : Nat -> Nat
 | 0 => 0
 | r + 1 => 2 ^ r
theorem cover_loop (e : Nat) : ∀ (r fuel lo : Nat) (acc : List D),lo % 2 ^ r = 0 -> r < fuel -> acc.length + r ≤ 100 ->
  ∃ low',whileF (fAsB (f2 gGt (fVar 3) (fC (.int 0)))) (sSeq (sIf (fAsB (f2 gLe (f2 gAdd (fVar 2) (fVar 3)) (fVar 0))) (sSeq (sApp 1 (fTup [(fVarS 2),(fVarS 3)])) (sSeq (sSet 2 (f2 gAdd (fVar 2) (fVar 3))) sNext)) sNext) (sSeq (sSet 3 (f2 gDiv (fVar 3) (fC (.int 2)))) sNext)) fuel
   [.val (.int (e : Int)),.own (.lst acc),.val (.int (lo : Int)),.val (.int (szN r : Int))] = .ok (.nx [.val (.int (e : Int)),.own (.lst (acc ++ (cov r lo e).map blk)),.val (.int low'),.val (.int 0)])
 | 0,fuel + 1,lo,acc,_,_,_ => ⟨lo,by simp (decide := true) [tbM_tail,startD,fVar,fVarS,isT,at_0,at_1,at_2,at_3,at_4,whileF,szN,cov]⟩
 | r + 1,fuel + 1,lo,acc,hm,h,hl => by
  have p := Nat.two_pow_pos r
  have e2 : 2 ^ (r + 1) = 2 ^ r * 2 := Nat.pow_succ ..
  have hm' : lo % 2 ^ r = 0 := by
   have hd : 2 ^ (r + 1) ∣ lo := Nat.dvd_of_mod_eq_zero hm
   exact Nat.mod_eq_zero_of_dvd (Nat.dvd_trans ⟨2,e2⟩ hd)
  have hp : (0 : Int) < (szN (r + 1) : Int) := by show (0 : Int) < ((2 ^ r : Nat) : Int); omega
  have hh : (szN (r + 1) : Int) / 2 = (szN r : Int) := by
   cases r with
   | zero => rfl
   | succ r =>
    show ((2 ^ (r + 1) : Nat) : Int) / 2 = ((2 ^ r : Nat) : Int)
    have : 2 ^ (r + 1) = 2 ^ r * 2 := Nat.pow_succ ..
    omega
  have hb : lo / 2 ^ r * 2 ^ r = lo := Nat.div_mul_cancel (Nat.dvd_of_mod_eq_zero hm')
  by_cases hc : lo + 2 ^ r ≤ e
  ·obtain ⟨low',q⟩ := cover_loop e r fuel (lo + 2 ^ r) (acc ++ [blk (lo / 2 ^ r,r)]) (by rw [Nat.add_mod_right]; exact hm') (by omega) (by simp; omega)
   refine ⟨low',?_⟩
   have ha : acc.length < sizeLine := small1000 (by omega)
   have hd : cDiv (szN (r + 1) : Int) 2 = true := by simp [cDiv]
   have hc' : (lo : Int) + (szN (r + 1) : Int) ≤ (e : Int) := by show (lo : Int) + ((2 ^ r : Nat) : Int) ≤ e; omega
   have eb : blk (lo / 2 ^ r,r) = .tup [.int (lo : Int),.int (szN (r + 1) : Int)] := by
    show D.tup [.int ((lo / 2 ^ r * 2 ^ r : Nat) : Int),.int ((2 ^ r : Nat) : Int)] = _
    rw [hb]; rfl
   have el : ((lo + 2 ^ r : Nat) : Int) = (lo : Int) + (szN (r + 1) : Int) := by show _ = (lo : Int) + ((2 ^ r : Nat) : Int); omega
   have ec : cov (r + 1) lo e = (lo / 2 ^ r,r) :: cov r (lo + 2 ^ r) e := by simp only [cov]; rw [if_pos hc]
   rw [ec,List.map_cons]
   rw [List.append_assoc,List.singleton_append] at q
   rw [el] at q
   rw [eb] at q ⊢
   generalize (szN (r + 1) : Int) = z at *
   simp only [whileF]
   simp (decide := true) [tbM_tail,startD,fVar,fVarS,isT,at_0,at_1,at_2,at_3,at_4,hp,hc',sApp,ha,hd,hh,q]
  ·obtain ⟨low',q⟩ := cover_loop e r fuel lo acc hm' (by omega) (by omega)
   refine ⟨low',?_⟩
   have hd : cDiv (szN (r + 1) : Int) 2 = true := by simp [cDiv]
   have hc' : ¬ (lo : Int) + (szN (r + 1) : Int) ≤ (e : Int) := by show ¬ (lo : Int) + ((2 ^ r : Nat) : Int) ≤ e; omega
   have ec : cov (r + 1) lo e = cov r lo e := by simp only [cov]; rw [if_neg hc]
   rw [ec]
   generalize (szN (r + 1) : Int) = z at *
   simp only [whileF]
   simp (decide := true) [tbM_tail,startD,fVar,fVarS,isT,at_0,at_1,at_2,at_3,at_4,hp,hc',hd,hh,q]
theorem cover_eq (e : Nat) : m_cover [.int (e : Int)] = .ok (.lst ((cov 31 0 e).map blk)) := by
 obtain ⟨low',q⟩ := cover_loop e 31 40 0 [] (by simp) (by decide) (by simp)
 have e1 : (szN 31 : Int) = 1073741824 := by decide
 rw [e1,List.nil_append] at q
 have e0 : ((0 : Nat) : Int) = 0 := rfl
 rw [e0] at q
 simp (decide := true) [tbM_tail,startD,fVar,fVarS,isT,at_0,at_1,at_2,at_3,at_4,m_cover,b_cover,q,sRetO]
theorem cov_len : ∀ r lo e,(cov r lo e).length ≤ r
 | 0,_,_ => by simp [cov]
 | r + 1,lo,e => by
  simp only [cov]
  split
  ·have := cov_len r (lo + 2 ^ r) e; simp only [List.length_cons]; omega
  ·have := cov_len r lo e; omega
def ahd (o : Option T) (e : Nat) : List T := (cov 31 0 e).filterMap fun b => o.bind (insT b.1 b.2)
theorem ahead_eq {o : Option T} (h : GoodO o) (e : Nat) : m_ahead [EO K o,.int (e : Int)] = .ok (.lst ((ahd o e).map (E K))) := by
 have c := cover_eq e
 have cl := cov_len 31 0 e
 have hsz : ((cov 31 0 e).map blk).length ≤ sizeLine := by rw [List.length_map]; exact Nat.le_of_lt (small1000 (by omega))
 have c1 : compL (gNm 0) fYes (fCall (m_inside) [(fVarS 1),(fVarS 0)]) ((cov 31 0 e).map blk) [.un,.val (EO K o)] = .ok ((cov 31 0 e).map fun b => EO K (o.bind (insT b.1 b.2))) := by
  generalize cov 31 0 e = cs
  have : ∀ (cs : List (Nat × Nat)) (s0 : Sl),compL (gNm 0) fYes (fCall (m_inside) [(fVarS 1),(fVarS 0)]) (cs.map blk) [s0,.val (EO K o)] = .ok (cs.map fun b => EO K (o.bind (insT b.1 b.2))) := by
   intro cs
   induction cs with
   | nil => intro s0; rfl
   | cons b r ih =>
    intro s0
    have q := inside_eq K b.1 b.2 h
    have i := ih (.val (blk b))
    change m_inside [EO K o,blk b] = _ at q
    rw [List.map_cons,List.map_cons]
    generalize EO K (o.bind (insT b.1 b.2)) = R at *
    generalize EO K o = O at *
    generalize blk b = B at *
    simp only [compL,e_nm,bind_ok,List.set]
    simp (decide := true) [tbM_tail,startD,fVar,fVarS,isT,at_0,at_1,at_2,at_3,at_4,fYes,q,i]
  exact this cs .un
 have c2 : ∀ (cs : List (Nat × Nat)) (s0 : Sl),compL (gNm 0) (fAsB (f1 gNotN (fVar 0))) (fVarS 0) (cs.map fun b => EO K (o.bind (insT b.1 b.2))) [s0] = .ok ((cs.filterMap fun b => o.bind (insT b.1 b.2)).map (E K)) := by
  intro cs
  induction cs with
  | nil => intro s0; rfl
  | cons b r ih =>
   intro s0
   rw [List.map_cons,List.filterMap_cons]
   have i := fun z => ih (.val z)
   cases hz : o.bind (insT b.1 b.2) with
   | none =>
    show compL _ _ _ (D.non :: _) _ = _
    simp only [compL,e_nm,bind_ok,List.set]
    simp (decide := true) [tbM_tail,startD,fVar,fVarS,isT,at_0,at_1,at_2,at_3,at_4,i]
   | some t =>
    have hx : ∃ xs,E K t = .tup xs := by
     obtain ⟨r,e⟩ := enc_form K.en lone0 join0 t
     exact ⟨_,e⟩
    obtain ⟨xs,hx⟩ := hx
    have nn : gNotN (.tup xs) = .ok (.bl true) := rfl
    show compL _ _ _ (E K t :: _) _ = Ou.ok (E K t :: _)
    rw [hx]
    simp only [compL,e_nm,bind_ok,List.set]
    simp (decide := true) [tbM_tail,startD,fVar,fVarS,isT,at_0,at_1,at_2,at_3,at_4,nn,i]
 have c3 := c2 (cov 31 0 e) .un
 have hsz2 : ((cov 31 0 e).map fun b => EO K (o.bind (insT b.1 b.2))).length ≤ sizeLine := by rw [List.length_map]; exact Nat.le_of_lt (small1000 (by omega))
 show _ = Ou.ok (D.lst (((cov 31 0 e).filterMap fun b => o.bind (insT b.1 b.2)).map (E K)))
 generalize ((cov 31 0 e).filterMap fun b => o.bind (insT b.1 b.2)).map (E K) = R at *
 generalize ((cov 31 0 e).map fun b => EO K (o.bind (insT b.1 b.2))) = L2 at *
 generalize (cov 31 0 e).map blk = L1 at *
 generalize EO K o = O at *
 simp (decide := true) [tbM_tail,startD,fVar,fVarS,isT,at_0,at_1,at_2,at_3,at_4,m_ahead,b_ahead,fComp,fItems,c,hsz,hsz2,dsIn,slIn,c1,c3]
theorem ahd_ds {o : Option T} (h : GoodO o) {e : Nat} (he : e ≤ all) : (ahd o e).flatMap T.ds = (dsO o).filter (fun p => decide (p.1 < e)) ∧ ∀ s ∈ ahd o e,Good s := by
 cases o with
 | none =>
  have : ahd none e = [] := by simp [ahd]
  rw [this]
  exact ⟨rfl,fun s hs => nomatch hs⟩
 | some t =>
  have h31 : (2 : Nat) ^ 31 = 2147483648 := by decide
  have hall : all = 1073741824 := rfl
  have d := cov_ds h 31 0 e (by simp) (by omega) (by rw [h31]; omega)
  refine ⟨?_,fun s hs => ?_⟩
  ·show ((cov 31 0 e).filterMap fun b => insT b.1 b.2 t).flatMap T.ds = t.ds.filter _
   rw [d]
   congr 1
   funext p
   simp
  ·exact cov_good h (cs := cov 31 0 e) s hs
end
section
open Tr
def prD (p : Nat × D) : D := .tup [.int (p.1 : Int),p.2]
variable (K : Kd)
def Al (al : List (Nat × D)) : Prop := ∀ p ∈ al,p.1 < all ∧ K.Okd p.2
theorem gd {al : List (Nat × D)} {o : Option T} (b : Book al o) : GoodO o := by
 cases o with
 | none => trivial
 | some t => exact b.good
theorem ds_ok {al : List (Nat × D)} {o : Option T} (b : Book al o) (h : Al K al) : ∀ p ∈ dsO o,p.1 < all ∧ K.Okd p.2 := fun p hp => h p (b.perm.mem_iff.mp hp)
theorem imm_E : ∀ t : T,(∀ p ∈ t.ds,K.Okd p.2) -> imm (E K t) = true
 | .lf a d,h => by
  have := K.imd (h (a,d) (by simp [T.ds]))
  simp [E,enc,imm,imms,this,K.ime]
 | .nd q k l r,h => by
  have h1 := imm_E l fun p hp => h p (by simp [T.ds,hp])
  have h2 := imm_E r fun p hp => h p (by simp [T.ds,hp])
  simp only [E,enc] at h1 h2 ⊢
  simp [imm,imms,h1,h2,K.ime]
theorem put_turn {al : List (Nat × D)} {o : Option T} (hB : al.length + 1 ≤ K.N) (b : Book al o) (h : Al K al) {a : Nat} (ha : a < all) (hn : ∀ p ∈ al,p.1 ≠ a) {d : D} (hd : K.Okd d) : ∃ t,m_put_in 64 [.obj K.C,EO K o,.int (a : Int),d] = .ok (E K t) ∧ imm (E K t) = true ∧ Book (al ++ [(a,d)]) (some t) ∧ Al K (al ++ [(a,d)]) := by
 obtain ⟨t,e,hg,hds⟩ := put_in_eq K (by rw [b.perm.length_eq]; exact hB) (gd b) ha hd (b.none_at hn)
 have B := b.put hg hds
 have A : Al K (al ++ [(a,d)]) := fun p hp => by
  rcases List.mem_append.mp hp with hp | hp
  ·exact h p hp
  ·simp at hp; subst hp; exact ⟨ha,hd⟩
 exact ⟨t,e,imm_E K t fun p hp => (ds_ok K B A p hp).2,B,A⟩
end
section
open Tr
variable (K : Kd)
theorem book_one {al al' : List (Nat × D)} {o o' : Option T} (b : Book al o) (b' : Book al' o') (hp : al.Perm al') : o = o' := by
 have e : dsO o = dsO o' := (b.perm.trans (hp.trans b'.perm.symm)).eq_of_pairwise (le := fun x y => x.1 < y.1) (fun x y _ _ h1 h2 => by omega) b.sorted b'.sorted
 cases o with
 | none =>
  cases o' with
  | none => rfl
  | some t' => exact absurd e.symm (ds_ne t')
 | some t =>
  cases o' with
  | none => exact absurd e (ds_ne t)
  | some t' => rw [one_tree b.good b'.good e]
theorem at_row {l : List (Nat × D)} {i : Nat} {p : Nat × D} (h : l[i]? = some p) : atI (l.map prD) (i : Int) = some (.tup [.int (p.1 : Int),p.2]) := by
 obtain ⟨hi,rfl⟩ := List.getElem?_eq_some_iff.mp h
 unfold atI ixN
 simp [List.length_map,hi,prD]
theorem cell_any (ns : List Int) {k : Int} (h : 0 ≤ k) : ∃ c,m__law_cell_at [.frl (ns.map .int),.int k] = .ok (.int c) := by
 obtain ⟨k,rfl⟩ : ∃ n : Nat,k = (n : Int) := ⟨k.toNat,by omega⟩
 by_cases h : k < ns.length
 ·have h1 : (k : Int) < (ns.length : Int) := by omega
  have h2 := at_map h
  exact ⟨ns[k],by simp (decide := true) -implicitDefEqProofs [tbM_tail,startD,fVar,fVarS,isT,at_0,at_1,at_2,at_3,at_4,m__law_cell_at,b__law_cell_at,h1,h2]⟩
 ·have h1 : ¬ (k : Int) < (ns.length : Int) := by omega
  exact ⟨0,by simp (decide := true) -implicitDefEqProofs [tbM_tail,startD,fVar,fVarS,isT,at_0,at_1,at_2,at_3,at_4,m__law_cell_at,b__law_cell_at,h1]⟩
theorem key_int (ns : List Int) {k : Nat} (hk : k < 64) : isI (fb__law_order [.val (.int (k : Int)),.val (.frl (ns.map D.int))]) = true := by
 obtain ⟨c,hc⟩ := cell_any ns (k := (k : Int)) (by omega)
 have c1 : cMul c 48271 = true := by simp [cMul]
 generalize hx : (k : Int) = x at *
 have c2 : cMul (x * x) 7919 = true := cMul_r (by decide) (by decide)
 have c3 : cMul x x = true := cMul_l (Int.lt_trans (by decide : -(2 ^ 64 : Int) < -1) (by omega)) (Int.lt_trans (by omega : x < 64) (by decide))
 generalize ns.map D.int = N at *
 have e : fb__law_order [.val (.int x),.val (.frl N)] = .ok (.int ((c * 48271 + x * x * 7919) % 65537)) := by
  simp (decide := true) -implicitDefEqProofs [tbM_tail,startD,fVar,fVarS,isT,at_0,at_1,at_2,at_3,at_4,fb__law_order,hc,c1,c2,c3]
 rw [e]; rfl
theorem self_comp : ∀ (xs : List D) (s0 : Sl),compL (gNm 0) fYes (fVarS 0) xs [s0] = .ok xs
 | [],_ => rfl
 | x :: xs,s0 => by
  have ih := self_comp xs (.val x)
  simp (decide := true) -implicitDefEqProofs [tbM_tail,startD,fVar,fVarS,isT,at_0,at_1,at_2,at_3,at_4,compL,fYes,ih]
def nums (n : Nat) : List Int := (List.range n).map fun (k : Nat) => (k : Int)
theorem rng_nums (n : Nat) : rng 0 n = (nums n).map D.int := by simp [rng,nums]
theorem order_eq (ns : List Int) {n : Nat} (hn : n < 64) : mo__law_order [.frl (ns.map D.int),.int (n : Int)] = .ok (nums n) := by
 have hro : rOk (n : Int) = true := by simp [rOk]; omega
 have hsz : n ≤ sizeLine := Nat.le_of_lt (small1000 (by omega))
 have hN : ((n : Int)).toNat = n := by omega
 have e := self_comp (rng 0 n) .un
 have hall : (nums n).all (fun i => isI (fb__law_order [.val (.int i),.val (.frl (ns.map D.int))])) = true := List.all_eq_true.mpr fun i hi => by
  unfold nums at hi
  obtain ⟨k,hk,rfl⟩ := List.mem_map.mp hi
  exact key_int ns (Nat.lt_trans (List.mem_range.mp hk) hn)
 have hlen : (nums n).length < 64 := by simpa [nums] using hn
 have hfl : fl__law_order (startD 2 [.frl (ns.map D.int),.int (n : Int)]) = .ok (.lst ((nums n).map D.int)) := by
  rw [← rng_nums]
  generalize ns.map D.int = N
  simp (decide := true) -implicitDefEqProofs [tbM_tail,startD,fVar,fVarS,isT,at_0,at_1,at_2,at_3,at_4,fl__law_order,startD,fComp,fRange,hN,hro,rng_len,hsz,dsIn,slIn,e]
 exact e_ord hfl rfl hlen hall
def at_ (l : List (Nat × D)) (i : Nat) : Nat × D := l.getD i (0,.non)
theorem at_get {l : List (Nat × D)} {i : Nat} (h : i < l.length) : l[i]? = some (at_ l i) := by
 simp [at_,h]
theorem grow_loop {l : List (Nat × D)} (hA : Al K l) (S : Sl) : ∀ (out : List Nat) (pre : List (Nat × D)) (o : Option T) (s4 : Sl),Book pre o -> Al K pre -> (∀ i ∈ out,i < l.length) -> pre.length + out.length ≤ K.N -> ((pre ++ out.map (at_ l)).map (·.1)).Nodup ->
  ∃ o' s4',forL (gNm 4) (sSeq (sSet 3 (fCall (m_put_in 64) [(fVarS 0),(fVarS 3),(f2 gIx (f2 gIx (fVarS 1) (fVar 4)) (fC (.int 0))),(f2 gIx (f2 gIx (fVarS 1) (fVar 4)) (fC (.int 1)))])) sNext) ((out.map fun (k : Nat) => (k : Int)).map D.int)
   [.val (.obj K.C),.val (.lst (l.map prD)),S,.val (EO K o),s4] = .ok (.nx [.val (.obj K.C),.val (.lst (l.map prD)),S,.val (EO K o'),s4']) ∧ Book (pre ++ out.map (at_ l)) o' := by
 intro out
 induction out with
 | nil => intro pre o s4 b _ _ _ _; exact ⟨o,s4,rfl,by simpa using b⟩
 | cons i out ih =>
  intro pre o s4 b A hi hlen hn
  have hB : pre.length + 1 ≤ K.N := by rw [List.length_cons] at hlen; omega
  have hil := hi i (by simp)
  have hg := at_get hil
  have hd := hA _ (List.mem_of_getElem? hg)
  have hat := at_row hg
  have hpre : ∀ q ∈ pre,q.1 ≠ (at_ l i).1 := fun q hq z => by
   rw [List.map_cons,List.map_append,List.map_cons,List.nodup_append] at hn
   exact hn.2.2 q.1 (List.mem_map_of_mem hq) _ (by simp) z
  obtain ⟨t,e,_,B,A'⟩ := put_turn K hB b A hd.1 hpre hd.2
  have eq : pre ++ at_ l i :: out.map (at_ l) = (pre ++ [at_ l i]) ++ out.map (at_ l) := by simp
  rw [List.map_cons,eq] at hn
  obtain ⟨o',s4',q,Bo⟩ := ih (pre ++ [at_ l i]) (some t) (.val (.int (i : Int))) B A' (fun j hj => hi j (by simp [hj])) (by rw [List.length_append,List.length_singleton]; rw [List.length_cons] at hlen; omega) hn
  refine ⟨o',s4',?_,by rw [List.map_cons,eq]; exact Bo⟩
  rw [← q]
  have e' : m_put_in 64 [.obj K.C,EO K o,.int ((at_ l i).1 : Int),(at_ l i).2] = .ok (EO K (some t)) := e
  rw [List.map_cons,List.map_cons]
  simp only [forL]
  generalize l.map prD = M at *
  generalize EO K (some t) = w' at *
  generalize EO K o = w at *
  generalize m_put_in 64 = P at *
  generalize ((at_ l i).1 : Int) = a at *
  generalize (at_ l i).2 = d at *
  generalize (i : Int) = j at *
  simp (decide := true) -implicitDefEqProofs [tbM_tail,startD,fVar,fVarS,isT,at_0,at_1,at_2,at_3,at_4,hat,e']
theorem map_at (l : List (Nat × D)) : (List.range l.length).map (at_ l) = l := by
 apply List.ext_getElem?
 intro i
 rw [List.getElem?_map]
 by_cases h : i < l.length
 ·rw [List.getElem?_range h,at_get h]; rfl
 ·rw [List.getElem?_eq_none (by simpa using h),List.getElem?_eq_none (by simpa using h)]; rfl
theorem perm_nums {out : List Int} {n : Nat} (h : out.Perm (nums n)) : ∃ ks : List Nat,ks.Perm (List.range n) ∧ out = ks.map fun (k : Nat) => (k : Int) := by
 refine ⟨out.map Int.toNat,?_,?_⟩
 ·have := h.map Int.toNat
  unfold nums at this
  rw [List.map_map] at this
  simpa [Function.comp_def] using this
 ·rw [List.map_map]
  refine (List.map_congr_left fun z hz => ?_).symm.trans (List.map_id _) |>.symm
  obtain ⟨k,_,rfl⟩ := List.mem_map.mp (h.mem_iff.mp hz)
  simp
theorem otree_eq (ns : List Int) {l : List (Nat × D)} (A : Al K l) (hn : (l.map (·.1)).Nodup) (hl : l.length < 64) (hN : l.length ≤ K.N) : ∃ o,m__law_tree [.obj K.C,.lst (l.map prD),.frl (ns.map D.int)] = .ok (EO K o) ∧ Book l o := by
 have go : ∀ ks : List Nat,ks.Perm (List.range l.length) -> ∃ o' s4',forL (gNm 4) (sSeq (sSet 3 (fCall (m_put_in 64) [(fVarS 0),(fVarS 3),(f2 gIx (f2 gIx (fVarS 1) (fVar 4)) (fC (.int 0))),(f2 gIx (f2 gIx (fVarS 1) (fVar 4)) (fC (.int 1)))])) sNext) ((ks.map fun (k : Nat) => (k : Int)).map D.int)
   [.val (.obj K.C),.val (.lst (l.map prD)),.val (.frl (ns.map D.int)),.val .non,.un] = .ok (.nx [.val (.obj K.C),.val (.lst (l.map prD)),.val (.frl (ns.map D.int)),.val (EO K o'),s4']) ∧ Book (ks.map (at_ l)) o' := fun ks hk => by
  have hp : (ks.map (at_ l)).Perm l := (hk.map _).trans (by rw [map_at])
  obtain ⟨o',s4',q,B⟩ := grow_loop K A (.val (.frl (ns.map D.int))) ks [] none .un ⟨trivial,.refl _⟩ (fun p hp => by cases hp) (fun i hi => List.mem_range.mp (hk.mem_iff.mp hi)) (by rw [hk.length_eq,List.length_range,List.length_nil]; omega) (by rw [List.nil_append]; exact (hp.map _).nodup_iff.mpr hn)
  exact ⟨o',s4',q,by simpa using B⟩
 obtain ⟨o,s4,_,B⟩ := go _ (.refl _)
 rw [map_at] at B
 refine ⟨o,?_,B⟩
 have hfor : sForP [(fVar 2),(fCall gLen [(fVar 1)])] mo__law_order (gNm 4) (sSeq (sSet 3 (fCall (m_put_in 64) [(fVarS 0),(fVarS 3),(f2 gIx (f2 gIx (fVarS 1) (fVar 4)) (fC (.int 0))),(f2 gIx (f2 gIx (fVarS 1) (fVar 4)) (fC (.int 1)))])) sNext) 4
   [.val (.obj K.C),.val (.lst (l.map prD)),.val (.frl (ns.map D.int)),.val .non,.un] = .ok (.nx [.val (.obj K.C),.val (.lst (l.map prD)),.val (.frl (ns.map D.int)),.val (EO K o),.un]) := by
  refine e_forP (ds := [.frl (ns.map D.int),.int (l.length : Int)]) rfl ?_ (order_eq ns hl) fun out hout => ?_
  ·have hlen : (l.map prD).length = l.length := List.length_map ..
   generalize l.map prD = M at *
   generalize ns.map D.int = N at *
   simp (decide := true) -implicitDefEqProofs [tbM_tail,startD,fVar,fVarS,isT,at_0,at_1,at_2,at_3,at_4,hlen]
  ·obtain ⟨ks,hk,rfl⟩ := perm_nums hout
   obtain ⟨o',s4',q,B'⟩ := go ks hk
   have := book_one B' B ((hk.map _).trans (by rw [map_at]))
   subst this
   exact ⟨_,q,rfl⟩
 generalize l.map prD = M at *
 generalize ns.map D.int = N at *
 generalize EO K o = w at *
 simp (decide := true) -implicitDefEqProofs [tbM_tail,startD,fVar,fVarS,isT,at_0,at_1,at_2,at_3,at_4,m__law_tree,b__law_tree,hfor]
end
inductive Dk : D -> Int -> Prop
 | put (x : Int) : Dk (.tup [.str "put",.int x]) 1
 | take : Dk (.tup [.str "take"]) (-1)
 | many : Dk (.tup [.str "many"]) 0
 | look (x : Int) (h : 0 ≤ x) : Dk (.tup [.str "look",.int x]) 0
def lk : List Int -> Int
 | [] => 0
 | z :: r => if z = 1 then max 0 (lk r - 1) else if z = -1 then 1 + lk r else lk r
def lf : List Int -> Int
 | [] => 0
 | z :: r => if z = 1 then lf r + max 0 (1 - lk r) else lf r
theorem lk_ge : ∀ xs,0 ≤ lk xs
 | [] => by simp [lk]
 | z :: r => by have := lk_ge r; simp only [lk]; split <;> (try split) <;> omega
theorem lf_ge : ∀ xs,0 ≤ lf xs
 | [] => by simp [lf]
 | z :: r => by have := lf_ge r; simp only [lf]; split <;> omega
theorem lk_app : ∀ xs ys,lk (xs ++ ys) = lk xs + max 0 (lk ys - lf xs)
 | [],ys => by have := lk_ge ys; simp only [List.nil_append,lk,lf]; omega
 | z :: r,ys => by
  have h1 := lk_app r ys
  have h2 := lk_ge r
  have h3 := lk_ge ys
  have h4 := lf_ge r
  simp only [List.cons_append,lk,lf,h1]
  split <;> (try split) <;> omega
theorem lf_app : ∀ xs ys,lf (xs ++ ys) = lf ys + max 0 (lf xs - lk ys)
 | [],ys => by have := lk_ge ys; simp only [List.nil_append,lf]; omega
 | z :: r,ys => by
  have h0 := lf_app r ys
  have h1 := lk_app r ys
  have h2 := lk_ge r
  have h3 := lk_ge ys
  have h4 := lf_ge r
  simp only [List.cons_append,lf,h0,h1]
  split <;> omega
theorem whole_eq (a : Int) : m__law_whole [.int a] = .ok (.bl true) := by simp (decide := true) -implicitDefEqProofs [tbM_tail,startD,fVar,fVarS,isT,at_0,at_1,at_2,at_3,at_4,m__law_whole,b__law_whole]
theorem cell0_eq (ns : List Int) : ∃ c,m__law_cell_at [.frl (ns.map .int),.int 0] = .ok (.int c) := by
 cases ns with
 | nil => exact ⟨0,by simp (decide := true) -implicitDefEqProofs [tbM_tail,startD,fVar,fVarS,isT,at_0,at_1,at_2,at_3,at_4,m__law_cell_at,b__law_cell_at]⟩
 | cons n r => exact ⟨n,by simp (decide := true) -implicitDefEqProofs [tbM_tail,startD,fVar,fVarS,isT,at_0,at_1,at_2,at_3,at_4,m__law_cell_at,b__law_cell_at]⟩
theorem number_eq (c : Int) {k : Nat} (hk : k < 100) : ∃ n,m__law_number [.int c,.int k] = .ok (.int n) := by
 have c1 : cMul 17 (k : Int) = true := by simp [cMul]
 have c2 : cMul (17 * (k : Int)) k = true := by simp [cMul]; omega
 have c3 : cPow 10 30 = true := by decide
 have c4 : cPow 10 60 = true := by decide
 have h : c % 4 = 0 ∨ c % 4 = 1 ∨ c % 4 = 2 ∨ c % 4 = 3 := by omega
 rcases h with h | h | h | h
 ·exact ⟨_,by simp (decide := true) -implicitDefEqProofs [tbM_tail,startD,fVar,fVarS,isT,at_0,at_1,at_2,at_3,at_4,m__law_number,b__law_number,h,c1,c2]; rfl⟩
 ·exact ⟨_,by simp (decide := true) -implicitDefEqProofs [tbM_tail,startD,fVar,fVarS,isT,at_0,at_1,at_2,at_3,at_4,m__law_number,b__law_number,h,c3]; rfl⟩
 ·exact ⟨_,by simp (decide := true) -implicitDefEqProofs [tbM_tail,startD,fVar,fVarS,isT,at_0,at_1,at_2,at_3,at_4,m__law_number,b__law_number,h]; rfl⟩
 ·exact ⟨_,by simp (decide := true) -implicitDefEqProofs [tbM_tail,startD,fVar,fVarS,isT,at_0,at_1,at_2,at_3,at_4,m__law_number,b__law_number,h,c4]; rfl⟩
theorem deed_eq (c t : Int) {k : Nat} (hk : k < 100) : ∃ d z,m__law_deed [.int c,.int k,.int t] = .ok d ∧ Dk d z := by
 obtain ⟨n,hn⟩ := number_eq (c / 8) hk
 have c4 : cPow 10 60 = true := by decide
 by_cases h1 : c % 8 < 3 + t
 ·exact ⟨_,_,by simp (decide := true) -implicitDefEqProofs [tbM_tail,startD,fVar,fVarS,isT,at_0,at_1,at_2,at_3,at_4,m__law_deed,b__law_deed,h1,hn] <;> rfl,.put n⟩
 ·by_cases h2 : c % 8 < 6
  ·exact ⟨_,_,by simp (decide := true) -implicitDefEqProofs [tbM_tail,startD,fVar,fVarS,isT,at_0,at_1,at_2,at_3,at_4,m__law_deed,b__law_deed,h1,h2] <;> rfl,.take⟩
  ·by_cases h3 : c % 8 = 7
   ·have h1' : ¬ (7 : Int) < 3 + t := by omega
    exact ⟨_,_,by simp (decide := true) -implicitDefEqProofs [tbM_tail,startD,fVar,fVarS,isT,at_0,at_1,at_2,at_3,at_4,m__law_deed,b__law_deed,h1',h3] <;> rfl,.many⟩
   ·by_cases h4 : c / 8 % 3 = 2
    ·have p : (0 : Int) < 10 ^ 60 := by decide
     have h0 : 0 ≤ c / 24 % 10 ^ 60 := Int.emod_nonneg _ (Int.ne_of_gt p)
     exact ⟨_,_,by simp (decide := true) -implicitDefEqProofs [tbM_tail,startD,fVar,fVarS,isT,at_0,at_1,at_2,at_3,at_4,m__law_deed,b__law_deed,h1,h2,h3,h4,c4],.look (c / 24 % 10 ^ 60) h0⟩
    ·have h0 : 0 ≤ (c / 24 + (k : Int)) % 7 := Int.emod_nonneg _ (by decide)
     exact ⟨_,_,by simp (decide := true) -implicitDefEqProofs [tbM_tail,startD,fVar,fVarS,isT,at_0,at_1,at_2,at_3,at_4,m__law_deed,b__law_deed,h1,h2,h3,h4],.look ((c / 24 + (k : Int)) % 7) h0⟩
structure Ts (ts : List Int) : Prop where
 inc : ts.Pairwise (· < ·)
 bnd : ∀ t ∈ ts,0 ≤ t ∧ t < 1073741824
theorem back_at {cs : List Int} {k : Nat} (h : k < cs.length) : ∃ c,atI (cs.map D.int) ((k : Int) - 1) = some (.int c) := by
 cases k with
 | zero =>
  obtain ⟨r,x,rfl⟩ := snoc (xs := cs) (by intro e; subst e; simp at h)
  refine ⟨x,?_⟩
  rw [List.map_append,List.map_cons,List.map_nil]
  exact at_last
 | succ k =>
  have e : (((k + 1 : Nat) : Int) - 1) = (k : Int) := by omega
  rw [e]
  exact ⟨_,at_map (by omega)⟩
theorem shift_ts {bs : List Int} {b s : Int} (h1 : (bs ++ [b]).Pairwise (· < ·)) (h2 : ∀ t ∈ bs ++ [b],0 ≤ t) (h3 : 0 ≤ s) (h4 : s < 1073741824 - b) : Ts ((bs ++ [b]).map fun t => s + t) := by
 refine ⟨?_,?_⟩
 ·rw [List.pairwise_map]
  exact h1.imp fun h => by omega
 ·intro t ht
  obtain ⟨u,hu,rfl⟩ := List.mem_map.mp ht
  have h5 := h2 u hu
  have h6 : u ≤ b := by
   rcases List.mem_append.mp hu with hu | hu
   ·have := (List.pairwise_append.mp h1).2.2 u hu b (by simp)
    omega
   ·simp at hu; omega
  omega
theorem times_eq (cs : List Int) (cell : Int) (h : cs.length ≤ 62) : ∃ ts : List Int,m__law_times [.lst (cs.map D.int),.int cell] = .ok (.lst (ts.map D.int)) ∧ ts.length = cs.length ∧ Ts ts := by
 obtain ⟨w,hw,hw1,hw2⟩ : ∃ w : Int,atI [D.int 1,.int 5,.int 16777216] (cell % 3) = some (.int w) ∧ 1 ≤ w ∧ w ≤ 16777216 := by
  have h : cell % 3 = 0 ∨ cell % 3 = 1 ∨ cell % 3 = 2 := by omega
  rcases h with h | h | h <;> rw [h]
  ·exact ⟨1,at_0,by decide,by decide⟩
  ·exact ⟨5,at_1,by decide,by decide⟩
  ·exact ⟨16777216,at_2,by decide,by decide⟩
 simp -implicitDefEqProofs only [m__law_times,b__law_times,e_run,startD,e_seq,List.map_cons,List.map_nil,List.length_cons,List.length_nil,List.replicate,List.cons_append,List.nil_append,Nat.reduceAdd,Nat.reduceSub]
 have h1 : (f2 gIx (fLst [(fC (.int 1)),(fC (.int 5)),(fC (.int 16777216))]) (f2 gMod (fVar 1) (fC (.int 3)))) [.val (.lst (cs.map D.int)),.val (.int cell),.un,.un,.un,.un,.un] = .ok (.int w) := by
  simp (decide := true) -implicitDefEqProofs [tbM_tail,startD,fVar,fVarS,isT,at_0,at_1,at_2,at_3,at_4,hw]
 simp -implicitDefEqProofs only [e_set,e_sown,e_lst,e_args0,e_c,bind_ok,bind_bind,List.set,h1]
 refine Rng.useP (fun o : Ou D => ∃ ts : List Int,o = .ok (.lst (ts.map D.int)) ∧ ts.length = cs.length ∧ Ts ts) (j := (cs.length : Int)) (by simp (decide := true) -implicitDefEqProofs [tbM_tail,startD,fVar,fVarS,isT,at_0,at_1,at_2,at_3,at_4]) (by simp [rOk]; omega) (fun i δ => ∃ (bs : List Int) (a : Int) (s5 : Sl),δ = [.val (.lst (cs.map D.int)),.val (.int cell),.val (.int w),.own (.lst (bs.map D.int)),.val (.int a),s5,.un] ∧ bs.length = i ∧ bs.Pairwise (· < ·) ∧ (∀ b ∈ bs,0 ≤ b ∧ b < a) ∧ 0 ≤ a ∧ a ≤ i * 16777217) ⟨[],0,.un,rfl,rfl,.nil,by simp,by omega,by omega⟩ ?_ ?_
 ·rintro k hk δ ⟨bs,a,s5,rfl,hl,hp,hb,a0,a1⟩
  have k1 : k < cs.length := by omega
  have e1 := at_map k1
  obtain ⟨c',e2⟩ := back_at k1
  generalize cs[k] = c at *
  have hs : bs.length < sizeLine := small1000 (by omega)
  have q1 : 0 ≤ (c / 3 + c') % w := Int.emod_nonneg _ (by omega)
  have q2 : (c / 3 + c') % w < w := Int.emod_lt_of_pos _ (by omega)
  have cm : cMod (c / 3 + c') w = true := by simp [cMod]; omega
  have em : bs.map D.int ++ [D.int a] = (bs ++ [a]).map D.int := by simp
  have hp' : (bs ++ [a]).Pairwise (· < ·) := by
   rw [List.pairwise_append]
   exact ⟨hp,by simp,fun x hx y hy => by simp at hy; subst hy; exact (hb x hx).2⟩
  refine Goes.eq (δ2 := [.val (.lst (cs.map D.int)),.val (.int cell),.val (.int w),.own (.lst ((bs ++ [a]).map D.int)),.val (.int (a + 1 + (c / 3 + c') % w)),.val (.int k),.un]) ?_ ⟨bs ++ [a],_,_,rfl,by simp [hl],hp',?_,by omega,by omega⟩
  ·rw [← em]
   simp -implicitDefEqProofs only [e_nm,bind_ok,List.set]
   simp (decide := true) -implicitDefEqProofs [tbM_tail,startD,fVar,fVarS,isT,at_0,at_1,at_2,at_3,at_4,sApp,hs,e1,e2,cm]
  ·intro b hb'
   rcases List.mem_append.mp hb' with z | z
   ·have := hb b z; omega
   ·simp at z; omega
 ·rintro δ ⟨bs,a,s5,rfl,hl,hp,hb,a0,a1⟩
  have hl2 : bs.length = cs.length := by omega
  by_cases hn : bs = []
  ·subst hn
   refine ⟨[],?_,by simpa using hl2,⟨.nil,by simp⟩⟩
   simp (decide := true) -implicitDefEqProofs [tbM_tail,startD,fVar,fVarS,isT,at_0,at_1,at_2,at_3,at_4,thaw,eq_nilL]
  ·obtain ⟨bs',b,rfl⟩ := snoc hn
   have hbb := hb b (by simp)
   have hlt : b < 1073741824 := by omega
   have e1 : atI ((bs' ++ [b]).map D.int) (-1) = some (.int b) := by
    rw [List.map_append,List.map_cons,List.map_nil]; exact at_last
   have q1 : 0 ≤ cell / 3 % (1073741824 - b) := Int.emod_nonneg _ (by omega)
   have q2 : cell / 3 % (1073741824 - b) < 1073741824 - b := Int.emod_lt_of_pos _ (by omega)
   have cm : cMod (cell / 3) (1073741824 - b) = true := by simp [cMod]; omega
   refine ⟨(bs' ++ [b]).map fun t => cell / 3 % (1073741824 - b) + t,?_,by simpa using hl2,shift_ts hp (fun t ht => (hb t ht).1) q1 q2⟩
   have hsz : ((bs' ++ [b]).map D.int).length ≤ sizeLine := Nat.le_of_lt (small1000 (by rw [List.length_map]; omega))
   generalize hsv : cell / 3 % (1073741824 - b) = s at q1 q2 ⊢
   have ec : compL (gNm 0) fYes (f2 gAdd (fVar 1) (fVar 0)) ((bs' ++ [b]).map D.int) [.un,.val (.int s)] = .ok (((bs' ++ [b]).map fun t => s + t).map D.int) := by
    rw [comp_map (fun δ => ∃ s0,δ = [s0,.val (.int s)]) (fun d => match d with | .int t => .int (s + t) | d => d) _ (fun d hd δ hI => ?_) _ ⟨_,rfl⟩]
    ·rw [List.map_map,List.map_map]; rfl
    ·obtain ⟨s0,rfl⟩ := hI
     obtain ⟨t,_,rfl⟩ := List.mem_map.mp hd
     exact ⟨_,rfl,by simp (decide := true) -implicitDefEqProofs [tbM_tail,startD,fVar,fVarS,isT,at_0,at_1,at_2,at_3,at_4],⟨_,rfl⟩⟩
   have hne : ((bs' ++ [b]).map D.int = []) = False := by simp
   generalize ((bs' ++ [b]).map fun t => s + t).map D.int = R at ec ⊢
   generalize (bs' ++ [b]).map D.int = L at *
   simp (decide := true) -implicitDefEqProofs [tbM_tail,startD,fVar,fVarS,isT,at_0,at_1,at_2,at_3,at_4,thaw,eq_nilL,hne,e1,cm,fComp,fItems,dsIn,slIn,hsz,hsv,ec]
def pr (p : Int × D) : D := .tup [.int p.1,p.2]
theorem pairs_of : ∀ (ys : List D) (ts : List Int),ys.length = ts.length -> (∀ (i : Nat) (y : D),ys[i]? = some y -> ∃ t d z,ts[i]? = some t ∧ y = .tup [.int t,d] ∧ Dk d z) -> ∃ (ps : List (Int × D)) (zs : List Int),ys = ps.map pr ∧ ps.map (·.1) = ts ∧ Row2 Dk (ps.map (·.2)) zs
 | [],[],_,_ => ⟨[],[],rfl,rfl,.nil⟩
 | y :: ys,t :: ts,hl,h => by
  obtain ⟨t',d,z,h1,h2,h3⟩ := h 0 y rfl
  obtain ⟨ps,zs,g1,g2,g3⟩ := pairs_of ys ts (by simpa using hl) fun i y hy => by
   have := h (i + 1) y (by simpa using hy)
   simpa using this
  simp at h1
  subst h1
  exact ⟨(t,d) :: ps,z :: zs,by rw [List.map_cons,← g1,h2]; rfl,by rw [List.map_cons,g2],.cons h3 g3⟩
 | [],_ :: _,hl,_ => by simp at hl
 | _ :: _,[],hl,_ => by simp at hl
theorem cut_1_63 (ns : List Int) : ∃ cs : List Int,cutD (ns.map D.int) (some 1) (some 63) = cs.map D.int ∧ cs.length ≤ 62 := by
 obtain ⟨cs,e,hl⟩ := cut_map ns (some 1) (some 63)
 refine ⟨cs,e,?_⟩
 have e1 : HT.sIx ns.length 0 (some 1) = min 1 ns.length := HT.sIx_nat _ _ 1
 have e2 : HT.sIx ns.length ns.length (some 63) = min 63 ns.length := HT.sIx_nat _ _ 63
 have h2 : (cutD (ns.map D.int) (some 1) (some 63)).length ≤ 62 := by
  unfold cutD
  rw [List.length_take,List.length_drop,List.length_map,e1,e2]
  omega
 rw [e,List.length_map] at h2
 exact h2
theorem row_eq (ns : List Int) (h : ns.length ≤ 63) : ∃ (ps : List (Int × D)) (zs : List Int),m__law_row [.frl (ns.map D.int)] = .ok (.lst (ps.map pr)) ∧ ps.length ≤ 62 ∧ Row2 Dk (ps.map (·.2)) zs ∧ Ts (ps.map (·.1)) := by
 obtain ⟨c0,hc0⟩ := cell0_eq ns
 obtain ⟨cs,hcut,hcl⟩ := cut_1_63 ns
 obtain ⟨ts,ht,htl,hts⟩ := times_eq cs c0 hcl
 obtain ⟨ys,e,hl,hR⟩ := comp_inv (g := gNm 0) (gc := fYes) (fe := (fTup [(f2 gIx (fVarS 1) (fVar 0)),(fCall (m__law_deed) [(f2 gIx (fVarS 2) (fVar 0)),(fVarS 0),(fVarS 3)])])) (fun δ => ∃ s0,δ = [s0,.val (.lst (ts.map D.int)),.val (.lst (cs.map D.int)),.val (.int (c0 / 7 % 3))]) (fun i y => ∃ t d z,ts[i]? = some t ∧ y = .tup [.int t,d] ∧ Dk d z) (rng 0 cs.length) 0 (fun i d hd δ hI => by
  obtain ⟨s0,rfl⟩ := hI
  obtain ⟨hi,rfl⟩ := rng_get hd
  have ez : (0 : Int) + (i : Int) = i := by omega
  rw [ez]
  have e1 := at_map (ns := ts) (k := i) (by omega)
  have e2 := at_map (ns := cs) (k := i) hi
  obtain ⟨d,z,hd,hz⟩ := deed_eq cs[i] (c0 / 7 % 3) (k := i) (by omega)
  refine ⟨[.val (.int i),.val (.lst (ts.map D.int)),.val (.lst (cs.map D.int)),.val (.int (c0 / 7 % 3))],.tup [.int (ts[i]'(by omega)),d],rfl,rfl,?_,⟨_,rfl⟩,_,d,z,?_,rfl,hz⟩
  ·simp (decide := true) -implicitDefEqProofs [tbM_tail,startD,fVar,fVarS,isT,at_0,at_1,at_2,at_3,at_4,e1,e2,hd]
  ·rw [Nat.zero_add]; exact List.getElem?_eq_getElem _) [.un,.val (.lst (ts.map D.int)),.val (.lst (cs.map D.int)),.val (.int (c0 / 7 % 3))] ⟨_,rfl⟩
 rw [rng_len] at hl
 obtain ⟨ps,zs,g1,g2,g3⟩ := pairs_of ys ts (by omega) fun i y hy => by have := hR i y hy; rwa [Nat.zero_add] at this
 have hpl : ps.length = cs.length := by rw [← hl,g1,List.length_map]
 refine ⟨ps,zs,?_,by omega,g3,by rw [g2]; exact hts⟩
 rw [← g1]
 have hro : rOk (cs.length : Int) = true := by simp [rOk]; omega
 have hsz : cs.length ≤ sizeLine := Nat.le_of_lt (small1000 (by omega))
 simp (decide := true) -implicitDefEqProofs [tbM_tail,startD,fVar,fVarS,isT,at_0,at_1,at_2,at_3,at_4,m__law_row,b__law_row,fSl,fPart,hcut,hc0,ht,fComp,fRange,hro,rng_len,hsz,dsIn,slIn,e]
def cp : List Int -> Int
 | [] => 0
 | z :: r => (if z = 1 then 1 else 0) + cp r
def ct : List Int -> Int
 | [] => 0
 | z :: r => (if z = -1 then 1 else 0) + ct r
theorem cp_app : ∀ xs ys,cp (xs ++ ys) = cp xs + cp ys
 | [],ys => by simp [cp]
 | x :: r,ys => by simp only [List.cons_append,cp,cp_app r ys]; omega
theorem ct_app : ∀ xs ys,ct (xs ++ ys) = ct xs + ct ys
 | [],ys => by simp [ct]
 | x :: r,ys => by simp only [List.cons_append,ct,ct_app r ys]; omega
theorem lf_count : ∀ zs,lf zs = cp zs - (ct zs - lk zs)
 | [] => by simp [lf,cp,ct,lk]
 | z :: r => by
  have h := lf_count r
  have g := lk_ge r
  simp only [lf,cp,ct,lk]
  by_cases h1 : z = 1
  ·subst h1; simp; omega
  ·by_cases h2 : z = -1
   ·subst h2; simp; omega
   ·simp [h1,h2]; omega
def kKind : Kd where
 C := "Kind"
 en xs := .int (xs.length : Int)
 Okd d := imm d = true ∧ Self 6 d
 N := 63
 lonM := m_Kind__lone
 jonM := m_Kind__joined
 notM := m_Kind__nothing
 tl := by first | exact tbM_head | exact (tbM_tail rfl).trans tbM_head | exact (tbM_tail rfl).trans ((tbM_tail rfl).trans tbM_head) | exact (tbM_tail rfl).trans ((tbM_tail rfl).trans ((tbM_tail rfl).trans tbM_head)) | exact (tbM_tail rfl).trans ((tbM_tail rfl).trans ((tbM_tail rfl).trans ((tbM_tail rfl).trans tbM_head))) | exact (tbM_tail rfl).trans ((tbM_tail rfl).trans ((tbM_tail rfl).trans ((tbM_tail rfl).trans ((tbM_tail rfl).trans tbM_head))))
 tj := by first | exact tbM_head | exact (tbM_tail rfl).trans tbM_head | exact (tbM_tail rfl).trans ((tbM_tail rfl).trans tbM_head) | exact (tbM_tail rfl).trans ((tbM_tail rfl).trans ((tbM_tail rfl).trans tbM_head)) | exact (tbM_tail rfl).trans ((tbM_tail rfl).trans ((tbM_tail rfl).trans ((tbM_tail rfl).trans tbM_head))) | exact (tbM_tail rfl).trans ((tbM_tail rfl).trans ((tbM_tail rfl).trans ((tbM_tail rfl).trans ((tbM_tail rfl).trans tbM_head))))
 tn := by first | exact tbM_head | exact (tbM_tail rfl).trans tbM_head | exact (tbM_tail rfl).trans ((tbM_tail rfl).trans tbM_head) | exact (tbM_tail rfl).trans ((tbM_tail rfl).trans ((tbM_tail rfl).trans tbM_head)) | exact (tbM_tail rfl).trans ((tbM_tail rfl).trans ((tbM_tail rfl).trans ((tbM_tail rfl).trans tbM_head))) | exact (tbM_tail rfl).trans ((tbM_tail rfl).trans ((tbM_tail rfl).trans ((tbM_tail rfl).trans ((tbM_tail rfl).trans tbM_head))))
 lon a d _ := by simp (decide := true) -implicitDefEqProofs [tbM_tail,startD,fVar,fVarS,isT,at_0,at_1,at_2,at_3,at_4,m_Kind__lone,b_Kind__lone]
 jon {xs ys} _ := by simp (decide := true) -implicitDefEqProofs [tbM_tail,startD,fVar,fVarS,isT,at_0,at_1,at_2,at_3,at_4,m_Kind__joined,b_Kind__joined,List.length_append]
 nt := by simp (decide := true) -implicitDefEqProofs [tbM_tail,startD,fVar,fVarS,isT,at_0,at_1,at_2,at_3,at_4,m_Kind__nothing,b_Kind__nothing]
 ime _ := rfl
 imd h := h.1
 slf _ := (Self.int _).mono (by decide)
 sld h := h.2
theorem self_1 (w : Str) : Self 6 (.tup [.str w]) := (Self.tup (n := 1) fun y hy => by
 simp only [List.mem_cons,List.not_mem_nil,or_false] at hy
 subst hy; exact Self.str _).mono (by decide)
theorem self_2 (w : Str) (x : Int) : Self 6 (.tup [.str w,.int x]) := (Self.tup (n := 1) fun y hy => by
 simp only [List.mem_cons,List.not_mem_nil,or_false] at hy
 rcases hy with rfl | rfl
 ·exact Self.str _
 ·exact Self.int _).mono (by decide)
theorem self_i2 (a b : Int) : Self 6 (.tup [.int a,.int b]) := (Self.tup (n := 1) fun y hy => by
 simp only [List.mem_cons,List.not_mem_nil,or_false] at hy
 rcases hy with rfl | rfl <;> exact Self.int _).mono (by decide)
theorem self_i3 (a b c : Int) : Self 6 (.tup [.int a,.int b,.int c]) := (Self.tup (n := 1) fun y hy => by
 simp only [List.mem_cons,List.not_mem_nil,or_false] at hy
 rcases hy with rfl | rfl | rfl <;> exact Self.int _).mono (by decide)
def zOf : D -> Int
 | .tup (.str w :: _) => if w = "put" then 1 else if w = "take" then -1 else 0
 | _ => 0
theorem Dk.z {d : D} {z : Int} (h : Dk d z) : z = zOf d := by cases h <;> rfl
def zs (l : List (Nat × D)) : List Int := l.map fun p => zOf p.2
theorem zs_app (xs ys : List (Nat × D)) : zs (xs ++ ys) = zs xs ++ zs ys := List.map_append ..
def OkR (d : D) : Prop := ∃ z,Dk d z
theorem OkR.im {d : D} (h : OkR d) : imm d = true := by
 obtain ⟨z,h⟩ := h
 cases h <;> rfl
theorem OkR.sl {d : D} (h : OkR d) : Self 6 d := by
 obtain ⟨z,h⟩ := h
 cases h <;> first | exact self_1 _ | exact self_2 _ _
def kPile : Kd where
 C := "Pile"
 en xs := .tup [.int (lk (zs xs)),.int (lf (zs xs))]
 Okd := OkR
 N := 63
 lonM := m_Pile__lone
 jonM := m_Pile__joined
 notM := m_Pile__nothing
 tl := by first | exact tbM_head | exact (tbM_tail rfl).trans tbM_head | exact (tbM_tail rfl).trans ((tbM_tail rfl).trans tbM_head) | exact (tbM_tail rfl).trans ((tbM_tail rfl).trans ((tbM_tail rfl).trans tbM_head)) | exact (tbM_tail rfl).trans ((tbM_tail rfl).trans ((tbM_tail rfl).trans ((tbM_tail rfl).trans tbM_head))) | exact (tbM_tail rfl).trans ((tbM_tail rfl).trans ((tbM_tail rfl).trans ((tbM_tail rfl).trans ((tbM_tail rfl).trans tbM_head))))
 tj := by first | exact tbM_head | exact (tbM_tail rfl).trans tbM_head | exact (tbM_tail rfl).trans ((tbM_tail rfl).trans tbM_head) | exact (tbM_tail rfl).trans ((tbM_tail rfl).trans ((tbM_tail rfl).trans tbM_head)) | exact (tbM_tail rfl).trans ((tbM_tail rfl).trans ((tbM_tail rfl).trans ((tbM_tail rfl).trans tbM_head))) | exact (tbM_tail rfl).trans ((tbM_tail rfl).trans ((tbM_tail rfl).trans ((tbM_tail rfl).trans ((tbM_tail rfl).trans tbM_head))))
 tn := by first | exact tbM_head | exact (tbM_tail rfl).trans tbM_head | exact (tbM_tail rfl).trans ((tbM_tail rfl).trans tbM_head) | exact (tbM_tail rfl).trans ((tbM_tail rfl).trans ((tbM_tail rfl).trans tbM_head)) | exact (tbM_tail rfl).trans ((tbM_tail rfl).trans ((tbM_tail rfl).trans ((tbM_tail rfl).trans tbM_head))) | exact (tbM_tail rfl).trans ((tbM_tail rfl).trans ((tbM_tail rfl).trans ((tbM_tail rfl).trans ((tbM_tail rfl).trans tbM_head))))
 lon a d h := by
  obtain ⟨z,h⟩ := h
  cases h <;> simp (decide := true) -implicitDefEqProofs [tbM_tail,startD,fVar,fVarS,isT,at_0,at_1,at_2,at_3,at_4,m_Pile__lone,b_Pile__lone,m_takes_of,b_takes_of,m_puts_of,b_puts_of,zs,zOf,lk,lf]
 jon {xs ys} _ := by
  rw [zs_app,lk_app,lf_app]
  simp (decide := true) -implicitDefEqProofs [tbM_tail,startD,fVar,fVarS,isT,at_0,at_1,at_2,at_3,at_4,m_Pile__joined,b_Pile__joined,m_joined_lack,b_joined_lack]
 nt := by simp (decide := true) -implicitDefEqProofs [tbM_tail,startD,fVar,fVarS,isT,at_0,at_1,at_2,at_3,at_4,m_Pile__nothing,b_Pile__nothing,zs,lk,lf]
 ime _ := rfl
 imd := OkR.im
 slf _ := self_i2 _ _
 sld := OkR.sl
def kLine : Kd where
 C := "Line"
 en xs := .tup [.int (lk (zs xs)),.int (cp (zs xs)),.int (ct (zs xs))]
 Okd := OkR
 N := 63
 lonM := m_Line__lone
 jonM := m_Line__joined
 notM := m_Line__nothing
 tl := by first | exact tbM_head | exact (tbM_tail rfl).trans tbM_head | exact (tbM_tail rfl).trans ((tbM_tail rfl).trans tbM_head) | exact (tbM_tail rfl).trans ((tbM_tail rfl).trans ((tbM_tail rfl).trans tbM_head)) | exact (tbM_tail rfl).trans ((tbM_tail rfl).trans ((tbM_tail rfl).trans ((tbM_tail rfl).trans tbM_head))) | exact (tbM_tail rfl).trans ((tbM_tail rfl).trans ((tbM_tail rfl).trans ((tbM_tail rfl).trans ((tbM_tail rfl).trans tbM_head))))
 tj := by first | exact tbM_head | exact (tbM_tail rfl).trans tbM_head | exact (tbM_tail rfl).trans ((tbM_tail rfl).trans tbM_head) | exact (tbM_tail rfl).trans ((tbM_tail rfl).trans ((tbM_tail rfl).trans tbM_head)) | exact (tbM_tail rfl).trans ((tbM_tail rfl).trans ((tbM_tail rfl).trans ((tbM_tail rfl).trans tbM_head))) | exact (tbM_tail rfl).trans ((tbM_tail rfl).trans ((tbM_tail rfl).trans ((tbM_tail rfl).trans ((tbM_tail rfl).trans tbM_head))))
 tn := by first | exact tbM_head | exact (tbM_tail rfl).trans tbM_head | exact (tbM_tail rfl).trans ((tbM_tail rfl).trans tbM_head) | exact (tbM_tail rfl).trans ((tbM_tail rfl).trans ((tbM_tail rfl).trans tbM_head)) | exact (tbM_tail rfl).trans ((tbM_tail rfl).trans ((tbM_tail rfl).trans ((tbM_tail rfl).trans tbM_head))) | exact (tbM_tail rfl).trans ((tbM_tail rfl).trans ((tbM_tail rfl).trans ((tbM_tail rfl).trans ((tbM_tail rfl).trans tbM_head))))
 lon a d h := by
  obtain ⟨z,h⟩ := h
  cases h <;> simp (decide := true) -implicitDefEqProofs [tbM_tail,startD,fVar,fVarS,isT,at_0,at_1,at_2,at_3,at_4,m_Line__lone,b_Line__lone,m_takes_of,b_takes_of,m_puts_of,b_puts_of,zs,zOf,lk,cp,ct]
 jon {xs ys} _ := by
  rw [zs_app,lk_app,cp_app,ct_app,lf_count]
  simp (decide := true) -implicitDefEqProofs [tbM_tail,startD,fVar,fVarS,isT,at_0,at_1,at_2,at_3,at_4,m_Line__joined,b_Line__joined,m_joined_lack,b_joined_lack,m_left_in,b_left_in,m_gone_in,b_gone_in]
 nt := by simp (decide := true) -implicitDefEqProofs [tbM_tail,startD,fVar,fVarS,isT,at_0,at_1,at_2,at_3,at_4,m_Line__nothing,b_Line__nothing,zs,lk,cp,ct]
 ime _ := rfl
 imd := OkR.im
 slf _ := self_i3 _ _ _
 sld := OkR.sl
section
open Tr
variable (K : Kd)
theorem tot_ds (t : T) : m_total_of [E K t] = .ok (K.en t.ds) := by
 have t1 := total_of_eq K t
 rw [show V t = t.ds from tv_ds t] at t1
 exact t1
theorem row_loop (s1 : Sl) : ∀ (L : List T) (xs : List (Nat × D)) (s3 : Sl),xs.length + (L.flatMap T.ds).length ≤ K.N -> ∃ s3',forL (gNm 3) (sSeq (sSet 2 (fMeth tbJ (fVarS 0) [(fVarS 2),(fCall (m_total_of) [(fVarS 3)])])) sNext) (L.map (E K)) [.val (.obj K.C),s1,.val (K.en xs),s3] = .ok (.nx [.val (.obj K.C),s1,.val (K.en (xs ++ L.flatMap T.ds)),s3'])
 | [],xs,s3,_ => ⟨s3,by simp [forL]⟩
 | t :: L,xs,s3,h => by
  have t1 := tot_ds K t
  rw [List.flatMap_cons,List.length_append] at h
  obtain ⟨s3',q⟩ := row_loop s1 L (xs ++ t.ds) (.val (E K t)) (by rw [List.length_append]; omega)
  have j := K.jon (xs := xs) (ys := t.ds) (by omega)
  have tj := K.tj
  have e : xs ++ (t :: L).flatMap T.ds = xs ++ t.ds ++ L.flatMap T.ds := by rw [List.flatMap_cons,List.append_assoc]
  rw [e]
  refine ⟨s3',?_⟩
  rw [← q,List.map_cons]
  simp only [forL,e_nm,bind_ok,List.set]
  generalize E K t = z at *
  generalize K.en (xs ++ t.ds) = z3 at *
  generalize K.en xs = z1 at *
  generalize K.en t.ds = z2 at *
  generalize K.C = cc at *
  simp (decide := true) -implicitDefEqProofs [tbM_tail,startD,fVar,fVarS,isT,at_0,at_1,at_2,at_3,at_4,t1,tj,j]
theorem row_total_eq {L : List T} (h : (L.flatMap T.ds).length ≤ K.N) : m_row_total [.obj K.C,.lst (L.map (E K))] = .ok (K.en (L.flatMap T.ds)) := by
 obtain ⟨s3',q⟩ := row_loop K (.val (.lst (L.map (E K)))) L [] .un (by rw [List.length_nil]; omega)
 rw [List.nil_append] at q
 have n := K.nt
 have tn := K.tn
 generalize K.en [] = z0 at *
 generalize K.en (L.flatMap T.ds) = z at *
 generalize L.map (E K) = M at *
 generalize K.C = cc at *
 simp (decide := true) -implicitDefEqProofs [tbM_tail,startD,fVar,fVarS,isT,at_0,at_1,at_2,at_3,at_4,m_row_total,b_row_total,tn,n,sFor,q]
theorem rng_cons (lo : Int) (n : Nat) : rng lo (n + 1) = .int lo :: rng (lo + 1) n := by
 unfold rng
 rw [List.range_succ_eq_map,List.map_cons,List.map_map]
 congr 1
 ·simp
 ·refine List.map_congr_left fun k _ => ?_
  simp only [Function.comp]
  congr 1
  omega
abbrev Pt2 := Int × Int
inductive Qs : D -> Option Nat -> Prop
 | take : Qs (.tup [.str "take"]) (some 0)
 | many : Qs (.tup [.str "many"]) none
 | look (n : Nat) : Qs (.tup [.str "look",.int (n : Int)]) (some n)
def numO : Option Pt2 -> D
 | some p => .int p.1
 | none => .non
def timO : Option Pt2 -> D
 | some p => .int p.2
 | none => .non
def dueO (r : List Pt2) : Option Nat -> D
 | some n => numO r[n]?
 | none => .int (r.length : Int)
def srcO (r : List Pt2) : Option Nat -> D
 | some n => timO r[n]?
 | none => .non
def ptOf : Nat × D -> Pt2
 | (a,.tup [_,.int x]) => (x,(a : Int))
 | (a,_) => (0,(a : Int))
def OkL (L : List T) : Prop := ∀ t ∈ L,Good t ∧ ∀ p ∈ t.ds,OkR p.2
theorem ok_flat {L : List T} (hL : OkL L) : ∀ p ∈ L.flatMap T.ds,OkR p.2 := fun p hp => by
 obtain ⟨t,ht,h⟩ := List.mem_flatMap.mp hp
 exact (hL t ht).2 p h
theorem put_form {d : D} (h : OkR d) (hz : zOf d = 1) : ∃ x,d = .tup [.str "put",.int x] := by
 obtain ⟨z,h⟩ := h
 cases h with
 | put x => exact ⟨x,rfl⟩
 | take => exact absurd hz (by decide)
 | many => exact absurd hz (by decide)
 | look x _ => exact absurd (show (0 : Int) = 1 from hz) (by decide)
end
section
open Tr
namespace Ln
def pu (l : List (Nat × D)) : List (Nat × D) := l.filter fun p => decide (zOf p.2 = 1)
theorem pu_app (a b : List (Nat × D)) : pu (a ++ b) = pu a ++ pu b := List.filter_append ..
theorem cp_pu : ∀ l : List (Nat × D),cp (zs l) = ((pu l).length : Int)
 | [] => rfl
 | p :: l => by
  have h := cp_pu l
  simp only [zs,List.map_cons,cp]
  simp only [zs] at h
  rw [h]
  by_cases c : zOf p.2 = 1
  ·rw [if_pos c]
   have : pu (p :: l) = p :: pu l := List.filter_cons_of_pos (by simpa using c)
   rw [this,List.length_cons]; omega
  ·rw [if_neg c]
   have : pu (p :: l) = pu l := List.filter_cons_of_neg (by simpa using c)
   rw [this]; omega
def opK : Option (Nat × D) -> D
 | some p => E kLine (.lf p.1 p.2)
 | none => .non
theorem pb_loop (F : List D -> Ou D) (L0 e0 : Sl) : ∀ (L : List T),OkL L -> (∀ t ∈ L,∀ q k l r,t = .nd q k l r -> ∀ e : Nat,F [.lst [E kLine l,E kLine r],.int (e : Int)] = .ok (opK ((pu (l.ds ++ r.ds))[e]?))) -> ∀ (e : Nat) (s3 s4 : Sl),
  (∃ p,(pu (L.flatMap T.ds))[e]? = some p ∧ forL (gNm 3) (sSeq (sSet 4 (f2 gIx (fCall (m_total_of) [(fVarS 3)]) (fC (.int 1)))) (sSeq (sIf (fAsB (f2 gLt (fVar 2) (fVar 4))) (sSeq (sRet (fIfE (fTru (fCall (m_is_leaf) [(fVar 3)])) (fVar 3) (fCall (F) [(fCall (m_parts) [(fVar 3)]),(fVar 2)]))) sNext) sNext) (sSeq (sSet 2 (f2 gSub (fVar 2) (fVar 4))) sNext))) (L.map (E kLine)) [L0,e0,.val (.int (e : Int)),s3,s4] = .ok (.rt (E kLine (.lf p.1 p.2)))) ∨
  ((pu (L.flatMap T.ds))[e]? = none ∧ ∃ δ',forL (gNm 3) (sSeq (sSet 4 (f2 gIx (fCall (m_total_of) [(fVarS 3)]) (fC (.int 1)))) (sSeq (sIf (fAsB (f2 gLt (fVar 2) (fVar 4))) (sSeq (sRet (fIfE (fTru (fCall (m_is_leaf) [(fVar 3)])) (fVar 3) (fCall (F) [(fCall (m_parts) [(fVar 3)]),(fVar 2)]))) sNext) sNext) (sSeq (sSet 2 (f2 gSub (fVar 2) (fVar 4))) sNext))) (L.map (E kLine)) [L0,e0,.val (.int (e : Int)),s3,s4] = .ok (.nx δ'))
 | [],_,_,e,s3,s4 => .inr ⟨rfl,_,rfl⟩
 | t :: L,hL,hF,e,s3,s4 => by
  have t1 : m_total_of [E kLine t] = .ok (.tup [.int (lk (zs t.ds)),.int (cp (zs t.ds)),.int (ct (zs t.ds))]) := tot_ds kLine t
  have hcp := cp_pu t.ds
  rw [List.flatMap_cons,pu_app,List.map_cons]
  simp only [forL,e_nm,bind_ok,List.set]
  by_cases c : e < (pu t.ds).length
  ·have c' : (e : Int) < cp (zs t.ds) := by rw [hcp]; omega
   rw [List.getElem?_append_left c]
   refine .inl ⟨(pu t.ds)[e],List.getElem?_eq_getElem c,?_⟩
   cases t with
   | lf a d =>
    have l := leaf_lf kLine a d
    have ep : (pu (T.lf a d).ds)[e] = (a,d) := by
     have hm := List.getElem_mem c
     have : (pu (T.lf a d).ds)[e] ∈ (T.lf a d).ds := (List.mem_filter.mp hm).1
     simpa [T.ds] using this
    rw [ep]
    generalize E kLine (.lf a d) = z at *
    simp (decide := true) -implicitDefEqProofs [tbM_tail,startD,fVar,fVarS,isT,at_0,at_1,at_2,at_3,at_4,t1,c',l]
   | nd q k l r =>
    have ln := leaf_nd kLine q k l r
    have f := hF (.nd q k l r) List.mem_cons_self q k l r rfl e
    have e1 : (pu (l.ds ++ r.ds))[e]? = some (pu (T.nd q k l r).ds)[e] := List.getElem?_eq_getElem c
    rw [e1] at f
    generalize (pu (T.nd q k l r).ds)[e] = p at *
    have ex : E kLine (.nd q k l r) = .tup [.int ((q * 2 ^ (k + 1) : Nat) : Int),.int ((2 ^ (k + 1) : Nat) : Int),kLine.en (join0 (V l) (V r)),E kLine l,E kLine r] := rfl
    rw [ex] at t1 ln ⊢
    change F [.lst [E kLine l,E kLine r],.int (e : Int)] = .ok (E kLine (.lf p.1 p.2)) at f
    generalize E kLine (.lf p.1 p.2) = z9 at *
    generalize ((q * 2 ^ (k + 1) : Nat) : Int) = z1 at *
    generalize ((2 ^ (k + 1) : Nat) : Int) = z22 at *
    generalize kLine.en (join0 (V l) (V r)) = z3 at *
    generalize E kLine l = z4 at *
    generalize E kLine r = z5 at *
    simp (decide := true) -implicitDefEqProofs [tbM_tail,startD,fVar,fVarS,isT,at_0,at_1,at_2,at_3,at_4,t1,c',ln,m_parts,b_parts,f]
  ·have c' : ¬ (e : Int) < cp (zs t.ds) := by rw [hcp]; omega
   rw [List.getElem?_append_right (by omega)]
   have es : (e : Int) - cp (zs t.ds) = ((e - (pu t.ds).length : Nat) : Int) := by rw [hcp]; omega
   rcases pb_loop F L0 e0 L (fun t ht => hL t (List.mem_cons_of_mem _ ht)) (fun t ht => hF t (List.mem_cons_of_mem _ ht)) (e - (pu t.ds).length) (.val (E kLine t)) (.val (.int (cp (zs t.ds)))) with ⟨p,h1,h2⟩ | ⟨h1,δ',h2⟩
   ·refine .inl ⟨p,h1,?_⟩
    rw [← h2,← es]
    generalize E kLine t = z at *
    generalize cp (zs t.ds) = x1 at *
    generalize lk (zs t.ds) = x2 at *
    generalize ct (zs t.ds) = x3 at *
    simp (decide := true) -implicitDefEqProofs [tbM_tail,startD,fVar,fVarS,isT,at_0,at_1,at_2,at_3,at_4,t1,c']
   ·refine .inr ⟨h1,δ',?_⟩
    rw [← h2,← es]
    generalize E kLine t = z at *
    generalize cp (zs t.ds) = x1 at *
    generalize lk (zs t.ds) = x2 at *
    generalize ct (zs t.ds) = x3 at *
    simp (decide := true) -implicitDefEqProofs [tbM_tail,startD,fVar,fVarS,isT,at_0,at_1,at_2,at_3,at_4,t1,c']
theorem pb_eq : ∀ (n : Nat) (L : List T) (e : Nat),OkL L -> (∀ t ∈ L,t.e < n) -> 0 < n -> m_put_behind n [.lst (L.map (E kLine)),.int (e : Int)] = .ok (opK ((pu (L.flatMap T.ds))[e]?))
 | 0,_,_,_,_,h => by omega
 | n + 1,L,e,hL,hn,_ => by
  have hu : m_put_behind (n + 1) [.lst (L.map (E kLine)),.int (e : Int)] = runD false 5 (b_put_behind (m_put_behind n)) [.lst (L.map (E kLine)),.int (e : Int)] := rfl
  rw [hu]
  have hF : ∀ t ∈ L,∀ q k l r,t = .nd q k l r -> ∀ e : Nat,m_put_behind n [.lst [E kLine l,E kLine r],.int (e : Int)] = .ok (opK ((pu (l.ds ++ r.ds))[e]?)) := by
   rintro t ht q k l r rfl e
   obtain ⟨G,hd⟩ := hL _ ht
   have he := hn _ ht
   obtain ⟨hl,hr,el,er,_⟩ := sub_e G
   have he' : k + 1 < n + 1 := he
   have ih := pb_eq n [l,r] e (fun t ht => by
    simp only [List.mem_cons,List.not_mem_nil,or_false] at ht
    rcases ht with rfl | rfl
    ·exact ⟨hl,fun p hp => hd p (List.mem_append_left _ hp)⟩
    ·exact ⟨hr,fun p hp => hd p (List.mem_append_right _ hp)⟩) (fun t ht => by
    simp only [List.mem_cons,List.not_mem_nil,or_false] at ht
    rcases ht with rfl | rfl <;> omega) (by omega)
   simpa using ih
  generalize m_put_behind n = F at *
  rcases pb_loop F (.val (.lst (L.map (E kLine)))) (.val (.int (e : Int))) L hL hF e .un .un with ⟨p,h1,h2⟩ | ⟨h1,δ',h2⟩
  ·rw [h1]
   show _ = Ou.ok (E kLine (.lf p.1 p.2))
   generalize E kLine (.lf p.1 p.2) = z at *
   generalize L.map (E kLine) = M at *
   simp (decide := true) -implicitDefEqProofs [tbM_tail,startD,fVar,fVarS,isT,at_0,at_1,at_2,at_3,at_4,b_put_behind,sFor,h2]
  ·rw [h1]
   show _ = Ou.ok D.non
   generalize L.map (E kLine) = M at *
   simp (decide := true) -implicitDefEqProofs [tbM_tail,startD,fVar,fVarS,isT,at_0,at_1,at_2,at_3,at_4,b_put_behind,sFor,h2]
theorem lk_ct : ∀ xs : List Int,lk xs ≤ ct xs
 | [] => by simp [lk,ct]
 | z :: r => by
  have h := lk_ct r
  have g := lk_ge r
  simp only [lk,ct]
  by_cases h1 : z = 1
  ·subst h1; simp; omega
  ·by_cases h2 : z = -1
   ·subst h2; simp; omega
   ·simp [h1,h2]; omega
def gn (l : List (Nat × D)) : Nat := (ct (zs l) - lk (zs l)).toNat
theorem gn_int (l : List (Nat × D)) : ((gn l : Nat) : Int) = ct (zs l) - lk (zs l) := by
 have := lk_ct (zs l)
 unfold gn; omega
theorem lf_pu (l : List (Nat × D)) : lf (zs l) = ((pu l).length : Int) - (gn l : Int) := by
 rw [lf_count,cp_pu,gn_int]
theorem gn_le (l : List (Nat × D)) : gn l ≤ (pu l).length := by
 have h := lf_pu l
 have := lf_ge (zs l)
 omega
theorem pu_mem {l : List (Nat × D)} (h : ∀ p ∈ l,OkR p.2) {p : Nat × D} (hp : p ∈ pu l) : ∃ x,p.2 = .tup [.str "put",.int x] :=
 put_form (h p (List.mem_filter.mp hp).1) (by simpa using (List.mem_filter.mp hp).2)
theorem gn_put {l : List (Nat × D)} {p : Nat × D} (h : zOf p.2 ≠ -1) : gn (l ++ [p]) = gn l := by
 have e : zs (l ++ [p]) = zs l ++ [zOf p.2] := by simp [zs]
 have h1 := lk_app (zs l) [zOf p.2]
 have h2 := ct_app (zs l) [zOf p.2]
 have h3 := lf_ge (zs l)
 have h4 : lk [zOf p.2] = 0 := by
  simp only [lk,h,if_false]
  split <;> omega
 have h5 : ct [zOf p.2] = 0 := by simp [ct,h]
 unfold gn
 rw [e,h1,h2,h4,h5]
 omega
theorem gn_take {l : List (Nat × D)} {p : Nat × D} (h : zOf p.2 = -1) : gn (l ++ [p]) = if gn l < (pu l).length then gn l + 1 else gn l := by
 have e : zs (l ++ [p]) = zs l ++ [zOf p.2] := by simp [zs]
 have h1 := lk_app (zs l) [zOf p.2]
 have h2 := ct_app (zs l) [zOf p.2]
 have h3 := lf_ge (zs l)
 have h4 : lk [zOf p.2] = 1 := by simp [lk,h]
 have h5 : ct [zOf p.2] = 1 := by simp [ct,h]
 have h6 := lf_pu l
 have h7 := gn_int l
 have h8 := gn_int (l ++ [p])
 rw [e,h1,h2,h4,h5] at h8
 split <;> omega
def sd (l : List (Nat × D)) : List Pt2 := ((pu l).drop (gn l)).map ptOf
theorem num_put {l : List (Nat × D)} (hok : ∀ p ∈ l,OkR p.2) {i : Nat} (h : i < (pu l).length) : m_number_put [opK (pu l)[i]?] = .ok (.int (ptOf (pu l)[i]).1) := by
 rw [List.getElem?_eq_getElem h]
 obtain ⟨x,hx⟩ := pu_mem hok (List.getElem_mem h)
 generalize (pu l)[i] = p at *
 obtain ⟨a,d⟩ := p
 simp only at hx
 subst hx
 show m_number_put [.tup [.int (a : Int),.int 1,kLine.en (lone0 a (.tup [.str "put",.int x])),.tup [.str "put",.int x]]] = _
 generalize kLine.en (lone0 a (.tup [.str "put",.int x])) = z at *
 simp (decide := true) -implicitDefEqProofs [tbM_tail,startD,fVar,fVarS,isT,at_0,at_1,at_2,at_3,at_4,m_number_put,b_number_put,gIsN,ptOf]
theorem stand_loop {L : List T} (hL : OkL L) : ∀ (n i : Nat) (s0 : Sl),i + n = (pu (L.flatMap T.ds)).length -> compL (gNm 0) fYes (fCall (m_number_put) [(fCall (m_put_behind 64) [(fVarS 1),(fVarS 0)])]) (rng (i : Int) n) [s0,.val (.lst (L.map (E kLine)))] = .ok (((pu (L.flatMap T.ds)).drop i).map fun p => D.int (ptOf p).1)
 | 0,i,s0,h => by
  rw [List.drop_eq_nil_of_le (by omega)]; rfl
 | n + 1,i,s0,h => by
  have ih := stand_loop hL n (i + 1) (.val (.int (i : Int))) (by omega)
  have e2 : ((i + 1 : Nat) : Int) = (i : Int) + 1 := by omega
  rw [e2] at ih
  have hi : i < (pu (L.flatMap T.ds)).length := by omega
  have b := pb_eq 64 L i hL (fun t ht => by have := depth (hL t ht).1; omega) (by decide)
  have np := num_put (ok_flat hL) hi
  rw [rng_cons,List.drop_eq_getElem_cons hi,List.map_cons]
  generalize opK (pu (L.flatMap T.ds))[i]? = w at *
  simp only [compL,e_nm,bind_ok,List.set]
  generalize rng ((i : Int) + 1) n = R at *
  generalize ((pu (L.flatMap T.ds)).drop (i + 1)).map (fun p => D.int (ptOf p).1) = Y at *
  generalize (ptOf (pu (L.flatMap T.ds))[i]).1 = x at *
  generalize (i : Int) = k at *
  generalize L.map (E kLine) = M at *
  generalize m_put_behind 64 = P at *
  simp (decide := true) -implicitDefEqProofs [tbM_tail,startD,fVar,fVarS,isT,at_0,at_1,at_2,at_3,at_4,fYes,b,np,ih]
theorem line_stand {L : List T} (hL : OkL L) (h63 : (L.flatMap T.ds).length ≤ 63) : m_Line__stand [.obj "Line",.lst (L.map (E kLine))] = .ok (.lst ((sd (L.flatMap T.ds)).map fun p => D.int p.1)) := by
 have r : m_row_total [.obj "Line",.lst (L.map (E kLine))] = .ok (.tup [.int (lk (zs (L.flatMap T.ds))),.int (cp (zs (L.flatMap T.ds))),.int (ct (zs (L.flatMap T.ds)))]) := row_total_eq kLine (L := L) h63
 have g : m_gone_in [.tup [.int (lk (zs (L.flatMap T.ds))),.int (cp (zs (L.flatMap T.ds))),.int (ct (zs (L.flatMap T.ds)))]] = .ok (.int (gn (L.flatMap T.ds) : Int)) := by
  rw [gn_int]
  simp (decide := true) -implicitDefEqProofs [tbM_tail,startD,fVar,fVarS,isT,at_0,at_1,at_2,at_3,at_4,m_gone_in,b_gone_in]
 have hle := gn_le (L.flatMap T.ds)
 have hpl : (pu (L.flatMap T.ds)).length ≤ (L.flatMap T.ds).length := List.length_filter_le _ _
 have c := stand_loop hL ((pu (L.flatMap T.ds)).length - gn (L.flatMap T.ds)) (gn (L.flatMap T.ds)) .un (by omega)
 have e : ((sd (L.flatMap T.ds)).map fun p => D.int p.1) = ((pu (L.flatMap T.ds)).drop (gn (L.flatMap T.ds))).map fun p => D.int (ptOf p).1 := by
  unfold sd
  rw [List.map_map]; rfl
 rw [e]
 have hcp := cp_pu (L.flatMap T.ds)
 rw [hcp] at r g
 have h1 : rOk (gn (L.flatMap T.ds) : Int) = true := by simp [rOk]; omega
 have h2 : rOk ((pu (L.flatMap T.ds)).length : Int) = true := by simp [rOk]; omega
 have h3 : (((pu (L.flatMap T.ds)).length : Int) - (gn (L.flatMap T.ds) : Int)).toNat = (pu (L.flatMap T.ds)).length - gn (L.flatMap T.ds) := by omega
 have h4 : (pu (L.flatMap T.ds)).length - gn (L.flatMap T.ds) ≤ sizeLine := Nat.le_of_lt (small1000 (by omega))
 generalize ((pu (L.flatMap T.ds)).drop (gn (L.flatMap T.ds))).map (fun p => D.int (ptOf p).1) = Y at *
 generalize lk (zs (L.flatMap T.ds)) = x1 at *
 generalize ct (zs (L.flatMap T.ds)) = x3 at *
 generalize (pu (L.flatMap T.ds)).length = x2 at *
 generalize gn (L.flatMap T.ds) = x4 at *
 generalize L.map (E kLine) = M at *
 simp (decide := true) -implicitDefEqProofs [tbM_tail,startD,fVar,fVarS,isT,at_0,at_1,at_2,at_3,at_4,m_Line__stand,b_Line__stand,r,g,fComp,fRange,h1,h2,h3,rng_len,h4,dsIn,slIn,c]
end Ln
end
section
open Tr
namespace Pl
def wOf : D -> Int × Int
 | .tup (.str w :: _) => if w = "put" then (0,1) else if w = "take" then (1,0) else (0,0)
 | _ => (0,0)
def lpu (p : Nat × D) : Nat := if wOf p.2 = (0,1) then 1 else 0
def ltk (p : Nat × D) : Nat := if wOf p.2 = (1,0) then 1 else 0
def bel : List (Nat × D) -> Nat -> Option (Nat × D)
 | [],_ => none
 | p :: r,n => if n < lpu p then some p else bel r (n - lpu p + ltk p)
def ttR : List (Nat × D) -> Nat × Nat
 | [] => (0,0)
 | p :: r => ((ttR r).1 + (ltk p - (ttR r).2),lpu p + ((ttR r).2 - ltk p))
theorem lt_two (p : Nat × D) : (lpu p = 0 ∧ ltk p = 0) ∨ (lpu p = 1 ∧ ltk p = 0) ∨ (lpu p = 0 ∧ ltk p = 1) := by
 unfold lpu ltk
 by_cases h : wOf p.2 = (0,1)
 ·rw [h]; simp
 ·by_cases h2 : wOf p.2 = (1,0)
  ·rw [h2]; simp
  ·simp [h,h2]
theorem bel_cons (p : Nat × D) (r : List (Nat × D)) (n : Nat) : bel (p :: r) n = if n < lpu p then some p else bel r (n - lpu p + ltk p) := rfl
theorem bel_app (rs : List (Nat × D)) : ∀ (r : List (Nat × D)) (n : Nat),bel (r ++ rs) n = if n < (ttR r).2 then bel r n else bel rs (n - (ttR r).2 + (ttR r).1)
 | [],n => by simp [ttR]
 | p :: r,n => by
  have ih := bel_app rs r
  have e : ttR (p :: r) = ((ttR r).1 + (ltk p - (ttR r).2),lpu p + ((ttR r).2 - ltk p)) := rfl
  rw [List.cons_append,bel_cons,bel_cons,ih,e]
  generalize (ttR r).2 = b
  generalize (ttR r).1 = a
  rcases lt_two p with ⟨h1,h2⟩ | ⟨h1,h2⟩ | ⟨h1,h2⟩ <;> rw [h1,h2]
  ·simp
  ·by_cases hn : n < 1
   ·rw [if_pos hn,if_pos hn,if_pos (by omega)]
   ·rw [if_neg hn,if_neg hn]
    have e1 : (n - 1 + 0 < b) = (n < 1 + (b - 0)) := propext ⟨fun _ => by omega,fun _ => by omega⟩
    have e2 : n - 1 + 0 - b + a = n - (1 + (b - 0)) + (a + (0 - b)) := by omega
    simp only [e1,e2]
  ·rw [if_neg (Nat.not_lt_zero n),if_neg (Nat.not_lt_zero n)]
   have e1 : (n - 0 + 1 < b) = (n < 0 + (b - 1)) := propext ⟨fun _ => by omega,fun _ => by omega⟩
   have e2 : n - 0 + 1 - b + a = n - (0 + (b - 1)) + (a + (1 - b)) := by omega
   simp only [e1,e2]
def stp (s : List (Nat × D)) (p : Nat × D) : List (Nat × D) := if wOf p.2 = (0,1) then p :: s else if wOf p.2 = (1,0) then s.tail else s
def stk (l : List (Nat × D)) : List (Nat × D) := l.foldl stp []
theorem stk_snoc (l : List (Nat × D)) (p : Nat × D) : stk (l ++ [p]) = stp (stk l) p := by simp [stk]
theorem bel_stk : ∀ (r : List (Nat × D)) (n : Nat),bel r n = (stk r.reverse)[n]?
 | [],n => by simp [bel,stk]
 | p :: r,n => by
  rw [List.reverse_cons,stk_snoc,bel_cons,bel_stk r]
  unfold stp lpu ltk
  by_cases h : wOf p.2 = (0,1)
  ·rw [h]
   cases n with
   | zero => simp
   | succ n => simp
  ·by_cases h2 : wOf p.2 = (1,0)
   ·rw [h2]; simp [List.getElem?_tail]
   ·simp [h,h2]
theorem tt_int : ∀ r : List (Nat × D),(∀ p ∈ r,OkR p.2) -> (((ttR r).1 : Nat) : Int) = lk (zs r.reverse) ∧ (((ttR r).2 : Nat) : Int) = lf (zs r.reverse)
 | [],_ => ⟨rfl,rfl⟩
 | p :: r,h => by
  obtain ⟨i1,i2⟩ := tt_int r fun q hq => h q (List.mem_cons_of_mem _ hq)
  have e : ttR (p :: r) = ((ttR r).1 + (ltk p - (ttR r).2),lpu p + ((ttR r).2 - ltk p)) := rfl
  have g := lf_ge (zs r.reverse)
  have e2 : zs (p :: r).reverse = zs r.reverse ++ [zOf p.2] := by simp [zs]
  rw [e,e2,lk_app,lf_app]
  obtain ⟨z,hz⟩ := h p List.mem_cons_self
  obtain ⟨a,d⟩ := p
  cases hz <;> simp (decide := true) [lpu,ltk,wOf,zOf,lk,lf] <;> omega
theorem tot_eq {t : T} (h : ∀ p ∈ t.ds,OkR p.2) : m_total_of [E kPile t] = .ok (.tup [.int ((ttR t.ds.reverse).1 : Int),.int ((ttR t.ds.reverse).2 : Int)]) := by
 have t1 : m_total_of [E kPile t] = .ok (.tup [.int (lk (zs t.ds)),.int (lf (zs t.ds))]) := tot_ds kPile t
 obtain ⟨e1,e2⟩ := tt_int t.ds.reverse fun p hp => h p (List.mem_reverse.mp hp)
 rw [List.reverse_reverse] at e1 e2
 rw [e1,e2]; exact t1
def opK : Option (Nat × D) -> D
 | some p => E kPile (.lf p.1 p.2)
 | none => .non
def back (L : List T) : List (Nat × D) := L.flatMap fun t => t.ds.reverse
theorem back_rev (L : List T) : back L.reverse = (L.flatMap T.ds).reverse := by
 induction L with
 | nil => rfl
 | cons t L ih =>
  have e : back (L.reverse ++ [t]) = back L.reverse ++ back [t] := by simp [back]
  rw [List.reverse_cons,e,ih]
  simp [back]
theorem bel_tt : ∀ (r : List (Nat × D)) (n : Nat),n < (ttR r).2 -> ∃ p,bel r n = some p
 | [],n,h => by simp [ttR] at h
 | p :: r,n,h => by
  rw [bel_cons]
  have e : (ttR (p :: r)).2 = lpu p + ((ttR r).2 - ltk p) := rfl
  rw [e] at h
  by_cases c : n < lpu p
  ·exact ⟨p,by rw [if_pos c]⟩
  ·rw [if_neg c]
   exact bel_tt r _ (by omega)
theorem pb_loop (F : List D -> Ou D) (L0 e0 : Sl) : ∀ (L : List T),OkL L -> (∀ t ∈ L,∀ q k l r,t = .nd q k l r -> ∀ e : Nat,F [.lst [E kPile l,E kPile r],.int (e : Int)] = .ok (opK (bel (l.ds ++ r.ds).reverse e))) -> ∀ (e : Nat) (s3 s4 : Sl),
  (∃ p,bel (back L) e = some p ∧ forL (gNm 3) (sSeq (sSet 4 (fCall (m_total_of) [(fVarS 3)])) (sSeq (sIf (fAsB (f2 gLt (fVar 2) (f2 gIx (fVar 4) (fC (.int 1))))) (sSeq (sRet (fIfE (fTru (fCall (m_is_leaf) [(fVar 3)])) (fVar 3) (fCall (F) [(fCall (m_parts) [(fVar 3)]),(fVar 2)]))) sNext) sNext) (sSeq (sSet 2 (f2 gAdd (f2 gSub (fVar 2) (f2 gIx (fVar 4) (fC (.int 1)))) (f2 gIx (fVar 4) (fC (.int 0))))) sNext))) (L.map (E kPile)) [L0,e0,.val (.int (e : Int)),s3,s4] = .ok (.rt (E kPile (.lf p.1 p.2)))) ∨
  (bel (back L) e = none ∧ ∃ δ',forL (gNm 3) (sSeq (sSet 4 (fCall (m_total_of) [(fVarS 3)])) (sSeq (sIf (fAsB (f2 gLt (fVar 2) (f2 gIx (fVar 4) (fC (.int 1))))) (sSeq (sRet (fIfE (fTru (fCall (m_is_leaf) [(fVar 3)])) (fVar 3) (fCall (F) [(fCall (m_parts) [(fVar 3)]),(fVar 2)]))) sNext) sNext) (sSeq (sSet 2 (f2 gAdd (f2 gSub (fVar 2) (f2 gIx (fVar 4) (fC (.int 1)))) (f2 gIx (fVar 4) (fC (.int 0))))) sNext))) (L.map (E kPile)) [L0,e0,.val (.int (e : Int)),s3,s4] = .ok (.nx δ'))
 | [],_,_,e,s3,s4 => .inr ⟨rfl,_,rfl⟩
 | t :: L,hL,hF,e,s3,s4 => by
  have t1 := tot_eq (hL t List.mem_cons_self).2
  have eb : bel (back (t :: L)) e = if e < (ttR t.ds.reverse).2 then bel t.ds.reverse e else bel (back L) (e - (ttR t.ds.reverse).2 + (ttR t.ds.reverse).1) := by
   show bel (t.ds.reverse ++ back L) e = _
   rw [bel_app]
  rw [eb,List.map_cons]
  by_cases c : e < (ttR t.ds.reverse).2
  ·rw [if_pos c]
   obtain ⟨p,hp⟩ := bel_tt _ _ c
   refine .inl ⟨p,hp,?_⟩
   have c' : (e : Int) < ((ttR t.ds.reverse).2 : Int) := by omega
   cases t with
   | lf a d =>
    have l := leaf_lf kPile a d
    have ep : p = (a,d) := by
     have e1 : bel [(a,d)] e = some p := hp
     rw [bel_cons] at e1
     by_cases h : e < lpu (a,d)
     ·rw [if_pos h] at e1; exact (Option.some.inj e1).symm
     ·rw [if_neg h] at e1; cases e1
    subst ep
    generalize ttR (T.lf a d).ds.reverse = z2 at *
    generalize E kPile (.lf a d) = z at *
    simp only [forL,e_nm,bind_ok,List.set]
    simp (decide := true) -implicitDefEqProofs [tbM_tail,startD,fVar,fVarS,isT,at_0,at_1,at_2,at_3,at_4,t1,c',l]
   | nd q k l r =>
    have ln := leaf_nd kPile q k l r
    have f := hF (.nd q k l r) List.mem_cons_self q k l r rfl e
    have e1 : bel (l.ds ++ r.ds).reverse e = some p := hp
    rw [e1] at f
    have ex : E kPile (.nd q k l r) = .tup [.int ((q * 2 ^ (k + 1) : Nat) : Int),.int ((2 ^ (k + 1) : Nat) : Int),kPile.en (join0 (V l) (V r)),E kPile l,E kPile r] := rfl
    rw [ex] at t1 ln ⊢
    change F [.lst [E kPile l,E kPile r],.int (e : Int)] = .ok (E kPile (.lf p.1 p.2)) at f
    generalize ttR (T.nd q k l r).ds.reverse = z2 at *
    generalize E kPile (.lf p.1 p.2) = z9 at *
    generalize ((q * 2 ^ (k + 1) : Nat) : Int) = z1 at *
    generalize ((2 ^ (k + 1) : Nat) : Int) = z22 at *
    generalize kPile.en (join0 (V l) (V r)) = z3 at *
    generalize E kPile l = z4 at *
    generalize E kPile r = z5 at *
    simp only [forL,e_nm,bind_ok,List.set]
    simp (decide := true) -implicitDefEqProofs [tbM_tail,startD,fVar,fVarS,isT,at_0,at_1,at_2,at_3,at_4,t1,c',ln,m_parts,b_parts,f]
  ·rw [if_neg c]
   have c' : ¬ (e : Int) < ((ttR t.ds.reverse).2 : Int) := by omega
   have es : (e : Int) - ((ttR t.ds.reverse).2 : Int) + ((ttR t.ds.reverse).1 : Int) = ((e - (ttR t.ds.reverse).2 + (ttR t.ds.reverse).1 : Nat) : Int) := by omega
   rcases pb_loop F L0 e0 L (fun t ht => hL t (List.mem_cons_of_mem _ ht)) (fun t ht => hF t (List.mem_cons_of_mem _ ht)) (e - (ttR t.ds.reverse).2 + (ttR t.ds.reverse).1) (.val (E kPile t)) (.val (.tup [.int ((ttR t.ds.reverse).1 : Int),.int ((ttR t.ds.reverse).2 : Int)])) with ⟨p,h1,h2⟩ | ⟨h1,δ',h2⟩
   ·refine .inl ⟨p,h1,?_⟩
    rw [← h2,← es]
    generalize ttR t.ds.reverse = z2 at *
    generalize E kPile t = z at *
    simp only [forL,e_nm,bind_ok,List.set]
    simp (decide := true) -implicitDefEqProofs [tbM_tail,startD,fVar,fVarS,isT,at_0,at_1,at_2,at_3,at_4,t1,c']
   ·refine .inr ⟨h1,δ',?_⟩
    rw [← h2,← es]
    generalize ttR t.ds.reverse = z2 at *
    generalize E kPile t = z at *
    simp only [forL,e_nm,bind_ok,List.set]
    simp (decide := true) -implicitDefEqProofs [tbM_tail,startD,fVar,fVarS,isT,at_0,at_1,at_2,at_3,at_4,t1,c']
theorem pb_eq : ∀ (n : Nat) (L : List T) (e : Nat),OkL L -> (∀ t ∈ L,t.e < n) -> 0 < n -> m_put_below n [.lst (L.map (E kPile)),.int (e : Int)] = .ok (opK (bel (L.flatMap T.ds).reverse e))
 | 0,_,_,_,_,h => by omega
 | n + 1,L,e,hL,hn,_ => by
  have hu : m_put_below (n + 1) [.lst (L.map (E kPile)),.int (e : Int)] = runD false 5 (b_put_below (m_put_below n)) [.lst (L.map (E kPile)),.int (e : Int)] := rfl
  rw [hu]
  have hF : ∀ t ∈ L.reverse,∀ q k l r,t = .nd q k l r -> ∀ e : Nat,m_put_below n [.lst [E kPile l,E kPile r],.int (e : Int)] = .ok (opK (bel (l.ds ++ r.ds).reverse e)) := by
   rintro t ht q k l r rfl e
   rw [List.mem_reverse] at ht
   obtain ⟨G,hd⟩ := hL _ ht
   have he := hn _ ht
   obtain ⟨hl,hr,el,er,_⟩ := sub_e G
   have he' : k + 1 < n + 1 := he
   have ih := pb_eq n [l,r] e (fun t ht => by
    simp only [List.mem_cons,List.not_mem_nil,or_false] at ht
    rcases ht with rfl | rfl
    ·exact ⟨hl,fun p hp => hd p (List.mem_append_left _ hp)⟩
    ·exact ⟨hr,fun p hp => hd p (List.mem_append_right _ hp)⟩) (fun t ht => by
    simp only [List.mem_cons,List.not_mem_nil,or_false] at ht
    rcases ht with rfl | rfl <;> omega) (by omega)
   simpa using ih
  generalize m_put_below n = F at *
  have hv : ∀ s3 s4 G B,sForV (fVarS 0) G B [.val (.lst (L.map (E kPile))),.val (.int (e : Int)),.val (.int (e : Int)),s3,s4] = forL G B (L.reverse.map (E kPile)) [.val (.lst (L.map (E kPile))),.val (.int (e : Int)),.val (.int (e : Int)),s3,s4] := by
   intro s3 s4 G B
   rw [List.map_reverse]
   rfl
  rw [← back_rev]
  rcases pb_loop F (.val (.lst (L.map (E kPile)))) (.val (.int (e : Int))) L.reverse (fun t ht => hL t (List.mem_reverse.mp ht)) hF e .un .un with ⟨p,h1,h2⟩ | ⟨h1,δ',h2⟩
  ·rw [h1]
   show _ = Ou.ok (E kPile (.lf p.1 p.2))
   generalize E kPile (.lf p.1 p.2) = z at *
   generalize L.reverse.map (E kPile) = M' at *
   generalize L.map (E kPile) = M at *
   simp (decide := true) -implicitDefEqProofs [tbM_tail,startD,fVar,fVarS,isT,at_0,at_1,at_2,at_3,at_4,b_put_below,hv,h2]
  ·rw [h1]
   show _ = Ou.ok D.non
   generalize L.reverse.map (E kPile) = M' at *
   generalize L.map (E kPile) = M at *
   simp (decide := true) -implicitDefEqProofs [tbM_tail,startD,fVar,fVarS,isT,at_0,at_1,at_2,at_3,at_4,b_put_below,hv,h2]
theorem tt_stk : ∀ r : List (Nat × D),(ttR r).2 = (stk r.reverse).length
 | [] => rfl
 | p :: r => by
  have ih := tt_stk r
  have e : (ttR (p :: r)).2 = lpu p + ((ttR r).2 - ltk p) := rfl
  rw [e,List.reverse_cons,stk_snoc,ih]
  unfold stp lpu ltk
  by_cases h : wOf p.2 = (0,1)
  ·rw [h]; simp; omega
  ·by_cases h2 : wOf p.2 = (1,0)
   ·rw [h2]; simp
   ·simp [h,h2]
theorem stk_sub : ∀ r : List (Nat × D),(stk r.reverse).Sublist r
 | [] => List.Sublist.refl _
 | p :: r => by
  have ih := stk_sub r
  rw [List.reverse_cons,stk_snoc]
  unfold stp
  split
  ·exact ih.cons₂ p
  ·split
   ·exact ((List.tail_sublist _).trans ih).cons p
   ·exact ih.cons p
theorem stk_put {l : List (Nat × D)} : ∀ p ∈ stk l,p ∈ l ∧ wOf p.2 = (0,1) := by
 suffices h : ∀ r : List (Nat × D),∀ p ∈ stk r.reverse,wOf p.2 = (0,1) by
  intro p hp
  have e : l.reverse.reverse = l := List.reverse_reverse l
  refine ⟨?_,h l.reverse p (by rw [e]; exact hp)⟩
  have := (stk_sub l.reverse).subset
  rw [e] at this
  exact List.mem_reverse.mp (this hp)
 intro r
 induction r with
 | nil => intro p hp; cases hp
 | cons x r ih =>
  intro p hp
  rw [List.reverse_cons,stk_snoc] at hp
  unfold stp at hp
  split at hp
  ·rename_i hx
   rcases List.mem_cons.mp hp with rfl | hp
   ·exact hx
   ·exact ih p hp
  ·split at hp
   ·exact ih p (List.mem_of_mem_tail hp)
   ·exact ih p hp
theorem put_form2 {d : D} (h : OkR d) (hz : wOf d = (0,1)) : ∃ x,d = .tup [.str "put",.int x] := by
 obtain ⟨z,h⟩ := h
 cases h with
 | put x => exact ⟨x,rfl⟩
 | take => exact absurd hz (by decide)
 | many => exact absurd hz (by decide)
 | look x _ => exact absurd (show ((0,0) : Int × Int) = (0,1) from hz) (by decide)
def sd (l : List (Nat × D)) : List Pt2 := (stk l).map ptOf
theorem below {L : List T} (hL : OkL L) (n : Nat) : m_put_below 64 [.lst (L.map (E kPile)),.int (n : Int)] = .ok (opK (stk (L.flatMap T.ds))[n]?) := by
 have b := pb_eq 64 L n hL (fun t ht => by have := depth (hL t ht).1; omega) (by decide)
 rw [bel_stk,List.reverse_reverse] at b
 exact b
theorem at_num {l : List (Nat × D)} (hok : ∀ p ∈ l,OkR p.2) (n : Nat) : m_number_put [opK (stk l)[n]?] = .ok (numO (sd l)[n]?) := by
 have e : (sd l)[n]? = (stk l)[n]?.map ptOf := by unfold sd; rw [List.getElem?_map]
 rw [e]
 cases h : (stk l)[n]? with
 | none => simp (decide := true) -implicitDefEqProofs [tbM_tail,startD,fVar,fVarS,isT,at_0,at_1,at_2,at_3,at_4,m_number_put,b_number_put,opK,numO,Option.map,gIsN]
 | some p =>
  obtain ⟨h1,h2⟩ := stk_put p (List.mem_of_getElem? h)
  obtain ⟨x,hx⟩ := put_form2 (hok p h1) h2
  obtain ⟨a,d⟩ := p
  simp only at hx
  subst hx
  have eo : opK (some (a,.tup [.str "put",.int x])) = .tup [.int (a : Int),.int 1,kPile.en (lone0 a (.tup [.str "put",.int x])),.tup [.str "put",.int x]] := rfl
  rw [eo]
  generalize kPile.en (lone0 a (.tup [.str "put",.int x])) = z at *
  simp (decide := true) -implicitDefEqProofs [tbM_tail,startD,fVar,fVarS,isT,at_0,at_1,at_2,at_3,at_4,m_number_put,b_number_put,gIsN,numO,Option.map,ptOf]
theorem pile_tot {L : List T} (hL : OkL L) (h63 : (L.flatMap T.ds).length ≤ 63) : ∃ a,m_row_total [.obj "Pile",.lst (L.map (E kPile))] = .ok (.tup [.int a,.int ((stk (L.flatMap T.ds)).length : Int)]) := by
 have r : m_row_total [.obj "Pile",.lst (L.map (E kPile))] = .ok (.tup [.int (lk (zs (L.flatMap T.ds))),.int (lf (zs (L.flatMap T.ds)))]) := row_total_eq kPile (L := L) h63
 obtain ⟨_,e2⟩ := tt_int (L.flatMap T.ds).reverse fun p hp => ok_flat hL p (List.mem_reverse.mp hp)
 have t := tt_stk (L.flatMap T.ds).reverse
 rw [List.reverse_reverse] at e2 t
 rw [← e2,t] at r
 exact ⟨_,r⟩
theorem down_rng (m : Nat) : rngS ((m : Int) - 1) (-1) m = (List.range m).reverse.map fun (k : Nat) => D.int (k : Int) := by
 apply List.ext_getElem?
 intro i
 unfold rngS
 rw [List.getElem?_map,List.getElem?_map]
 by_cases h : i < m
 ·rw [List.getElem?_range h,List.getElem?_reverse (by rw [List.length_range]; exact h),List.length_range,List.getElem?_range (by omega)]
  simp only [Option.map_some]
  congr 2
  omega
 ·rw [List.getElem?_eq_none (by rw [List.length_range]; omega),List.getElem?_eq_none (by rw [List.length_reverse,List.length_range]; omega)]; rfl
theorem stand_loop {L : List T} (hL : OkL L) : ∀ (ks : List Nat) (s0 : Sl),compL (gNm 0) fYes (fCall (m_number_put) [(fCall (m_put_below 64) [(fVarS 1),(fVarS 0)])]) (ks.map fun (k : Nat) => D.int (k : Int)) [s0,.val (.lst (L.map (E kPile)))] = .ok (ks.map fun k => numO (sd (L.flatMap T.ds))[k]?)
 | [],s0 => rfl
 | k :: ks,s0 => by
  have ih := stand_loop hL ks (.val (.int (k : Int)))
  have b := below hL k
  have np := at_num (ok_flat hL) k
  rw [List.map_cons,List.map_cons]
  simp only [compL,e_nm,bind_ok,List.set]
  generalize opK (stk (L.flatMap T.ds))[k]? = w at *
  generalize numO (sd (L.flatMap T.ds))[k]? = x at *
  generalize (ks.map fun (k : Nat) => D.int (k : Int)) = R at *
  generalize (ks.map fun k => numO (sd (L.flatMap T.ds))[k]?) = Y at *
  generalize (k : Int) = j at *
  generalize L.map (E kPile) = M at *
  generalize m_put_below 64 = P at *
  simp (decide := true) -implicitDefEqProofs [tbM_tail,startD,fVar,fVarS,isT,at_0,at_1,at_2,at_3,at_4,fYes,b,np,ih]
theorem all_nums (r : List Pt2) : ((List.range r.length).map fun k => numO r[k]?) = r.map fun p => D.int p.1 := by
 apply List.ext_getElem?
 intro i
 rw [List.getElem?_map,List.getElem?_map]
 by_cases h : i < r.length
 ·rw [List.getElem?_range h,List.getElem?_eq_getElem h,Option.map_some,List.getElem?_eq_getElem h]; rfl
 ·rw [List.getElem?_eq_none (by rw [List.length_range]; omega),List.getElem?_eq_none (by omega)]; rfl
theorem stk_len (l : List (Nat × D)) : (stk l).length ≤ l.length := by
 have := (stk_sub l.reverse).length_le
 rw [List.reverse_reverse,List.length_reverse] at this
 exact this
theorem pile_stand {L : List T} (hL : OkL L) (h63 : (L.flatMap T.ds).length ≤ 63) : m_Pile__stand [.obj "Pile",.lst (L.map (E kPile))] = .ok (.lst ((sd (L.flatMap T.ds)).map fun p => D.int p.1).reverse) := by
 obtain ⟨a,r⟩ := pile_tot hL h63
 have hsl := stk_len (L.flatMap T.ds)
 have c := stand_loop hL (List.range (stk (L.flatMap T.ds)).length).reverse .un
 rw [← down_rng,List.map_reverse] at c
 have e := all_nums (sd (L.flatMap T.ds))
 have el : (sd (L.flatMap T.ds)).length = (stk (L.flatMap T.ds)).length := by unfold sd; rw [List.length_map]
 rw [el] at e
 rw [e] at c
 have h1 : rOkD (((stk (L.flatMap T.ds)).length : Int) - 1) = true := by simp [rOkD]; omega
 have h2 : rOkD (-1) = true := by decide
 have h3 : downN (((stk (L.flatMap T.ds)).length : Int) - 1) (-1) = (stk (L.flatMap T.ds)).length := by unfold downN; omega
 have h4 : (stk (L.flatMap T.ds)).length ≤ sizeLine := Nat.le_of_lt (small1000 (by omega))
 generalize ((sd (L.flatMap T.ds)).map fun p => D.int p.1).reverse = Y at *
 generalize (stk (L.flatMap T.ds)).length = m at *
 generalize L.map (E kPile) = M at *
 simp (decide := true) -implicitDefEqProofs [tbM_tail,startD,fVar,fVarS,isT,at_0,at_1,at_2,at_3,at_4,m_Pile__stand,b_Pile__stand,r,fComp,fRangeD,h1,h2,h3,rngS_len,h4,dsIn,slIn,c]
end Pl
end
section
open Tr
theorem row_nat (ns : List Int) (h : ns.length ≤ 63) : ∃ l : List (Nat × D),m__law_row [.frl (ns.map D.int)] = .ok (.lst (l.map prD)) ∧ l.length ≤ 62 ∧ l.Pairwise (fun x y => x.1 < y.1) ∧ ∀ p ∈ l,p.1 < all ∧ OkR p.2 := by
 obtain ⟨ps,zs,hrow,hpl,hz,hts⟩ := row_eq ns h
 have hb : ∀ p ∈ ps,0 ≤ p.1 ∧ p.1 < 1073741824 := fun p hp => hts.bnd p.1 (List.mem_map_of_mem (f := (·.1)) hp)
 refine ⟨ps.map fun p => (p.1.toNat,p.2),?_,by rw [List.length_map]; exact hpl,?_,?_⟩
 ·rw [hrow,List.map_map]
  congr 2
  refine List.map_congr_left fun p hp => ?_
  have h1 := hb p hp
  have h2 : ((p.1.toNat : Nat) : Int) = p.1 := by omega
  show pr p = D.tup [.int ((p.1.toNat : Nat) : Int),p.2]
  rw [h2]; rfl
 ·have h1 := hts.inc
  rw [List.pairwise_map] at h1 ⊢
  refine h1.imp_of_mem fun {p q} hp hq hlt => ?_
  have := hb p hp
  have := hb q hq
  omega
 ·intro q hq
  obtain ⟨p,hp,rfl⟩ := List.mem_map.mp hq
  have h1 := hb p hp
  have hall : all = 1073741824 := rfl
  refine ⟨by show p.1.toNat < all; omega,?_⟩
  obtain ⟨i,hi,e⟩ := List.getElem_of_mem hp
  obtain ⟨z,_,hk⟩ := hz.get (k := i) (d := p.2) (by rw [List.getElem?_map,List.getElem?_eq_getElem hi,e]; rfl)
  exact ⟨z,hk⟩
end
section
open Tr
def fv : Bool -> List (Nat × D) -> List Int
 | true,l => (Ln.sd l).map (·.1)
 | false,l => ((Pl.sd l).map (·.1)).reverse
inductive Wy : Bool -> Kd -> Prop
 | line : Wy true kLine
 | pile : Wy false kPile
def smOf : Bool -> List D -> Ou D
 | true => m_Line__stand
 | false => m_Pile__stand
theorem wy_tb {b : Bool} {K : Kd} (h : Wy b K) : tbM tbS (.obj K.C) = some (smOf b) := by
 cases h
 ·exact (tbM_tail rfl).trans tbM_head
 ·exact (tbM_tail rfl).trans ((tbM_tail rfl).trans tbM_head)
theorem wy_N {b : Bool} {K : Kd} (h : Wy b K) : K.N = 63 ∧ K.Okd = OkR := by cases h <;> exact ⟨rfl,rfl⟩
theorem ints2 (r : List Pt2) : (r.map fun p => D.int p.1) = (r.map (·.1)).map D.int := by rw [List.map_map]; rfl
theorem wy_stand {b : Bool} {K : Kd} (h : Wy b K) {L : List T} (hL : OkL L) (h63 : (L.flatMap T.ds).length ≤ 63) : smOf b [.obj K.C,.lst (L.map (E K))] = .ok (.lst ((fv b (L.flatMap T.ds)).map D.int)) := by
 cases h with
 | line =>
  have := Ln.line_stand hL h63
  rw [ints2] at this
  exact this
 | pile =>
  have := Pl.pile_stand hL h63
  rw [ints2,← List.map_reverse] at this
  exact this
theorem pu_none {l : List (Nat × D)} {p : Nat × D} (h : zOf p.2 ≠ 1) : Ln.pu (l ++ [p]) = Ln.pu l := by
 rw [Ln.pu_app]
 have : Ln.pu [p] = [] := List.filter_eq_nil_iff.mpr fun q hq => by simp at hq; subst hq; simp [h]
 rw [this,List.append_nil]
theorem fv_put (b : Bool) {l : List (Nat × D)} {a : Nat} {x : Int} : fv b (l ++ [(a,.tup [.str "put",.int x])]) = fv b l ++ [x] := by
 cases b with
 | true =>
  have e := Ln.gn_put (l := l) (p := (a,.tup [.str "put",.int x])) (show (1 : Int) ≠ -1 by decide)
  have e2 : Ln.pu [(a,D.tup [.str "put",.int x])] = [(a,D.tup [.str "put",.int x])] := rfl
  show (((Ln.pu (l ++ _)).drop (Ln.gn (l ++ _))).map ptOf).map (·.1) = _
  rw [e,Ln.pu_app,List.drop_append_of_le_length (Ln.gn_le l),List.map_append,List.map_append,e2]
  rfl
 | false =>
  show (((Pl.stk (l ++ _)).map ptOf).map (·.1)).reverse = _
  rw [Pl.stk_snoc]
  show (((_ :: Pl.stk l).map ptOf).map (·.1)).reverse = _
  rw [List.map_cons,List.map_cons,List.reverse_cons]
  rfl
theorem fv_take (b : Bool) {l : List (Nat × D)} {a : Nat} : fv b (l ++ [(a,.tup [.str "take"])]) = if b = true then (fv b l).drop 1 else (fv b l).dropLast := by
 cases b with
 | true =>
  rw [if_pos rfl]
  show (((Ln.pu (l ++ _)).drop (Ln.gn (l ++ _))).map ptOf).map (·.1) = ((((Ln.pu l).drop (Ln.gn l)).map ptOf).map (·.1)).drop 1
  rw [pu_none (p := (a,.tup [.str "take"])) (show (-1 : Int) ≠ 1 by decide),Ln.gn_take (p := (a,.tup [.str "take"])) rfl,← List.map_drop,← List.map_drop,List.drop_drop]
  split
  ·rfl
  ·rename_i hc
   have h1 : (Ln.pu l).length ≤ Ln.gn l := by omega
   rw [List.drop_eq_nil_of_le h1,List.drop_eq_nil_of_le (by omega)]
 | false =>
  rw [if_neg (by decide)]
  show (((Pl.stk (l ++ _)).map ptOf).map (·.1)).reverse = ((((Pl.stk l).map ptOf).map (·.1)).reverse).dropLast
  rw [Pl.stk_snoc,List.dropLast_reverse,← List.map_tail,← List.map_tail]
  rfl
theorem fv_oth (b : Bool) {l : List (Nat × D)} {p : Nat × D} (h : zOf p.2 = 0) (h2 : Pl.wOf p.2 = (0,0)) : fv b (l ++ [p]) = fv b l := by
 cases b with
 | true =>
  show (((Ln.pu (l ++ _)).drop (Ln.gn (l ++ _))).map ptOf).map (·.1) = _
  rw [pu_none (by rw [h]; decide),Ln.gn_put (by rw [h]; decide)]
  rfl
 | false =>
  show (((Pl.stk (l ++ _)).map ptOf).map (·.1)).reverse = _
  rw [Pl.stk_snoc]
  have : Pl.stp (Pl.stk l) p = Pl.stk l := by unfold Pl.stp; rw [h2]; rfl
  rw [this]
  rfl
theorem fv_len (b : Bool) (l : List (Nat × D)) : (fv b l).length ≤ l.length := by
 cases b with
 | true =>
  show ((((Ln.pu l).drop (Ln.gn l)).map ptOf).map (·.1)).length ≤ _
  rw [List.length_map,List.length_map,List.length_drop]
  have : (Ln.pu l).length ≤ l.length := List.length_filter_le ..
  omega
 | false =>
  show ((((Pl.stk l).map ptOf).map (·.1)).reverse).length ≤ _
  rw [List.length_reverse,List.length_map,List.length_map]
  exact Pl.stk_len l
theorem cut_1 (ds : List D) : cutD ds (some 1) none = ds.drop 1 := by
 cases ds with
 | nil => rfl
 | cons d r => exact cut_drop (d :: r) 1 (by simp)
theorem cut_m1 (ds : List D) : cutD ds none (some (-1)) = ds.dropLast := by
 unfold cutD
 rw [HT.sIx_none,List.drop_zero,Nat.sub_zero,List.dropLast_eq_take]
 congr 1
 show (if (-1 : Int) < 0 then ((-1 : Int) + (ds.length : Int)).toNat else min (-1 : Int).toNat ds.length) = ds.length - 1
 rw [if_pos (by decide)]
 omega
abbrev ahl (l : List (Nat × D)) (e : Nat) : List (Nat × D) := l.filter fun p => decide (p.1 < e)
theorem ahl_app (l : List (Nat × D)) (p : Nat × D) (e : Nat) : ahl (l ++ [p]) e = if p.1 < e then ahl l e ++ [p] else ahl l e := by
 unfold ahl
 rw [List.filter_append]
 by_cases h : p.1 < e
 ·rw [if_pos h,List.filter_cons_of_pos (by simpa using h)]; rfl
 ·rw [if_neg h,List.filter_cons_of_neg (by simpa using h)]; simp
abbrev bSt : Sm := (sSeq (sIf (fAndT (fAsB (f2 gLt (fVar 4) (fVar 1))) (fAsB (f2 gEq (f2 gIx (fVar 5) (fC (.int 0))) (fC (.str "put"))))) (sSeq (sApp 3 (f2 gIx (fVarS 5) (fC (.int 1)))) sNext) sNext) (sSeq (sIf (fAndT (fAsB (f2 gLt (fVar 4) (fVar 1))) (fAndT (fAsB (f2 gEq (f2 gIx (fVar 5) (fC (.int 0))) (fC (.str "take")))) (fTru (fVar 2)))) (sSeq (sOwn 3 (fSlO 3 (some (fC (.int 1))) none)) sNext) (sSeq (sIf (fAndT (fAsB (f2 gLt (fVar 4) (fVar 1))) (fAsB (f2 gEq (f2 gIx (fVar 5) (fC (.int 0))) (fC (.str "take"))))) (sSeq (sOwn 3 (fSlO 3 none (some (f1 gNeg (fC (.int 1)))))) sNext) sNext) sNext)) sNext))
theorem stood_step (b : Bool) (M : D) (e : Nat) {l : List (Nat × D)} (hl : l.length ≤ 62) (a : Nat) {d : D} (hd : OkR d) : bSt [.val M,.val (.int (e : Int)),.val (.bl b),.own (.lst ((fv b (ahl l e)).map D.int)),.val (.int (a : Int)),.val d] = .ok (.nx [.val M,.val (.int (e : Int)),.val (.bl b),.own (.lst ((fv b (ahl (l ++ [(a,d)]) e)).map D.int)),.val (.int (a : Int)),.val d]) := by
 rw [ahl_app]
 have hlen : (fv b (ahl l e)).length ≤ 62 := Nat.le_trans (fv_len b _) (Nat.le_trans (List.length_filter_le ..) hl)
 have hs : ((fv b (ahl l e)).map D.int).length < sizeLine := by rw [List.length_map]; exact small1000 (by omega)
 obtain ⟨z,hd⟩ := hd
 by_cases h : a < e
 ·have h' : (a : Int) < (e : Int) := by omega
  rw [if_pos h]
  generalize ahl l e = x at *
  cases hd with
  | put y =>
   rw [fv_put,List.map_append]
   generalize (fv b x).map D.int = N at *
   simp (decide := true) -implicitDefEqProofs [tbM_tail,startD,fVar,fVarS,isT,at_0,at_1,at_2,at_3,at_4,h',sApp,hs]
  | take =>
   rw [fv_take]
   cases b with
   | true =>
    have c := cut_1 ((fv true x).map D.int)
    rw [if_pos rfl,List.map_drop]
    generalize (fv true x).map D.int = N at *
    simp (decide := true) -implicitDefEqProofs [tbM_tail,startD,fVar,fVarS,isT,at_0,at_1,at_2,at_3,at_4,h',fSlO,fPart,c]
   | false =>
    have c := cut_m1 ((fv false x).map D.int)
    rw [if_neg (by decide),List.map_dropLast]
    generalize (fv false x).map D.int = N at *
    simp (decide := true) -implicitDefEqProofs [tbM_tail,startD,fVar,fVarS,isT,at_0,at_1,at_2,at_3,at_4,h',fSlO,fPart,c]
  | many =>
   rw [fv_oth b (p := (a,.tup [.str "many"])) rfl rfl]
   generalize (fv b x).map D.int = N at *
   simp (decide := true) -implicitDefEqProofs [tbM_tail,startD,fVar,fVarS,isT,at_0,at_1,at_2,at_3,at_4,h']
  | look y hy =>
   rw [fv_oth b (p := (a,.tup [.str "look",.int y])) rfl rfl]
   generalize (fv b x).map D.int = N at *
   simp (decide := true) -implicitDefEqProofs [tbM_tail,startD,fVar,fVarS,isT,at_0,at_1,at_2,at_3,at_4,h']
 ·have h' : ¬ (a : Int) < (e : Int) := by omega
  rw [if_neg h]
  generalize (fv b (ahl l e)).map D.int = N at *
  simp (decide := true) -implicitDefEqProofs [tbM_tail,startD,fVar,fVarS,isT,at_0,at_1,at_2,at_3,at_4,h']
theorem stood_loop (b : Bool) (M : D) (e : Nat) : ∀ (l dn : List (Nat × D)) (s4 s5 : Sl),(∀ p ∈ l,OkR p.2) -> dn.length + l.length ≤ 62 -> ∃ s4' s5',forL (gNm2 4 5) bSt (l.map prD) [.val M,.val (.int (e : Int)),.val (.bl b),.own (.lst ((fv b (ahl dn e)).map D.int)),s4,s5] = .ok (.nx [.val M,.val (.int (e : Int)),.val (.bl b),.own (.lst ((fv b (ahl (dn ++ l) e)).map D.int)),s4',s5'])
 | [],dn,s4,s5,_,_ => ⟨s4,s5,by rw [List.append_nil]; rfl⟩
 | p :: l,dn,s4,s5,hok,hl => by
  rw [List.length_cons] at hl
  obtain ⟨s4',s5',q⟩ := stood_loop b M e l (dn ++ [p]) (.val (.int (p.1 : Int))) (.val p.2) (fun q hq => hok q (List.mem_cons_of_mem _ hq)) (by rw [List.length_append,List.length_singleton]; omega)
  have st := stood_step b M e (l := dn) (by omega) p.1 (hok p List.mem_cons_self)
  have e1 : dn ++ p :: l = dn ++ [p] ++ l := by simp
  rw [e1]
  exact ⟨s4',s5',(forL_nx (δ1 := [.val M,.val (.int (e : Int)),.val (.bl b),.own (.lst ((fv b (ahl dn e)).map D.int)),.val (.int (p.1 : Int)),.val p.2]) rfl st).trans q⟩
theorem stood_eq (b : Bool) (e : Nat) {l : List (Nat × D)} (hok : ∀ p ∈ l,OkR p.2) (hl : l.length ≤ 62) : m__law_stood [.lst (l.map prD),.int (e : Int),.bl b] = .ok (.lst ((fv b (ahl l e)).map D.int)) := by
 obtain ⟨s4',s5',q⟩ := stood_loop b (.lst (l.map prD)) e l [] .un .un hok (by simpa using hl)
 have e0 : (fv b (ahl [] e)).map D.int = [] := by cases b <;> rfl
 rw [e0,List.nil_append] at q
 generalize (fv b (ahl l e)).map D.int = N at *
 generalize l.map prD = M at *
 simp (decide := true) -implicitDefEqProofs [tbM_tail,startD,fVar,fVarS,isT,at_0,at_1,at_2,at_3,at_4,m__law_stood,b__law_stood,sFor,q,sRetO]
theorem alike_loop (ns : List Int) : ∀ (n i : Nat) (s2 : Sl),i + n = ns.length -> ∃ s2',forL (gNm 2) (sSeq (sIf (fOrT (fNotT (fTru (fCall (m__law_whole) [(f2 gIx (fVar 0) (fVar 2))]))) (fAsB (f2 gNe (f2 gIx (fVar 0) (fVar 2)) (f2 gIx (fVar 1) (fVar 2))))) (sSeq (sRet (fC (.bl false))) sNext) sNext) sNext) (rng (i : Int) n) [.val (.lst (ns.map D.int)),.val (.lst (ns.map D.int)),s2] = .ok (.nx [.val (.lst (ns.map D.int)),.val (.lst (ns.map D.int)),s2'])
 | 0,i,s2,_ => ⟨s2,rfl⟩
 | n + 1,i,s2,h => by
  obtain ⟨s2',q⟩ := alike_loop ns n (i + 1) (.val (.int (i : Int))) (by omega)
  have e1 := at_map (ns := ns) (k := i) (by omega)
  have w := whole_eq (ns[i]'(by omega))
  have ne : gNe (.int (ns[i]'(by omega))) (.int (ns[i]'(by omega))) = .ok (.bl false) := (Self.int _).ne (by decide)
  have e2 : ((i + 1 : Nat) : Int) = (i : Int) + 1 := by omega
  rw [e2] at q
  refine ⟨s2',?_⟩
  rw [rng_cons]
  refine (forL_nx (δ1 := [.val (.lst (ns.map D.int)),.val (.lst (ns.map D.int)),.val (.int (i : Int))]) rfl ?_).trans q
  generalize ns[i]'(by omega) = x at *
  generalize ns.map D.int = N at *
  generalize (i : Int) = k at *
  simp (decide := true) -implicitDefEqProofs [tbM_tail,startD,fVar,fVarS,isT,at_0,at_1,at_2,at_3,at_4,e1,w,ne]
theorem alike_eq {ns : List Int} (h : ns.length ≤ 100) : m__law_alike [.lst (ns.map D.int),.lst (ns.map D.int)] = .ok (.bl true) := by
 obtain ⟨s2',q⟩ := alike_loop ns ns.length 0 .un (by omega)
 have e0 : ((0 : Nat) : Int) = 0 := rfl
 rw [e0] at q
 have ne : gNe (.int (ns.length : Int)) (.int (ns.length : Int)) = .ok (.bl false) := (Self.int _).ne (by decide)
 have hl : (ns.map D.int).length = ns.length := List.length_map _
 have hj : rOk (ns.length : Int) = true := by simp [rOk]; omega
 have tn : ((ns.length : Int)).toNat = ns.length := by omega
 have is : gIs "list" (.lst (ns.map D.int)) = .ok (.bl true) := rfl
 generalize ns.map D.int = N at *
 simp (decide := true) -implicitDefEqProofs [tbM_tail,startD,fVar,fVarS,isT,at_0,at_1,at_2,at_3,at_4,m__law_alike,b__law_alike,is,hl,ne,sRng,hj,tn,q]
theorem own_ne {K : Kd} {L : List T} (hL : ∀ t ∈ L,Good t ∧ ∀ p ∈ t.ds,K.Okd p.2) : gNe (.lst (L.map (E K))) (.lst (L.map (E K))) = .ok (.bl false) := (Self.lst (n := 45) fun z hz => by
 obtain ⟨t,ht,rfl⟩ := List.mem_map.mp hz
 have hs := self_enc K.en lone0 join0 (m := 6) K.slf t (hL t ht).1 fun p hp => K.sld ((hL t ht).2 p hp)
 have := depth (hL t ht).1
 exact hs.mono (by omega)).ne (by decide)
structure At (b : Bool) (K : Kd) (o : Option T) (l : List (Nat × D)) (e : Nat) : Prop where
 ah : m_ahead [EO K o,.int (e : Int)] = .ok (.lst ((ahd o e).map (E K)))
 st : smOf b [.obj K.C,.lst ((ahd o e).map (E K))] = .ok (.lst ((fv b (ahl l e)).map D.int))
 sd : m__law_stood [.lst (l.map prD),.int (e : Int),.bl b] = .ok (.lst ((fv b (ahl l e)).map D.int))
 ne : gNe (.lst ((ahd o e).map (E K))) (.lst ((ahd o e).map (E K))) = .ok (.bl false)
 al : m__law_alike [.lst ((fv b (ahl l e)).map D.int),.lst ((fv b (ahl l e)).map D.int)] = .ok (.bl true)
 ln : (fv b (ahl l e)).length ≤ 62
theorem at_of {b : Bool} {K : Kd} (hW : Wy b K) {o : Option T} {l : List (Nat × D)} (hG : GoodO o) (hds : dsO o = l) (hok : ∀ p ∈ l,OkR p.2) (hl : l.length ≤ 62) {e : Nat} (he : e ≤ all) : At b K o l e := by
 obtain ⟨h1,h2⟩ := ahd_ds hG he
 rw [hds] at h1
 have hlen : (ahl l e).length ≤ 62 := Nat.le_trans (List.length_filter_le ..) hl
 have hf := Nat.le_trans (fv_len b (ahl l e)) hlen
 have hL : OkL (ahd o e) := fun t ht => ⟨h2 t ht,fun p hp => hok p (List.mem_filter.mp (show p ∈ ahl l e from by unfold ahl; rw [← h1]; exact List.mem_flatMap.mpr ⟨t,ht,hp⟩)).1⟩
 have st := wy_stand hW hL (by rw [h1]; exact Nat.le_trans hlen (by decide))
 rw [h1] at st
 refine ⟨ahead_eq K hG e,st,stood_eq b e hok hl,own_ne fun t ht => ⟨(hL t ht).1,fun p hp => ?_⟩,alike_eq (by omega),hf⟩
 rw [(wy_N hW).2]
 exact (hL t ht).2 p hp
theorem nest_comp {b : Bool} {K : Kd} (hW : Wy b K) {o : Option T} {l : List (Nat × D)} : ∀ (es : List Nat) (s0 : Sl),(∀ e ∈ es,At b K o l e) -> compL (gNm 0) fYes (fInts (fMeth [("Kind",m_Kind__stand),("Line",m_Line__stand),("Pile",m_Pile__stand)] (fVarS 1) [(fCall (m_ahead) [(fVarS 2),(fVarS 0)])])) ((es.map fun (e : Nat) => (e : Int)).map D.int) [s0,.val (.obj K.C),.val (EO K o)] = .ok (es.map fun e => D.lst ((fv b (ahl l e)).map D.int))
 | [],_,_ => rfl
 | e :: es,s0,h => by
  have a := h e List.mem_cons_self
  have ih := nest_comp hW es (.val (.int (e : Int))) fun e he => h e (List.mem_cons_of_mem _ he)
  have tb : tbM [("Kind",m_Kind__stand),("Line",m_Line__stand),("Pile",m_Pile__stand)] (.obj K.C) = some (smOf b) := wy_tb hW
  have ah := a.ah
  have st := a.st
  have io := ints_nums (fv b (ahl l e))
  rw [List.map_cons,List.map_cons,List.map_cons]
  generalize (es.map fun (e : Nat) => (e : Int)).map D.int = R at *
  generalize (es.map fun e => D.lst ((fv b (ahl l e)).map D.int)) = Y at *
  generalize (fv b (ahl l e)).map D.int = N at *
  generalize (ahd o e).map (E K) = M at *
  generalize EO K o = w at *
  generalize K.C = cc at *
  generalize smOf b = S at *
  generalize (e : Int) = k at *
  simp (decide := true) -implicitDefEqProofs [tbM_tail,startD,fVar,fVarS,isT,at_0,at_1,at_2,at_3,at_4,compL,fYes,fInts,tb,ah,st,io,ih]
theorem lol_eq (f : Nat -> List Int) : ∀ es : List Nat,asLol (es.map fun e => D.lst ((f e).map D.int)) = some (es.map f)
 | [] => rfl
 | e :: es => by
  have ih := lol_eq f es
  rw [List.map_cons,List.map_cons]
  unfold asLol
  have : asInts (D.lst ((f e).map D.int)) = some (f e) := ints_nums _
  rw [this,Option.bind_some,ih]; rfl
theorem forN_nx {j : Nat} {F : Nm} {x : D} {xs : List D} {nss nss' : List (List Int)} {δ δ' : DS} (h : F nss (δ.set j (.val x)) = .ok (.nx nss' δ')) : forN j F (x :: xs) nss δ = forN j F xs nss' δ' := by
 show (F nss (δ.set j (.val x))).bind _ = _
 rw [h]; rfl
theorem nseq_nx {F G : Nm} {nss nss' : List (List Int)} {δ δ' : DS} (h : F nss δ = .ok (.nx nss' δ')) : nSeq F G nss δ = G nss' δ' := by
 show (F nss δ).bind _ = _
 rw [h]; rfl
theorem nset_is {j : Nat} {f : Fn} {nss : List (List Int)} {δ : DS} {d : D} (h : f δ = .ok d) : nSet j f nss δ = .ok (.nx nss (δ.set j (.val d))) := by
 show (f δ).bind _ = _
 rw [h]; rfl
theorem nif_no {i : Nat} {g : DS -> Ou Bool} {F : Nm} {nss : List (List Int)} {δ : DS} (h : g (δ.set i (.val (lolD nss))) = .ok false) : nIf i g F nNext nss δ = .ok (.nx nss δ) := by
 show (g _).bind _ = _
 rw [h]; rfl
abbrev bTw : Nm := (nSeq (nSet 7 (fCall (m__law_stood) [(fVarS 2),(f2 gIx (fVarS 3) (fVar 6)),(fVarS 4)])) (nSeq (nIf 5 (fNotT (fTru (fCall (m__law_alike) [(f2 gIx (fVar 5) (fVar 6)),(fVar 7)]))) (nSeq (nRet (fC (.bl false))) nNext) nNext) (nSeq (nApp (fVar 6) (fC (.int 7))) (nSeq (nPut (fVar 6) (fC (.int 0)) (fC (.int 5))) (nSeq (nSet 8 (fCall (m_ahead) [(fVarS 1),(f2 gIx (fVarS 3) (fVar 6))])) (nSeq (nSet 9 (f1 gListOf (fVarS 8))) (nSeq (nIf 5 (fOrT (fNotT (fTru (fCall (m__law_alike) [(fMeth [("Kind",m_Kind__stand),("Line",m_Line__stand),("Pile",m_Pile__stand)] (fVarS 0) [(fVarS 8)]),(fVar 7)]))) (fAsB (f2 gNe (fVar 8) (fVar 9)))) (nSeq (nRet (fC (.bl false))) nNext) nNext) nNext)))))))
theorem ixN_nat {n i : Nat} (h : i < n) : ixN n (i : Int) = some i := by
 unfold ixN
 rw [if_pos (by omega),if_pos (by omega)]
 simp
theorem tw_step {b : Bool} {K : Kd} (hW : Wy b K) {o : Option T} {l : List (Nat × D)} {es : List Nat} (h : ∀ e ∈ es,At b K o l e) {i : Nat} (hi : i < es.length) {nss : List (List Int)} (hn : nss.length = es.length) (hni : nss[i]? = some (fv b (ahl l es[i]))) (s7 s8 s9 : Sl) :
  ∃ s7' s8' s9',bTw nss [.val (.obj K.C),.val (EO K o),.val (.lst (l.map prD)),.val (.lst ((es.map fun (e : Nat) => (e : Int)).map D.int)),.val (.bl b),.un,.val (.int (i : Int)),s7,s8,s9] = .ok (.nx (nss.set i ((fv b (ahl l es[i]) ++ [7]).set 0 5)) [.val (.obj K.C),.val (EO K o),.val (.lst (l.map prD)),.val (.lst ((es.map fun (e : Nat) => (e : Int)).map D.int)),.val (.bl b),.un,.val (.int (i : Int)),s7',s8',s9']) := by
 have a := h es[i] (List.getElem_mem hi)
 have tb : tbM [("Kind",m_Kind__stand),("Line",m_Line__stand),("Pile",m_Pile__stand)] (.obj K.C) = some (smOf b) := wy_tb hW
 obtain ⟨ah,st,sd,ne,al,ln⟩ := a
 have ie : atI ((es.map fun (e : Nat) => (e : Int)).map D.int) (i : Int) = some (.int (es[i] : Int)) := by
  have := at_map (ns := es.map fun (e : Nat) => (e : Int)) (k := i) (by rw [List.length_map]; exact hi)
  rw [this]; simp
 have il : atI (nss.map fun ns => D.lst (ns.map D.int)) (i : Int) = some (.lst ((fv b (ahl l es[i])).map D.int)) := by
  have hil : i < nss.length := by omega
  unfold atI
  rw [List.length_map,ixN_nat hil]
  show (nss.map _)[i]? = _
  rw [List.getElem?_map,hni]; rfl
 have ix0 := ixN_nat (n := nss.length) (i := i) (by omega)
 have hs : (fv b (ahl l es[i])).length < sizeLine := small1000 (by omega)
 have ix2 : ixN (nss.set i (fv b (ahl l es[i]) ++ [7])).length (i : Int) = some i := ixN_nat (by rw [List.length_set]; omega)
 have g2 : (nss.set i (fv b (ahl l es[i]) ++ [7]))[i]? = some (fv b (ahl l es[i]) ++ [7]) := List.getElem?_set_self (by omega)
 have ix3 : ixN (fv b (ahl l es[i]) ++ [7]).length 0 = some 0 := by
  have := ixN_nat (n := (fv b (ahl l es[i]) ++ [7]).length) (i := 0) (by simp)
  exact this
 have ss : (nss.set i (fv b (ahl l es[i]) ++ [7])).set i ((fv b (ahl l es[i]) ++ [7]).set 0 5) = nss.set i ((fv b (ahl l es[i]) ++ [7]).set 0 5) := by rw [List.set_set]
 refine ⟨.val (.lst ((fv b (ahl l es[i])).map D.int)),.val (.lst ((ahd o es[i]).map (E K))),.val (.lst ((ahd o es[i]).map (E K))),?_⟩
 unfold bTw
 refine (nseq_nx (nset_is (d := .lst ((fv b (ahl l es[i])).map D.int)) ?_)).trans ((nseq_nx (nif_no ?_)).trans ((nseq_nx (nss' := nss.set i (fv b (ahl l es[i]) ++ [7])) (δ' := [.val (.obj K.C),.val (EO K o),.val (.lst (l.map prD)),.val (.lst ((es.map fun (e : Nat) => (e : Int)).map D.int)),.val (.bl b),.un,.val (.int (i : Int)),.val (.lst ((fv b (ahl l es[i])).map D.int)),s8,s9]) ?_).trans ((nseq_nx (nss' := nss.set i ((fv b (ahl l es[i]) ++ [7]).set 0 5)) (δ' := [.val (.obj K.C),.val (EO K o),.val (.lst (l.map prD)),.val (.lst ((es.map fun (e : Nat) => (e : Int)).map D.int)),.val (.bl b),.un,.val (.int (i : Int)),.val (.lst ((fv b (ahl l es[i])).map D.int)),s8,s9]) ?_).trans ((nseq_nx (nset_is (d := .lst ((ahd o es[i]).map (E K))) ?_)).trans ((nseq_nx (nset_is (d := .lst ((ahd o es[i]).map (E K))) ?_)).trans ((nseq_nx (nif_no ?_)).trans rfl))))))
 ·generalize (es.map fun (e : Nat) => (e : Int)).map D.int = R at *
  generalize (fv b (ahl l es[i])).map D.int = N at *
  generalize l.map prD = M at *
  generalize EO K o = w at *
  generalize (i : Int) = k at *
  simp (decide := true) -implicitDefEqProofs [tbM_tail,startD,fVar,fVarS,isT,at_0,at_1,at_2,at_3,at_4,ie,sd]
 ·generalize (es.map fun (e : Nat) => (e : Int)).map D.int = R at *
  unfold lolD
  generalize (nss.map fun ns => D.lst (ns.map D.int)) = Q at *
  generalize (fv b (ahl l es[i])).map D.int = N at *
  generalize l.map prD = M at *
  generalize EO K o = w at *
  generalize (i : Int) = k at *
  simp (decide := true) -implicitDefEqProofs [tbM_tail,startD,fVar,fVarS,isT,at_0,at_1,at_2,at_3,at_4,il,al]
 ·generalize (es.map fun (e : Nat) => (e : Int)).map D.int = R at *
  generalize l.map prD = M at *
  generalize EO K o = w at *
  generalize fv b (ahl l es[i]) = v at *
  simp (decide := true) -implicitDefEqProofs [tbM_tail,startD,fVar,fVarS,isT,at_0,at_1,at_2,at_3,at_4,nApp,ix0,hni,hs]
 ·generalize (es.map fun (e : Nat) => (e : Int)).map D.int = R at *
  generalize l.map prD = M at *
  generalize EO K o = w at *
  generalize fv b (ahl l es[i]) = v at *
  show (nPut (fVar 6) (fC (.int 0)) (fC (.int 5))) (nss.set i (v ++ [7])) _ = _
  generalize v ++ [7] = u at *
  generalize nss.set i u = Z at *
  simp (decide := true) -implicitDefEqProofs [tbM_tail,startD,fVar,fVarS,isT,at_0,at_1,at_2,at_3,at_4,nPut,ix2,g2,ix3,ss]
 ·generalize (es.map fun (e : Nat) => (e : Int)).map D.int = R at *
  generalize (fv b (ahl l es[i])).map D.int = N at *
  generalize (ahd o es[i]).map (E K) = Y at *
  generalize l.map prD = M at *
  generalize EO K o = w at *
  generalize (i : Int) = k at *
  simp (decide := true) -implicitDefEqProofs [tbM_tail,startD,fVar,fVarS,isT,at_0,at_1,at_2,at_3,at_4,ie,ah]
 ·generalize (es.map fun (e : Nat) => (e : Int)).map D.int = R at *
  generalize (fv b (ahl l es[i])).map D.int = N at *
  generalize (ahd o es[i]).map (E K) = Y at *
  generalize l.map prD = M at *
  generalize EO K o = w at *
  simp (decide := true) -implicitDefEqProofs [tbM_tail,startD,fVar,fVarS,isT,at_0,at_1,at_2,at_3,at_4]
 ·generalize (es.map fun (e : Nat) => (e : Int)).map D.int = R at *
  unfold lolD
  generalize ((nss.set i ((fv b (ahl l es[i]) ++ [7]).set 0 5)).map fun ns => D.lst (ns.map D.int)) = Q at *
  generalize (fv b (ahl l es[i])).map D.int = N at *
  generalize (ahd o es[i]).map (E K) = Y at *
  generalize l.map prD = M at *
  generalize EO K o = w at *
  generalize K.C = cc at *
  generalize smOf b = S at *
  simp (decide := true) -implicitDefEqProofs [tbM_tail,startD,fVar,fVarS,isT,at_0,at_1,at_2,at_3,at_4,tb,st,al,ne]
theorem tw_loop {b : Bool} {K : Kd} (hW : Wy b K) {o : Option T} {l : List (Nat × D)} {es : List Nat} (h : ∀ e ∈ es,At b K o l e) : ∀ (n i : Nat) (nss : List (List Int)) (s6 s7 s8 s9 : Sl),i + n = es.length -> nss.length = es.length -> (∀ j,i ≤ j -> (hj : j < es.length) -> nss[j]? = some (fv b (ahl l es[j]))) ->
  ∃ nss' s6' s7' s8' s9',forN 6 bTw (rng (i : Int) n) nss [.val (.obj K.C),.val (EO K o),.val (.lst (l.map prD)),.val (.lst ((es.map fun (e : Nat) => (e : Int)).map D.int)),.val (.bl b),.un,s6,s7,s8,s9] = .ok (.nx nss' [.val (.obj K.C),.val (EO K o),.val (.lst (l.map prD)),.val (.lst ((es.map fun (e : Nat) => (e : Int)).map D.int)),.val (.bl b),.un,s6',s7',s8',s9'])
 | 0,i,nss,s6,s7,s8,s9,_,_,_ => ⟨nss,s6,s7,s8,s9,rfl⟩
 | n + 1,i,nss,s6,s7,s8,s9,hi,hn,hj => by
  have hi' : i < es.length := by omega
  obtain ⟨s7',s8',s9',q⟩ := tw_step hW h hi' hn (hj i (Nat.le_refl _) hi') s7 s8 s9
  obtain ⟨nss',t6,t7,t8,t9,q2⟩ := tw_loop hW h n (i + 1) (nss.set i ((fv b (ahl l es[i]) ++ [7]).set 0 5)) (.val (.int (i : Int))) s7' s8' s9' (by omega) (by rw [List.length_set]; exact hn) (fun j h1 h2 => by
   rw [List.getElem?_set_ne (by omega)]; exact hj j (by omega) h2)
  have e2 : ((i + 1 : Nat) : Int) = (i : Int) + 1 := by omega
  rw [e2] at q2
  refine ⟨nss',t6,t7,t8,t9,?_⟩
  rw [rng_cons]
  exact (forN_nx q).trans q2
theorem told_eq {b : Bool} {K : Kd} (hW : Wy b K) {o : Option T} {l : List (Nat × D)} {es : List Nat} (h : ∀ e ∈ es,At b K o l e) (hel : es.length ≤ 100) : m__law_told_well [.obj K.C,EO K o,.lst (l.map prD),.lst ((es.map fun (e : Nat) => (e : Int)).map D.int),.bl b] = .ok (.bl true) := by
 have c := nest_comp hW es .un h
 have lo := lol_eq (fun e => fv b (ahl l e)) es
 obtain ⟨nss',t6,t7,t8,t9,q⟩ := tw_loop hW h es.length 0 (es.map fun e => fv b (ahl l e)) .un .un .un .un (by omega) (by rw [List.length_map]) (fun j _ hj => by rw [List.getElem?_map,List.getElem?_eq_getElem hj]; rfl)
 have e0 : ((0 : Nat) : Int) = 0 := rfl
 rw [e0] at q
 have tb : tbM [("Kind",m_Kind__stand),("Line",m_Line__stand),("Pile",m_Pile__stand)] (.obj K.C) = some (smOf b) := wy_tb hW
 have s0 : smOf b [.obj K.C,.lst []] = .ok (.lst []) := by
  have := wy_stand hW (L := []) (fun t ht => by cases ht) (by simp)
  have e : fv b (([] : List T).flatMap T.ds) = [] := by cases b <;> rfl
  rw [e] at this
  exact this
 have a0 : m__law_alike [.lst [],.lst []] = .ok (.bl true) := alike_eq (ns := []) (by decide)
 have hle : ((es.map fun (e : Nat) => (e : Int)).map D.int).length = es.length := by rw [List.length_map,List.length_map]
 have hsz : es.length ≤ sizeLine := Nat.le_of_lt (small1000 (by omega))
 have hj : rOk (es.length : Int) = true := by simp [rOk]; omega
 have tn : ((es.length : Int)).toNat = es.length := by omega
 have nest : sNest 5 (fItems (fVarS 3)) (gNm 0) fYes (fMeth [("Kind",m_Kind__stand),("Line",m_Line__stand),("Pile",m_Pile__stand)] (fVarS 1) [(fCall (m_ahead) [(fVarS 2),(fVarS 0)])]) 1 [0,1] (nSeq (nRng 6 (fCall gLen [(fVar 3)]) bTw) (nSeq (nRet (fC (.bl true))) nNext)) [.val (.obj K.C),.val (EO K o),.val (.lst (l.map prD)),.val (.lst ((es.map fun (e : Nat) => (e : Int)).map D.int)),.val (.bl b),.un,.un,.un,.un,.un] = .ok (.rt (.bl true)) := by
  have g : nSeq (nRng 6 (fCall gLen [(fVar 3)]) bTw) (nSeq (nRet (fC (.bl true))) nNext) (es.map fun e => fv b (ahl l e)) [.val (.obj K.C),.val (EO K o),.val (.lst (l.map prD)),.val (.lst ((es.map fun (e : Nat) => (e : Int)).map D.int)),.val (.bl b),.un,.un,.un,.un,.un] = .ok (.rt (.bl true)) := by
   refine (nseq_nx (nss' := nss') (δ' := [.val (.obj K.C),.val (EO K o),.val (.lst (l.map prD)),.val (.lst ((es.map fun (e : Nat) => (e : Int)).map D.int)),.val (.bl b),.un,t6,t7,t8,t9]) ?_).trans rfl
   generalize (es.map fun (e : Nat) => (e : Int)).map D.int = R at *
   generalize (es.map fun e => fv b (ahl l e)) = Z at *
   generalize l.map prD = M at *
   generalize EO K o = w at *
   simp (decide := true) -implicitDefEqProofs [tbM_tail,startD,fVar,fVarS,isT,at_0,at_1,at_2,at_3,at_4,nRng,hle,hj,tn,q]
  generalize (nSeq (nRng 6 (fCall gLen [(fVar 3)]) bTw) (nSeq (nRet (fC (.bl true))) nNext)) = G at *
  have dz : ∀ R M w,dsIn 1 [0,1] [.val (.obj K.C),.val w,.val M,R,.val (.bl b),.un,.un,.un,.un,.un] = [.un,.val (.obj K.C),.val w] := fun _ _ _ => rfl
  generalize (es.map fun (e : Nat) => (e : Int)).map D.int = R at *
  generalize (es.map fun e => D.lst ((fv b (ahl l e)).map D.int)) = Y at *
  generalize (es.map fun e => fv b (ahl l e)) = Z at *
  generalize l.map prD = M at *
  generalize EO K o = w at *
  simp (decide := true) -implicitDefEqProofs [tbM_tail,startD,fVar,fVarS,isT,at_0,at_1,at_2,at_3,at_4,sNest,noOwn,fItems,hle,hsz,dz,c,lo,g,isS]
 show runD false 10 b__law_told_well _ = _
 unfold b__law_told_well
 generalize (es.map fun (e : Nat) => (e : Int)).map D.int = R at *
 generalize l.map prD = M at *
 generalize EO K o = w at *
 generalize K.C = cc at *
 generalize smOf b = S at *
 simp (decide := true) -implicitDefEqProofs [tbM_tail,startD,fVar,fVarS,isT,at_0,at_1,at_2,at_3,at_4,tb,s0,a0,nest]
theorem end_eq {l : List (Nat × D)} (h : ∀ p ∈ l,p.1 < all) (hl : l.length ≤ 62) (c : Int) : ∃ e : Nat,m__law_end [.lst (l.map prD),.int c] = .ok (.int (e : Int)) ∧ e ≤ all := by
 have ha : all = 1073741824 := rfl
 have m0 : 0 ≤ c % 4 := Int.emod_nonneg _ (by decide)
 by_cases h3 : c % 4 = 3 ∨ l = []
 ·have q1 : 0 ≤ c / 4 % 1073741825 := Int.emod_nonneg _ (by decide)
  have q2 : c / 4 % 1073741825 < 1073741825 := Int.emod_lt_of_pos _ (by decide)
  refine ⟨(c / 4 % 1073741825).toNat,?_,by omega⟩
  have e : (((c / 4 % 1073741825).toNat : Nat) : Int) = c / 4 % 1073741825 := by omega
  rw [e]
  rcases h3 with h3 | h3
  ·generalize l.map prD = M at *
   simp (decide := true) -implicitDefEqProofs [tbM_tail,startD,fVar,fVarS,isT,at_0,at_1,at_2,at_3,at_4,m__law_end,b__law_end,h3]
  ·subst h3
   by_cases h4 : c % 4 = 3
   ·simp (decide := true) -implicitDefEqProofs [tbM_tail,startD,fVar,fVarS,isT,at_0,at_1,at_2,at_3,at_4,m__law_end,b__law_end,h4]
   ·have en : gEq (.lst []) (.lst []) = .ok (.bl true) := rfl
    simp (decide := true) -implicitDefEqProofs [tbM_tail,startD,fVar,fVarS,isT,at_0,at_1,at_2,at_3,at_4,m__law_end,b__law_end,h4,en]
 ·have h4 : ¬ c % 4 = 3 := fun z => h3 (.inl z)
  have h5 : l ≠ [] := fun z => h3 (.inr z)
  have hp : 0 < l.length := List.length_pos_iff.mpr h5
  have q1 : 0 ≤ c / 4 % (l.length : Int) := Int.emod_nonneg _ (by omega)
  have q2 : c / 4 % (l.length : Int) < (l.length : Int) := Int.emod_lt_of_pos _ (by omega)
  obtain ⟨k,hk⟩ : ∃ k : Nat,c / 4 % (l.length : Int) = (k : Int) := ⟨(c / 4 % (l.length : Int)).toNat,by omega⟩
  have hkl : k < l.length := by omega
  have at1 := at_row (l := l) (i := k) (p := l[k]) (List.getElem?_eq_getElem hkl)
  have hb := h l[k] (List.getElem_mem hkl)
  have r1 : 0 ≤ c % 4 % 2 := Int.emod_nonneg _ (by decide)
  have r2 : c % 4 % 2 < 2 := Int.emod_lt_of_pos _ (by decide)
  refine ⟨l[k].1 + (c % 4 % 2).toNat,?_,by omega⟩
  have e : ((l[k].1 + (c % 4 % 2).toNat : Nat) : Int) = (l[k].1 : Int) + c % 4 % 2 := by omega
  rw [e]
  have hlen : (l.map prD).length = l.length := List.length_map _
  have cm : cMod (c / 4) (l.length : Int) = true := by simp [cMod]; omega
  have ne : gEq (.lst (l.map prD)) (.lst []) = .ok (.bl false) := by
   rw [eq_nilL]
   have : l.map prD ≠ [] := fun z => h5 (List.map_eq_nil_iff.mp z)
   simp [this]
  generalize l.map prD = M at *
  generalize (l[k].1 : Int) = x at *
  generalize l[k].2 = y at *
  simp (decide := true) -implicitDefEqProofs [tbM_tail,startD,fVar,fVarS,isT,at_0,at_1,at_2,at_3,at_4,m__law_end,b__law_end,h4,ne,hlen,cm,hk,at1]
theorem ends_loop (ns : List Int) {l : List (Nat × D)} (h : ∀ p ∈ l,p.1 < all) (hl : l.length ≤ 62) (s2 s3 : Sl) : ∀ (n i : Nat) (es : List Nat) (s5 : Sl),(match s5 with | .own _ => false | _ => true) = true -> i + n = 6 -> (∀ e ∈ es,e ≤ all) -> es.length = 2 + i -> ∃ (es' : List Nat) (s5' : Sl),forL (gNm 5) (sSeq (sApp 4 (fCall (m__law_end) [(fVarS 1),(f2 gAdd (fCall (m__law_cell_at) [(fVar 0),(fVar 5)]) (f2 gMul (fC (.int 5)) (fVar 5)))])) sNext) (rng (i : Int) n) [.val (.frl (ns.map D.int)),.val (.lst (l.map prD)),s2,s3,.own (.lst ((es.map fun (e : Nat) => (e : Int)).map D.int)),s5] = .ok (.nx [.val (.frl (ns.map D.int)),.val (.lst (l.map prD)),s2,s3,.own (.lst ((es'.map fun (e : Nat) => (e : Int)).map D.int)),s5']) ∧ (∀ e ∈ es',e ≤ all) ∧ es'.length = 8 ∧ (match s5' with | .own _ => false | _ => true) = true
 | 0,i,es,s5,h5,hi,he,hn => ⟨es,s5,rfl,he,by omega,h5⟩
 | n + 1,i,es,s5,h5,hi,he,hn => by
  obtain ⟨c,hc⟩ := cell_any ns (k := (i : Int)) (by omega)
  obtain ⟨e,q,hle⟩ := end_eq h hl (c + 5 * (i : Int))
  obtain ⟨es',s5',q2,h1,h2⟩ := ends_loop ns h hl s2 s3 n (i + 1) (es ++ [e]) (.val (.int (i : Int))) rfl (by omega) (fun x hx => by
   rcases List.mem_append.mp hx with hx | hx
   ·exact he x hx
   ·simp at hx; subst hx; exact hle) (by rw [List.length_append,List.length_singleton]; omega)
  refine ⟨es',s5',?_,h1,h2⟩
  have e2 : ((i + 1 : Nat) : Int) = (i : Int) + 1 := by omega
  rw [e2] at q2
  rw [rng_cons]
  refine (forL_nx (δ1 := [.val (.frl (ns.map D.int)),.val (.lst (l.map prD)),s2,s3,.own (.lst ((es.map fun (e : Nat) => (e : Int)).map D.int)),.val (.int (i : Int))]) rfl ?_).trans q2
  have hs : ((es.map fun (e : Nat) => (e : Int)).map D.int).length < sizeLine := by rw [List.length_map,List.length_map]; exact small1000 (by omega)
  have em : ((es ++ [e]).map fun (e : Nat) => (e : Int)).map D.int = (es.map fun (e : Nat) => (e : Int)).map D.int ++ [.int (e : Int)] := by simp
  rw [em]
  have cm : cMul 5 (i : Int) = true := by simp [cMul]
  generalize (es.map fun (e : Nat) => (e : Int)).map D.int = R at *
  generalize l.map prD = M at *
  generalize ns.map D.int = N at *
  generalize (i : Int) = k at *
  simp (decide := true) -implicitDefEqProofs [tbM_tail,startD,fVar,fVarS,isT,at_0,at_1,at_2,at_3,at_4,hc,cm,q,sApp,hs]
theorem law_true (ns : List Int) (h : ns.length ≤ 63) : m_law [.frl (ns.map D.int)] = .ok (.bl true) := by
 obtain ⟨l0,hrow,hl0,hs0,ho0⟩ := row_nat ns h
 obtain ⟨m,hm⟩ : ∃ m,cutD (l0.map prD) none (some 40) = (l0.take m).map prD := by
  refine ⟨HT.sIx (l0.map prD).length (l0.map prD).length (some 40),?_⟩
  unfold cutD
  rw [HT.sIx_none,List.drop_zero,Nat.sub_zero,← List.map_take]
 have hrl : (l0.take m).length ≤ 62 := by rw [List.length_take]; omega
 have hrs : (l0.take m).Pairwise fun x y => x.1 < y.1 := hs0.sublist (List.take_sublist ..)
 have hro : ∀ p ∈ l0.take m,p.1 < all ∧ OkR p.2 := fun p hp => ho0 p (List.mem_of_mem_take hp)
 generalize l0.take m = r at *
 have hnd : (r.map (·.1)).Nodup := by
  rw [List.Nodup,List.pairwise_map]
  exact hrs.imp fun h => Nat.ne_of_lt h
 have told : ∀ {b : Bool} {K : Kd} (hW : Wy b K) {es : List Nat},(∀ e ∈ es,e ≤ all) -> es.length = 8 -> ∃ w,m__law_tree [.obj K.C,.lst (r.map prD),.frl (ns.map D.int)] = .ok w ∧ m__law_told_well [.obj K.C,w,.lst (r.map prD),.lst ((es.map fun (e : Nat) => (e : Int)).map D.int),.bl b] = .ok (.bl true) := fun {b K} hW {es} he hel => by
  obtain ⟨hN,hO⟩ := wy_N hW
  obtain ⟨o,htree,B⟩ := otree_eq K ns (l := r) (fun p hp => ⟨(hro p hp).1,by rw [hO]; exact (hro p hp).2⟩) hnd (by omega) (by omega)
  have hds : dsO o = r := B.perm.eq_of_pairwise (le := fun x y => x.1 < y.1) (fun x y _ _ h1 h2 => by omega) B.sorted hrs
  exact ⟨EO K o,htree,told_eq hW (fun e h => at_of hW (gd B) hds (fun p hp => (hro p hp).2) hrl (he e h)) (by omega)⟩
 obtain ⟨es,s5',q,he,hel,h5⟩ := ends_loop ns (l := r) (fun p hp => (hro p hp).1) hrl (.val (.obj "Pile")) (.val (.obj "Line")) 6 0 [0,all] .un rfl (by decide) (fun e he => by simp at he; rcases he with rfl | rfl <;> omega) rfl
 have e0 : ((0 : Nat) : Int) = 0 := rfl
 have e1 : (([0,all] : List Nat).map fun (e : Nat) => (e : Int)).map D.int = [.int 0,.int 1073741824] := rfl
 rw [e0,e1] at q
 obtain ⟨w1,t1,u1⟩ := told .pile he hel
 obtain ⟨w2,t2,u2⟩ := told .line he hel
 have t1' : m__law_tree [.obj "Pile",.lst (r.map prD),.frl (ns.map D.int)] = .ok w1 := t1
 have t2' : m__law_tree [.obj "Line",.lst (r.map prD),.frl (ns.map D.int)] = .ok w2 := t2
 have u1' : m__law_told_well [.obj "Pile",w1,.lst (r.map prD),.lst ((es.map fun (e : Nat) => (e : Int)).map D.int),.bl false] = .ok (.bl true) := u1
 have u2' : m__law_told_well [.obj "Line",w2,.lst (r.map prD),.lst ((es.map fun (e : Nat) => (e : Int)).map D.int),.bl true] = .ok (.bl true) := u2
 have h6 : rOk 6 = true := by decide
 have h6n : (6 : Int).toNat = 6 := rfl
 generalize (es.map fun (e : Nat) => (e : Int)).map D.int = R at *
 generalize r.map prD = M at *
 generalize l0.map prD = M0 at *
 generalize ns.map D.int = N at *
 cases s5' with
 | own d => cases h5
 | un => simp (decide := true) -implicitDefEqProofs [tbM_tail,startD,fVar,fVarS,isT,at_0,at_1,at_2,at_3,at_4,m_law,b_law,hrow,fSl,fPart,hm,sRng,h6,h6n,q,sIfL,sRetL,noOwn,thaw,t1',u1',t2',u2']
 | val d => simp (decide := true) -implicitDefEqProofs [tbM_tail,startD,fVar,fVarS,isT,at_0,at_1,at_2,at_3,at_4,m_law,b_law,hrow,fSl,fPart,hm,sRng,h6,h6n,q,sIfL,sRetL,noOwn,thaw,t1',u1',t2',u2']
end
end Pr
open PySem PySem.W PyProof.Rows
set_option maxRecDepth 100000 in
set_option maxHeartbeats 0 in
theorem PySem.Challenge.cw_pastdesk_k38_what_stands_in_a_row_holds : PySem.Challenge.rw_pastdesk_k38_what_stands_in_a_row.Holds := by
 w_on; o_law; k_head; (case hw => w_witness2)
 k_fill
 refine' Pr.walk (l := PySem.Challenge.rw_pastdesk_k38_what_stands_in_a_row) rfl rfl (fun w h Y => PySem.W.km_in_of Y) Pr.law_true (fun w h Y => PySem.W.km_tabs_of Y _ (List.mem_cons_self ..)) ?hCd ?hTK ?F
 case F =>
  intro w mg fa h X G hm
  refine' Pr.all_mk h (fun base => ?R) hm
  case R =>
   constructor
   all_goals first | (refine' DL.sr0_mk X G ?a ?l ?c ?k; (case a => k_is); (case l => k_is); (case c => k_is); (case k => k_is)) | (refine' DL.ms0_mk ?a ?l ?c ?k ?i; (case a => k_is); (case l => k_is); (case c => k_is); (case k => k_is); (case i => k_is)) | (refine' DL.ck_mk ?a ?l ?c ?k ?i; (case a => k_is); (case l => k_is); (case c => k_is); (case k => k_is); (case i => k_is)) | (refine' DL.mk0_mk X G ?a ?l ?c ?k; (case a => k_is); (case l => k_is); (case c => k_is); (case k => k_is)) | (refine' DL.cst_mk X G ?a ?r; (case a => k_is); (case r => exact ⟨_,rfl⟩)) | (refine PySem.W.mg_none_of X G ?_; k_is) | exact DL.tab_code (show PySem.W.tabIn _ "_law_order" = some (_,_) from rfl) X G
 (case hCd => intro w; first | rfl | kernel_rfl)
 (case hTK => intro w; first | rfl | kernel_rfl)
